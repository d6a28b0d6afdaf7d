/- Package grades: Check, Step, Tolerance, Coarsest. -/
import Derived.Test.YthifdgddegpbjaaDoorG1
namespace Go.Proofs.YthifdgddegpbjaaDoor
open Go.RowKit

def stepV (z : Int) : Int := if 1 ≤ z ∧ z ≤ 100000 then stp z else 0
def tolE (z g : Int) : Int := if 1 ≤ z ∧ z ≤ 100000 then grE g else 2
def tolV (z g : Int) : Int := if (1 ≤ z ∧ z ≤ 100000) ∧ 5 ≤ g ∧ g ≤ 12 then tolI z g else 0
/-- the greatest of the first k grades with a tolerance of at most w, or 0 -/
def crs (z w : Int) : Nat → Int
  | 0 => 0
  | k + 1 => if tolI z (5 + k) ≤ w then 5 + k else crs z w k
def crsV (z w : Int) : Int := if 1 ≤ z ∧ z ≤ 100000 then crs z w 8 else 0
def crsE (z w : Int) : Int := if 1 ≤ z ∧ z ≤ 100000 then (if crs z w 8 = 0 then 6 else 0) else 2
theorem crs_in (z w : Int) : ∀ k, crs z w k = 0 ∨ (5 ≤ crs z w k ∧ crs z w k ≤ 4 + k)
  | 0 => .inl rfl
  | k + 1 => by
    unfold crs
    split
    · right; omega
    · rcases crs_in z w k with h | h
      · exact .inl h
      · right; omega

set_option maxRecDepth 100000 in
set_option maxHeartbeats 2000000 in
theorem gCheck (h : Bool) (l g : Int) : Gq 16 #[.agg #[.bool h, .int .i64 l, .int .i64 g]] (.int .i64 (clE l g)) := Lib.hid fun w hg => by
  have kk := (Kb.refl w).alloc (.cells #[.bool h, .int .i64 l, .int .i64 g] 23 (0, 0))
  have hg1 := hg.kb kk
  by_cases h1 : l < 0
  · have e : clE l g = 1 := by unfold clE; rw [if_neg (by omega)]
    rw [e]; clear e
    go_enter Tryd.func16, Tryd.ntmps16
    go_wp2
    go_ret
    exact ⟨rfl, kk⟩
  · by_cases h2 : 10 ≤ l
    · have e : clE l g = 1 := by unfold clE; rw [if_neg (by omega)]
      rw [e]; clear e
      go_enter Tryd.func16, Tryd.ntmps16
      go_wp2
      go_ret
      exact ⟨rfl, kk⟩
    · have e : clE l g = grE g := by unfold clE; rw [if_pos (by omega)]
      rw [e]; clear e
      have q := gcheckGrade g
      unfold Gs at q
      generalize grE g = x at *
      clear hg
      go_enter Tryd.func16, Tryd.ntmps16
      go_wp2_with fail
      with_reducible refine (q.out _ hg1).mono ?_
      rintro r w1 ⟨rfl, rfl⟩
      go_wp2
      go_ret
      exact ⟨rfl, kk⟩

set_option maxRecDepth 100000 in
set_option maxHeartbeats 2000000 in
theorem gStep (z : Int) : Gq 18 #[.int .i64 z] (.tuple #[.int .i64 (stepV z), .int .i64 (szE z)]) := Lib.hid fun w hg => by
  have q := gcheckSize z
  unfold Gs at q
  by_cases h : 1 ≤ z ∧ z ≤ 100000
  · have q2 := gstep z h.2
    unfold Gs at q2
    have e1 : szE z = 0 := if_pos h
    have e2 : stepV z = stp z := if_pos h
    rw [e1] at q ⊢
    rw [e2]
    clear e1 e2 h
    generalize stp z = s at *
    go_enter Tryd.func18, Tryd.ntmps18
    go_wp2_with fail
    with_reducible refine (q.out _ hg).mono ?_
    rintro r w1 ⟨rfl, rfl⟩
    go_wp2_with fail
    with_reducible refine (q2.out _ hg).mono ?_
    rintro r w1 ⟨rfl, rfl⟩
    go_wp2
    go_ret2
    exact ⟨rfl, Kb.refl _⟩
  · have e1 : szE z = 2 := if_neg h
    have e2 : stepV z = 0 := if_neg h
    rw [e1] at q ⊢
    rw [e2]
    clear e1 e2 h
    go_enter Tryd.func18, Tryd.ntmps18
    go_wp2_with fail
    with_reducible refine (q.out _ hg).mono ?_
    rintro r w1 ⟨rfl, rfl⟩
    go_wp2
    go_ret2
    exact ⟨rfl, Kb.refl _⟩

set_option maxRecDepth 100000 in
set_option maxHeartbeats 2000000 in
theorem gTolerance (z g : Int) : Gq 20 #[.int .i64 z, .int .i64 g] (.tuple #[.int .i64 (tolV z g), .int .i64 (tolE z g)]) := Lib.hid fun w hg => by
  have q := gcheckSize z
  have q1 := gcheckGrade g
  unfold Gs at q q1
  by_cases h : 1 ≤ z ∧ z ≤ 100000
  · have e1 : szE z = 0 := if_pos h
    have e3 : tolE z g = grE g := if_pos h
    by_cases h2 : 5 ≤ g ∧ g ≤ 12
    · have q2 := gtolerance z g h.2 h2.1 h2.2
      unfold Gq at q2
      have e4 : grE g = 0 := if_pos h2
      have e2 : tolV z g = tolI z g := if_pos ⟨h, h2⟩
      rw [e1] at q
      rw [e4] at q1 e3
      rw [e3, e2]
      clear e1 e2 e3 e4 h h2
      generalize tolI z g = T at *
      go_enter Tryd.func20, Tryd.ntmps20
      go_wp2_with fail
      with_reducible refine (q.out _ hg).mono ?_
      rintro r w1 ⟨rfl, rfl⟩
      go_wp2_with fail
      with_reducible refine (q1.out _ hg).mono ?_
      rintro r w1 ⟨rfl, rfl⟩
      go_wp2_with fail
      with_reducible refine (q2.out _ hg).mono ?_
      rintro r w1 ⟨rfl, k1⟩
      go_wp2
      go_ret2
      exact ⟨rfl, k1⟩
    · have e4 : grE g = 2 := if_neg h2
      have e2 : tolV z g = 0 := if_neg (fun x => h2 x.2)
      rw [e1] at q
      rw [e4] at q1 e3
      rw [e3, e2]
      clear e1 e2 e3 e4 h h2
      go_enter Tryd.func20, Tryd.ntmps20
      go_wp2_with fail
      with_reducible refine (q.out _ hg).mono ?_
      rintro r w1 ⟨rfl, rfl⟩
      go_wp2_with fail
      with_reducible refine (q1.out _ hg).mono ?_
      rintro r w1 ⟨rfl, rfl⟩
      go_wp2
      go_ret2
      exact ⟨rfl, Kb.refl _⟩
  · have e1 : szE z = 2 := if_neg h
    have e3 : tolE z g = 2 := if_neg h
    have e2 : tolV z g = 0 := if_neg (fun x => h x.1)
    rw [e1] at q
    rw [e3, e2]
    clear e1 e2 e3 h q1
    go_enter Tryd.func20, Tryd.ntmps20
    go_wp2_with fail
    with_reducible refine (q.out _ hg).mono ?_
    rintro r w1 ⟨rfl, rfl⟩
    go_wp2
    go_ret2
    exact ⟨rfl, Kb.refl _⟩

set_option maxRecDepth 100000 in
set_option maxHeartbeats 2000000 in
theorem gCoarsest (z v : Int) : Gq 28 #[.int .i64 z, .int .i64 v] (.tuple #[.int .i64 (crsV z v), .int .i64 (crsE z v)]) := Lib.hid fun w hg => by
  have q := gcheckSize z
  unfold Gs at q
  by_cases h : 1 ≤ z ∧ z ≤ 100000
  · have e1 : szE z = 0 := if_pos h
    have e2 : crsV z v = crs z v 8 := if_pos h
    have e3 : crsE z v = if crs z v 8 = 0 then 6 else 0 := if_pos h
    have q2 : ∀ k : Nat, k < 8 → Gq 46 #[.int .i64 z, .int .i64 (5 + (k : Int))] (.int .i64 (tolI z (5 + k))) := fun k hk => gtolerance z _ h.2 (by omega) (by omega)
    have Q2 := Lib.hid q2
    have HS : Hid (∀ k : Nat, crs z v (k + 1) = if tolI z (5 + k) ≤ v then 5 + (k : Int) else crs z v k) := Lib.hid (fun k => rfl)
    rw [e1] at q
    rw [e2]
    have HE : Hid (crsE z v = if crs z v 8 = 0 then 6 else 0) := Lib.hid e3
    clear e1 e2 e3 h q2
    generalize crsE z v = E at *
    generalize hC : crs z v = C at *
    have HC0 : Hid (C 0 = 0) := by rw [← hC]; exact rfl
    clear hC
    generalize tolI z = T at *
    go_enter Tryd.func28, Tryd.ntmps28
    go_wp2_with fail
    with_reducible refine (q.out _ hg).mono ?_
    rintro r w1 ⟨rfl, rfl⟩
    go_wp2_with fail
    go_loopg [7] 8 (fun gk s7 wr => s7 = .int .i64 (4 + (gk : Int)) ∧ gk ≤ 8 ∧ Hid (C 8 = C gk) ∧ Kb w wr)
    case atStart => exact ⟨rfl, Nat.le_refl _, rfl, Kb.refl _⟩
    case round =>
      obtain ⟨rfl, hk, hC, kk⟩ := hrel
      rcases Nat.eq_zero_or_pos gk with rfl | hpos
      · have hC0 := HC0.out
        have hE : Hid (E = 6 ∧ C 8 = 0) := by rw [HE.out, hC.out, hC0]; exact ⟨rfl, rfl⟩
        clear hC0 hC Q2 HS
        go_wp2
        go_ret2
        exact ⟨by rw [hE.out.1, hE.out.2]; rfl, kk⟩
      · obtain ⟨k, rfl⟩ : ∃ k, gk = k + 1 := ⟨gk - 1, by omega⟩
        have q2 := Q2.out k (by omega)
        unfold Gq at q2
        have hs := HS.out k
        have e4 : (4 : Int) + ((k + 1 : Nat) : Int) = 5 + (k : Int) := by omega
        rw [e4]
        have hge : (5 : Int) ≤ 5 + (k : Int) := by omega
        have hgr := hg.kb kk
        have Hk := Lib.hid hk
        by_cases hT : T (5 + (k : Int)) ≤ v
        · rw [if_pos hT] at hs
          have hE : Hid (E = 0 ∧ C 8 = 5 + (k : Int)) := by
            have : C 8 = 5 + (k : Int) := hC.out.trans hs
            exact ⟨HE.out.trans (if_neg (by omega)), this⟩
          clear hs hC Q2 HS HC0 hk hpos e4
          generalize T (5 + (k : Int)) = t at *
          generalize 5 + (k : Int) = gg at *
          go_wp2_with fail
          with_reducible refine (q2.out _ hgr).mono ?_
          rintro r w1 ⟨rfl, k1⟩
          go_wp2
          go_ret2
          exact ⟨by rw [hE.out.1, hE.out.2]; rfl, kk.trans k1⟩
        · rw [if_neg hT] at hs
          have hE : Hid (C 8 = C k) := hC.out.trans hs
          have e5 : (5 + (k : Int)) - 1 = 4 + (k : Int) := by omega
          clear hs hC Q2 HS HC0 hk hpos e4
          generalize T (5 + (k : Int)) = t at *
          go_wp2_with fail
          with_reducible refine (q2.out _ hgr).mono ?_
          rintro r w1 ⟨rfl, k1⟩
          go_wp2
          have hk := Hk.out
          go_roundg k
          case measure => omega
          case rel => exact ⟨by rw [show wrap64 (4 + (k : Int)) = 4 + (k : Int) by unfold wrap64; omega], by omega, hE, kk.trans k1⟩
  · have e1 : szE z = 2 := if_neg h
    have e2 : crsV z v = 0 := if_neg h
    have e3 : crsE z v = 2 := if_neg h
    rw [e1] at q
    rw [e2, e3]
    clear e1 e2 e3 h
    go_enter Tryd.func28, Tryd.ntmps28
    go_wp2_with fail
    with_reducible refine (q.out _ hg).mono ?_
    rintro r w1 ⟨rfl, rfl⟩
    go_wp2
    go_ret2
    exact ⟨rfl, Kb.refl _⟩
end Go.Proofs.YthifdgddegpbjaaDoor
