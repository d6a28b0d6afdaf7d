/- Package grades: Check, Step, Tolerance, Coarsest. -/
import Derived.Test.YtmjkiccoimhfkaaDoorG1
namespace Go.Proofs.YtmjkiccoimhfkaaDoor
open Go.RowKit

def stepV (z : Int) : Int := if 1 ≤ z ∧ z ≤ 100000 then stp z else 0
def tolE (z g : Int) : Int := if 1 ≤ z ∧ z ≤ 100000 then grE g else 2
def tolV (z g : Int) : Int := if (1 ≤ z ∧ z ≤ 100000) ∧ 5 ≤ g ∧ g ≤ 12 then tolI z g else 0
/-- the greatest of the first k grades with a tolerance of at most w, or 0 -/
def crs (z w : Int) : Nat → Int
  | 0 => 0
  | k + 1 => if tolI z (5 + k) ≤ w then 5 + k else crs z w k
def crsV (z w : Int) : Int := if 1 ≤ z ∧ z ≤ 100000 then crs z w 8 else 0
def crsE (z w : Int) : Int := if 1 ≤ z ∧ z ≤ 100000 then (if crs z w 8 = 0 then 6 else 0) else 2
theorem crs_in (z w : Int) : ∀ k, crs z w k = 0 ∨ (5 ≤ crs z w k ∧ crs z w k ≤ 4 + k)
  | 0 => .inl rfl
  | k + 1 => by
    unfold crs
    split
    · right; omega
    · rcases crs_in z w k with h | h
      · exact .inl h
      · right; omega

set_option maxRecDepth 100000 in
set_option maxHeartbeats 2000000 in
theorem gCheck (h : Bool) (l g : Int) : Gq 25 #[.agg #[.bool h, .int .i64 l, .int .i64 g]] (.int .i64 (clE l g)) := Lib.hid fun w hg => by
  have kk := (Kb.refl w).alloc (.cells #[.bool h, .int .i64 l, .int .i64 g] 32 (0, 0))
  have hg1 := hg.kb kk
  by_cases h1 : l < 0
  · have e : clE l g = 1 := by unfold clE; rw [if_neg (by omega)]
    rw [e]; clear e
    go_enter Tryd.func25, Tryd.ntmps25
    go_wp2
    go_ret
    exact ⟨rfl, kk⟩
  · by_cases h2 : 10 ≤ l
    · have e : clE l g = 1 := by unfold clE; rw [if_neg (by omega)]
      rw [e]; clear e
      go_enter Tryd.func25, Tryd.ntmps25
      go_wp2
      go_ret
      exact ⟨rfl, kk⟩
    · have e : clE l g = grE g := by unfold clE; rw [if_pos (by omega)]
      rw [e]; clear e
      have q := gcheckGrade g
      unfold Gs at q
      generalize grE g = x at *
      clear hg
      go_enter Tryd.func25, Tryd.ntmps25
      go_wp2_with fail
      with_reducible refine (q.out _ hg1).mono ?_
      rintro r w1 ⟨rfl, rfl⟩
      go_wp2
      go_ret
      exact ⟨rfl, kk⟩






































set_option maxRecDepth 100000 in
set_option maxHeartbeats 2000000 in
theorem gTolerance (z g : Int) : Gq 11 #[.int .i64 z, .int .i64 g] (.tuple #[.int .i64 (tolV z g), .int .i64 (tolE z g)]) := Lib.hid fun w hg => by
  have q := gcheckSize z
  have q1 := gcheckGrade g
  unfold Gs at q q1
  by_cases h : 1 ≤ z ∧ z ≤ 100000
  · have e1 : szE z = 0 := if_pos h
    have e3 : tolE z g = grE g := if_pos h
    by_cases h2 : 5 ≤ g ∧ g ≤ 12
    · have q2 := gtolerance z g h.2 h2.1 h2.2
      unfold Gq at q2
      have e4 : grE g = 0 := if_pos h2
      have e2 : tolV z g = tolI z g := if_pos ⟨h, h2⟩
      rw [e1] at q
      rw [e4] at q1 e3
      rw [e3, e2]
      clear e1 e2 e3 e4 h h2
      generalize tolI z g = T at *
      go_enter Tryd.func11, Tryd.ntmps11
      go_wp2_with fail
      with_reducible refine (q.out _ hg).mono ?_
      rintro r w1 ⟨rfl, rfl⟩
      go_wp2_with fail
      with_reducible refine (q1.out _ hg).mono ?_
      rintro r w1 ⟨rfl, rfl⟩
      go_wp2_with fail
      with_reducible refine (q2.out _ hg).mono ?_
      rintro r w1 ⟨rfl, k1⟩
      go_wp2
      go_ret2
      exact ⟨rfl, k1⟩
    · have e4 : grE g = 2 := if_neg h2
      have e2 : tolV z g = 0 := if_neg (fun x => h2 x.2)
      rw [e1] at q
      rw [e4] at q1 e3
      rw [e3, e2]
      clear e1 e2 e3 e4 h h2
      go_enter Tryd.func11, Tryd.ntmps11
      go_wp2_with fail
      with_reducible refine (q.out _ hg).mono ?_
      rintro r w1 ⟨rfl, rfl⟩
      go_wp2_with fail
      with_reducible refine (q1.out _ hg).mono ?_
      rintro r w1 ⟨rfl, rfl⟩
      go_wp2
      go_ret2
      exact ⟨rfl, Kb.refl _⟩
  · have e1 : szE z = 2 := if_neg h
    have e3 : tolE z g = 2 := if_neg h
    have e2 : tolV z g = 0 := if_neg (fun x => h x.1)
    rw [e1] at q
    rw [e3, e2]
    clear e1 e2 e3 h q1
    go_enter Tryd.func11, Tryd.ntmps11
    go_wp2_with fail
    with_reducible refine (q.out _ hg).mono ?_
    rintro r w1 ⟨rfl, rfl⟩
    go_wp2
    go_ret2
    exact ⟨rfl, Kb.refl _⟩























































































end Go.Proofs.YtmjkiccoimhfkaaDoor
