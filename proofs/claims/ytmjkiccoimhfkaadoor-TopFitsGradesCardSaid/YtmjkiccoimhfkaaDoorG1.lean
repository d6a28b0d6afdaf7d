/- Package grades: errors of sizes and grades, steps and tolerances. -/
import Derived.Test.YtmjkiccoimhfkaaDoorGk
namespace Go.Proofs.YtmjkiccoimhfkaaDoor
open Go.RowKit

set_option maxRecDepth 100000 in
set_option maxHeartbeats 1000000 in
theorem gcheckSize (z : Int) : Gs 22 #[.int .i64 z] (.int .i64 (szE z)) := Lib.hid fun w _ => by
  by_cases h1 : z < 1
  · have e : szE z = 2 := by unfold szE; rw [if_neg (by omega)]
    rw [e]; clear e
    go_enter Tryd.func22, Tryd.ntmps22
    go_wp2
    go_ret
    exact ⟨rfl, rfl⟩
  · by_cases h2 : 100000 < z
    · have e : szE z = 2 := by unfold szE; rw [if_neg (by omega)]
      rw [e]; clear e
      go_enter Tryd.func22, Tryd.ntmps22
      go_wp2
      go_ret
      exact ⟨rfl, rfl⟩
    · have e : szE z = 0 := by unfold szE; rw [if_pos (by omega)]
      rw [e]; clear e
      go_enter Tryd.func22, Tryd.ntmps22
      go_wp2
      go_ret
      exact ⟨rfl, rfl⟩
set_option maxRecDepth 100000 in
set_option maxHeartbeats 1000000 in
theorem gcheckGrade (z : Int) : Gs 23 #[.int .i64 z] (.int .i64 (grE z)) := Lib.hid fun w _ => by
  by_cases h1 : z < 5
  · have e : grE z = 2 := by unfold grE; rw [if_neg (by omega)]
    rw [e]; clear e
    go_enter Tryd.func23, Tryd.ntmps23
    go_wp2
    go_ret
    exact ⟨rfl, rfl⟩
  · by_cases h2 : 12 < z
    · have e : grE z = 2 := by unfold grE; rw [if_neg (by omega)]
      rw [e]; clear e
      go_enter Tryd.func23, Tryd.ntmps23
      go_wp2
      go_ret
      exact ⟨rfl, rfl⟩
    · have e : grE z = 0 := by unfold grE; rw [if_pos (by omega)]
      rw [e]; clear e
      go_enter Tryd.func23, Tryd.ntmps23
      go_wp2
      go_ret
      exact ⟨rfl, rfl⟩
set_option maxRecDepth 100000 in
set_option maxHeartbeats 2000000 in
theorem gstep (z : Int) (h2 : z ≤ 100000) : Gs 38 #[.int .i64 z] (.int .i64 (stp z)) := Lib.hid fun w hg => by
  have hle := stp_le z
  have HL := Lib.hid (fun k (h : k < stp z) => stp_lt h)
  have HG := Lib.hid (fun k (h : stp z ≤ k) => stp_ge h2 h)
  have HE := Lib.hid hg.1
  clear hg h2
  generalize stp z = s at *
  go_enter Tryd.func38, Tryd.ntmps38
  go_wp2
  go_loopg [3] s (fun gk s3 wr => ∃ k : Nat, s3 = .int .i64 k ∧ k + gk = s ∧ w = wr)
  case atStart => exact ⟨0, rfl, by omega, rfl⟩
  case round =>
    obtain ⟨k, rfl, hk, rfl⟩ := hrel
    have hc := HE.out k (by omega)
    have hk0 : (0 : Int) ≤ (k : Int) := by omega
    have hk8 : (k : Int) < 8 := by omega
    by_cases hlt : k < s
    · have hx := HL.out k hlt
      generalize endI k = e at *
      have Hk := Lib.hid hk; have Hl := Lib.hid hlt
      clear hk hlt hle
      go_wp2
      have hk := Hk.out; have hlt := Hl.out
      go_roundg (gk - 1)
      case measure => omega
      case rel => exact ⟨k + 1, by go_num, by omega, rfl⟩
    · have hx := HG.out k (by omega)
      obtain rfl : k = s := by omega
      have hx' : ¬ endI k < z := by omega
      generalize endI k = e at *
      clear hk hlt hle hx
      go_wp2
      go_ret
      exact ⟨rfl, rfl⟩
set_option maxRecDepth 100000 in
set_option maxHeartbeats 2000000 in
theorem gtolerance (z g : Int) (h2 : z ≤ 100000) (h3 : 5 ≤ g) (h4 : g ≤ 12) : Gq 24 #[.int .i64 z, .int .i64 g] (.int .i64 (tolI z g)) := Lib.hid fun w hg => by
  have q := gstep z h2
  unfold Gs at q
  obtain ⟨j, hj⟩ : ∃ j : Nat, g - 5 = (j : Int) := ⟨(g - 5).toNat, by omega⟩
  have hk := stp_le z
  have c1 := hg.2.1 (stp z) (by omega)
  have c2 := hg.2.2 j (by omega)
  have hb := tolP_bd z g
  have e1 : IntKind.i64.wrap (baseI (stp z) * facI j) = tolP z g := by
    have : baseI (stp z) * facI j = tolP z g := by unfold tolP; rw [hj]; rfl
    rw [this]; exact IntWalk.i64_in _ (by omega)
  have e2 : IntKind.i64.wrap (tolP z g + 5) = tolP z g + 5 := IntWalk.i64_in _ (by omega)
  have e3 : (tolP z g + 5).tdiv 10 = tolI z g := by unfold tolI; rw [Int.tdiv_eq_ediv_of_nonneg (by omega)]
  have hb2 := tolI_bd z g
  have e4 : IntKind.i64.wrap (tolI z g) = tolI z g := IntWalk.i64_in _ (by omega)
  have e5 : IntKind.i64.wrap (j : Int) = (j : Int) := IntWalk.i64_in _ (by omega)
  have i1 : (0 : Int) ≤ (stp z : Int) := by omega
  have i2 : (stp z : Int) < 8 := by omega
  have i3 : (0 : Int) ≤ (j : Int) := by omega
  have i4 : (j : Int) < 8 := by omega
  have kk := (Kb.refl w).drew
  have hgd := hg.kb kk
  clear hb hb2 h2 h3 h4 hk hg
  generalize stp z = k at *
  generalize tolP z g = P at *
  generalize tolI z g = T at *
  generalize baseI k = b at *
  generalize facI j = f at *
  go_enter Tryd.func24, Tryd.ntmps24
  go_wp2_with fail
  go_region_held3 (fun w' => w'.cell? ⟨0, k, none⟩ = some (.int .i64 b) ∧ w'.cell? ⟨1, j, none⟩ = some (.int .i64 f))
    (first
      | exact ⟨c1, c2⟩
      | go_keep)
    (first
      | (go_at_call 38; with_reducible refine (q.out _ hgd).mono ?_; rintro r w1 ⟨rfl, rfl⟩))
  go_wp2
  go_ret
  exact ⟨rfl, kk⟩
end Go.Proofs.YtmjkiccoimhfkaaDoor
