/- T5: the law TopFitsGrades. -/
import Derived.Test.YtmjkiccoimhfkaaDoorFg5
import Derived.Test.YtmjkiccoimhfkaaDoorFg6
namespace Go.Proofs.YtmjkiccoimhfkaaDoor
open Go.RowKit

theorem tol_grw {z : Int} {j : Nat} (hj : j < 7) : tolI z (5 + j) < tolI z (5 + j + 1) := by
  have h1 := base_bd (stp z)
  have h2 := fac_grow hj
  have h3 : baseI (stp z) * (facI j + 3) ≤ baseI (stp z) * facI (j + 1) := Int.mul_le_mul_of_nonneg_left h2 (by omega)
  have h4 : 6 * 3 ≤ baseI (stp z) * 3 := Int.mul_le_mul_of_nonneg_right h1.1 (by omega)
  rw [Int.mul_add] at h3
  unfold tolI tolP
  rw [show (5 + (j : Int) - 5).toNat = j by omega, show (5 + (j : Int) + 1 - 5).toNat = j + 1 by omega]
  have h5 : 0 ≤ baseI (stp z) * facI j := Int.mul_nonneg (by omega) (by have := fac_bd j; omega)
  generalize baseI (stp z) * facI j = p at *
  generalize baseI (stp z) * facI (j + 1) = q at *
  omega
theorem lmE_in {l h : Int} (h1 : -100000 ≤ l) (h2 : l ≤ h) (h3 : h ≤ 100000) : lmE l h = 0 := by
  rw [lmE_eq]
  unfold inR
  rw [decide_eq_true h1, decide_eq_true (show l ≤ 100000 by omega), decide_eq_true (show -100000 ≤ h by omega), decide_eq_true h3, if_pos ⟨rfl, rfl⟩, if_neg (by omega)]
theorem ins_c {l h k : Int} (h1 : -100000 ≤ l) (h2 : l ≤ h) (h3 : h ≤ k) (h4 : k ≤ 100000) : Cg 13 #[.agg #[.int .i64 l, .int .i64 h], .agg #[.int .i64 l, .int .i64 k]] (.tuple #[.bool true, .int .i64 0]) := by
  have q := dInside l h l k
  have e : lm2 l h l k = 0 := (lm2_0 (lmE_in h1 h2 (by omega))).trans (lmE_in h1 (by omega) h4)
  rw [has2 e, e, decide_eq_true (Int.le_refl l), decide_eq_true h3] at q
  exact q.cg
theorem cGrades (z k gh gs : Int) (w : World) (gl : Gl w) : Calls Tryd.prog 4 #[.agg #[.int .i64 z, .int .i64 k, .int .i64 gh, .int .i64 gs]] w fun r W' => r = .returned (.bool true) ∧ Kb w W' := by
  by_cases h : c16 z k gh gs = 0
  · have r := c16_ok h
    have hb := r.h12; have sb := r.s12; have hb5 := r.h5; have sb5 := r.s5
    have e1 : wrap64 (gh + 1) = gh + 1 := Go.IntWalk.wrap64_in _ (by omega)
    have e2 : wrap64 (gs + 1) = gs + 1 := Go.IntWalk.wrap64_in _ (by omega)
    by_cases h2 : c16 z k (gh + 1) (gs + 1) = 0
    · by_cases h4 : 4 < k
      · exact lG_1 z k gh gs _ _ 0 0 1 true true (rRight_t h) (rRight_t h2) e1 e2 (by decide) rfl rfl h4 w gl
      · have r2 := c16_ok h2
        have q1 := r.clr
        have q2 := r2.clr
        have hk : k.toNat < 5 := by have := r.k0; omega
        have u1 : upI z k gs = -shiI z k.toNat := by unfold upI dvHi; rw [if_pos hk]
        have u2 : upI z k (gs + 1) = -shiI z k.toNat := by unfold upI dvHi; rw [if_pos hk]
        have v1 : dnI z k gs = -shiI z k.toNat - tolI z gs := by unfold dnI dvLo; rw [if_pos hk]
        have v2 : dnI z k (gs + 1) = -shiI z k.toNat - tolI z (gs + 1) := by unfold dnI dvLo; rw [if_pos hk]
        rw [u1, v1] at q1
        rw [u2, v2] at q2
        have g1 := tol_grw (z := z) (j := (gh - 5).toNat) (by have := r2.h12; omega)
        have g2 := tol_grw (z := z) (j := (gs - 5).toNat) (by have := r2.s12; omega)
        rw [show (5 : Int) + ((gh - 5).toNat : Int) = gh by omega] at g1
        rw [show (5 : Int) + ((gs - 5).toNat : Int) = gs by omega] at g2
        have s1 := shiI_bd z k.toNat
        have t1 := tolI_bd z gh
        have t2 := tolI_bd z gs
        have t3 := tolI_bd z (gh + 1)
        have t4 := tolI_bd z (gs + 1)
        exact lG_2 z k gh gs _ _ _ _ _ true true (rRight_t h) (rRight_t h2) q1 q2 (ins_c (by omega) (by omega) (by omega) (by omega)) e1 e2 (by omega) rfl rfl h4 w gl
    · exact lG_3 z k gh gs _ _ 0 0 1 true false (rRight_t h) (rRight_f h2) e1 e2 (by decide) rfl rfl w gl
  · exact lG_4 z k gh gs _ _ 0 0 1 false (rRight_f h) rfl rfl (by decide) rfl w gl
end Go.Proofs.YtmjkiccoimhfkaaDoor
