/- T5: the law TopFitsLetters. -/
import Derived.Test.YtmjkiccoimhfkaaDoorFg4
namespace Go.Proofs.YtmjkiccoimhfkaaDoor
open Go.RowKit

theorem rRight_t {z k gh gs : Int} (h : c16 z k gh gs = 0) : Cg 6 #[.agg #[.int .i64 z, .int .i64 k, .int .i64 gh, .int .i64 gs]] (.bool true) := (rRight_any z k gh gs).to (by rw [h]; rfl)
theorem rRight_f {z k gh gs : Int} (h : ¬ c16 z k gh gs = 0) : Cg 6 #[.agg #[.int .i64 z, .int .i64 k, .int .i64 gh, .int .i64 gs]] (.bool false) := (rRight_any z k gh gs).to (by rw [show (c16 z k gh gs == 0) = false by simpa using h])
theorem tol_c {z g : Int} (h1 : 1 ≤ z) (h2 : z ≤ 100000) (h3 : 5 ≤ g) (h4 : g ≤ 12) : Cg 11 #[.int .i64 z, .int .i64 g] (.tuple #[.int .i64 (tolI z g), .int .i64 0]) := by
  have q := gTolerance z g
  rw [show tolV z g = tolI z g from if_pos ⟨⟨h1, h2⟩, h3, h4⟩, show tolE z g = 0 from (if_pos ⟨h1, h2⟩).trans (if_pos ⟨h3, h4⟩)] at q
  exact q.cg
theorem RtF.dev {z k gh gs : Int} (r : RtF z k gh gs) : Cg 12 #[.int .i64 z, .agg #[.bool false, .int .i64 k, .int .i64 gs]] (.tuple #[.agg #[.int .i64 (dnI z k gs), .int .i64 (upI z k gs)], .int .i64 0]) := by
  have q := gDeviations z k gs false
  have e1 : dvL z false k gs = dnI z k gs := by unfold dvL devLo dnI; rw [if_pos r.dvs, if_neg (by decide)]
  have e2 : dvH z false k gs = upI z k gs := by unfold dvH devHi upI; rw [if_pos r.dvs, if_neg (by decide)]
  rw [e1, e2, r.dvs] at q
  exact q.cg
theorem letT_A {n : Nat} (hk : n < 10) (h : n < 5) : ((letT[n]'(show n < 10 from hk)).toNat : Int) ≤ 104 := by
  rcases (by omega : n = 0 ∨ n = 1 ∨ n = 2 ∨ n = 3 ∨ n = 4) with rfl | rfl | rfl | rfl | rfl
  · exact (show ((letT[0]'(show 0 < 10 by decide)).toNat : Int) ≤ 104 by decide)
  · exact (show ((letT[1]'(show 1 < 10 by decide)).toNat : Int) ≤ 104 by decide)
  · exact (show ((letT[2]'(show 2 < 10 by decide)).toNat : Int) ≤ 104 by decide)
  · exact (show ((letT[3]'(show 3 < 10 by decide)).toNat : Int) ≤ 104 by decide)
  · exact (show ((letT[4]'(show 4 < 10 by decide)).toNat : Int) ≤ 104 by decide)
theorem letT_K {n : Nat} (hk : n < 10) (h : 5 < n) : 106 < ((letT[n]'(show n < 10 from hk)).toNat : Int) := by
  rcases (by omega : n = 6 ∨ n = 7 ∨ n = 8 ∨ n = 9) with rfl | rfl | rfl | rfl
  · exact (show 106 < ((letT[6]'(show 6 < 10 by decide)).toNat : Int) by decide)
  · exact (show 106 < ((letT[7]'(show 7 < 10 by decide)).toNat : Int) by decide)
  · exact (show 106 < ((letT[8]'(show 8 < 10 by decide)).toNat : Int) by decide)
  · exact (show 106 < ((letT[9]'(show 9 < 10 by decide)).toNat : Int) by decide)
theorem cLetters (z k gh gs : Int) (w : World) (gl : Gl w) : Calls Tryd.prog 3 #[.agg #[.int .i64 z, .int .i64 k, .int .i64 gh, .int .i64 gs]] w fun r W' => r = .returned (.bool true) ∧ Kb w W' := by
  by_cases h : c16 z k gh gs = 0
  · have r := c16_ok h
    obtain ⟨n, rfl⟩ : ∃ n : Nat, k = n := ⟨k.toNat, by have := r.k0; omega⟩
    have hk : n < 10 := by have := r.k9; omega
    have b := dn_bd z n gs
    have t1 := tolI_bd z gh
    have t2 := tolI_bd z gs
    have s1 := shiI_bd z n
    have e1 : wrap64 (-upI z n gs) = -upI z n gs := Go.IntWalk.wrap64_in _ (by omega)
    have e2 : wrap64 (tolI z gh - dnI z n gs) = tolI z gh - dnI z n gs := Go.IntWalk.wrap64_in _ (by omega)
    have e3 : wrap64 (tolI z gh - dnI z n gs - -upI z n gs) = tolI z gh - dnI z n gs - -upI z n gs := Go.IntWalk.wrap64_in _ (by omega)
    have e4 : wrap64 (tolI z gh + tolI z gs) = tolI z gh + tolI z gs := Go.IntWalk.wrap64_in _ (by omega)
    have q4 := tol_c r.z1 r.z2 r.h5 r.h12
    have q5 := tol_c r.z1 r.z2 r.s5 r.s12
    have q3 := r.kind
    by_cases h5 : n < 5
    · have u : upI z n gs = -shiI z n := by unfold upI dvHi; rw [Int.toNat_natCast, if_pos h5]
      have v : dnI z n gs = -shiI z n - tolI z gs := by unfold dnI dvLo; rw [Int.toNat_natCast, if_pos h5]
      rw [show kdI (-upI z n gs) (tolI z gh - dnI z n gs) = 0 from if_pos (by omega)] at q3
      have e4 : wrap64 (tolI z gh + tolI z gs) = tolI z gh - dnI z n gs - -upI z n gs := by rw [e4]; omega
      exact lA_1 z n gh gs _ _ 0 _ _ _ _ _ _ (rRight_t h) r.clr q3 q4 q5 r.dev hk rfl e1 e2 (letT_A hk h5) (by omega) e3 e4 w gl
    · by_cases h6 : n = 5
      · subst h6
        exact lJ_1 z 5 gh gs _ _ _ _ _ _ _ 0 _ (rRight_t h) r.clr q3 q4 q5 r.dev hk rfl e1 e2 (show ((letT[5]'(show 5 < 10 by decide)).toNat : Int) = 106 by decide) w gl
      · have u : upI z n gs = shiI z n + tolI z gs := by unfold upI dvHi; rw [Int.toNat_natCast, if_neg h5, if_neg h6]
        have v : dnI z n gs = shiI z n := by unfold dnI dvLo; rw [Int.toNat_natCast, if_neg h5, if_neg h6]
        have hkd : (kdI (-upI z n gs) (tolI z gh - dnI z n gs) == 0) = false := by
          unfold kdI
          rw [if_neg (by omega)]
          split <;> rfl
        have e4 : wrap64 (tolI z gh + tolI z gs) = tolI z gh - dnI z n gs - -upI z n gs := by rw [e4]; omega
        exact lK_1 z n gh gs _ _ _ _ _ _ _ _ _ (rRight_t h) r.clr q3 q4 q5 r.dev hk rfl e1 e2 (letT_K hk (by omega)) (by omega) hkd e3 e4 w gl
  · by_cases hk : 0 ≤ k
    · obtain ⟨n, rfl⟩ : ∃ n : Nat, k = n := ⟨k.toNat, by omega⟩
      exact lN_1 z n gh gs (rRight_f h) w gl
    · exact lM_1 z k gh gs (rRight_f h) w gl
end Go.Proofs.YtmjkiccoimhfkaaDoor
