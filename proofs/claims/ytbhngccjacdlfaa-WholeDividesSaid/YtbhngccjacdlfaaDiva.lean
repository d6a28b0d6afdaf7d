/- Walks over (*number).divide: the quotient, rounded down, and the remainder. -/
import Derived.Test.YtbhngccjacdlfaaTake
import Derived.Test.YtbhngccjacdlfaaTop
import Derived.Test.YtbhngccjacdlfaaOne
namespace Go.Proofs.Ytbhngccjacdlfaa
open Go.RowKit

set_option maxRecDepth 100000 in
set_option maxHeartbeats 4000000 in
theorem divide_same (g b q A B : Nat) (m : Bool) (w : World) (hT : TakeOutOk A B) (hA : Num w g A m) (hB : Num w b B m) (hq : NumF w q (fun _ => 0) 0 false) (hgb : g ≠ b) (hgq : g ≠ q) (hbq : b ≠ q) (hm : m = (m && decide (A ≠ 0))) :
    Calls Try.prog 77 #[.pointer (some ⟨g, 0, none⟩), .pointer (some ⟨b, 0, none⟩), .pointer (some ⟨q, 0, none⟩)] w fun e w' => e = .returned (.tuple #[]) ∧ Num w' g (A % B) (m && decide (A % B ≠ 0)) ∧ Num w' q (A / B) false ∧ Kp [g, q] w w' := by
  have h1 := hA.1.sgn
  have h2 := hB.1.sgn
  have hmm : (m != m) = false := by simp
  have H := Lib.hid hm; clear hm
  go_enter Try.func77, Try.ntmps77
  go_wp2
  go_quiet (fail)
  go_wp2_with fail
  refine (hT g b q m m _ ⟨hA.1.drewN _, hA.2⟩ ⟨hB.1.drewN _, hB.2⟩ (hq.drewN _) hgb hgq hbq H.out).mono ?_
  rintro e w1 ⟨rfl, hn1, hq1, hk1⟩
  have hs1 := hq1.1.sgn
  have hf1 := hq1.1.free 230
  go_wp2_with fail
  refine (trim_num q (nw (A / B)) (A / B) _ false _ (hq1.1.setM false) (nw_le hq1.2) (lt_pow_nw _) (fun _ _ => rfl)).mono ?_
  rintro e w2 ⟨rfl, hq2, hk2⟩
  go_wp2
  go_end0
  exact ⟨rfl, ⟨(hn1.1.far (p := ⟨q, 230, none⟩) hgq _).kp hk2 (by simpa using hgq), hn1.2⟩, by simpa using hq2, ((((Kp.refl _ _).drewN _).trans hk1).setCell (p := ⟨q, 230, none⟩) (.inl (by simp)) _).step hk2 (by simp <;> omega)⟩

set_option maxRecDepth 100000 in
set_option maxHeartbeats 4000000 in
theorem divide_apart0 (g b q A B : Nat) (m mb : Bool) (w : World) (hT : TakeOutOk A B) (hA : Num w g A m) (hB : Num w b B mb) (hq : NumF w q (fun _ => 0) 0 false) (hgb : g ≠ b) (hgq : g ≠ q) (hbq : b ≠ q) (hm : m = (m && decide (A ≠ 0))) (hmm : mb = !m) (h0 : A % B = 0) :
    Calls Try.prog 77 #[.pointer (some ⟨g, 0, none⟩), .pointer (some ⟨b, 0, none⟩), .pointer (some ⟨q, 0, none⟩)] w fun e w' => e = .returned (.tuple #[]) ∧ Num w' g 0 false ∧ Num w' q (A / B) (decide (A / B ≠ 0)) ∧ Kp [g, q] w w' := by
  have h1 := hA.1.sgn
  have h2 := hB.1.sgn
  have H := Lib.hid hm; clear hm
  have H0 := Lib.hid h0; clear h0
  go_enter Try.func77, Try.ntmps77
  go_wp2
  go_quiet (fail)
  go_wp2_with fail
  refine (hT g b q m mb _ ⟨hA.1.drewN _, hA.2⟩ ⟨hB.1.drewN _, hB.2⟩ (hq.drewN _) hgb hgq hbq H.out).mono ?_
  rintro e w1 ⟨rfl, hn1, hq1, hk1⟩
  rw [H0.out] at hn1
  have hc1 := hn1.1.cnt
  rw [nw_zero] at hc1
  have hs1 := hq1.1.sgn
  have hf1 := hq1.1.free 230
  go_wp2_with fail
  refine (trim_num q (nw (A / B)) (A / B) _ true _ (hq1.1.setM true) (nw_le hq1.2) (lt_pow_nw _) (fun _ _ => rfl)).mono ?_
  rintro e w2 ⟨rfl, hq2, hk2⟩
  go_wp2
  go_end0
  refine ⟨rfl, ⟨?_, hn1.2⟩, by simpa using hq2, ((((Kp.refl _ _).drewN _).trans hk1).setCell (p := ⟨q, 230, none⟩) (.inl (by simp)) _).step hk2 (by simp <;> omega)⟩
  have := (hn1.1.far (p := ⟨q, 230, none⟩) hgq (.bool true)).kp hk2 (by simpa using hgq)
  simpa using this

end Go.Proofs.Ytbhngccjacdlfaa
