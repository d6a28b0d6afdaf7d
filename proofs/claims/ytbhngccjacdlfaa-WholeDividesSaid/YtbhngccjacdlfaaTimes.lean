/- Walk over (*number).times: a number becomes its product with another, and whether that is not too long. -/
import Derived.Test.YtbhngccjacdlfaaTop2
namespace Go.Proofs.Ytbhngccjacdlfaa
open Go.RowKit
open Go.Lib (nDigits)

set_option maxRecDepth 100000 in
set_option maxHeartbeats 1000000 in
theorem times_any (g b : Nat) (x y : Int) (w : World) (hA : NumZ w g x) (hB : NumZ w b y) (hx : x.natAbs < B9 ^ 114) (hy : y.natAbs < B9 ^ 114) :
    Calls Try.prog 60 #[.pointer (some ⟨g, 0, none⟩), .pointer (some ⟨b, 0, none⟩)] w fun e w' => e = .returned (.bool (decide (Ok (x * y)))) ∧ NumZ w' g (x * y) ∧ Kp [g] w w' := by
  have hlg := hA.lt
  have hlb := hB.lt
  have n1 := NumF.made w
  have k1 : Kp [g] w (w.alloc (.cells Try.zeroCells66 66)) := (Kp.refl _ _).alloc _
  have hv : Hid ((!decide (1024 < nDigits (x * y).natAbs)) = decide (Ok (x * y))) := by
    show _ = _
    by_cases h : Ok (x * y)
    · rw [decide_eq_true h, decide_eq_false (show ¬ 1024 < nDigits (x * y).natAbs by unfold Ok at h; omega)]; rfl
    · rw [decide_eq_false h, decide_eq_true (show 1024 < nDigits (x * y).natAbs by unfold Ok at h; omega)]; rfl
  go_enter Try.func60, Try.ntmps60
  go_wp2_with fail
  refine (mulZ w.heap.size g b x y _ n1 (hA.alloc _) (hB.alloc _) (by omega) (by omega) hx hy).mono ?_
  rintro e w1 ⟨rfl, hp, hk1⟩
  have hA1 : NumZ w1 g x := (hA.alloc _).kp hk1 (by simp <;> omega)
  go_wp2_with fail
  refine (set_any g w.heap.size x.natAbs (x * y).natAbs _ _ _ hA1 hp (by omega)).mono ?_
  rintro e w2 ⟨rfl, hg2, hk2⟩
  go_wp2_with fail
  refine (long_any g (x * y).natAbs _ _ hg2).mono ?_
  rintro e w3 ⟨rfl, n, rfl⟩
  go_wp2
  go_ret
  exact ⟨by rw [← hv.out]; rfl, ⟨hg2.1.drewN _, hg2.2⟩, ((k1.step hk1 (by simp <;> omega)).trans hk2).drewN n⟩
end Go.Proofs.Ytbhngccjacdlfaa
