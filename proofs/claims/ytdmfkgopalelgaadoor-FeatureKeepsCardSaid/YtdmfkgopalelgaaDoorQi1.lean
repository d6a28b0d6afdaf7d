/- Features: the reference says whether features are apart. -/
import Derived.Test.YtdmfkgopalelgaaDoorQg4
import Derived.Test.YtdmfkgopalelgaaDoorOr2
namespace Go.Proofs.YtdmfkgopalelgaaDoor
open Go.RowKit

/-- apart along an axis -/
def apR (oa ob : Nat → Bool) (la ha lb hb : Nat → Int) (i : Nat) : Bool := oa i && ob i && (decide (ha i < lb i) || decide (hb i < la i))
def any3 (f : Nat → Bool) : Bool := f 0 || f 1 || f 2
theorem any3_t {f : Nat → Bool} {i : Nat} (hi : i < 3) (h : f i = true) : any3 f = true := by
  unfold any3
  have : i = 0 ∨ i = 1 ∨ i = 2 := by omega
  rcases this with rfl | rfl | rfl <;> simp [h]
theorem any3_f {f : Nat → Bool} {i : Nat} (hi : ¬ i < 3) (h : ∀ j, j < i → f j = false) : any3 f = false := by
  unfold any3
  simp [h 0 (by omega), h 1 (by omega), h 2 (by omega)]
theorem upto_succ {f : Nat → Bool} {i : Nat} (h : ∀ j, j < i → f j = false) (hi : f i = false) : ∀ j, j < i + 1 → f j = false := fun j hj => by
  by_cases e : j = i
  · rw [e]; exact hi
  · exact h j (by omega)
end Go.Proofs.YtdmfkgopalelgaaDoor
