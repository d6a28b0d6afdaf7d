/- What WholeChooses needs: sums of binomials, Binomial at every k, Total of a slice of the call's own. -/
import Derived.Test.YtegamkilhgekjaaGreatDoorM19
import Derived.Test.YtegamkilhgekjaaGreatDoorM08
import Derived.Test.YtegamkilhgekjaaGreatDoorM04
import Derived.Test.YtegamkilhgekjaaGreatDoorM06
import Derived.Test.YtegamkilhgekjaaGreatDoorM16
namespace Go.Proofs.YtegamkilhgekjaaGreatDoor
open Go.RowKit

theorem kp_grown {w w' : World} (k : Kp [] w w') : w.grownBy w' none := ⟨k.os, k.tape, k.output, k.size, fun i hi _ => k.block i hi (by simp)⟩
theorem grown_kp {w0 w w' : World} {row : Option Nat} (k : Kp [] w0 w) (hg : w.grownBy w' row) (hrow : ∀ i, row = some i → w0.heap.size ≤ i) : Kp [] w0 w' :=
  ⟨hg.os.trans k.os, hg.tape.trans k.tape, hg.output.trans k.output, Nat.le_trans k.size hg.size, fun i hi _ =>
    (hg.block i (Nat.lt_of_lt_of_le hi k.size) (fun e => by have := hrow i e.symm; omega)).trans (k.block i hi (by simp))⟩
/-- texts in a slice of the call's own -/
theorem strs_own {w : World} {base e g cap n : Nat} {ss : List ByteArray} (h : w.ownsRow base e 1 (.slice (some ⟨g, 0, none⟩) n cap) n (ss.map Value.string)) : Strs w g 0 ss ∧ n = ss.length := by
  have hn : n = ss.length := by have := h.1; simp at this; exact this.symm
  refine ⟨fun i hi => ?_, hn⟩
  have := h.cellAt i (by omega)
  rw [List.getElem?_map, List.getElem?_eq_getElem hi] at this
  rw [Nat.zero_add]; exact this
end Go.Proofs.YtegamkilhgekjaaGreatDoor
