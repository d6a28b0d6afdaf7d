/- Slices of the words of a long number. -/
import Derived.Test.YtbhngccjacdlfaaKit
namespace Go.Proofs.Ytbhngccjacdlfaa
open Go.RowKit

theorem elem_size (w : World) : (sizeOf 63).run Try.prog w = .ok 1 w := by kernel_rfl
theorem sl_high (g h : Nat) (hh : h ≤ 229) (w : World) :
    (Instr.sliceAt 64 (.pointer (some ⟨g, 0, none⟩)) none (some (.int .i64 (h : Int))) none).run Try.prog w = .ok (.slice (some ⟨g, 0, none⟩) h 229) w := by
  have h2 : (0 : Int) ≤ (h : Int) ∧ (h : Int) ≤ (229 : Nat) := by omega
  simp [Instr.sliceAt, run_underlying Try.underlying64, Instr.sliceBounds, Instr.sliceBound, asIntOf, elem_size, go_sem, h2]
  intro h3; omega
theorem sl_all (g : Nat) (w : World) :
    (Instr.sliceAt 64 (.pointer (some ⟨g, 0, none⟩)) none none none).run Try.prog w = .ok (.slice (some ⟨g, 0, none⟩) 229 229) w := by
  simp [Instr.sliceAt, run_underlying Try.underlying64, Instr.sliceBounds, elem_size, go_sem]
end Go.Proofs.Ytbhngccjacdlfaa
