/- A block of cells that may be written: its cells, and what keeps it. -/
import Derived.Test.YtmjkiccoimhfkaaDoorGk
import Derived.Laws.Rows
import Derived.Laws.ResultCell
namespace Go.Proofs.YtmjkiccoimhfkaaDoor
open Go.RowKit

theorem nn6 (n : Nat) : n ≠ n + 1 + 1 := by omega
theorem nn7 (n : Nat) : n + 1 ≠ n + 1 + 1 := by omega
theorem nn8 (n : Nat) : n ≤ n + 1 + 1 := by omega
theorem nn9 (n : Nat) : n + 1 < n + 1 + 1 := by omega
end Go.Proofs.YtmjkiccoimhfkaaDoor
