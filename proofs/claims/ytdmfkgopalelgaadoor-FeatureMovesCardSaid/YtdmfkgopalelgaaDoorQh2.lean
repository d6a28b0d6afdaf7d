/- Features: the laws Checks and Ends. -/
import Derived.Test.YtdmfkgopalelgaaDoorQg5
import Derived.Test.YtdmfkgopalelgaaDoorQg9
namespace Go.Proofs.YtdmfkgopalelgaaDoor
open Go.RowKit

theorem few_n {n : ByteArray} {fs : List FrT} (h : fewB n fs = true) : n.size ≤ 1000000 := by
  unfold fewB fewN at h
  simp only [Bool.and_eq_true, decide_eq_true_eq] at h
  omega
theorem mm {lo hi : Int} (h : lo ≤ hi) : lo ≤ hi ∧ min lo hi = lo ∧ max lo hi = hi ∧ min hi lo = lo ∧ max hi lo = hi := by omega
end Go.Proofs.YtdmfkgopalelgaaDoor
