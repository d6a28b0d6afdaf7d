/- Features: the reference's Bounded, and Reach way by way. -/
import Derived.Test.YtdmfkgopalelgaaDoorQf5
namespace Go.Proofs.YtdmfkgopalelgaaDoor
open Go.RowKit

/-- whether a feature is bounded along an axis -/
def bdB (k a c : Int) : Bool := if k = 4 then true else if k = 1 ∨ k = 2 then c != a else c == a
end Go.Proofs.YtdmfkgopalelgaaDoor
