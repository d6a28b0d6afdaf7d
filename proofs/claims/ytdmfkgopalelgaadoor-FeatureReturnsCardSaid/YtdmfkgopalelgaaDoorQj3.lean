/- Features: equal features. -/
import Derived.Test.YtdmfkgopalelgaaDoorQj1
namespace Go.Proofs.YtdmfkgopalelgaaDoor
open Go.RowKit

def plB (n : ByteArray) (k a x y z lo hi : Int) (n2 : ByteArray) (k2 a2 x2 y2 z2 lo2 hi2 : Int) : Bool := n.toList == n2.toList && k == k2 && a == a2 && x == x2 && y == y2 && z == z2 && lo == lo2 && hi == hi2
end Go.Proofs.YtdmfkgopalelgaaDoor
