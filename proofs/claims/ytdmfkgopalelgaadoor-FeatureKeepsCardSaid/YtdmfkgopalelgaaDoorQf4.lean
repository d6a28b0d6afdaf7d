/- Features: the reference's Inner, Maximum, Least. -/
import Derived.Test.YtdmfkgopalelgaaDoorQf3
namespace Go.Proofs.YtdmfkgopalelgaaDoor
open Go.RowKit

/-- inner features: holes and slots -/
def holB (k : Int) : Bool := (k == 1) || (k == 3)
def szdE (e k : Int) : Int := if e = 0 then (if k = 0 then 14 else 0) else e
end Go.Proofs.YtdmfkgopalelgaaDoor
