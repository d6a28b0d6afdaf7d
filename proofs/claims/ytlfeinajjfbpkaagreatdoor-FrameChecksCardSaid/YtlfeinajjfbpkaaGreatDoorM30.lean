/- Texts Qf4: each says in its own first comment what it proves. -/
import Derived.Test.YtlfeinajjfbpkaaGreatDoorM50
/- Features: the reference's Inner, Maximum, Least. -/
namespace Go.Proofs.YtlfeinajjfbpkaaGreatDoor
open Go.RowKit

/-- inner features: holes and slots -/
def holB (k : Int) : Bool := (k == 1) || (k == 3)
def szdE (e k : Int) : Int := if e = 0 then (if k = 0 then 14 else 0) else e
end Go.Proofs.YtlfeinajjfbpkaaGreatDoor
