/- Texts RTimes: each says in its own first comment what it proves. -/
import Derived.Test.YtegamkilhgekjaaGreatDoorM24
import Derived.Test.YtegamkilhgekjaaGreatDoorM23
/- The reference's Times: the product of two integers. -/
namespace Go.Proofs.YtegamkilhgekjaaGreatDoor
open Go.RowKit
open Go.Lib (nDigits itoa decDigits)

end Go.Proofs.YtegamkilhgekjaaGreatDoor
