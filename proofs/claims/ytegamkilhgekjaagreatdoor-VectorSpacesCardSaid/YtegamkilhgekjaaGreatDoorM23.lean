/- Texts RPlus: each says in its own first comment what it proves. -/
import Derived.Test.YtegamkilhgekjaaGreatDoorM22
import Derived.Test.YtegamkilhgekjaaGreatDoorM20
import Derived.Test.YtegamkilhgekjaaGreatDoorM21
/- The reference's Plus: the sum of two integers of any size. -/
namespace Go.Proofs.YtegamkilhgekjaaGreatDoor
open Go.RowKit
open Go.Lib (nDigits itoa decDigits)

end Go.Proofs.YtegamkilhgekjaaGreatDoor
