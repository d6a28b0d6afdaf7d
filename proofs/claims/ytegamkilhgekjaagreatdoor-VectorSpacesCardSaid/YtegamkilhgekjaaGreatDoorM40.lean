/- Texts RSlash: each says in its own first comment what it proves. -/
import Derived.Test.YtegamkilhgekjaaGreatDoorM38
/- slash, Split and Short of the reference of layer 2, for any texts. -/
namespace Go.Proofs.YtegamkilhgekjaaGreatDoor
open Go.RowKit
open Go.Lib (nDigits itoa decDigits)

end Go.Proofs.YtegamkilhgekjaaGreatDoor
