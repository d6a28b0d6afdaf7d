/- Texts Pow, Powx: each says in its own first comment what it proves. -/
import Derived.Test.YtegamkilhgekjaaGreatDoorM11
import Derived.Test.YtegamkilhgekjaaGreatDoorM16
/- Walk over whole.Pow: powers by squaring. -/
namespace Go.Proofs.YtegamkilhgekjaaGreatDoor
open Go.RowKit
open Go.Lib (nDigits itoa decDigits)

end Go.Proofs.YtegamkilhgekjaaGreatDoor

/- Pow at a text that is none, and at an exponent out of range. -/
namespace Go.Proofs.YtegamkilhgekjaaGreatDoor
open Go.RowKit











































end Go.Proofs.YtegamkilhgekjaaGreatDoor
