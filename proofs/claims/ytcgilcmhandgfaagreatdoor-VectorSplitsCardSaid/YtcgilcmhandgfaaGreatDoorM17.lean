/- Texts Pow, Powx: each says in its own first comment what it proves. -/
import Derived.Test.YtcgilcmhandgfaaGreatDoorM11
import Derived.Test.YtcgilcmhandgfaaGreatDoorM16
/- Walk over whole.Pow: powers by squaring. -/
namespace Go.Proofs.YtcgilcmhandgfaaGreatDoor
open Go.RowKit
open Go.Lib (nDigits itoa decDigits)

end Go.Proofs.YtcgilcmhandgfaaGreatDoor

/- Pow at a text that is none, and at an exponent out of range. -/
namespace Go.Proofs.YtcgilcmhandgfaaGreatDoor
open Go.RowKit











































end Go.Proofs.YtcgilcmhandgfaaGreatDoor
