/- Texts RPlus: each says in its own first comment what it proves. -/
import Derived.Test.YtcgilcmhandgfaaGreatDoorM22
import Derived.Test.YtcgilcmhandgfaaGreatDoorM20
import Derived.Test.YtcgilcmhandgfaaGreatDoorM21
/- The reference's Plus: the sum of two integers of any size. -/
namespace Go.Proofs.YtcgilcmhandgfaaGreatDoor
open Go.RowKit
open Go.Lib (nDigits itoa decDigits)

end Go.Proofs.YtcgilcmhandgfaaGreatDoor
