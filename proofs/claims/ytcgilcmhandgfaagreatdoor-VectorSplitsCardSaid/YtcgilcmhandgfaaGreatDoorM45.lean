/- Texts RLow: each says in its own first comment what it proves. -/
import Derived.Test.YtcgilcmhandgfaaGreatDoorM40
import Derived.Test.YtcgilcmhandgfaaGreatDoorM42
import Derived.Test.YtcgilcmhandgfaaGreatDoorM26
import Derived.Test.YtcgilcmhandgfaaGreatDoorM25
/- Lowest and crossed of the reference of layer 2. -/
namespace Go.Proofs.YtcgilcmhandgfaaGreatDoor
open Go.RowKit
open Go.Lib (nDigits itoa decDigits)

end Go.Proofs.YtcgilcmhandgfaaGreatDoor
