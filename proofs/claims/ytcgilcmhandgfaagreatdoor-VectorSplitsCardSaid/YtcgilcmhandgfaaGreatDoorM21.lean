/- Texts ROf, RPaper: each says in its own first comment what it proves. -/
import Derived.Test.YtcgilcmhandgfaaGreatDoorM20
import Derived.Test.YtcgilcmhandgfaaGreatDoorM05
import Derived.Test.YtcgilcmhandgfaaGreatDoorM07
import Derived.Lib.LazyBuf
import Derived.Deep.RegionWith
/- The reference's Of: the text of an int. -/
namespace Go.Proofs.YtcgilcmhandgfaaGreatDoor
open Go.RowKit
open Go.Lib (nDigits itoa decDigits)

end Go.Proofs.YtcgilcmhandgfaaGreatDoor

/- The reference's column, wide and paper. -/
namespace Go.Proofs.YtcgilcmhandgfaaGreatDoor
open Go.RowKit
open Go.Lib (nDigits itoa decDigits)

end Go.Proofs.YtcgilcmhandgfaaGreatDoor
