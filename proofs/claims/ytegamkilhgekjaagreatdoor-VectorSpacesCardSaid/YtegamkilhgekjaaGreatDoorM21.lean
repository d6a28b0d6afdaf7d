/- Texts ROf, RPaper: each says in its own first comment what it proves. -/
import Derived.Test.YtegamkilhgekjaaGreatDoorM20
import Derived.Test.YtegamkilhgekjaaGreatDoorM05
import Derived.Test.YtegamkilhgekjaaGreatDoorM07
import Derived.Lib.LazyBuf
import Derived.Deep.RegionWith
/- The reference's Of: the text of an int. -/
namespace Go.Proofs.YtegamkilhgekjaaGreatDoor
open Go.RowKit
open Go.Lib (nDigits itoa decDigits)

end Go.Proofs.YtegamkilhgekjaaGreatDoor

/- The reference's column, wide and paper. -/
namespace Go.Proofs.YtegamkilhgekjaaGreatDoor
open Go.RowKit
open Go.Lib (nDigits itoa decDigits)

end Go.Proofs.YtegamkilhgekjaaGreatDoor
