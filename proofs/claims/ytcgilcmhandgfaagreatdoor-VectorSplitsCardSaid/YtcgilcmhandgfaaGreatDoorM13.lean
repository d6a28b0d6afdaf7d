/- Texts RCheck: each says in its own first comment what it proves. -/
import Derived.Test.YtcgilcmhandgfaaGreatDoorM05
/- Walks over the reference's size and Check. -/
namespace Go.Proofs.YtcgilcmhandgfaaGreatDoor
open Go.RowKit

end Go.Proofs.YtcgilcmhandgfaaGreatDoor
