/- Texts RCheck: each says in its own first comment what it proves. -/
import Derived.Test.YtegamkilhgekjaaGreatDoorM05
/- Walks over the reference's size and Check. -/
namespace Go.Proofs.YtegamkilhgekjaaGreatDoor
open Go.RowKit

end Go.Proofs.YtegamkilhgekjaaGreatDoor
