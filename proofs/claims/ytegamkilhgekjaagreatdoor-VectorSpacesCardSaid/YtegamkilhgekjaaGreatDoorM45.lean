/- Texts RLow: each says in its own first comment what it proves. -/
import Derived.Test.YtegamkilhgekjaaGreatDoorM40
import Derived.Test.YtegamkilhgekjaaGreatDoorM42
import Derived.Test.YtegamkilhgekjaaGreatDoorM26
import Derived.Test.YtegamkilhgekjaaGreatDoorM25
/- Lowest and crossed of the reference of layer 2. -/
namespace Go.Proofs.YtegamkilhgekjaaGreatDoor
open Go.RowKit
open Go.Lib (nDigits itoa decDigits)

end Go.Proofs.YtegamkilhgekjaaGreatDoor
