/- Texts RTurned, RKept, RAdd, RLess, RNumber, RBrief, RBare: each says in its own first comment what it proves. -/
import Derived.Test.YtegamkilhgekjaaGreatDoorM13
import Derived.Test.YtegamkilhgekjaaGreatDoorM11
import Derived.Test.YtegamkilhgekjaaGreatDoorM12
import Derived.OwnWalk
/- The reference's Below, signed, Turned and Neg. -/
namespace Go.Proofs.YtegamkilhgekjaaGreatDoor
open Go.RowKit
open Go.Lib (nDigits itoa decDigits)

end Go.Proofs.YtegamkilhgekjaaGreatDoor

/- The reference's both and Kept. -/
namespace Go.Proofs.YtegamkilhgekjaaGreatDoor
open Go.RowKit
open Go.Lib (nDigits itoa decDigits)













































































end Go.Proofs.YtegamkilhgekjaaGreatDoor

/- The reference's Add, Sub, Order and Compare, under the contract of its Plus. -/
namespace Go.Proofs.YtegamkilhgekjaaGreatDoor
open Go.RowKit

end Go.Proofs.YtegamkilhgekjaaGreatDoor

/- The reference's less: the order of digits. -/
namespace Go.Proofs.YtegamkilhgekjaaGreatDoor
open Go.RowKit
open Go.Lib (nDigits itoa decDigits)

end Go.Proofs.YtegamkilhgekjaaGreatDoor

/- The reference's number: the int of a short text. -/
namespace Go.Proofs.YtegamkilhgekjaaGreatDoor
open Go.RowKit
open Go.Lib (nDigits itoa decDigits)

end Go.Proofs.YtegamkilhgekjaaGreatDoor

/- The reference's brief: two texts as ints, if both are short. -/
namespace Go.Proofs.YtegamkilhgekjaaGreatDoor
open Go.RowKit
open Go.Lib (nDigits itoa decDigits)

end Go.Proofs.YtegamkilhgekjaaGreatDoor

/- The reference's bare: digits without zeros in front. -/
namespace Go.Proofs.YtegamkilhgekjaaGreatDoor
open Go.RowKit
open Go.Lib (nDigits itoa decDigits)

end Go.Proofs.YtegamkilhgekjaaGreatDoor
