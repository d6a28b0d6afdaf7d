/- Texts RTurned, RKept, RAdd, RLess, RNumber, RBrief, RBare: each says in its own first comment what it proves. -/
import Derived.Test.YtcgilcmhandgfaaGreatDoorM13
import Derived.Test.YtcgilcmhandgfaaGreatDoorM11
import Derived.Test.YtcgilcmhandgfaaGreatDoorM12
import Derived.OwnWalk
/- The reference's Below, signed, Turned and Neg. -/
namespace Go.Proofs.YtcgilcmhandgfaaGreatDoor
open Go.RowKit
open Go.Lib (nDigits itoa decDigits)

end Go.Proofs.YtcgilcmhandgfaaGreatDoor

/- The reference's both and Kept. -/
namespace Go.Proofs.YtcgilcmhandgfaaGreatDoor
open Go.RowKit
open Go.Lib (nDigits itoa decDigits)













































































end Go.Proofs.YtcgilcmhandgfaaGreatDoor

/- The reference's Add, Sub, Order and Compare, under the contract of its Plus. -/
namespace Go.Proofs.YtcgilcmhandgfaaGreatDoor
open Go.RowKit

end Go.Proofs.YtcgilcmhandgfaaGreatDoor

/- The reference's less: the order of digits. -/
namespace Go.Proofs.YtcgilcmhandgfaaGreatDoor
open Go.RowKit
open Go.Lib (nDigits itoa decDigits)

end Go.Proofs.YtcgilcmhandgfaaGreatDoor

/- The reference's number: the int of a short text. -/
namespace Go.Proofs.YtcgilcmhandgfaaGreatDoor
open Go.RowKit
open Go.Lib (nDigits itoa decDigits)

end Go.Proofs.YtcgilcmhandgfaaGreatDoor

/- The reference's brief: two texts as ints, if both are short. -/
namespace Go.Proofs.YtcgilcmhandgfaaGreatDoor
open Go.RowKit
open Go.Lib (nDigits itoa decDigits)

end Go.Proofs.YtcgilcmhandgfaaGreatDoor

/- The reference's bare: digits without zeros in front. -/
namespace Go.Proofs.YtcgilcmhandgfaaGreatDoor
open Go.RowKit
open Go.Lib (nDigits itoa decDigits)

end Go.Proofs.YtcgilcmhandgfaaGreatDoor
