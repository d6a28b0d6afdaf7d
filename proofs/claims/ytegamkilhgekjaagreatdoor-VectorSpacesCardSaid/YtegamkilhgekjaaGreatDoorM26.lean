/- Texts RDiv, RPartM, RPart, RPart2, RMul, RShared: each says in its own first comment what it proves. -/
import Derived.Test.YtegamkilhgekjaaGreatDoorM23
import Derived.Test.YtegamkilhgekjaaGreatDoorM25
import Derived.Test.YtegamkilhgekjaaGreatDoorM16
import Derived.Test.YtegamkilhgekjaaGreatDoorM11
/- The reference's divided: division of digits, as on paper. -/
namespace Go.Proofs.YtegamkilhgekjaaGreatDoor
open Go.RowKit
open Go.Lib (nDigits itoa decDigits)

theorem bytes_eq {a b : ByteArray} (h : a.data.toList = b.data.toList) : a = b := by
  cases a; cases b; simp only at h; congr 1; exact Array.toList_inj.1 h
end Go.Proofs.YtegamkilhgekjaaGreatDoor

/- Mathematics for the reference's Parted. -/
namespace Go.Proofs.YtegamkilhgekjaaGreatDoor
open Go.RowKit
open Go.Lib (nDigits itoa decDigits)

end Go.Proofs.YtegamkilhgekjaaGreatDoor

/- The reference's Parted: quotient and remainder. -/
namespace Go.Proofs.YtegamkilhgekjaaGreatDoor
open Go.RowKit
open Go.Lib (nDigits itoa decDigits)

end Go.Proofs.YtegamkilhgekjaaGreatDoor

/- The reference's Parted, where a number is long. -/
namespace Go.Proofs.YtegamkilhgekjaaGreatDoor
open Go.RowKit
open Go.Lib (nDigits itoa decDigits)

end Go.Proofs.YtegamkilhgekjaaGreatDoor

/- The reference's Mul and Divide. -/
namespace Go.Proofs.YtegamkilhgekjaaGreatDoor
open Go.RowKit
open Go.Lib (nDigits itoa decDigits)


































































































end Go.Proofs.YtegamkilhgekjaaGreatDoor

/- The reference's Shared. -/
namespace Go.Proofs.YtegamkilhgekjaaGreatDoor
open Go.RowKit
open Go.Lib (nDigits itoa decDigits)

end Go.Proofs.YtegamkilhgekjaaGreatDoor
