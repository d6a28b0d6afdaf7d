/- Texts RDiv: each says in its own first comment what it proves. -/
import Derived.Test.YtegamkilhgekjaaGreatDoorM22
import Derived.Test.YtegamkilhgekjaaGreatDoorM05
import Derived.Test.YtegamkilhgekjaaGreatDoorM11
import Derived.Test.YtegamkilhgekjaaGreatDoorM12
import Derived.OwnWalk
/- The reference's divided: division of digits, as on paper. -/
namespace Go.Proofs.YtegamkilhgekjaaGreatDoor
open Go.RowKit
open Go.Lib (nDigits itoa decDigits)

theorem bytes_eq {a b : ByteArray} (h : a.data.toList = b.data.toList) : a = b := by
  cases a; cases b; simp only at h; congr 1; exact Array.toList_inj.1 h
end Go.Proofs.YtegamkilhgekjaaGreatDoor
