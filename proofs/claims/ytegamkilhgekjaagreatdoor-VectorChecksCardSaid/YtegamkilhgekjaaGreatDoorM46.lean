/- Texts GvA: each says in its own first comment what it proves. -/
import Derived.Test.YtegamkilhgekjaaGreatDoorM12
import Derived.Test.YtegamkilhgekjaaGreatDoorM11
/- Calls that return a value and keep the old blocks. -/
namespace Go.Proofs.YtegamkilhgekjaaGreatDoor
open Go.RowKit
open Go.Lib (nDigits itoa decDigits)

section
variable {n : Nat} {args : Array Value} {v : Value} {w : World}
end
theorem zero_list : (S 0).toList = [48] := by rw [S_zero]; decide +kernel
theorem isZero_S (x : Int) : ((S x).toList == [48]) = decide (x = 0) := by rw [← zero_list]; exact S_beq x 0

end Go.Proofs.YtegamkilhgekjaaGreatDoor
