/- Texts GvA: each says in its own first comment what it proves. -/
import Derived.Test.YtegamkilhgekjaaGreatDoorM12
import Derived.Test.YtegamkilhgekjaaGreatDoorM11
/- Calls that return a value and keep the old blocks. -/
namespace Go.Proofs.YtegamkilhgekjaaGreatDoor
open Go.RowKit
open Go.Lib (nDigits itoa decDigits)

/-- a call that returns a value and keeps the old blocks, in worlds that keep what w has -/
def Gw (w : World) (n : Nat) (args : Array Value) (v : Value) : Prop := ∀ W : World, Kp [] w W → Calls Tryz.prog n args W fun e w' => e = .returned v ∧ Kp [] W w'
section
variable {n : Nat} {args : Array Value} {v : Value} {w : World}
theorem gw_of (h : ∀ W, Calls Tryz.prog n args W fun e w' => e = .returned v ∧ Kp [] W w') : Hid (Gw w n args v) := fun W _ => h W
end
theorem zero_list : (S 0).toList = [48] := by rw [S_zero]; decide +kernel
theorem isZero_S (x : Int) : ((S x).toList == [48]) = decide (x = 0) := by rw [← zero_list]; exact S_beq x 0

end Go.Proofs.YtegamkilhgekjaaGreatDoor
