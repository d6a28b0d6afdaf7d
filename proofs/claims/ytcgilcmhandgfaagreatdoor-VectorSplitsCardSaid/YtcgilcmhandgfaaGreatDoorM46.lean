/- Texts GvA: each says in its own first comment what it proves. -/
import Derived.Test.YtcgilcmhandgfaaGreatDoorM12
import Derived.Test.YtcgilcmhandgfaaGreatDoorM11
/- Calls that return a value and keep the old blocks. -/
namespace Go.Proofs.YtcgilcmhandgfaaGreatDoor
open Go.RowKit
open Go.Lib (nDigits itoa decDigits)

/-- a call that returns a value and keeps the old blocks, in worlds that keep what w has -/
def Gw (w : World) (n : Nat) (args : Array Value) (v : Value) : Prop := ∀ W : World, Kp [] w W → Calls Tryz.prog n args W fun e w' => e = .returned v ∧ Kp [] W w'
section
variable {n : Nat} {args : Array Value} {v : Value} {w : World}
end
theorem zero_list : (S 0).toList = [48] := by rw [S_zero]; decide +kernel
theorem isZero_S (x : Int) : ((S x).toList == [48]) = decide (x = 0) := by rw [← zero_list]; exact S_beq x 0

end Go.Proofs.YtcgilcmhandgfaaGreatDoor
