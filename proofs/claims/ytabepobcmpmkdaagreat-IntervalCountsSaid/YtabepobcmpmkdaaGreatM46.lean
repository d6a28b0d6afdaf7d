/- Texts GvA: each says in its own first comment what it proves. -/
import Derived.Test.YtabepobcmpmkdaaGreatM12
import Derived.Test.YtabepobcmpmkdaaGreatM11
/- Calls that return a value and keep the old blocks. -/
namespace Go.Proofs.YtabepobcmpmkdaaGreat
open Go.RowKit
open Go.Lib (nDigits itoa decDigits)

/-- a call that returns a value and keeps the old blocks, in worlds that keep what w has -/
def Gw (w : World) (n : Nat) (args : Array Value) (v : Value) : Prop := ∀ W : World, Kp [] w W → Calls Tryz.prog n args W fun e w' => e = .returned v ∧ Kp [] W w'
section
variable {n : Nat} {args : Array Value} {v : Value} {w : World}
theorem gw_of (h : ∀ W, Calls Tryz.prog n args W fun e w' => e = .returned v ∧ Kp [] W w') : Hid (Gw w n args v) := fun W _ => h W
theorem gw_same (h : ∀ W, Calls Tryz.prog n args W fun e w' => e = .returned v ∧ W = w') : Hid (Gw w n args v) := fun W _ => (h W).mono fun _ _ ⟨a, b⟩ => ⟨a, b ▸ Kp.refl _ _⟩
end
end Go.Proofs.YtabepobcmpmkdaaGreat
