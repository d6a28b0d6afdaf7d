/- Texts Obeys: each says in its own first comment what it proves. -/
import Derived.Test.YtegamkilhgekjaaGreatDoorM05
import Derived.Test.YtegamkilhgekjaaGreatDoorM07
import Derived.Test.YtegamkilhgekjaaGreatDoorM18
import Derived.Test.YtegamkilhgekjaaGreatDoorM12
import Derived.Test.YtegamkilhgekjaaGreatDoorM08
/- Walk over WholeObeys: the laws of a commutative ring at short texts. -/
namespace Go.Proofs.YtegamkilhgekjaaGreatDoor
open Go.RowKit
open Go.Lib (nDigits itoa decDigits lt_pow_nDigits)

def SmI (n : Nat) (z : Int) : Prop := z.natAbs < 10 ^ n
theorem SmI.ok {n : Nat} {z : Int} (h : SmI n z) (h1 : 1 ≤ n) (hn : n ≤ 1024) : Ok z := by
  unfold Ok; exact Nat.le_trans (nd_le h1 h) hn
theorem SmI.mono {n m : Nat} {z : Int} (h : SmI n z) (hn : n ≤ m) : SmI m z := Nat.lt_of_lt_of_le h (Nat.pow_le_pow_right (by decide) hn)
theorem SmI.neg {n : Nat} {z : Int} (h : SmI n z) : SmI n (-z) := by unfold SmI at *; rwa [Int.natAbs_neg]
theorem SmI.add {n : Nat} {x y : Int} (h : SmI n x) (k : SmI n y) : SmI (n + 1) (x + y) := by
  unfold SmI at *
  have := Int.natAbs_add_le x y
  rw [Nat.pow_succ]; omega
end Go.Proofs.YtegamkilhgekjaaGreatDoor
