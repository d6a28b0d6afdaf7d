/- Texts Qf5, Od6, OpenK, Ol2: each says in its own first comment what it proves. -/
import Derived.Test.YtlfeinajjfbpkaaGreatDoorM02
import Derived.Test.YtlfeinajjfbpkaaGreatDoorM50
import Derived.Test.YtlfeinajjfbpkaaGreatDoorM20
import Derived.Test.YtlfeinajjfbpkaaGreatDoorRows
import Derived.ProofKit
import Derived.ChangeMaps5
import Derived.Carry
import Derived.Test.YtlfeinajjfbpkaaGreatDoorM27
import Derived.Test.YtlfeinajjfbpkaaGreatDoorM47
/- Features: the reference's Coordinates, Along, Bounded, given, Reach. -/
namespace Go.Proofs.YtlfeinajjfbpkaaGreatDoor
open Go.RowKit






















/-- half of the greatest size, rounded up -/
def hf (hi : Int) : Int := (hi + 1) / 2

































































































































































































































































































end Go.Proofs.YtlfeinajjfbpkaaGreatDoor

/- The laws' examples of package dimension: awake returns true. -/
namespace Go.Proofs.YtlfeinajjfbpkaaGreatDoor
open Go.RowKit

theorem Ca.out {n : Nat} {args : Array Value} {v : Value} (h : Ca n args v) (W : World) : Calls Tryz.prog n args W fun r w' => r = .returned v ∧ Kb W w' := h W






























end Go.Proofs.YtlfeinajjfbpkaaGreatDoor

/- Structs and arrays of numbers, texts and booleans, opened: their cells are of these kinds. -/
namespace Go.Proofs.YtlfeinajjfbpkaaGreatDoor
open Go.ChangeShapes Go.WideShapes Go.ChangeAt Go.RowKit

structure inI (z : Int) : Prop where
  lo : -9223372036854775808 ≤ z
  hi : z ≤ 9223372036854775807
structure inW (z : Int) : Prop where
  lo : 0 ≤ z
  hi : z ≤ 65535
structure inB (z : Int) : Prop where
  lo : 0 ≤ z
  hi : z ≤ 255
structure szM (s : ByteArray) : Prop where
  le : s.size ≤ 9223372036854775807
inductive Kd where
  | i64 | u16 | u8 | str | bool
end Go.Proofs.YtlfeinajjfbpkaaGreatDoor

/- Laws of package dimension: Names, Holds, Sums, Meets return true. -/
namespace Go.Proofs.YtlfeinajjfbpkaaGreatDoor
open Go.RowKit

theorem lmE_0 {l h : Int} (e : lmE l h = 0) : (-100000 ≤ l ∧ l ≤ 100000) ∧ (-100000 ≤ h ∧ h ≤ 100000) ∧ l ≤ h := by
  rw [lmE_eq] at e
  by_cases c : inR l = true ∧ inR h = true
  · rw [if_pos c] at e
    by_cases d : h < l
    · rw [if_pos d] at e; omega
    · exact ⟨inR_iff.1 c.1, inR_iff.1 c.2, by omega⟩
  · rw [if_neg c] at e; omega
theorem lmE_ok {l h : Int} (a : -100000 ≤ l ∧ l ≤ 100000) (b : -100000 ≤ h ∧ h ≤ 100000) (c : l ≤ h) : lmE l h = 0 := by
  rw [lmE_eq, if_pos ⟨inR_iff.2 a, inR_iff.2 b⟩, if_neg (by omega)]
end Go.Proofs.YtlfeinajjfbpkaaGreatDoor
