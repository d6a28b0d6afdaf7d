/- Texts OpenK: each says in its own first comment what it proves. -/
import Derived.Test.YtlfeinajjfbpkaaGreatDoorRows
import Derived.ProofKit
import Derived.ChangeMaps5
import Derived.Carry
import Derived.Test.YtlfeinajjfbpkaaGreatDoorM18
/- Structs and arrays of numbers, texts and booleans, opened: their cells are of these kinds. -/
namespace Go.Proofs.YtlfeinajjfbpkaaGreatDoor
open Go.ChangeShapes Go.WideShapes Go.ChangeAt Go.RowKit

structure inI (z : Int) : Prop where
  lo : -9223372036854775808 ≤ z
  hi : z ≤ 9223372036854775807
structure inW (z : Int) : Prop where
  lo : 0 ≤ z
  hi : z ≤ 65535
structure inB (z : Int) : Prop where
  lo : 0 ≤ z
  hi : z ≤ 255
structure szM (s : ByteArray) : Prop where
  le : s.size ≤ 9223372036854775807
inductive Kd where
  | i64 | u16 | u8 | str | bool
end Go.Proofs.YtlfeinajjfbpkaaGreatDoor
