/- Texts Vsol: each says in its own first comment what it proves. -/
import Derived.Test.YtegamkilhgekjaaGreatDoorM61
import Derived.Test.YtegamkilhgekjaaGreatDoorM59
import Derived.Test.YtegamkilhgekjaaGreatDoorM60
import Derived.Deep.RegionHeld3
import Derived.Test.YtegamkilhgekjaaGreatDoorM62
import Derived.Test.YtegamkilhgekjaaGreatDoorM46
import Derived.Test.YtegamkilhgekjaaGreatDoorM38
import Derived.Test.YtegamkilhgekjaaGreatDoorM42
import Derived.Test.YtegamkilhgekjaaGreatDoorM26
import Derived.Test.YtegamkilhgekjaaGreatDoorM24
import Derived.Test.YtegamkilhgekjaaGreatDoorM22
import Derived.Test.YtegamkilhgekjaaGreatDoorM05
import Derived.Test.YtegamkilhgekjaaGreatDoorM11
import Derived.Test.YtegamkilhgekjaaGreatDoorM12
import Derived.OwnWalk
import Derived.Test.YtegamkilhgekjaaGreatDoorM08
import Derived.Test.YtegamkilhgekjaaGreatDoorM04
import Derived.Test.YtegamkilhgekjaaGreatDoorM06
import Derived.Test.YtegamkilhgekjaaGreatDoorM41
import Derived.Laws.StructEq
/- VectorSolids returns true for every input. -/
namespace Go.Proofs.YtegamkilhgekjaaGreatDoor
open Go.RowKit
open Go.Lib (nDigits itoa decDigits)

/-- a block of ints -/
def ArB (T : TypeId) (w : World) (b : Nat) (l : List Int) : Prop := w.heap[b]? = some (.cells (l.map fun z => Value.int .i64 z).toArray T (0, 0))
section
variable {T : TypeId} {w w' : World} {b : Nat} {l : List Int} {L : List Nat}
theorem ArB.lt (h : ArB T w b l) : b < w.heap.size := (Array.getElem?_eq_some_iff.1 h).1
theorem ArB.kept (h : ArB T w b l) (k : Kp L w w') (hb : b ∉ L) : ArB T w' b l := (k.block b h.lt hb).trans h
theorem ArB.alloc (h : ArB T w b l) (o : Obj) : ArB T (w.alloc o) b l := (Below.heap_alloc w o b h.lt).trans h
theorem ArB.f (h : ArB T w b l) (i : Nat) : w.frozen? ⟨b, i, none⟩ = false := by unfold ArB at h; simp [World.frozen?, h]
theorem ArB.c (h : ArB T w b l) {i : Nat} {z : Int} (hz : l[i]? = some z) : w.cell? ⟨b, i, none⟩ = some (.int .i64 z) := by
  unfold ArB at h
  have : (l.map fun z => Value.int .i64 z)[i]? = some (.int .i64 z) := by rw [List.getElem?_map, hz]; rfl
  simp [World.cell?, h, this]
theorem ArB.made (T : TypeId) (w : World) (l : List Int) : ArB T (w.alloc (.cells (l.map fun z => Value.int .i64 z).toArray T (0, 0))) w.heap.size l := heap_alloc_new w _
end
end Go.Proofs.YtegamkilhgekjaaGreatDoor
