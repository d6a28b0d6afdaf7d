/- Texts Vref7, Vref8, Vref9, Vec17, Vsol: each says in its own first comment what it proves. -/
import Derived.Test.YtcgilcmhandgfaaGreatDoorM61
import Derived.Test.YtcgilcmhandgfaaGreatDoorM59
import Derived.Test.YtcgilcmhandgfaaGreatDoorM60
import Derived.Deep.RegionHeld3
import Derived.Test.YtcgilcmhandgfaaGreatDoorM62
import Derived.Laws.StructEq
/- The reference of layer 7 in space: RightSpot, Less, TimesSpace, Vector, FarSpace, Across, Six. -/
namespace Go.Proofs.YtcgilcmhandgfaaGreatDoor
open Go.RowKit
open Go.Lib (nDigits itoa decDigits)

end Go.Proofs.YtcgilcmhandgfaaGreatDoor

/- The reference of layer 7 in space: Volume, SquareSpace, Normal. -/
namespace Go.Proofs.YtcgilcmhandgfaaGreatDoor
open Go.RowKit
open Go.Lib (nDigits itoa decDigits)

end Go.Proofs.YtcgilcmhandgfaaGreatDoor

/- The reference of layer 7 in space: Long, FromPlane, ToPlane. -/
namespace Go.Proofs.YtcgilcmhandgfaaGreatDoor
open Go.RowKit
open Go.Lib (nDigits itoa decDigits)

end Go.Proofs.YtcgilcmhandgfaaGreatDoor

/- Normal, Volume, SquareSpace and ToPlane of package vector and of the reference of layer 7 answer alike. -/
namespace Go.Proofs.YtcgilcmhandgfaaGreatDoor
open Go.RowKit
open Go.Lib (nDigits itoa decDigits)

end Go.Proofs.YtcgilcmhandgfaaGreatDoor

/- VectorSolids returns true for every input. -/
namespace Go.Proofs.YtcgilcmhandgfaaGreatDoor
open Go.RowKit
open Go.Lib (nDigits itoa decDigits)

/-- a block of ints -/
def ArB (T : TypeId) (w : World) (b : Nat) (l : List Int) : Prop := w.heap[b]? = some (.cells (l.map fun z => Value.int .i64 z).toArray T (0, 0))
section
variable {T : TypeId} {w w' : World} {b : Nat} {l : List Int} {L : List Nat}
theorem ArB.lt (h : ArB T w b l) : b < w.heap.size := (Array.getElem?_eq_some_iff.1 h).1
theorem ArB.kept (h : ArB T w b l) (k : Kp L w w') (hb : b ∉ L) : ArB T w' b l := (k.block b h.lt hb).trans h
theorem ArB.alloc (h : ArB T w b l) (o : Obj) : ArB T (w.alloc o) b l := (Below.heap_alloc w o b h.lt).trans h
theorem ArB.f (h : ArB T w b l) (i : Nat) : w.frozen? ⟨b, i, none⟩ = false := by unfold ArB at h; simp [World.frozen?, h]
theorem ArB.c (h : ArB T w b l) {i : Nat} {z : Int} (hz : l[i]? = some z) : w.cell? ⟨b, i, none⟩ = some (.int .i64 z) := by
  unfold ArB at h
  have : (l.map fun z => Value.int .i64 z)[i]? = some (.int .i64 z) := by rw [List.getElem?_map, hz]; rfl
  simp [World.cell?, h, this]
theorem ArB.made (T : TypeId) (w : World) (l : List Int) : ArB T (w.alloc (.cells (l.map fun z => Value.int .i64 z).toArray T (0, 0))) w.heap.size l := heap_alloc_new w _
end
end Go.Proofs.YtcgilcmhandgfaaGreatDoor
