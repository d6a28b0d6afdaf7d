/- Texts Right, Reck, Span: each says in its own first comment what it proves. -/
import Derived.Test.YtiommpdbbpddpaaGreatM31
import Derived.Test.YtiommpdbbpddpaaGreatM33
import Derived.Test.YtiommpdbbpddpaaGreatM12
import Derived.Test.YtiommpdbbpddpaaGreatM11
import Derived.Test.YtiommpdbbpddpaaGreatM24
import Derived.Test.YtiommpdbbpddpaaGreatM29
/- slices.ContainsFunc over lists of texts, and right of metrolablaw02. -/
namespace Go.Proofs.YtiommpdbbpddpaaGreat
open Go.RowKit
open Go.Lib (nDigits itoa decDigits)

/-- a text with at most 30 bytes before and behind the slash -/
def shB (a : ByteArray) : Bool := decide ((cN a).size ≤ 30) && decide ((cD a).size ≤ 30)
theorem nd_len_lt {n k : Nat} (h : nDigits n ≤ k) (hk : 0 < k) : n < 10 ^ k := (nd_le_iff hk).1 h
end Go.Proofs.YtiommpdbbpddpaaGreat

/- The keeper of package reckon where no step fails. -/
namespace Go.Proofs.YtiommpdbbpddpaaGreat
open Go.RowKit
open Go.Lib (nDigits itoa decDigits)

/-- block g is a keeper with the error e -/
def RE (w : World) (g : Nat) (e : Int) : Prop := w.heap[g]? = some (.cells #[.int .i64 e] 75 (0, 0))
section
variable {w w' : World} {g : Nat} {e : Int} {L : List Nat}
theorem RE.lt (h : RE w g e) : g < w.heap.size := (Array.getElem?_eq_some_iff.1 h).1
theorem RE.cell (h : RE w g e) : w.cell? ⟨g, 0, none⟩ = some (.int .i64 e) := cell_of_one h
theorem RE.free (h : RE w g e) : w.frozen? ⟨g, 0, none⟩ = false := free_of_one h
theorem RE.kept (h : RE w g e) (k : Kp L w w') (hg : g ∉ L) : RE w' g e := (k.block g h.lt hg).trans h
theorem RE.alloc (h : RE w g e) (o : Obj) : RE (w.alloc o) g e := (Below.heap_alloc w o g h.lt).trans h
theorem RE.set (h : RE w g e) (f : Int) : RE (w.setCell ⟨g, 0, none⟩ (.int .i64 f)) g f := by
  unfold RE at *; simp [World.setCell, Array.getElem?_modify, h]
end
end Go.Proofs.YtiommpdbbpddpaaGreat

/- Check, keep, inside and Contains of package interval, on right, short numbers. -/
namespace Go.Proofs.YtiommpdbbpddpaaGreat
open Go.RowKit
open Go.Lib (nDigits itoa decDigits)

/-- a block that holds a span -/
def SpB (w : World) (b : Nat) (lo hi : ByteArray) : Prop := w.heap[b]? = some (.cells #[.string lo, .string hi] 26 (0, 0))
section
variable {w w' : World} {b : Nat} {lo hi : ByteArray} {L : List Nat}
theorem SpB.lt (h : SpB w b lo hi) : b < w.heap.size := (Array.getElem?_eq_some_iff.1 h).1
theorem SpB.c0 (h : SpB w b lo hi) : w.cell? ⟨b, 0, none⟩ = some (.string lo) := by unfold SpB at h; simp [World.cell?, h]
theorem SpB.c1 (h : SpB w b lo hi) : w.cell? ⟨b, 1, none⟩ = some (.string hi) := by unfold SpB at h; simp [World.cell?, h]
theorem SpB.f (h : SpB w b lo hi) (i : Nat) : w.frozen? ⟨b, i, none⟩ = false := by unfold SpB at h; simp [World.frozen?, h]
theorem SpB.kept (h : SpB w b lo hi) (k : Kp L w w') (hb : b ∉ L) : SpB w' b lo hi := (k.block b h.lt hb).trans h
theorem SpB.alloc (h : SpB w b lo hi) (o : Obj) : SpB (w.alloc o) b lo hi := (Below.heap_alloc w o b h.lt).trans h
theorem SpB.made (w : World) (lo hi : ByteArray) : SpB (w.alloc (.cells #[.string lo, .string hi] 26 (0, 0))) w.heap.size lo hi := heap_alloc_new w _
end
section
variable {j : Nat} {l h x : Rat}
end

end Go.Proofs.YtiommpdbbpddpaaGreat
