/- Texts Right, GvA, RMake2, Ref2a, Reck, Span: each says in its own first comment what it proves. -/
import Derived.Test.YtiommpdbbpddpaaGreatDoorM32
import Derived.Test.YtiommpdbbpddpaaGreatDoorM34
import Derived.Test.YtiommpdbbpddpaaGreatDoorM12
import Derived.Test.YtiommpdbbpddpaaGreatDoorM11
import Derived.Test.YtiommpdbbpddpaaGreatDoorM35
import Derived.Test.YtiommpdbbpddpaaGreatDoorM17
import Derived.Test.YtiommpdbbpddpaaGreatDoorM33
import Derived.Test.YtiommpdbbpddpaaGreatDoorM25
import Derived.Test.YtiommpdbbpddpaaGreatDoorM30
/- slices.ContainsFunc over lists of texts, and right of metrolablaw02. -/
namespace Go.Proofs.YtiommpdbbpddpaaGreatDoor
open Go.RowKit
open Go.Lib (nDigits itoa decDigits)

/-- a text with at most 30 bytes before and behind the slash -/
def shB (a : ByteArray) : Bool := decide ((cN a).size ≤ 30) && decide ((cD a).size ≤ 30)
theorem nd_len_lt {n k : Nat} (h : nDigits n ≤ k) (hk : 0 < k) : n < 10 ^ k := (nd_le_iff hk).1 h
end Go.Proofs.YtiommpdbbpddpaaGreatDoor

/- Calls that return a value and keep the old blocks. -/
namespace Go.Proofs.YtiommpdbbpddpaaGreatDoor
open Go.RowKit
open Go.Lib (nDigits itoa decDigits)

/-- a call that returns a value and keeps the old blocks, in worlds that keep what w has -/
def Gw (w : World) (n : Nat) (args : Array Value) (v : Value) : Prop := ∀ W : World, Kp [] w W → Calls Tryz.prog n args W fun e w' => e = .returned v ∧ Kp [] W w'
section
variable {n : Nat} {args : Array Value} {v : Value} {w : World}
theorem gw_of (h : ∀ W, Calls Tryz.prog n args W fun e w' => e = .returned v ∧ Kp [] W w') : Hid (Gw w n args v) := fun W _ => h W
theorem gw_same (h : ∀ W, Calls Tryz.prog n args W fun e w' => e = .returned v ∧ W = w') : Hid (Gw w n args v) := fun W _ => (h W).mono fun _ _ ⟨a, b⟩ => ⟨a, b ▸ Kp.refl _ _⟩
end
end Go.Proofs.YtiommpdbbpddpaaGreatDoor

/- Make and Whole of the reference of layer 2. -/
namespace Go.Proofs.YtiommpdbbpddpaaGreatDoor
open Go.RowKit
open Go.Lib (nDigits itoa decDigits)




















































































































set_option maxRecDepth 100000 in
set_option maxHeartbeats 4000000 in
theorem rwhole_any (n : Int) (w : World) (hn : I64 n) :
    Calls Tryz.prog 24 #[.int .i64 n] w fun e w' => e = .returned (.string (S n)) ∧ Kp [] w w' := by
  have q : Hid (Gw w 52 #[.int .i64 n] (.string (S n))) := gw_of fun W => of_any n W hn.1 (by have := hn.2; omega)
  generalize S n = t at *
  unfold Gw at q
  have kk := Kp.refl [] w
  go_enter Tryz.func24, Tryz.ntmps24
  go_wp2_with fail
  with_reducible refine (q.out _ kk).mono ?_
  rintro e w1 ⟨rfl, k⟩
  replace kk := kk.trans k; clear k
  go_wp2
  go_ret
  exact ⟨rfl, kk⟩

end Go.Proofs.YtiommpdbbpddpaaGreatDoor

/- Parts, Sign, Neg and Floor of the reference of layer 2. -/
namespace Go.Proofs.YtiommpdbbpddpaaGreatDoor
open Go.RowKit
open Go.Lib (nDigits itoa decDigits)






























































































































































































section
variable {j : Nat} {q : Rat}
theorem ref_check {a : ByteArray} {w : World} (ha : a.size ≤ 9223372036854775807) : Hid (Gw w 32 #[.string a] (.int .i64 (spE a))) := gw_of fun W => rCheck2_any a W ha
theorem ref_ok {w : World} (h : OkR q) : Hid (Gw w 32 #[.string (RS q)] (.int .i64 0)) := by
  have := ref_check (w := w) h.size9
  rwa [(sp_RS h).2.2] at this
end
/-! the operations with one text, for texts that are wrong or small: what the program says -/











end Go.Proofs.YtiommpdbbpddpaaGreatDoor

/- The keeper of package reckon where no step fails. -/
namespace Go.Proofs.YtiommpdbbpddpaaGreatDoor
open Go.RowKit
open Go.Lib (nDigits itoa decDigits)

/-- block g is a keeper with the error e -/
def RE (w : World) (g : Nat) (e : Int) : Prop := w.heap[g]? = some (.cells #[.int .i64 e] 72 (0, 0))
section
variable {w w' : World} {g : Nat} {e : Int} {L : List Nat}
theorem RE.lt (h : RE w g e) : g < w.heap.size := (Array.getElem?_eq_some_iff.1 h).1
theorem RE.cell (h : RE w g e) : w.cell? ⟨g, 0, none⟩ = some (.int .i64 e) := cell_of_one h
theorem RE.free (h : RE w g e) : w.frozen? ⟨g, 0, none⟩ = false := free_of_one h
theorem RE.kept (h : RE w g e) (k : Kp L w w') (hg : g ∉ L) : RE w' g e := (k.block g h.lt hg).trans h
theorem RE.alloc (h : RE w g e) (o : Obj) : RE (w.alloc o) g e := (Below.heap_alloc w o g h.lt).trans h
theorem RE.set (h : RE w g e) (f : Int) : RE (w.setCell ⟨g, 0, none⟩ (.int .i64 f)) g f := by
  unfold RE at *; simp [World.setCell, Array.getElem?_modify, h]
end
end Go.Proofs.YtiommpdbbpddpaaGreatDoor

/- Check, keep, inside and Contains of package interval, on right, short numbers. -/
namespace Go.Proofs.YtiommpdbbpddpaaGreatDoor
open Go.RowKit
open Go.Lib (nDigits itoa decDigits)

/-- a block that holds a span -/
def SpB (w : World) (b : Nat) (lo hi : ByteArray) : Prop := w.heap[b]? = some (.cells #[.string lo, .string hi] 24 (0, 0))
section
variable {w w' : World} {b : Nat} {lo hi : ByteArray} {L : List Nat}
theorem SpB.lt (h : SpB w b lo hi) : b < w.heap.size := (Array.getElem?_eq_some_iff.1 h).1
theorem SpB.c0 (h : SpB w b lo hi) : w.cell? ⟨b, 0, none⟩ = some (.string lo) := by unfold SpB at h; simp [World.cell?, h]
theorem SpB.c1 (h : SpB w b lo hi) : w.cell? ⟨b, 1, none⟩ = some (.string hi) := by unfold SpB at h; simp [World.cell?, h]
theorem SpB.f (h : SpB w b lo hi) (i : Nat) : w.frozen? ⟨b, i, none⟩ = false := by unfold SpB at h; simp [World.frozen?, h]
theorem SpB.kept (h : SpB w b lo hi) (k : Kp L w w') (hb : b ∉ L) : SpB w' b lo hi := (k.block b h.lt hb).trans h
theorem SpB.alloc (h : SpB w b lo hi) (o : Obj) : SpB (w.alloc o) b lo hi := (Below.heap_alloc w o b h.lt).trans h
theorem SpB.made (w : World) (lo hi : ByteArray) : SpB (w.alloc (.cells #[.string lo, .string hi] 24 (0, 0))) w.heap.size lo hi := heap_alloc_new w _
end
section
variable {j : Nat} {l h x : Rat}
end

end Go.Proofs.YtiommpdbbpddpaaGreatDoor
