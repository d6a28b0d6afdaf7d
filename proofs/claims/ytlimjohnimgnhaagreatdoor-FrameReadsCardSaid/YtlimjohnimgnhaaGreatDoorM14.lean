/- Texts Ob: each says in its own first comment what it proves. -/
import Derived.Test.YtlimjohnimgnhaaGreatDoorRows
import Derived.WalkKit
import Derived.WalkSpells
import Derived.WalkLawsBesides
import Derived.Lib.Hide
import Derived.Deep.LoopGhost
import Derived.Deep.QuietTactic
import Derived.BigQuiet
import Derived.Below
import Derived.Laws.OwnMore
import Derived.Deep.Draws
import Derived.Deep.RegionHeld3
import Derived.Laws.Rows
import Derived.Laws.ResultCell
import Derived.IntWalk
/- What a call may have changed, blocks of cells, contracts: a small base for packages of numbers, texts and structs. -/
namespace Go.Proofs.YtlimjohnimgnhaaGreatDoor
open Go.RowKit

/-- all that was there is as it was -/
def Kb (a w : World) : Prop := Below a.heap.size a w
theorem Kb.refl (w : World) : Kb w w := Below.refl _ _
theorem Kb.size {a w : World} (h : Kb a w) : a.heap.size ≤ w.heap.size := Below.size h
theorem Kb.trans {a b c : World} (h : Kb a b) (k : Kb b c) : Kb a c := Below.trans h (Below.mono k h.size)
theorem Kb.alloc {a w : World} (h : Kb a w) (o : Obj) : Kb a (w.alloc o) := Below.alloc h h.size o
theorem Kb.drew {a w : World} (h : Kb a w) : Kb a w.drew := Below.drew h
theorem Kb.drewN {a w : World} (h : Kb a w) (n : Nat) : Kb a (w.drewN n) := ⟨h.os, h.tape, h.output, h.size, h.block⟩
theorem Kb.undrew {a w : World} (h : Kb a.drew w) : Kb a w := ⟨h.os, h.tape, h.output, h.size, h.block⟩
theorem Kb.setCell {a w : World} (h : Kb a w) {p : Addr} (hp : a.heap.size ≤ p.block) (u : Value) : Kb a (w.setCell p u) := Below.setCell h hp u
theorem Kb.cell {a w : World} {p : Addr} {v : Value} (h : Kb a w) (hc : a.cell? p = some v) : w.cell? p = some v := (Below.cell h (World.block_lt_of_cell? a p hc)).trans hc

/-- block b holds these cells -/
def Is (w : World) (b : Nat) (cs : Array Value) (T : TypeId) : Prop := w.heap[b]? = some (.cells cs T (0, 0))
section
variable {w w' a : World} {b i : Nat} {cs : Array Value} {T : TypeId} {v : Value}
theorem Is.lt (h : Is w b cs T) : b < w.heap.size := by
  rcases Nat.lt_or_ge b w.heap.size with hlt | hge
  · exact hlt
  · unfold Is at h; rw [Array.getElem?_eq_none hge] at h; cases h
theorem Is.c (h : Is w b cs T) (e : cs[i]? = some v) : w.cell? ⟨b, i, none⟩ = some v := by unfold World.cell?; unfold Is at h; rw [h]; exact e
theorem Is.f (h : Is w b cs T) (i : Nat) : w.frozen? ⟨b, i, none⟩ = false := by unfold Is at h; simp [World.frozen?, h]
theorem Is.same (h : Is w b cs T) (hb : w'.heap[b]? = w.heap[b]?) : Is w' b cs T := hb.trans h
theorem Is.kb (h : Is a b cs T) (k : Kb a w) : Is w b cs T := h.same (Below.block k b h.lt)
theorem Is.alloc (h : Is w b cs T) (o : Obj) : Is (w.alloc o) b cs T := h.same (Below.heap_alloc w o b h.lt)
theorem Is.drew (h : Is w b cs T) : Is w.drew b cs T := h
theorem Is.undrew (h : Is w.drew b cs T) : Is w b cs T := h
theorem Is.made (w : World) (cs : Array Value) (T : TypeId) : Is (w.alloc (.cells cs T (0, 0))) w.heap.size cs T := by
  show (w.heap.push _)[w.heap.size]? = _
  simp
theorem Is.far (h : Is w b cs T) {p : Addr} (hp : b ≠ p.block) (u : Value) : Is (w.setCell p u) b cs T := h.same (Below.heap_setCell w p u b hp)
theorem Is.set (h : Is w b cs T) (i : Nat) (u : Value) : Is (w.setCell ⟨b, i, none⟩ u) b (cs.setIfInBounds i u) T := by
  unfold Is at *
  simp [World.setCell, Array.getElem?_modify, h]
end
theorem cell_far {w : World} {p q : Addr} {u v : Value} (h : w.cell? q = some v) (hp : q.block ≠ p.block) : (w.setCell p u).cell? q = some v := (World.cell?_of_block (w := w) (Below.heap_setCell w p u q.block hp)).trans h
theorem cell_al {w : World} {q : Addr} {v : Value} (h : w.cell? q = some v) (o : Obj) : (w.alloc o).cell? q = some v := ((Kb.refl w).alloc o).cell h
/-- a function's end whose result is a struct in a block of its own -/
theorem ret_row {P : Program} {fn : Func} {p : Tmp} {ty T : TypeId} {a : Act} {w : World} {R : Ending → World → Prop} {b : Nat} {cs : Array Value} {d : TypeDesc} (h : fn.results = #[.cell p ty]) (hd : a.defers = []) (hp : a.tmps.getD p undef = .pointer (some ⟨b, 0, none⟩)) (is : Is w b cs T)
    (hu : P.underlying ty = some d) (hdd : (match d with | .struct _ | .array _ _ => true | _ => false) = true) (hi : (P.info? ty).map (·.size) = some cs.size) (hR : R (.returned (.agg cs)) w) : bodyPost P fn R .ret a w :=
  bodyPost_ret (results_cell_row h a.tmps w b T cs (0, 0) d hp is hu hdd hi) hd hR
theorem ret_row2 {P : Program} {fn : Func} {p u : Tmp} {ty T : TypeId} {a : Act} {w : World} {R : Ending → World → Prop} {b : Nat} {cs : Array Value} {d : TypeDesc} {v : Value} (h : fn.results = #[.cell p ty, .tmp u]) (hd : a.defers = []) (hp : a.tmps.getD p undef = .pointer (some ⟨b, 0, none⟩)) (hv : a.tmps.getD u undef = v) (is : Is w b cs T)
    (hu : P.underlying ty = some d) (hdd : (match d with | .struct _ | .array _ _ => true | _ => false) = true) (hi : (P.info? ty).map (·.size) = some cs.size) (hR : R (.returned (.tuple #[.agg cs, v])) w) : bodyPost P fn R .ret a w :=
  bodyPost_ret (by rw [results_cell_tmp h a.tmps P w, hp, hv]; simp [asAddr, Result.andThen, run_loadVar_row w b T ty cs (0, 0) d is hu hdd hi]) hd hR

/-- what a call gives, in every world: a value; all that was there is as it was -/
def Ca (n : Nat) (args : Array Value) (v : Value) : Prop := Hid (∀ W : World, Calls Tryz.prog n args W fun r w' => r = .returned v ∧ Kb W w')

/-! blocks that may be written meanwhile: L -/
def Kx (L : List Nat) (a w : World) : Prop := w.os = a.os ∧ w.tape = a.tape ∧ w.output = a.output ∧ a.heap.size ≤ w.heap.size ∧ ∀ k, k < a.heap.size → k ∉ L → w.heap[k]? = a.heap[k]?
section
variable {L : List Nat} {a b w w' : World}
theorem Kx.refl (L : List Nat) (w : World) : Kx L w w := ⟨rfl, rfl, rfl, Nat.le_refl _, fun _ _ _ => rfl⟩
theorem Kx.trans (h : Kx L a b) (k : Kx L b w) : Kx L a w := ⟨k.1.trans h.1, k.2.1.trans h.2.1, k.2.2.1.trans h.2.2.1, Nat.le_trans h.2.2.2.1 k.2.2.2.1, fun i hi hn => (k.2.2.2.2 i (Nat.lt_of_lt_of_le hi h.2.2.2.1) hn).trans (h.2.2.2.2 i hi hn)⟩
theorem Kb.kx (h : Kb a w) : Kx L a w := ⟨h.os, h.tape, h.output, h.size, fun k hk _ => h.block k hk⟩
theorem Kx.nil (h : Kx [] a w) : Kb a w := ⟨h.1, h.2.1, h.2.2.1, h.2.2.2.1, fun k hk => h.2.2.2.2 k hk (by simp)⟩
theorem Kx.old (h : Kx L a w) {e : World} (k : Kb e a) (hL : ∀ x ∈ L, e.heap.size ≤ x) : Kb e w := ⟨h.1.trans k.os, h.2.1.trans k.tape, h.2.2.1.trans k.output, Nat.le_trans k.size h.2.2.2.1, fun i hi => (h.2.2.2.2 i (Nat.lt_of_lt_of_le hi k.size) (fun hx => by have := hL i hx; omega)).trans (k.block i hi)⟩
theorem Is.kx {c : Nat} {cs : Array Value} {T : TypeId} (h : Is a c cs T) (k : Kx L a w) (hn : c ∉ L) : Is w c cs T := h.same (k.2.2.2.2 c h.lt hn)
theorem Kx.set (L : List Nat) (w : World) {p : Addr} (hp : p.block ∈ L) (u : Value) : Kx L w (w.setCell p u) := ⟨rfl, rfl, rfl, by simp [World.setCell], fun k _ hn => Below.heap_setCell w p u k (fun e => hn (e ▸ hp))⟩
end
end Go.Proofs.YtlimjohnimgnhaaGreatDoor
