/- A block of cells that may be written: its cells, and what keeps it. -/
import Derived.Test.YthifdgddegpbjaaDoorGk
import Derived.Laws.Rows
import Derived.Laws.ResultCell
namespace Go.Proofs.YthifdgddegpbjaaDoor
open Go.RowKit

/-- block b holds these cells -/
def Is (w : World) (b : Nat) (cs : Array Value) (T : TypeId) : Prop := w.heap[b]? = some (.cells cs T (0, 0))
section
variable {w w' a : World} {b i : Nat} {cs : Array Value} {T : TypeId} {v : Value}
theorem Is.lt (h : Is w b cs T) : b < w.heap.size := by
  rcases Nat.lt_or_ge b w.heap.size with hlt | hge
  · exact hlt
  · unfold Is at h; rw [Array.getElem?_eq_none hge] at h; cases h
theorem Is.c (h : Is w b cs T) (e : cs[i]? = some v) : w.cell? ⟨b, i, none⟩ = some v := by unfold World.cell?; unfold Is at h; rw [h]; exact e
theorem Is.f (h : Is w b cs T) (i : Nat) : w.frozen? ⟨b, i, none⟩ = false := by unfold Is at h; simp [World.frozen?, h]
theorem Is.same (h : Is w b cs T) (hb : w'.heap[b]? = w.heap[b]?) : Is w' b cs T := hb.trans h
theorem Is.kb (h : Is a b cs T) (k : Kb a w) : Is w b cs T := h.same (Below.block k b h.lt)
theorem Is.alloc (h : Is w b cs T) (o : Obj) : Is (w.alloc o) b cs T := h.same (Below.heap_alloc w o b h.lt)
theorem Is.drew (h : Is w b cs T) : Is w.drew b cs T := h
theorem Is.made (w : World) (cs : Array Value) (T : TypeId) : Is (w.alloc (.cells cs T (0, 0))) w.heap.size cs T := by
  show (w.heap.push _)[w.heap.size]? = _
  simp
theorem Is.far (h : Is w b cs T) {p : Addr} (hp : b ≠ p.block) (u : Value) : Is (w.setCell p u) b cs T := h.same (Below.heap_setCell w p u b hp)
theorem Is.set (h : Is w b cs T) (i : Nat) (u : Value) : Is (w.setCell ⟨b, i, none⟩ u) b (cs.setIfInBounds i u) T := by
  unfold Is at *
  simp [World.setCell, Array.getElem?_modify, h]
end
theorem nn6 (n : Nat) : n ≠ n + 1 + 1 := by omega
theorem nn7 (n : Nat) : n + 1 ≠ n + 1 + 1 := by omega
theorem nn8 (n : Nat) : n ≤ n + 1 + 1 := by omega
theorem nn9 (n : Nat) : n + 1 < n + 1 + 1 := by omega
theorem cell_far {w : World} {p q : Addr} {u v : Value} (h : w.cell? q = some v) (hp : q.block ≠ p.block) : (w.setCell p u).cell? q = some v := (World.cell?_of_block (w := w) (Below.heap_setCell w p u q.block hp)).trans h
theorem cell_al {w : World} {q : Addr} {v : Value} (h : w.cell? q = some v) (o : Obj) : (w.alloc o).cell? q = some v := ((Kb.refl w).alloc o).cell h
/-- a function's end whose result is a struct in a block of its own -/
theorem ret_row {P : Program} {fn : Func} {p : Tmp} {ty T : TypeId} {a : Act} {w : World} {R : Ending → World → Prop} {b : Nat} {cs : Array Value} {d : TypeDesc} (h : fn.results = #[.cell p ty]) (hd : a.defers = []) (hp : a.tmps.getD p undef = .pointer (some ⟨b, 0, none⟩)) (is : Is w b cs T)
    (hu : P.underlying ty = some d) (hdd : (match d with | .struct _ | .array _ _ => true | _ => false) = true) (hi : (P.info? ty).map (·.size) = some cs.size) (hR : R (.returned (.agg cs)) w) : bodyPost P fn R .ret a w :=
  bodyPost_ret (results_cell_row h a.tmps w b T cs (0, 0) d hp is hu hdd hi) hd hR
theorem ret_row2 {P : Program} {fn : Func} {p u : Tmp} {ty T : TypeId} {a : Act} {w : World} {R : Ending → World → Prop} {b : Nat} {cs : Array Value} {d : TypeDesc} {v : Value} (h : fn.results = #[.cell p ty, .tmp u]) (hd : a.defers = []) (hp : a.tmps.getD p undef = .pointer (some ⟨b, 0, none⟩)) (hv : a.tmps.getD u undef = v) (is : Is w b cs T)
    (hu : P.underlying ty = some d) (hdd : (match d with | .struct _ | .array _ _ => true | _ => false) = true) (hi : (P.info? ty).map (·.size) = some cs.size) (hR : R (.returned (.tuple #[.agg cs, v])) w) : bodyPost P fn R .ret a w :=
  bodyPost_ret (by rw [results_cell_tmp h a.tmps P w, hp, hv]; simp [asAddr, Result.andThen, run_loadVar_row w b T ty cs (0, 0) d is hu hdd hi]) hd hR
end Go.Proofs.YthifdgddegpbjaaDoor
