/- Words for memory: which blocks a call may have changed, and a block that holds a long number. No program is named here. -/
import Derived.Below
import Derived.Laws.OwnMore
import Derived.Deep.Draws
import Derived.Test.YthifdgddegpbjaaDoorWords2
namespace Go.Proofs.YthifdgddegpbjaaDoor
open Go.RowKit

/-- only the blocks of S, and new ones, may have changed -/
structure Kp (S : List Nat) (a w : World) : Prop where
  os : w.os = a.os
  tape : w.tape = a.tape
  output : w.output = a.output
  size : a.heap.size ≤ w.heap.size
  block : ∀ k, k < a.heap.size → k ∉ S → w.heap[k]? = a.heap[k]?
  drawn : a.drawn ≤ w.drawn

section
variable {S : List Nat} {a b c w w' : World}
theorem Kp.refl (S : List Nat) (w : World) : Kp S w w := ⟨rfl, rfl, rfl, Nat.le_refl _, fun _ _ _ => rfl, Nat.le_refl _⟩
theorem Kp.trans (h : Kp S a b) (k : Kp S b c) : Kp S a c :=
  ⟨k.os.trans h.os, k.tape.trans h.tape, k.output.trans h.output, Nat.le_trans h.size k.size, fun i hi hn => (k.block i (Nat.lt_of_lt_of_le hi h.size) hn).trans (h.block i hi hn), Nat.le_trans h.drawn k.drawn⟩
/-- a call that changes blocks of S or newer ones -/
theorem Kp.step {S' : List Nat} (h : Kp S a b) (k : Kp S' b c) (hS : ∀ x, x ∈ S' → x ∈ S ∨ a.heap.size ≤ x) : Kp S a c :=
  ⟨k.os.trans h.os, k.tape.trans h.tape, k.output.trans h.output, Nat.le_trans h.size k.size, fun i hi hn =>
    (k.block i (Nat.lt_of_lt_of_le hi h.size) (fun e => (hS i e).elim hn (fun h' => by omega))).trans (h.block i hi hn), Nat.le_trans h.drawn k.drawn⟩
theorem Kp.drewN (h : Kp S a w) (n : Nat) : Kp S a (w.drewN n) := ⟨h.os, h.tape, h.output, h.size, h.block, Nat.le_trans h.drawn (Nat.le_add_right _ _)⟩
theorem Kp.drew (h : Kp S a w) : Kp S a w.drew := ⟨h.os, h.tape, h.output, h.size, h.block, Nat.le_trans h.drawn (Nat.le_add_right _ _)⟩
theorem Kp.undrew (h : Kp S a.drew w) : Kp S a w := ⟨h.os, h.tape, h.output, h.size, h.block, Nat.le_trans (Nat.le_add_right _ _) h.drawn⟩
theorem Kp.alloc (h : Kp S a w) (o : Obj) : Kp S a (w.alloc o) :=
  ⟨h.os, h.tape, h.output, Nat.le_trans h.size (by simp), fun i hi hn => (Below.heap_alloc w o i (Nat.lt_of_lt_of_le hi h.size)).trans (h.block i hi hn), h.drawn⟩
theorem Kp.setCell (h : Kp S a w) {p : Addr} (hp : p.block ∈ S ∨ a.heap.size ≤ p.block) (u : Value) : Kp S a (w.setCell p u) :=
  ⟨h.os, h.tape, h.output, by simpa [World.setCell] using h.size, fun i hi hn => (Below.heap_setCell w p u i (by
    rintro rfl
    rcases hp with hp | hp
    · exact hn hp
    · omega)).trans (h.block i hi hn), h.drawn⟩
theorem Kp.below {B : Nat} (h : Kp S a w) (hS : ∀ x, x ∈ S → B ≤ x) (hB : B ≤ a.heap.size) : Below B a w :=
  ⟨h.os, h.tape, h.output, h.size, fun k hk => h.block k (by omega) (fun e => by have := hS k e; omega)⟩
theorem Kp.of_below (h : Below a.heap.size a w) (hd : a.drawn ≤ w.drawn) : Kp S a w := ⟨h.os, h.tape, h.output, h.size, fun k hk _ => h.block k hk, hd⟩
theorem Kp.none (h : Kp [] a w) : Below a.heap.size a w := h.below (fun _ h => by cases h) (Nat.le_refl _)
theorem Kp.mono {S' : List Nat} (h : Kp S a w) (hs : ∀ x, x ∈ S → x ∈ S' ∨ a.heap.size ≤ x) : Kp S' a w :=
  ⟨h.os, h.tape, h.output, h.size, fun k hk hn => h.block k hk fun e => (hs k e).elim hn (fun h' => by omega), h.drawn⟩
end

/-- block g holds a long number: words f, count c, sign m -/
def NumF (w : World) (g : Nat) (f : Nat → Nat) (c : Nat) (m : Bool) : Prop :=
  ∃ cs T, w.heap[g]? = some (.cells cs T (0, 0)) ∧ cs.size = 231 ∧ (∀ i, i < 229 → cs[i]? = some (.int .u32 (f i : Int))) ∧ cs[229]? = some (.int .i64 (c : Int)) ∧ cs[230]? = some (.bool m)
def upd (f : Nat → Nat) (i x : Nat) : Nat → Nat := fun j => if j = i then x else f j

section
variable {w w' : World} {g c i : Nat} {f : Nat → Nat} {m : Bool}
theorem NumF.lt (h : NumF w g f c m) : g < w.heap.size := by
  obtain ⟨cs, T, hb, _⟩ := h
  rcases Nat.lt_or_ge g w.heap.size with hlt | hge
  · exact hlt
  · rw [Array.getElem?_eq_none hge] at hb; cases hb
theorem NumF.word (h : NumF w g f c m) (hi : i < 229) : w.cell? ⟨g, i, none⟩ = some (.int .u32 (f i : Int)) := by
  obtain ⟨cs, T, hb, hs, hw, _⟩ := h
  simp [World.cell?, hb, hw i hi]
theorem NumF.cnt (h : NumF w g f c m) : w.cell? ⟨g, 229, none⟩ = some (.int .i64 (c : Int)) := by
  obtain ⟨cs, T, hb, hs, hw, hc, hm⟩ := h
  simp [World.cell?, hb, hc]
theorem NumF.sgn (h : NumF w g f c m) : w.cell? ⟨g, 230, none⟩ = some (.bool m) := by
  obtain ⟨cs, T, hb, hs, hw, hc, hm⟩ := h
  simp [World.cell?, hb, hm]
theorem NumF.free (h : NumF w g f c m) (i : Nat) : w.frozen? ⟨g, i, none⟩ = false := by
  obtain ⟨cs, T, hb, _⟩ := h
  simp [World.frozen?, hb]
theorem NumF.same (h : NumF w g f c m) (hb : w'.heap[g]? = w.heap[g]?) : NumF w' g f c m := by
  obtain ⟨cs, T, h1, h2⟩ := h
  exact ⟨cs, T, hb.trans h1, h2⟩
theorem NumF.kp {S : List Nat} (h : NumF w g f c m) (hk : Kp S w w') (hg : g ∉ S) : NumF w' g f c m := h.same (hk.block g h.lt hg)
theorem NumF.far (h : NumF w g f c m) {p : Addr} (hp : g ≠ p.block) (u : Value) : NumF (w.setCell p u) g f c m := h.same (Below.heap_setCell w p u g hp)
theorem NumF.alloc (h : NumF w g f c m) (o : Obj) : NumF (w.alloc o) g f c m := h.same (Below.heap_alloc w o g h.lt)
theorem NumF.drew (h : NumF w g f c m) : NumF w.drew g f c m := h
theorem NumF.drewN (h : NumF w g f c m) (n : Nat) : NumF (w.drewN n) g f c m := h
theorem NumF.congr {f' : Nat → Nat} (h : NumF w g f c m) (e : ∀ i, i < 229 → f i = f' i) : NumF w g f' c m := by
  obtain ⟨cs, T, h1, h2, h3, h4⟩ := h
  exact ⟨cs, T, h1, h2, fun i hi => by rw [h3 i hi, e i hi], h4⟩
theorem NumF.setW (h : NumF w g f c m) (hi : i < 229) (x : Nat) : NumF (w.setCell ⟨g, i, none⟩ (.int .u32 (x : Int))) g (upd f i x) c m := by
  obtain ⟨cs, T, h1, h2, h3, h4, h5⟩ := h
  refine ⟨cs.setIfInBounds i (.int .u32 (x : Int)), T, by simp [World.setCell, Array.getElem?_modify, h1], by simpa using h2, fun j hj => ?_, ?_, ?_⟩
  · unfold upd
    rw [Array.getElem?_setIfInBounds]
    by_cases e : i = j
    · subst e; simp; omega
    · rw [if_neg e, if_neg (fun h => e h.symm)]; exact h3 j hj
  · rw [Array.getElem?_setIfInBounds, if_neg (by omega)]; exact h4
  · rw [Array.getElem?_setIfInBounds, if_neg (by omega)]; exact h5
theorem NumF.setC (h : NumF w g f c m) (x : Nat) : NumF (w.setCell ⟨g, 229, none⟩ (.int .i64 (x : Int))) g f x m := by
  obtain ⟨cs, T, h1, h2, h3, h4, h5⟩ := h
  refine ⟨cs.setIfInBounds 229 (.int .i64 (x : Int)), T, by simp [World.setCell, Array.getElem?_modify, h1], by simpa using h2, fun j hj => ?_, ?_, ?_⟩
  · rw [Array.getElem?_setIfInBounds, if_neg (by omega)]; exact h3 j hj
  · rw [Array.getElem?_setIfInBounds, if_pos rfl, if_pos (by omega)]
  · rw [Array.getElem?_setIfInBounds, if_neg (by omega)]; exact h5
theorem NumF.setM (h : NumF w g f c m) (x : Bool) : NumF (w.setCell ⟨g, 230, none⟩ (.bool x)) g f c x := by
  obtain ⟨cs, T, h1, h2, h3, h4, h5⟩ := h
  refine ⟨cs.setIfInBounds 230 (.bool x), T, by simp [World.setCell, Array.getElem?_modify, h1], by simpa using h2, fun j hj => ?_, ?_, ?_⟩
  · rw [Array.getElem?_setIfInBounds, if_neg (by omega)]; exact h3 j hj
  · rw [Array.getElem?_setIfInBounds, if_neg (by omega)]; exact h4
  · rw [Array.getElem?_setIfInBounds, if_pos rfl, if_pos (by omega)]
end

/-- block g holds the number of magnitude A and sign m, in its own words -/
def Num (w : World) (g : Nat) (A : Nat) (m : Bool) : Prop := NumF w g (wd A) (nw A) m ∧ A < B9 ^ 229
theorem Num.zero_sign {w : World} {g : Nat} {m : Bool} (h : Num w g 0 m) : NumF w g (fun _ => 0) 0 m := by
  have := h.1; rw [nw_zero] at this
  exact this.congr fun i _ => wd_zero i
end Go.Proofs.YthifdgddegpbjaaDoor
