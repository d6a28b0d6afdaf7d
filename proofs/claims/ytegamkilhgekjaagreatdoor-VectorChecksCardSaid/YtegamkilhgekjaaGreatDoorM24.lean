/- Texts RProd: each says in its own first comment what it proves. -/
import Derived.Test.YtegamkilhgekjaaGreatDoorM22
/- What the reference's product keeps: columns, their weights and carries; a block of ints. -/
namespace Go.Proofs.YtegamkilhgekjaaGreatDoor
open Go.RowKit
open Go.Lib (nDigits itoa decDigits)

/-- block h holds n ints f -/
def Col (w : World) (h n : Nat) (f : Nat → Nat) : Prop :=
  ∃ cs T, w.heap[h]? = some (.cells cs T (0, 0)) ∧ cs.size = n ∧ ∀ i, i < n → cs[i]? = some (.int .i64 (f i : Int))
section
variable {w w' : World} {h n i : Nat} {f : Nat → Nat}
theorem Col.lt (hb : Col w h n f) : h < w.heap.size := by
  obtain ⟨cs, T, hb, _⟩ := hb
  rcases Nat.lt_or_ge h w.heap.size with hlt | hge
  · exact hlt
  · rw [Array.getElem?_eq_none hge] at hb; cases hb
theorem Col.int (hb : Col w h n f) (hi : i < n) : w.cell? ⟨h, i, none⟩ = some (.int .i64 (f i : Int)) := by
  obtain ⟨cs, T, hb, hs, hw⟩ := hb
  simp [World.cell?, hb, hw i hi]
theorem Col.free (hb : Col w h n f) (i : Nat) : w.frozen? ⟨h, i, none⟩ = false := by
  obtain ⟨cs, T, hb, _⟩ := hb
  simp [World.frozen?, hb]
theorem Col.same (hb : Col w h n f) (e : w'.heap[h]? = w.heap[h]?) : Col w' h n f := by
  obtain ⟨cs, T, h1, h2⟩ := hb
  exact ⟨cs, T, e.trans h1, h2⟩
theorem Col.far (hb : Col w h n f) {p : Addr} (hp : h ≠ p.block) (u : Value) : Col (w.setCell p u) h n f := hb.same (Below.heap_setCell w p u h hp)
theorem Col.alloc (hb : Col w h n f) (o : Obj) : Col (w.alloc o) h n f := hb.same (Below.heap_alloc w o h hb.lt)
theorem Col.drewN (hb : Col w h n f) (k : Nat) : Col (w.drewN k) h n f := hb
theorem Col.drew (hb : Col w h n f) : Col w.drew h n f := hb
theorem Col.set_ (hb : Col w h n f) (hi : i < n) {x : Nat} {y : Int} (e : y = (x : Int)) : Col (w.setCell ⟨h, i, none⟩ (.int .i64 y)) h n (upd f i x) := by
  obtain ⟨cs, T, h1, h2, h3⟩ := hb
  subst e
  refine ⟨cs.setIfInBounds i (.int .i64 (x : Int)), T, by simp [World.setCell, Array.getElem?_modify, h1], by simpa using h2, fun j hj => ?_⟩
  unfold upd
  rw [Array.getElem?_setIfInBounds]
  by_cases e : i = j
  · subst e; simp; omega
  · rw [if_neg e, if_neg (fun h => e h.symm)]; exact h3 j hj
end
theorem i64_info : (Tryz.prog.info? 3).map (fun i => (i.zero, i.size, i.bytes)) = some (some (.int .i64 0), 1, 8) := by kernel_rfl
theorem make_ints (n : Nat) (hn : n ≤ 1000000) (w : World) :
    (Instr.makeSlice 34 (.int .i64 (n : Int)) (.int .i64 (n : Int))).run Tryz.prog w = .ok (.slice (some ⟨w.heap.size, 0, none⟩) n n) (w.alloc (.cells (madeCells #[.int .i64 0] n) 3)) := by
  have hi := i64_info
  cases hq : Tryz.prog.info? 3 with
  | none => rw [hq] at hi; cases hi
  | some i =>
    rw [hq] at hi
    simp only [Option.map_some, Option.some.injEq, Prod.mk.injEq] at hi
    have hr := run_make (P := Tryz.prog) w 34 3 i (.int .i64 0) Tryz.underlying34 hq hi.1 .i64 .i64 n n (by omega) (by omega) (by rw [hi.2.2]; omega) (by omega)
    rw [hi.2.1, show (Value.int .i64 0).cells = #[Value.int .i64 0] from rfl] at hr
    simpa using hr
theorem Col.made (w : World) (n : Nat) : Col (w.alloc (.cells (madeCells #[.int .i64 0] n) 3)) w.heap.size n (fun _ => 0) := by
  refine ⟨_, _, heap_alloc_new w _, size_madeCells _ _, fun i hi => ?_⟩
  simp [madeCells, hi, Nat.mod_one]
end Go.Proofs.YtegamkilhgekjaaGreatDoor
