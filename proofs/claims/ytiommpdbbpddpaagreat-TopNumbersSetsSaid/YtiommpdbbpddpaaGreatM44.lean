/- Texts OpenSpn: each says in its own first comment what it proves. -/
import Derived.Test.YtiommpdbbpddpaaGreatRows
import Derived.ProofKit
import Derived.ChangeMaps5
import Derived.Carry
import Derived.Test.YtiommpdbbpddpaaGreatM40
import Derived.Deep.SlicePairs
import Derived.ChangeArms
/- A slice of spans (structs of two texts), opened; the nil slice and an empty one too. -/
namespace Go.Proofs.YtiommpdbbpddpaaGreat
open Go.ChangeShapes Go.WideShapes Go.RowKit Go.Deep

theorem open_spans {H : Type} {enc : TypeId × Value → H} {P : Program} {w : World} {base : Nat} {spare : Nat → Bool} {held : Bool} {t e : TypeId} {f0 f1 : Field} {fuel : Nat} {cs : List Value} {x : DataW H × List MemPlace} (ht : P.underlying t = some (.slice e)) (he : P.underlying e = some (.struct #[f0, f1]))
    (ce : P.cellsOf e = 2) (o0 : f0.offset = 0) (o1 : f1.offset = 1) (c0 : P.cellsOf f0.type = 1) (c1 : P.cellsOf f1.type = 1) (i0 : P.underlying f0.type = some .string) (i1 : P.underlying f1.type = some .string)
    (h : DataW.trod enc P w base spare held fuel t cs = some x) :
    ∃ (p : Option Addr) (cap : Nat) (l : List Tx), cs = [.slice p l.length cap] ∧ SlT w (.slice p l.length cap) l ∧ (∀ i, i < l.length → (gL l i).1.size ≤ 9223372036854775807 ∧ (gL l i).2.size ≤ 9223372036854775807) ∧ l.length ≤ maxLen := by
  rcases open_slice ht h with ⟨rfl, _⟩ | ⟨a, len, cap, m, n, D, Pl, rfl, hb, hl, hm, hmm, rfl, hx⟩
  · exact ⟨none, 0, [], rfl, SlT.nil w 0 none, fun i hi => absurd hi (by simp), by simp⟩
  · have hlm : len ≤ m := by rw [hmm]; split <;> omega
    have each : ∀ i, i < m → ∃ z : Tx, w.cell? (a.add (i * 2)) = some (.string z.1) ∧ w.cell? (a.add (i * 2 + 1)) = some (.string z.2) ∧ z.1.size ≤ maxLen ∧ z.2.size ≤ maxLen := by
      intro i hi
      obtain ⟨cs', h1, h2⟩ := hx i hi
      rw [ce] at h1
      obtain ⟨_, hlen, hcell⟩ := World.cells?_some h1
      obtain ⟨xs, k, hk, hxy, _, hxl, hf⟩ := DataW.trod_struct he h2
      match xs, hxl, cs', hlen with
      | [y0, y1], _, [v0, v1], _ =>
        have g0 := hf 0 f0 rfl
        have g1 := hf 1 f1 rfl
        simp [o0, o1, c0, c1] at g0 g1
        obtain ⟨z0, e0, _, w0⟩ := DataW.trod_string i0 g0
        obtain ⟨z1, e1, _, w1⟩ := DataW.trod_string i1 g1
        simp at e0 e1
        subst e0 e1
        have d0 := hcell 0 (by omega)
        have d1 := hcell 1 (by omega)
        rw [add_add] at d0 d1
        exact ⟨(z0, z1), by simpa using d0, by simpa using d1, w0, w1⟩
    obtain ⟨Z, hZ⟩ := Go.Deep.choose_lt each
    obtain ⟨b, off, spot⟩ := a
    have hsp : 0 < len → spot = none ∧ b < w.heap.size := fun h => by
      have h1 := (hZ 0 (by omega)).1
      exact ⟨by simpa [Addr.add] using World.cell?_spot h1, World.block_lt_of_cell? w _ h1⟩
    refine ⟨some ⟨b, off, spot⟩, cap, (List.range len).map Z, by simp, ⟨_, cap, rfl, fun h => ?_⟩, fun i hi => ?_, by simp; omega⟩
    · obtain ⟨h1, h2⟩ := hsp (by simpa using h)
      subst h1
      refine ⟨b, off, rfl, h2, fun i hi => ?_⟩
      have hi' : i < len := by simpa using hi
      obtain ⟨h0, h1, _⟩ := hZ i (by omega)
      rw [add_plain] at h0 h1
      rw [List.getElem_map, List.getElem_range]
      exact ⟨h0, by rw [Nat.add_assoc]; exact h1⟩
    · have hi' : i < len := by simpa using hi
      obtain ⟨_, _, h2, h3⟩ := hZ i (by omega)
      rw [gL_eq hi, List.getElem_map, List.getElem_range]
      unfold maxLen at h2 h3
      exact ⟨by omega, by omega⟩
end Go.Proofs.YtiommpdbbpddpaaGreat
