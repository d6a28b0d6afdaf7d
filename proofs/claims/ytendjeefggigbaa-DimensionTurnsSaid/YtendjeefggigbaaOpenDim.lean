/- A slice of dimensions (structs of two texts, a number and a struct of two numbers), opened; the nil slice and an empty one too. -/
import Derived.Test.YtendjeefggigbaaOpenK
import Derived.Test.YtendjeefggigbaaOf5
import Derived.Deep.SlicePairs
import Derived.ChangeArms
namespace Go.Proofs.Ytendjeefggigbaa
open Go.ChangeShapes Go.WideShapes Go.RowKit Go.Deep

theorem open_dims {H : Type} {enc : TypeId × Value → H} {P : Program} {w : World} {base : Nat} {spare : Nat → Bool} {held : Bool} {t e : TypeId} {f0 f1 f2 f3 g0 g1 : Field} {fuel : Nat} {cs : List Value} {x : DataW H × List MemPlace} (ht : P.underlying t = some (.slice e)) (he : P.underlying e = some (.struct #[f0, f1, f2, f3]))
    (hl : P.underlying f3.type = some (.struct #[g0, g1])) (ce : P.cellsOf e = 5) (o0 : f0.offset = 0) (o1 : f1.offset = 1) (o2 : f2.offset = 2) (o3 : f3.offset = 3) (c0 : P.cellsOf f0.type = 1) (c1 : P.cellsOf f1.type = 1) (c2 : P.cellsOf f2.type = 1) (c3 : P.cellsOf f3.type = 2)
    (i0 : P.underlying f0.type = some .string) (i1 : P.underlying f1.type = some .string) (i2 : P.underlying f2.type = some (.int .i64)) (r0 : g0.offset = 0) (r1 : g1.offset = 1) (d0 : P.cellsOf g0.type = 1) (d1 : P.cellsOf g1.type = 1) (j0 : P.underlying g0.type = some (.int .i64)) (j1 : P.underlying g1.type = some (.int .i64))
    (h : DataW.trod enc P w base spare held fuel t cs = some x) :
    ∃ (p : Option Addr) (cap : Nat) (l : List DimT), cs = [.slice p l.length cap] ∧ Sl [] 5 w (.slice p l.length cap) (l.map encDim) ∧ (l.length ≤ maxLen ∧ l.length ≤ cap) := by
  rcases open_slice ht h with ⟨rfl, _⟩ | ⟨a, len, cap, m, n, D, Pl, rfl, hb, hlx, hm, hmm, rfl, hx⟩
  · exact ⟨none, 0, [], rfl, ⟨none, 0, rfl, fun h => absurd h (by simp)⟩, by simp, by simp⟩
  · have hlm : len ≤ m := by rw [hmm]; split <;> omega
    have each : ∀ i, i < m → ∃ z : DimT, ∀ j, j < 5 → w.cell? (a.add (i * 5 + j)) = some ((encDim z).getD j undef) := by
      intro i hi
      obtain ⟨cs', h1, h2⟩ := hx i hi
      rw [ce] at h1
      obtain ⟨_, hlen, hcell⟩ := World.cells?_some h1
      obtain ⟨xs, k, hk, hxy, _, hxl, hf⟩ := DataW.trod_struct he h2
      match xs, hxl, cs', hlen with
      | [y0, y1, y2, y3], _, [v0, v1, v2, v3, v4], _ =>
        have g0' := hf 0 f0 rfl
        have g1' := hf 1 f1 rfl
        have g2' := hf 2 f2 rfl
        have g3' := hf 3 f3 rfl
        simp [o0, o1, o2, o3, c0, c1, c2, c3] at g0' g1' g2' g3'
        obtain ⟨z0, e0, _, _⟩ := DataW.trod_string i0 g0'
        obtain ⟨z1, e1, _, _⟩ := DataW.trod_string i1 g1'
        obtain ⟨z2, e2, _⟩ := DataW.trod_int i2 g2'
        obtain ⟨us, k3, hk3, hu, _, hul, hg⟩ := DataW.trod_struct hl g3'
        match us, hul with
        | [u0, u1], _ =>
          have q0 := hg 0 g0 rfl
          have q1 := hg 1 g1 rfl
          simp [r0, r1, d0, d1] at q0 q1
          obtain ⟨z3, e3, _⟩ := DataW.trod_int j0 q0
          obtain ⟨z4, e4, _⟩ := DataW.trod_int j1 q1
          simp at e0 e1 e2 e3 e4
          subst e0 e1 e2 e3 e4
          refine ⟨(z0, z1, z2, z3, z4), fun j hj => ?_⟩
          have := hcell j (by simpa using hj)
          rw [add_add] at this
          rw [this]
          match j, hj with
          | 0, _ => rfl
          | 1, _ => rfl
          | 2, _ => rfl
          | 3, _ => rfl
          | 4, _ => rfl
    obtain ⟨Z, hZ⟩ := Go.Deep.choose_lt each
    obtain ⟨b, off, spot⟩ := a
    have hsp : 0 < len → spot = none ∧ b < w.heap.size := fun h => by
      have h1 := hZ 0 (by omega) 0 (by omega)
      exact ⟨by simpa [Addr.add] using World.cell?_spot h1, World.block_lt_of_cell? w _ h1⟩
    refine ⟨some ⟨b, off, spot⟩, cap, (List.range len).map Z, by simp, ⟨some ⟨b, off, spot⟩, cap, by simp, fun h => ?_⟩, by simp; omega, by simp; omega⟩
    obtain ⟨h1, h2⟩ := hsp (by simpa using h)
    subst h1
    refine ⟨b, off, rfl, h2, by simp, fun i hi j hj => ?_⟩
    have hi' : i < len := by simpa using hi
    have h0 := hZ i (by omega) j hj
    rw [add_plain] at h0
    rw [Nat.add_assoc, h0]
    simp [List.getD_eq_getElem?_getD, hi']
end Go.Proofs.Ytendjeefggigbaa
