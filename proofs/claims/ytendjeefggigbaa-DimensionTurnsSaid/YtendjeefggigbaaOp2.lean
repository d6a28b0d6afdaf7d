/- Paths: the states between joins; dimension.beginnings. -/
import Derived.Test.YtendjeefggigbaaOp1
import Derived.Test.YtendjeefggigbaaOd6
import Derived.Test.YtendjeefggigbaaOf4
import Derived.Test.YtendjeefggigbaaOf5
namespace Go.Proofs.Ytendjeefggigbaa
open Go.RowKit

abbrev DS : Type := DimT × Int
def jnD : DimT → DimT → DS | (f, t, a, l, h), (g, u, c, m, k) => ((zS (jnE f t a l h g u c m k) f, zS (jnE f t a l h g u c m k) u, zI (jnE f t a l h g u c m k) a, zI (jnE f t a l h g u c m k) (wrap64 (l + m)), zI (jnE f t a l h g u c m k) (wrap64 (h + k))), jnE f t a l h g u c m k)
def encS (x : DS) : Array Value := #[valDim x.1, .int .i64 x.2]
/-- names of a size that the texts' walks know -/
def Nz (d : DimT) : Prop := d.1.size ≤ 1000000 ∧ d.2.1.size ≤ 1000000
def st (ds : List DimT) : Nat → DS
  | 0 => (ds.getD 0 dim0, 0)
  | k + 1 => jnD (st ds k).1 (ds.getD (k + 1) dim0)
theorem nz_zS {f : ByteArray} (e : Int) (h : f.size ≤ 1000000) : (zS e f).size ≤ 1000000 := by
  unfold zS
  split
  · exact h
  · exact Nat.zero_le _
theorem nz_jnD {p x : DimT} (hp : Nz p) (hx : Nz x) : Nz (jnD p x).1 := by
  obtain ⟨f, t, a, l, h⟩ := p
  obtain ⟨g, u, c, m, k⟩ := x
  exact ⟨nz_zS _ hp.1, nz_zS _ hx.2⟩
theorem nz_dim0 : Nz dim0 := ⟨Nat.zero_le _, Nat.zero_le _⟩
theorem nz_getD {ds : List DimT} (h : ∀ d ∈ ds, Nz d) (j : Nat) : Nz (ds.getD j dim0) := by
  rw [List.getD_eq_getElem?_getD]
  rcases Nat.lt_or_ge j ds.length with hj | hj
  · rw [List.getElem?_eq_getElem hj]; exact h _ (List.getElem_mem hj)
  · rw [List.getElem?_eq_none hj]; exact nz_dim0
theorem nz_st {ds : List DimT} (h : ∀ d ∈ ds, Nz d) : ∀ k, Nz (st ds k).1
  | 0 => nz_getD h 0
  | k + 1 => nz_jnD (nz_st h k) (nz_getD h (k + 1))
theorem dJoinD {p x : DimT} (hp : Nz p) (hx : Nz x) : Ca 31 #[valDim p, valDim x] (.tuple #[valDim (jnD p x).1, .int .i64 (jnD p x).2]) := by
  obtain ⟨f, t, a, l, h⟩ := p
  obtain ⟨g, u, c, m, k⟩ := x
  exact dJoin f t a l h hp.1 hp.2 g u c m k hx.1 hx.2
theorem rJoinD {p x : DimT} (hp : Nz p) (hx : Nz x) : Ca 32 #[valDim p, valDim x] (.tuple #[valDim (jnD p x).1, .int .i64 (jnD p x).2]) := by
  obtain ⟨f, t, a, l, h⟩ := p
  obtain ⟨g, u, c, m, k⟩ := x
  exact rJoin f t a l h hp.1 hp.2 g u c m k hx.1 hx.2
/-- the first k of f 0, f 1, .. -/
def upto {α : Type} (f : Nat → α) (k : Nat) : List α := (List.range k).map f
theorem upto_succ {α : Type} (f : Nat → α) (k : Nat) : upto f (k + 1) = upto f k ++ [f k] := by simp [upto, List.range_succ]
theorem upto_length {α : Type} (f : Nat → α) (k : Nat) : (upto f k).length = k := by simp [upto]

set_option maxRecDepth 100000 in
set_option maxHeartbeats 1000000 in
theorem begin_c (sp : Option Addr) (n c : Nat) (w : World) : Calls Try.prog 57 #[.slice sp n c] w fun e w' => e = .returned (.func (.func 63) #[] #[.pointer (some ⟨w.heap.size, 0, none⟩)]) ∧ w' = w.alloc (.cells #[.slice sp n c] 51 (0, 0)) := by
  go_enter Try.func57, Try.ntmps57
  go_wp2
  go_ret
  exact ⟨rfl, rfl⟩
end Go.Proofs.Ytendjeefggigbaa
