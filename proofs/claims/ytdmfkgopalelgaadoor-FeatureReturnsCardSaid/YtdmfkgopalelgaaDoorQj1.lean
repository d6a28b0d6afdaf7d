/- Features: equal datums. -/
import Derived.Test.YtdmfkgopalelgaaDoorQg5
import Derived.Test.YtdmfkgopalelgaaDoorQg3
namespace Go.Proofs.YtdmfkgopalelgaaDoor
open Go.RowKit

/-- two lists of one length, alike pair by pair -/
def eqL {α : Type} (p : α → α → Bool) : List α → List α → Bool
  | [], [] => true
  | x :: xs, y :: ys => p x y && eqL p xs ys
  | _, _ => false
theorem eqL_len {α : Type} {p : α → α → Bool} : ∀ {l m : List α}, l.length ≠ m.length → eqL p l m = false
  | [], [], h => absurd rfl h
  | [], _ :: _, _ => rfl
  | _ :: _, [], _ => rfl
  | x :: xs, y :: ys, h => by
    unfold eqL
    rw [eqL_len (l := xs) (m := ys) (by simpa using h), Bool.and_false]
theorem eqL_drop {α : Type} {p : α → α → Bool} {l m : List α} {i : Nat} {x y : α} (hx : l[i]? = some x) (hy : m[i]? = some y) : eqL p (l.drop i) (m.drop i) = (p x y && eqL p (l.drop (i + 1)) (m.drop (i + 1))) := by
  obtain ⟨h1, rfl⟩ := List.getElem?_eq_some_iff.1 hx
  obtain ⟨h2, rfl⟩ := List.getElem?_eq_some_iff.1 hy
  rw [List.drop_eq_getElem_cons h1, List.drop_eq_getElem_cons h2, eqL]
theorem eqL_end {α : Type} {p : α → α → Bool} {l m : List α} {i : Nat} (hl : l.length = i) (hm : m.length = i) : eqL p (l.drop i) (m.drop i) = true := by
  rw [List.drop_of_length_le (by omega), List.drop_of_length_le (by omega), eqL]
def datB (d e : DatT) : Bool := (d.1.toList == e.1.toList) && d.2 == e.2
def frB (f g : FrT) : Bool := f.k == g.k && f.d == g.d && f.t == g.t && f.m == g.m && eqL datB f.ds g.ds
theorem DatS.kb {w w' : World} {v : Value} {ds : List DatT} (h : DatS w v ds) (k : Kb w w') : DatS w' v ds := h.kx k.kx
theorem DatS.alloc {w : World} {v : Value} {ds : List DatT} (h : DatS w v ds) (o : Obj) : DatS (w.alloc o) v ds := h.kb ((Kb.refl _).alloc o)
theorem DatS.drew {w : World} {v : Value} {ds : List DatT} (h : DatS w v ds) : DatS w.drew v ds := h.kb (show Kb w w.drew from (Kb.refl _).drew)
end Go.Proofs.YtdmfkgopalelgaaDoor
