/- A law for drawn regions that make two new blocks, each filled by one store, among calls and loads in any order. -/
import Derived.Test.YtdmfkgopalelgaaDoorOr
namespace Go.Proofs.YtdmfkgopalelgaaDoor
open Go.RowKit

/-- a new block: the operation that makes it, the one that fills it, its slot; its cells before and behind -/
structure OP2 where
  a : Nat
  s : Nat
  d : Nat
  z : Array Value
  n : Array Value
  T : TypeId
def Pr2 (p : OP2) (base : Nat) (l : Array Bool) (T : Nat → Value) (w : World) : Prop := l.getD p.a false = true → ∃ g, T p.d = .pointer (some ⟨g, 0, none⟩) ∧ base ≤ g ∧ Is w g (if l.getD p.s false = true then p.n else p.z) p.T
inductive OK2 (P : Program) (t : OT) (w0 : World) (T0 : Nat → Value) (R : Nat → Value → World → Prop) (p q : OP2) (i : Nat) (o : Oper) : Prop
  | val (hn : (i != p.a && i != p.s && i != q.a && i != q.s) = true) (h : ∀ T w, Kx [] w0 w → AllD (fun j => R j (T (t.s j)) w) (t.dep.getD i []) → AllD (fun s => T s = T0 s) (t.old.getD i []) → ∀ Q, OGo P t Kb R T w i o Q) : OK2 P t w0 T0 R p q i o
  | alloc (r : OP2) (hr : r = p ∨ r = q) (hi : i = r.a) (hg : o.guard = none) (h : ∀ T w, (execOp (oF t.N T).eval o).run P w = .ok (.value (.pointer (some ⟨w.heap.size, 0, none⟩))) (w.alloc (.cells r.z r.T (0, 0)))) (hR : ∀ v w, R i v w) : OK2 P t w0 T0 R p q i o
  | store (r : OP2) (hr : r = p ∨ r = q) (hi : i = r.s) (hg : o.guard = none) (h : ∀ T w g, AllD (fun j => R j (T (t.s j)) w) (t.dep.getD i []) → AllD (fun s => T s = T0 s) (t.old.getD i []) → T r.d = .pointer (some ⟨g, 0, none⟩) → Is w g r.z r.T → ∃ w', (execOp (oF t.N T).eval o).run P w = .ok .skip w' ∧ Is w' g r.n r.T ∧ Pt g w w') (hR : ∀ v w, R i v w) : OK2 P t w0 T0 R p q i o
structure OInv2 (t : OT) (w0 : World) (T0 : Nat → Value) (R : Nat → Value → World → Prop) (p q : OP2) (ops : Array Oper) (l : Array Bool) (T : Nat → Value) (w : World) : Prop where
  out : ∀ s, (∀ j, j < t.dst.length → t.d j = some s → l.getD j false = false) → T s = T0 s
  val : ∀ j, j < t.dst.length → l.getD j false = true → R j (T (t.s j)) w
  cl : ∀ j o, ops[j]? = some o → l.getD j false = true → ∀ i, oEdge o i = true → l.getD i false = true
  kx : Kx [] w0 w
  p1 : Pr2 p w0.heap.size l T w
  p2 : Pr2 q w0.heap.size l T w
  ne : l.getD p.a false = true → l.getD q.a false = true → T p.d ≠ T q.d
theorem Pt.kx {g : Nat} {a w w' : World} (h : Pt g w w') (k : Kx [] a w) (hg : a.heap.size ≤ g) : Kx [] a w' :=
  ⟨h.os.trans k.1, h.tape.trans k.2.1, h.output.trans k.2.2.1, by rw [h.size]; exact k.2.2.2.1, fun i hi hn => (h.far i (by omega)).trans (k.2.2.2.2 i hi hn)⟩
theorem Is.pt {g b : Nat} {cs : Array Value} {T : TypeId} {w w' : World} (h : Is w b cs T) (k : Pt g w w') (hb : b ≠ g) : Is w' b cs T := h.same (k.far b hb)
end Go.Proofs.YtdmfkgopalelgaaDoor
