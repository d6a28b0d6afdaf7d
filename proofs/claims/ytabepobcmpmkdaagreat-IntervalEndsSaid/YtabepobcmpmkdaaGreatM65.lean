/- Texts RegF: each says in its own first comment what it proves. -/
import Derived.Test.YtabepobcmpmkdaaGreatM35
/- reg_seq and reg_refl once more: a property of the world that the chain hands on, which may speak of the values of the operations that are done; a chain with stores into new blocks. -/
namespace Go.Proofs.YtabepobcmpmkdaaGreat
open Go.RowKit

/-- the values of the operations that are no reads and are done -/
def dnV (m : Nat) (kind dst : Nat → Nat) (l : Array Bool) (T : Nat → Value) : Nat → Value := fun j => if j < m ∧ kind j ≠ 0 ∧ l.getD j false = true then T (dst j) else undef
/-- what is new is no old block -/
def NewU (u : Value) (w : World) : Prop := ∀ b o p, u = .pointer (some ⟨b, o, p⟩) → w.heap.size ≤ b
structure SMidF (t : RTab) (w0 : World) (T0 : Nat → Value) (c : Nat) (l : Array Bool) (T : Nat → Value) (w : World) : Prop where
  out : ∀ s, t.inv s = t.m → T s = T0 s
  val : ∀ j, j < t.m → t.kind j = 0 → l.getD j false = true → T (t.dst j) = t.V j
  cval : ∀ j, j < t.m → t.kind j = 1 → t.X j = true → l.getD j false = true → T (t.dst j) = t.V j
  free : ∀ j, j < t.m → t.kind j = 2 → l.getD j false = true → t.F j (T (t.dst j)) w
  come : Come t.toRSt c l
  kp : Kp t.L w0 w
  ext : t.E c (dnV t.m t.kind t.dst l T) w
  old : ∀ s, t.inv s < t.m → l.getD (t.inv s) false = false → T s = T0 s
/-- where an operation of the chain leaves off -/
def AfterF (t : RTab) (w0 : World) (l : Array Bool) (i : Nat) (T : Nat → Value) (w : World) (a' : Act) (w' : World) : Prop :=
  ∃ T', a' = frameOf t.N T' ∧ (∀ s, s ≠ t.dst i ∨ t.dst i = t.N → T' s = T s) ∧ Kp t.L w0 w' ∧ (∀ j u, t.F j u w → t.F j u w') ∧ (t.X i = true → T' (t.dst i) = t.V i) ∧ t.E (t.pos i + 1) (updV (dnV t.m t.kind t.dst l T) i (T' (t.dst i))) w'
structure ROpsF (ops : Array Oper) (t : RTab) (w0 : World) (T0 : Nat → Value) : Prop where
  ok : regOk ops t.toRSt = true
  gv : ∀ i, i < t.m → t.isg i = true → t.act i = true ∧ t.V (t.gd i) = .bool (t.gb i) ∨ t.act i = false ∧ t.V (t.gd i) = .bool (!t.gb i) ∧ t.kind i = 0 ∧ t.V i = undef
  read : ∀ i, i < t.m → t.kind i = 0 → t.act i = true → ∀ l T w o c, i ∈ Region.ready .any ops l → Closed ops l → SMidF t w0 T0 c l T w → ops[i]? = some o →
    (execOp (frameOf t.N T).eval o).run Tryz.prog w = .ok (.value (t.V i)) w
  chain : ∀ i, i < t.m → t.kind i = 1 → ∀ l T w o, i ∈ Region.ready .any ops l → Closed ops l → SMidF t w0 T0 (t.pos i) l T w → ops[i]? = some o →
    ∀ Q, o.wp Tryz.prog (frameOf t.N T) w (AfterF t w0 l i T w) Q
  free : ∀ i, i < t.m → t.kind i = 2 → ∀ l T w o c, i ∈ Region.ready .any ops l → Closed ops l → SMidF t w0 T0 c l T w → ops[i]? = some o →
    ∃ u w', (execOp (frameOf t.N T).eval o).run Tryz.prog w = .ok (.value u) w' ∧ t.F i u w' ∧ Kp [] w w' ∧ NewU u w

end Go.Proofs.YtabepobcmpmkdaaGreat
