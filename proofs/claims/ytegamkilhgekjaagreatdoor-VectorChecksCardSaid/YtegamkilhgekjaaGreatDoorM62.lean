/- Texts RegE, Vec7z, Vref5: each says in its own first comment what it proves. -/
import Derived.Test.YtegamkilhgekjaaGreatDoorM35
import Derived.Test.YtegamkilhgekjaaGreatDoorM57
import Derived.Test.YtegamkilhgekjaaGreatDoorM61
import Derived.Laws.StructEq
/- reg_seq and reg_refl once more, with a property of the world that the chain hands on: a call may change the blocks of L. -/
namespace Go.Proofs.YtegamkilhgekjaaGreatDoor
open Go.RowKit

structure ROpsE (ops : Array Oper) (t : RTab) (w0 : World) (T0 : Nat → Value) : Prop where
  ok : regOk ops t.toRSt = true
  gv : ∀ i, i < t.m → t.isg i = true → t.act i = true ∧ t.V (t.gd i) = .bool (t.gb i) ∨ t.act i = false ∧ t.V (t.gd i) = .bool (!t.gb i) ∧ t.kind i = 0 ∧ t.V i = undef
  read : ∀ i, i < t.m → t.kind i = 0 → t.act i = true → ∀ l T w o c, i ∈ Region.ready .any ops l → Closed ops l → SMid t w0 T0 c l T w → ops[i]? = some o →
    (execOp (frameOf t.N T).eval o).run Tryz.prog w = .ok (.value (t.V i)) w
  chain : ∀ i, i < t.m → t.kind i = 1 → ∀ l T w o, i ∈ Region.ready .any ops l → Closed ops l → SMid t w0 T0 (t.pos i) l T w → (t.dst i < t.N → ∀ v, chV t.m t.kind t.dst (updV T (t.dst i) v) = updV (chV t.m t.kind t.dst T) i v) → ops[i]? = some o →
    ∀ Q, o.wp Tryz.prog (frameOf t.N T) w (After t i T w) Q
  free : ∀ i, i < t.m → t.kind i = 2 → ∀ l T w o c, i ∈ Region.ready .any ops l → Closed ops l → SMid t w0 T0 c l T w → ops[i]? = some o →
    ∃ u w', (execOp (frameOf t.N T).eval o).run Tryz.prog w = .ok (.value u) w' ∧ t.F i u w' ∧ Kp t.L w w' ∧ Kp [] w w'

end Go.Proofs.YtegamkilhgekjaaGreatDoor

/- Where the keeper of package reckon has an error: distance of package vector from what is no line. -/
namespace Go.Proofs.YtegamkilhgekjaaGreatDoor
open Go.RowKit
open Go.Lib (nDigits itoa decDigits)

/-- the keeper g has no error before the step K of a chain, and the error e behind it -/
def ERE (g : Nat) (w0 : World) (K : Nat) (e : Int) (c : Nat) (wz : World) : Prop := if c < K then RE wz g 0 ∧ Kp [] w0 wz else RE wz g e
section
variable {g K c : Nat} {w0 wz w' : World} {e : Int}
theorem ERE.kp (h : ERE g w0 K e c wz) (hc : c < K) : Kp [] w0 wz := by unfold ERE at h; rw [if_pos hc] at h; exact h.2
theorem ERE.kept (h : ERE g w0 K e c wz) (k : Kp [] wz w') : ERE g w0 K e c w' := by
  unfold ERE at *
  split at h
  · rename_i hc
    rw [if_pos hc]
    exact ⟨h.1.kept k (by simp), h.2.trans k⟩
  · rename_i hc
    rw [if_neg hc]
    exact RE.kept h k (by simp)
theorem ERE.fin (h : ERE g w0 K e c wz) (hc : ¬ c < K) : RE wz g e := by unfold ERE at h; rw [if_neg hc] at h; exact h
end
end Go.Proofs.YtegamkilhgekjaaGreatDoor

/- The reference of layer 7: Ratio, FromLine, ToLine. -/
namespace Go.Proofs.YtegamkilhgekjaaGreatDoor
open Go.RowKit
open Go.Lib (nDigits itoa decDigits)

theorem eqP (ax ay bx yb : Int) (W : World) : (Op.equalIn 10000 49 (.agg #[.int .i64 ax, .int .i64 ay]) (.agg #[.int .i64 bx, .int .i64 yb])).run Tryz.prog W = .ok (ax == bx && ay == yb) W := by
  have u3 := Tryz.underlying3
  have a3 := Tryz.isAgg3
  have z3 := Tryz.sizeOf3
  have hS : Tryz.prog.underlying 49 = some (.struct (Tryz.prog.fieldsOf 49)) := by kernel_rfl
  rw [show (10000 : Nat) = 9999 + 1 from rfl, run_equalIn_agg W 9999 49 _ _ hS (by kernel_rfl)]
  simp only [Program.fieldsOf, Tryz.underlying49]
  go_simp
  by_cases h1 : ax = bx <;> by_cases h2 : ay = yb <;> simp [h1, h2]

end Go.Proofs.YtegamkilhgekjaaGreatDoor
