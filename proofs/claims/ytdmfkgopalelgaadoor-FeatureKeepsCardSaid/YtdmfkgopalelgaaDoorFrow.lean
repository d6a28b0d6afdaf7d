/- A start that fits the rows of layer 18: the table of kinds as its initialiser lays it; and what the list says of it. -/
import Derived.Test.YtdmfkgopalelgaaDoorRows
import Derived.Test.YtdmfkgopalelgaaDoorQg3
import Derived.ProofKit
import Derived.SizedLaws
import Derived.ChangeSame
import Derived.ChangeVars
import Derived.ChangeMaps5
import Derived.JoinedOf
import Derived.JoinedAt
import Derived.RowKit3
import Derived.RowKitTokens
import Derived.LaidLaws
import Derived.Lib.LaidTab
import Derived.Stop.LaidErr
import Derived.OpenShut
namespace Go.Proofs.YtdmfkgopalelgaaDoor
open Go.ChangeShapes Go.WideShapes Go.ChangeAt Go.RowKit
open Go.ChangeMaps (open_string shut_string)

def litB : DataW Unit → Value
  | .lit (.bool b) => .bool b
  | _ => undef
/-- a table of structs of booleans as a row lists it, as cells -/
def tabCellsB : DataW Unit → Array Value
  | .agg ds => (ds.flatMap fun | .agg es => es.map litB | d => [litB d]).toArray
  | _ => #[]
noncomputable def laidWorld (os : Os) : World :=
  let w0 := World.holding Tryd.prog os ⟨#[], #[], []⟩
  let set (h : Array Obj) (g : Nat) (cs : Array Value) : Array Obj := h.modify g fun
      | .cells _ t frozen => .cells cs t frozen
      | o => o
  { w0 with heap := set w0.heap 0 (tabCellsB Rows.laid_metrolab_feature_kinds) }
theorem Tryd.gKinds : Tryd.prog.globalNamed "metrolab/feature.kinds" = some 0 := by kernel_rfl
theorem Tryd.gKindsT : (Tryd.prog.globals[0]?).map (·.type) = some 66 := by kernel_rfl
section
variable {H : Type} {enc : TypeId × Value → H} {P : Program} {w : World} {base : Nat} {sp : Nat → Bool} {held : Bool} {fuel : Nat} {t e : TypeId} {cs : List Value} {p : List MemPlace}
theorem row_bools {f0 f1 f2 : Field} {a b c : Bool} (he : P.underlying e = some (.struct #[f0, f1, f2])) (ce : P.cellsOf e = 3) (o0 : f0.offset = 0) (o1 : f1.offset = 1) (o2 : f2.offset = 2) (c0 : P.cellsOf f0.type = 1) (c1 : P.cellsOf f1.type = 1) (c2 : P.cellsOf f2.type = 1)
    (b0 : P.underlying f0.type = some .bool) (b1 : P.underlying f1.type = some .bool) (b2 : P.underlying f2.type = some .bool)
    (h : DataW.trod enc P w base sp held fuel e cs = some (.agg [.lit (.bool a), .lit (.bool b), .lit (.bool c)], p)) : cs = [.bool a, .bool b, .bool c] := by
  obtain ⟨xs, k, _, hx, hl, hxl, hf⟩ := DataW.trod_struct he h
  rw [ce] at hl
  match xs, hxl, cs, hl with
  | [x0, x1, x2], _, [v0, v1, v2], _ =>
    have g0 := hf 0 f0 rfl
    have g1 := hf 1 f1 rfl
    have g2 := hf 2 f2 rfl
    simp [o0, o1, o2, c0, c1, c2] at g0 g1 g2
    obtain ⟨z0, e0, rfl⟩ := DataW.trod_bool b0 g0
    obtain ⟨z1, e1, rfl⟩ := DataW.trod_bool b1 g1
    obtain ⟨z2, e2, rfl⟩ := DataW.trod_bool b2 g2
    simp at e0 e1 e2 hx
    obtain ⟨⟨rfl, rfl, rfl⟩, _⟩ := hx
    subst e0 e1 e2
    rfl
end
theorem gl_cells {w : World} {fuel : Nat} {cs : List Value} {p : List MemPlace} (h : DataW.trod (fun _ => ()) Tryd.prog w 0 (fun _ => true) false fuel 66 cs = some (Rows.laid_metrolab_feature_kinds, p)) : ∀ i, i < 15 → cs[i]? = some (.bool (kdL.getD i false)) := by
  have t1 := Tryd.underlying66
  have t2 := Tryd.underlying65
  have t3 := Tryd.underlying4
  have ce : Tryd.prog.cellsOf 65 = 3 := by kernel_rfl
  have c0 : Tryd.prog.cellsOf 4 = 1 := by kernel_rfl
  generalize Tryd.prog = P at *
  obtain ⟨xs, m, _, hx, hl, hn, hf⟩ := DataW.trod_array t1 h
  match xs, hn with
  | [x0, x1, x2, x3, x4], _ =>
    unfold Rows.laid_metrolab_feature_kinds at hx
    simp only [List.map_cons, List.map_nil, Prod.mk.injEq, DataW.agg.injEq, List.cons.injEq, and_true] at hx
    obtain ⟨⟨h0, h1, h2, h3, h4⟩, _⟩ := hx
    obtain ⟨d0, q0⟩ := x0
    obtain ⟨d1, q1⟩ := x1
    obtain ⟨d2, q2⟩ := x2
    obtain ⟨d3, q3⟩ := x3
    obtain ⟨d4, q4⟩ := x4
    dsimp only at h0 h1 h2 h3 h4
    subst h0 h1 h2 h3 h4
    have g0 := hf 0 (by omega)
    have g1 := hf 1 (by omega)
    have g2 := hf 2 (by omega)
    have g3 := hf 3 (by omega)
    have g4 := hf 4 (by omega)
    rw [ce] at g0 g1 g2 g3 g4
    replace g0 := row_bools t2 ce rfl rfl rfl c0 c0 c0 t3 t3 t3 g0
    replace g1 := row_bools t2 ce rfl rfl rfl c0 c0 c0 t3 t3 t3 g1
    replace g2 := row_bools t2 ce rfl rfl rfl c0 c0 c0 t3 t3 t3 g2
    replace g3 := row_bools t2 ce rfl rfl rfl c0 c0 c0 t3 t3 t3 g3
    replace g4 := row_bools t2 ce rfl rfl rfl c0 c0 c0 t3 t3 t3 g4
    have key : ∀ (i j : Nat) (L : List Value), (cs.drop (i * 3)).take 3 = L → j < 3 → cs[i * 3 + j]? = L[j]? := by
      intro i j L hL hj
      rw [← hL, List.getElem?_take, if_pos hj, List.getElem?_drop]
    intro i hi
    have hd := Nat.div_add_mod i 3
    have hm := Nat.mod_lt i (show 0 < 3 by omega)
    have hq : i / 3 < 5 := by omega
    obtain ⟨q, hqe⟩ : ∃ q, q = i / 3 := ⟨_, rfl⟩
    obtain ⟨r, hre⟩ : ∃ r, r = i % 3 := ⟨_, rfl⟩
    rw [← hqe] at hd hq
    rw [← hre] at hd hm
    obtain rfl : i = q * 3 + r := by omega
    match q, hq, r, hm with
    | 0, _, r, hm => rw [key 0 r _ g0 hm]; match r, hm with | 0, _ => rfl | 1, _ => rfl | 2, _ => rfl
    | 1, _, r, hm => rw [key 1 r _ g1 hm]; match r, hm with | 0, _ => rfl | 1, _ => rfl | 2, _ => rfl
    | 2, _, r, hm => rw [key 2 r _ g2 hm]; match r, hm with | 0, _ => rfl | 1, _ => rfl | 2, _ => rfl
    | 3, _, r, hm => rw [key 3 r _ g3 hm]; match r, hm with | 0, _ => rfl | 1, _ => rfl | 2, _ => rfl
    | 4, _, r, hm => rw [key 4 r _ g4 hm]; match r, hm with | 0, _ => rfl | 1, _ => rfl | 2, _ => rfl
theorem gl_of_laid {W : World} (hL : laidMet Tryd.prog [("metrolab/feature.kinds", Rows.laid_metrolab_feature_kinds)] W) : Gl W := by
  obtain ⟨ps, ⟨g', t', cs, fuel, p, q, hg', ht', hvar, hd, _, _⟩, _⟩ := hL
  obtain rfl := Option.some.inj (Tryd.gKinds.symm.trans hg')
  obtain rfl := Option.some.inj (Tryd.gKindsT.symm.trans ht')
  intro i hi
  rw [World.var?_cell Tryd.gKinds hvar i, ← Array.getElem?_toList]
  exact gl_cells hd i hi
end Go.Proofs.YtdmfkgopalelgaaDoor
