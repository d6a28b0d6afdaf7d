/- Texts Urow: each says in its own first comment what it proves. -/
import Derived.Test.YtlimjohnimgnhaaGreatDoorRows
import Derived.Test.YtlimjohnimgnhaaGreatDoorM46
import Derived.Test.YtlimjohnimgnhaaGreatDoorM41
import Derived.ProofKit
import Derived.SizedLaws
import Derived.ChangeSame
import Derived.ChangeVars
import Derived.ChangeMaps5
import Derived.JoinedOf
import Derived.JoinedAt
import Derived.RowKit3
import Derived.RowKitTokens
import Derived.LaidLaws
import Derived.Lib.LaidTab
import Derived.Stop.LaidErr
import Derived.OpenShut
import Derived.HandedShaped
import Derived.PinnedBridge
/- A start that fits the rows of layer 19: the tables, the two errors of the library, the tables of packages feature and frame as their initialisers lay them; and what the list says of them. -/
namespace Go.Proofs.YtlimjohnimgnhaaGreatDoor
open Go.ChangeShapes Go.WideShapes Go.ChangeAt Go.RowKit Go.Deep
open Go.ChangeMaps (open_string shut_string)

abbrev synS : ByteArray := { data := #[105, 110, 118, 97, 108, 105, 100, 32, 115, 121, 110, 116, 97, 120] }
abbrev rngS : ByteArray := { data := #[118, 97, 108, 117, 101, 32, 111, 117, 116, 32, 111, 102, 32, 114, 97, 110, 103, 101] }
def litB : DataW Unit → Value
  | .lit (.bool b) => .bool b
  | .lit (.int k z) => .int k z
  | .lit (.string s) => .string ⟨s.toArray⟩
  | _ => undef
/-- a table of structs as a row lists it, as cells -/
def tabCellsB : DataW Unit → Array Value
  | .agg ds => (ds.flatMap fun | .agg es => es.map litB | d => [litB d]).toArray
  | _ => #[]
noncomputable def low : Nat := (World.holding Tryz.prog default ⟨#[], #[], []⟩).heap.size
noncomputable def laidWorld (os : Os) : World :=
  let w0 := World.holding Tryz.prog os ⟨#[.cells #[.string rngS] 225, .cells #[.string synS] 225], #[], []⟩
  let set (h : Array Obj) (g : Nat) (cs : Array Value) : Array Obj := h.modify g fun
      | .cells _ t frozen => .cells cs t frozen
      | o => o
  let h1 := set (set (set w0.heap 9 (tabCellsB Rows.laid_math_bits_deBruijn32tab)) 10 (tabCellsB Rows.laid_math_bits_deBruijn64tab)) 6 (tabCellsB Rows.laid_internal_strconv_uint64pow10)
  let h2 := set (set h1 4 #[.iface 223 (.pointer (some ⟨low, 0, none⟩))]) 3 #[.iface 223 (.pointer (some ⟨low + 1, 0, none⟩))]
  let h3 := set (set (set h2 1 (tabCellsB Rows.laid_metrolab_feature_kinds)) 2 (tabCellsB Rows.laid_metrolab_frame_kinds)) 0 (tabCellsB Rows.laid_metrolab_frame_marks)
  { w0 with heap := set (set h3 8 (tabCellsB Rows.laid_unicode_utf8_acceptRanges)) 7 (tabCellsB Rows.laid_unicode_utf8_first) }
/-- the list of the rows of layer 19 -/
abbrev laidL : List (String × DataW Unit) := [("math/bits.deBruijn32tab", Rows.laid_math_bits_deBruijn32tab), ("math/bits.deBruijn64tab", Rows.laid_math_bits_deBruijn64tab), ("internal/strconv.uint64pow10", Rows.laid_internal_strconv_uint64pow10), ("unicode/utf8.acceptRanges", Rows.laid_unicode_utf8_acceptRanges), ("metrolab/feature.kinds", Rows.laid_metrolab_feature_kinds), ("strconv.ErrRange", Rows.laid_strconv_ErrRange), ("strconv.ErrSyntax", Rows.laid_strconv_ErrSyntax), ("metrolab/frame.kinds", Rows.laid_metrolab_frame_kinds), ("metrolab/frame.marks", Rows.laid_metrolab_frame_marks), ("unicode/utf8.first", Rows.laid_unicode_utf8_first)]
theorem laid_all (os : Os) (args : Array Value) : laidMet Tryz.prog laidL ((laidWorld os).forCall (fun _ _ => 0) ⟨#[], args, []⟩).memory :=
  laidMet_of_run' 10 (by kernel_rfl) (by kernel_rfl)

theorem Tryz.gKinds : Tryz.prog.globalNamed "metrolab/feature.kinds" = some 1 := by kernel_rfl
theorem Tryz.gKindsT : (Tryz.prog.globals[1]?).map (·.type) = some 119 := by kernel_rfl
theorem Tryz.gFk : Tryz.prog.globalNamed "metrolab/frame.kinds" = some 2 := by kernel_rfl
theorem Tryz.gFkT : (Tryz.prog.globals[2]?).map (·.type) = some 129 := by kernel_rfl
theorem Tryz.gFm : Tryz.prog.globalNamed "metrolab/frame.marks" = some 0 := by kernel_rfl
theorem Tryz.gFmT : (Tryz.prog.globals[0]?).map (·.type) = some 109 := by kernel_rfl
section
variable {H : Type} {enc : TypeId × Value → H} {P : Program} {w : World} {base : Nat} {sp : Nat → Bool} {held : Bool} {fuel : Nat} {t e : TypeId} {cs : List Value} {p : List MemPlace}
theorem row_bools {f0 f1 f2 : Field} {a b c : Bool} (he : P.underlying e = some (.struct #[f0, f1, f2])) (ce : P.cellsOf e = 3) (o0 : f0.offset = 0) (o1 : f1.offset = 1) (o2 : f2.offset = 2) (c0 : P.cellsOf f0.type = 1) (c1 : P.cellsOf f1.type = 1) (c2 : P.cellsOf f2.type = 1)
    (b0 : P.underlying f0.type = some .bool) (b1 : P.underlying f1.type = some .bool) (b2 : P.underlying f2.type = some .bool)
    (h : DataW.trod enc P w base sp held fuel e cs = some (.agg [.lit (.bool a), .lit (.bool b), .lit (.bool c)], p)) : cs = [.bool a, .bool b, .bool c] := by
  obtain ⟨xs, k, _, hx, hl, hxl, hf⟩ := DataW.trod_struct he h
  rw [ce] at hl
  match xs, hxl, cs, hl with
  | [x0, x1, x2], _, [v0, v1, v2], _ =>
    have g0 := hf 0 f0 rfl
    have g1 := hf 1 f1 rfl
    have g2 := hf 2 f2 rfl
    simp [o0, o1, o2, c0, c1, c2] at g0 g1 g2
    obtain ⟨z0, e0, rfl⟩ := DataW.trod_bool b0 g0
    obtain ⟨z1, e1, rfl⟩ := DataW.trod_bool b1 g1
    obtain ⟨z2, e2, rfl⟩ := DataW.trod_bool b2 g2
    simp at e0 e1 e2 hx
    obtain ⟨⟨rfl, rfl, rfl⟩, _⟩ := hx
    subst e0 e1 e2
    rfl
theorem ba_of {z : ByteArray} {l : List UInt8} (h : z.data.toList = l) : z = ⟨l.toArray⟩ := by
  subst h
  cases z
  simp
theorem row_str {l : List UInt8} (hu : P.underlying t = some .string) (h : DataW.trod enc P w base sp held fuel t cs = some (.lit (.string l), p)) : cs = [.string ⟨l.toArray⟩] := by
  obtain ⟨z, e0, e1, _⟩ := DataW.trod_string hu h
  simp at e1
  rw [e0, ba_of e1.1.symm]
theorem row_kinds {f0 f1 f2 f3 f4 f5 : Field} {l : List UInt8} {a b c d g : Int} (he : P.underlying e = some (.struct #[f0, f1, f2, f3, f4, f5])) (ce : P.cellsOf e = 6) (o0 : f0.offset = 0) (o1 : f1.offset = 1) (o2 : f2.offset = 2) (o3 : f3.offset = 3) (o4 : f4.offset = 4) (o5 : f5.offset = 5)
    (c0 : P.cellsOf f0.type = 1) (c1 : P.cellsOf f1.type = 1) (c2 : P.cellsOf f2.type = 1) (c3 : P.cellsOf f3.type = 1) (c4 : P.cellsOf f4.type = 1) (c5 : P.cellsOf f5.type = 1)
    (b0 : P.underlying f0.type = some .string) (b1 : P.underlying f1.type = some (.int .i64)) (b2 : P.underlying f2.type = some (.int .i64)) (b3 : P.underlying f3.type = some (.int .i64)) (b4 : P.underlying f4.type = some (.int .i64)) (b5 : P.underlying f5.type = some (.int .i64))
    (h : DataW.trod enc P w base sp held fuel e cs = some (.agg [.lit (.string l), .lit (.int .i64 a), .lit (.int .i64 b), .lit (.int .i64 c), .lit (.int .i64 d), .lit (.int .i64 g)], p)) : cs = [.string ⟨l.toArray⟩, .int .i64 a, .int .i64 b, .int .i64 c, .int .i64 d, .int .i64 g] := by
  obtain ⟨xs, k, _, hx, hl, hxl, hf⟩ := DataW.trod_struct he h
  rw [ce] at hl
  match xs, hxl, cs, hl with
  | [x0, x1, x2, x3, x4, x5], _, [v0, v1, v2, v3, v4, v5], _ =>
    have g0 := hf 0 f0 rfl
    have g1 := hf 1 f1 rfl
    have g2 := hf 2 f2 rfl
    have g3 := hf 3 f3 rfl
    have g4 := hf 4 f4 rfl
    have g5 := hf 5 f5 rfl
    simp [o0, o1, o2, o3, o4, o5, c0, c1, c2, c3, c4, c5] at g0 g1 g2 g3 g4 g5
    obtain ⟨z0, e0, y0, _⟩ := DataW.trod_string b0 g0
    obtain ⟨z1, e1, y1, _⟩ := DataW.trod_int b1 g1
    obtain ⟨z2, e2, y2, _⟩ := DataW.trod_int b2 g2
    obtain ⟨z3, e3, y3, _⟩ := DataW.trod_int b3 g3
    obtain ⟨z4, e4, y4, _⟩ := DataW.trod_int b4 g4
    obtain ⟨z5, e5, y5, _⟩ := DataW.trod_int b5 g5
    subst y0 y1 y2 y3 y4 y5
    simp at e0 e1 e2 e3 e4 e5 hx
    obtain ⟨⟨h0, rfl, rfl, rfl, rfl, rfl⟩, _⟩ := hx
    subst e0 e1 e2 e3 e4 e5
    rw [ba_of h0.symm]
end
theorem gl_cells {w : World} {fuel : Nat} {cs : List Value} {p : List MemPlace} (h : DataW.trod (fun _ => ()) Tryz.prog w 0 (fun _ => true) false fuel 119 cs = some (Rows.laid_metrolab_feature_kinds, p)) : ∀ i, i < 15 → cs[i]? = some (.bool (kdL.getD i false)) := by
  have t1 := Tryz.underlying119
  have t2 := Tryz.underlying118
  have t3 := Tryz.underlying4
  have ce : Tryz.prog.cellsOf 118 = 3 := by kernel_rfl
  have c0 : Tryz.prog.cellsOf 4 = 1 := by kernel_rfl
  generalize Tryz.prog = P at *
  obtain ⟨xs, m, _, hx, hl, hn, hf⟩ := DataW.trod_array t1 h
  match xs, hn with
  | [x0, x1, x2, x3, x4], _ =>
    unfold Rows.laid_metrolab_feature_kinds at hx
    simp only [List.map_cons, List.map_nil, Prod.mk.injEq, DataW.agg.injEq, List.cons.injEq, and_true] at hx
    obtain ⟨⟨h0, h1, h2, h3, h4⟩, _⟩ := hx
    obtain ⟨d0, q0⟩ := x0
    obtain ⟨d1, q1⟩ := x1
    obtain ⟨d2, q2⟩ := x2
    obtain ⟨d3, q3⟩ := x3
    obtain ⟨d4, q4⟩ := x4
    dsimp only at h0 h1 h2 h3 h4
    subst h0 h1 h2 h3 h4
    have g0 := hf 0 (by omega)
    have g1 := hf 1 (by omega)
    have g2 := hf 2 (by omega)
    have g3 := hf 3 (by omega)
    have g4 := hf 4 (by omega)
    rw [ce] at g0 g1 g2 g3 g4
    replace g0 := row_bools t2 ce rfl rfl rfl c0 c0 c0 t3 t3 t3 g0
    replace g1 := row_bools t2 ce rfl rfl rfl c0 c0 c0 t3 t3 t3 g1
    replace g2 := row_bools t2 ce rfl rfl rfl c0 c0 c0 t3 t3 t3 g2
    replace g3 := row_bools t2 ce rfl rfl rfl c0 c0 c0 t3 t3 t3 g3
    replace g4 := row_bools t2 ce rfl rfl rfl c0 c0 c0 t3 t3 t3 g4
    have key : ∀ (i j : Nat) (L : List Value), (cs.drop (i * 3)).take 3 = L → j < 3 → cs[i * 3 + j]? = L[j]? := by
      intro i j L hL hj
      rw [← hL, List.getElem?_take, if_pos hj, List.getElem?_drop]
    intro i hi
    have hd := Nat.div_add_mod i 3
    have hm := Nat.mod_lt i (show 0 < 3 by omega)
    have hq : i / 3 < 5 := by omega
    obtain ⟨q, hqe⟩ : ∃ q, q = i / 3 := ⟨_, rfl⟩
    obtain ⟨r, hre⟩ : ∃ r, r = i % 3 := ⟨_, rfl⟩
    rw [← hqe] at hd hq
    rw [← hre] at hd hm
    obtain rfl : i = q * 3 + r := by omega
    match q, hq, r, hm with
    | 0, _, r, hm => rw [key 0 r _ g0 hm]; match r, hm with | 0, _ => rfl | 1, _ => rfl | 2, _ => rfl
    | 1, _, r, hm => rw [key 1 r _ g1 hm]; match r, hm with | 0, _ => rfl | 1, _ => rfl | 2, _ => rfl
    | 2, _, r, hm => rw [key 2 r _ g2 hm]; match r, hm with | 0, _ => rfl | 1, _ => rfl | 2, _ => rfl
    | 3, _, r, hm => rw [key 3 r _ g3 hm]; match r, hm with | 0, _ => rfl | 1, _ => rfl | 2, _ => rfl
    | 4, _, r, hm => rw [key 4 r _ g4 hm]; match r, hm with | 0, _ => rfl | 1, _ => rfl | 2, _ => rfl
set_option maxRecDepth 100000 in
theorem gtb_cells {w : World} {fuel : Nat} {cs : List Value} {p : List MemPlace} (h : DataW.trod (fun _ => ()) Tryz.prog w 0 (fun _ => true) false fuel 129 cs = some (Rows.laid_metrolab_frame_kinds, p)) : ∀ i, i < 54 → cs[i]? = some (GtbL.getD i undef) := by
  have t1 := Tryz.underlying129
  have t2 := Tryz.underlying128
  have t3 := Tryz.underlying9
  have t4 := Tryz.underlying3
  have ce : Tryz.prog.cellsOf 128 = 6 := by kernel_rfl
  have c0 : Tryz.prog.cellsOf 9 = 1 := by kernel_rfl
  have c1 : Tryz.prog.cellsOf 3 = 1 := by kernel_rfl
  generalize Tryz.prog = P at *
  obtain ⟨xs, m, _, hx, hl, hn, hf⟩ := DataW.trod_array t1 h
  match xs, hn with
  | [x0, x1, x2, x3, x4, x5, x6, x7, x8], _ =>
    unfold Rows.laid_metrolab_frame_kinds at hx
    simp only [List.map_cons, List.map_nil, Prod.mk.injEq, DataW.agg.injEq, List.cons.injEq, and_true] at hx
    obtain ⟨⟨h0, h1, h2, h3, h4, h5, h6, h7, h8⟩, _⟩ := hx
    obtain ⟨d0, q0⟩ := x0
    obtain ⟨d1, q1⟩ := x1
    obtain ⟨d2, q2⟩ := x2
    obtain ⟨d3, q3⟩ := x3
    obtain ⟨d4, q4⟩ := x4
    obtain ⟨d5, q5⟩ := x5
    obtain ⟨d6, q6⟩ := x6
    obtain ⟨d7, q7⟩ := x7
    obtain ⟨d8, q8⟩ := x8
    dsimp only at h0 h1 h2 h3 h4 h5 h6 h7 h8
    subst h0 h1 h2 h3 h4 h5 h6 h7 h8
    have g0 := hf 0 (by omega)
    have g1 := hf 1 (by omega)
    have g2 := hf 2 (by omega)
    have g3 := hf 3 (by omega)
    have g4 := hf 4 (by omega)
    have g5 := hf 5 (by omega)
    have g6 := hf 6 (by omega)
    have g7 := hf 7 (by omega)
    have g8 := hf 8 (by omega)
    rw [ce] at g0 g1 g2 g3 g4 g5 g6 g7 g8
    replace g0 := row_kinds t2 ce rfl rfl rfl rfl rfl rfl c0 c1 c1 c1 c1 c1 t3 t4 t4 t4 t4 t4 g0
    replace g1 := row_kinds t2 ce rfl rfl rfl rfl rfl rfl c0 c1 c1 c1 c1 c1 t3 t4 t4 t4 t4 t4 g1
    replace g2 := row_kinds t2 ce rfl rfl rfl rfl rfl rfl c0 c1 c1 c1 c1 c1 t3 t4 t4 t4 t4 t4 g2
    replace g3 := row_kinds t2 ce rfl rfl rfl rfl rfl rfl c0 c1 c1 c1 c1 c1 t3 t4 t4 t4 t4 t4 g3
    replace g4 := row_kinds t2 ce rfl rfl rfl rfl rfl rfl c0 c1 c1 c1 c1 c1 t3 t4 t4 t4 t4 t4 g4
    replace g5 := row_kinds t2 ce rfl rfl rfl rfl rfl rfl c0 c1 c1 c1 c1 c1 t3 t4 t4 t4 t4 t4 g5
    replace g6 := row_kinds t2 ce rfl rfl rfl rfl rfl rfl c0 c1 c1 c1 c1 c1 t3 t4 t4 t4 t4 t4 g6
    replace g7 := row_kinds t2 ce rfl rfl rfl rfl rfl rfl c0 c1 c1 c1 c1 c1 t3 t4 t4 t4 t4 t4 g7
    replace g8 := row_kinds t2 ce rfl rfl rfl rfl rfl rfl c0 c1 c1 c1 c1 c1 t3 t4 t4 t4 t4 t4 g8
    have key : ∀ (i j : Nat) (L : List Value), (cs.drop (i * 6)).take 6 = L → j < 6 → cs[i * 6 + j]? = L[j]? := by
      intro i j L hL hj
      rw [← hL, List.getElem?_take, if_pos hj, List.getElem?_drop]
    intro i hi
    have hd := Nat.div_add_mod i 6
    have hm := Nat.mod_lt i (show 0 < 6 by omega)
    have hq : i / 6 < 9 := by omega
    obtain ⟨q, hqe⟩ : ∃ q, q = i / 6 := ⟨_, rfl⟩
    obtain ⟨r, hre⟩ : ∃ r, r = i % 6 := ⟨_, rfl⟩
    rw [← hqe] at hd hq
    rw [← hre] at hd hm
    obtain rfl : i = q * 6 + r := by omega
    match q, hq, r, hm with
    | 0, _, r, hm => rw [key 0 r _ g0 hm]; match r, hm with | 0, _ => rfl | 1, _ => rfl | 2, _ => rfl | 3, _ => rfl | 4, _ => rfl | 5, _ => rfl
    | 1, _, r, hm => rw [key 1 r _ g1 hm]; match r, hm with | 0, _ => rfl | 1, _ => rfl | 2, _ => rfl | 3, _ => rfl | 4, _ => rfl | 5, _ => rfl
    | 2, _, r, hm => rw [key 2 r _ g2 hm]; match r, hm with | 0, _ => rfl | 1, _ => rfl | 2, _ => rfl | 3, _ => rfl | 4, _ => rfl | 5, _ => rfl
    | 3, _, r, hm => rw [key 3 r _ g3 hm]; match r, hm with | 0, _ => rfl | 1, _ => rfl | 2, _ => rfl | 3, _ => rfl | 4, _ => rfl | 5, _ => rfl
    | 4, _, r, hm => rw [key 4 r _ g4 hm]; match r, hm with | 0, _ => rfl | 1, _ => rfl | 2, _ => rfl | 3, _ => rfl | 4, _ => rfl | 5, _ => rfl
    | 5, _, r, hm => rw [key 5 r _ g5 hm]; match r, hm with | 0, _ => rfl | 1, _ => rfl | 2, _ => rfl | 3, _ => rfl | 4, _ => rfl | 5, _ => rfl
    | 6, _, r, hm => rw [key 6 r _ g6 hm]; match r, hm with | 0, _ => rfl | 1, _ => rfl | 2, _ => rfl | 3, _ => rfl | 4, _ => rfl | 5, _ => rfl
    | 7, _, r, hm => rw [key 7 r _ g7 hm]; match r, hm with | 0, _ => rfl | 1, _ => rfl | 2, _ => rfl | 3, _ => rfl | 4, _ => rfl | 5, _ => rfl
    | 8, _, r, hm => rw [key 8 r _ g8 hm]; match r, hm with | 0, _ => rfl | 1, _ => rfl | 2, _ => rfl | 3, _ => rfl | 4, _ => rfl | 5, _ => rfl
theorem gtc_cells {w : World} {fuel : Nat} {cs : List Value} {p : List MemPlace} (h : DataW.trod (fun _ => ()) Tryz.prog w 0 (fun _ => true) false fuel 109 cs = some (Rows.laid_metrolab_frame_marks, p)) : ∀ i, i < 3 → cs[i]? = some (GtcL.getD i undef) := by
  have t1 := Tryz.underlying109
  have t3 := Tryz.underlying9
  have c0 : Tryz.prog.cellsOf 9 = 1 := by kernel_rfl
  generalize Tryz.prog = P at *
  obtain ⟨xs, m, _, hx, hl, hn, hf⟩ := DataW.trod_array t1 h
  match xs, hn with
  | [x0, x1, x2], _ =>
    unfold Rows.laid_metrolab_frame_marks at hx
    simp only [List.map_cons, List.map_nil, Prod.mk.injEq, DataW.agg.injEq, List.cons.injEq, and_true] at hx
    obtain ⟨⟨h0, h1, h2⟩, _⟩ := hx
    obtain ⟨d0, q0⟩ := x0
    obtain ⟨d1, q1⟩ := x1
    obtain ⟨d2, q2⟩ := x2
    dsimp only at h0 h1 h2
    subst h0 h1 h2
    have g0 := hf 0 (by omega)
    have g1 := hf 1 (by omega)
    have g2 := hf 2 (by omega)
    rw [c0] at g0 g1 g2
    replace g0 := row_str t3 g0
    replace g1 := row_str t3 g1
    replace g2 := row_str t3 g2
    have key : ∀ (i : Nat) (L : List Value), (cs.drop (i * 1)).take 1 = L → cs[i]? = L[0]? := by
      intro i L hL
      rw [← hL, List.getElem?_take, if_pos (by omega), List.getElem?_drop]
      simp
    intro i hi
    match i, hi with
    | 0, _ => rw [key 0 _ g0]; rfl
    | 1, _ => rw [key 1 _ g1]; rfl
    | 2, _ => rw [key 2 _ g2]; rfl
theorem Tryz.gER : Tryz.prog.globalNamed "strconv.ErrRange" = some 4 := by kernel_rfl
theorem Tryz.gERType : (Tryz.prog.globals[4]?).map (·.type) = some 105 := by kernel_rfl
theorem Tryz.gES : Tryz.prog.globalNamed "strconv.ErrSyntax" = some 3 := by kernel_rfl
theorem Tryz.gESType : (Tryz.prog.globals[3]?).map (·.type) = some 105 := by kernel_rfl
theorem Tryz.gPow : Tryz.prog.globalNamed "internal/strconv.uint64pow10" = some 6 := by kernel_rfl
theorem Tryz.gPowType : (Tryz.prog.globals[6]?).map (·.type) = some 220 := by kernel_rfl
theorem Tryz.starErr : "*" ++ "errors.errorString" = "*errors.errorString" := by decide
theorem Tryz.rowErr (u : TypeId) (h : Tryz.prog.typeName? 3 u = some "*errors.errorString") : u = 223 :=
  typeName_ptr_named (nm := "errors.errorString") (by rw [Tryz.starErr]; kernel_rfl) (by kernel_rfl) (by decide) u (by rw [Tryz.starErr]; exact h)
theorem laid_cells {W : World} {n : String} {d : DataW Unit} {r : List (String × DataW Unit)} {g : Nat} {t : TypeId} (hL : laidMet Tryz.prog ((n, d) :: r) W) (hg : Tryz.prog.globalNamed n = some g) (ht : (Tryz.prog.globals[g]?).map (·.type) = some t) : ∃ (cs : List Value) (fuel : Nat) (p : List MemPlace), DataW.trod (fun _ => ()) Tryz.prog W 0 (fun _ => true) false fuel t cs = some (d, p) ∧ ∀ i, W.cell? ⟨g, i, none⟩ = cs[i]? := by
  obtain ⟨ps, ⟨g', t', cs, fuel, p, q, hg', ht', hvar, hd, _, _⟩, _⟩ := hL
  obtain rfl := Option.some.inj (hg.symm.trans hg')
  obtain rfl := Option.some.inj (ht.symm.trans ht')
  exact ⟨cs.toList, fuel, p, hd, fun i => by rw [World.var?_cell hg hvar i, ← Array.getElem?_toList]⟩
theorem gf_of_laid {W : World} (hL : laidMet Tryz.prog laidL W) (hsh : W.ShapedOpen Tryz.prog) : Gf W W := by
  have h2 : laidMet Tryz.prog (("internal/strconv.uint64pow10", Lib.tabData .u64 Lib.pow10Tab) :: [("unicode/utf8.acceptRanges", Rows.laid_unicode_utf8_acceptRanges), ("metrolab/feature.kinds", Rows.laid_metrolab_feature_kinds), ("strconv.ErrRange", Rows.laid_strconv_ErrRange), ("strconv.ErrSyntax", Rows.laid_strconv_ErrSyntax), ("metrolab/frame.kinds", Rows.laid_metrolab_frame_kinds), ("metrolab/frame.marks", Rows.laid_metrolab_frame_marks), ("unicode/utf8.first", Rows.laid_unicode_utf8_first)]) W := laidMet.tail (laidMet.tail hL)
  have h4 := laidMet.tail (laidMet.tail h2)
  have h5 := laidMet.tail h4
  have h6 := laidMet.tail h5
  have h7 := laidMet.tail h6
  have h8 := laidMet.tail h7
  obtain ⟨c4, _, _, r4, q4⟩ := laid_cells h4 Tryz.gKinds Tryz.gKindsT
  obtain ⟨c7, _, _, r7, q7⟩ := laid_cells h7 Tryz.gFk Tryz.gFkT
  obtain ⟨c8, _, _, r8, q8⟩ := laid_cells h8 Tryz.gFm Tryz.gFmT
  obtain ⟨a1, s1, hv1, -, -, -⟩ := laid_sentinel h5 Tryz.gER Tryz.gERType Tryz.underlying105 Tryz.rowErr Tryz.underlying223 Tryz.underlying225 rfl rfl Tryz.underlying9 (by kernel_rfl) (by kernel_rfl)
  obtain ⟨a2, s2, hv2, -, -, -⟩ := laid_sentinel h6 Tryz.gES Tryz.gESType Tryz.underlying105 Tryz.rowErr Tryz.underlying223 Tryz.underlying225 rfl rfl Tryz.underlying9 (by kernel_rfl) (by kernel_rfl)
  exact ⟨Kb.refl W, fun i hi => (q4 i).trans (gl_cells r4 i hi), fun i hi => (q7 i).trans (gtb_cells r7 i hi), fun i hi => (q8 i).trans (gtc_cells r8 i hi),
    ⟨Lib.tabIs_of_head Tryz.gPow Tryz.gPowType Tryz.underlying220 Tryz.underlying191 (by kernel_rfl) (by kernel_rfl) h2, ⟨_, _, hv2⟩, ⟨_, _, hv1⟩,
      cell_of_shapedOpen_int (P := Tryz.prog) (g := 5) (t := 3) (zero := #[.int .i64 0]) hsh (of_decide_eq_true (by kernel_rfl)) (by kernel_rfl) rfl (by kernel_rfl) (by kernel_rfl) Tryz.underlying3⟩⟩

theorem handed_sh {a : Assume} {H : Type} {enc : TypeId × Value → H} {C : Checked} {os : Os} {f : FuncId} {fn : Func} {s : ChangeSpec} {conds : List PathCond} {apart fresh handsOn again : Bool} {X : World → Array Value → Prop}
    (hX : ∀ (w w' : World) (args : Array Value), w.heap = w'.heap → X w args → X w' args) (own : ownKnob C.prog.godebug = none) (started : os.Started) (noInit : C.prog.inits.idxOf? f = none) (hfn : C.prog.funcs[f]? = some fn)
    (fits : ∃ (w : World) (tape : Tape) (i : Input), w.os = os ∧ (w.forCall tape i).Shaped C.prog ∧ i.vars = [] ∧ Input.okWide C.prog (w.forCall tape i) .any w.heap.size f i ∧
      ((s.pre enc C.prog fn conds apart (w.forCall tape i).memory i.args ∧ X (w.forCall tape i).memory i.args) ∧ sizedMet enc C.prog fn (OpenSpec.ofChange s) apart (w.forCall tape i).memory i.args) ∧ a.holds C.prog (lone (Frame.enter C.prog f i.args .normal) [] (w.forCall tape i)))
    (call : ∀ (W : World) (base : Nat) (args : Array Value) (ds gs : List (DataW H)) (before : List MemPlace), (∀ (j : Nat) t v, fn.params[j]? = some t → args[j]? = some v → Value.okWide C.prog W .any base t v) →
      DataW.Whole enc C.prog fn.params.toList s.vars apart W args.toList ds gs before → X W args → W.ShapedOpen C.prog → Calls C.prog f args W fun e W' => ∃ v, e = .returned v ∧ s.post enc C.prog fn apart fresh handsOn again W args v W') :
    ReturnsInHanded a C os f .any (fun w args => (s.pre enc C.prog fn conds apart w args ∧ X w args) ∧ sizedMet enc C.prog fn (OpenSpec.ofChange s) apart w args) (s.post enc C.prog fn apart fresh handsOn again) := by
  refine returnsInHanded_of_calls own started noInit fits ?_
  intro w tape i _ hsh _ hok hpre _
  obtain ⟨_, _, _, fn', h1, _, _, _, _, hval⟩ := hok
  cases Option.some.inj (h1.symm.trans hfn)
  obtain ⟨⟨⟨ds, gs, before, hw, _⟩, hx⟩, _⟩ := hpre
  refine (call (w.forCall tape i) w.heap.size i.args ds gs before hval (DataW.Whole.of_heap (w' := w.forCall tape i) (by rfl) hw) (hX _ _ _ (by rfl) hx) hsh).mono fun e W' h => ?_
  obtain ⟨v, rfl, hp⟩ := h
  exact ChangeSpec.post_blind hp

section
variable {H : Type} {enc : TypeId × Value → H} {w : World} {base : Nat} {spare : Nat → Bool} {held : Bool} {fuel : Nat} {cs : List Value} {x : DataW H × List MemPlace}
theorem open_dats_cap (h : DataW.trod enc Tryz.prog w base spare held fuel 29 cs = some x) : ∃ (p : Option Addr) (c : Nat) (l : List DatT), cs = [.slice p l.length c] ∧ DatS w (.slice p l.length c) l ∧ l.length ≤ c := by
  obtain ⟨p, c, l, e, hd⟩ := open_dats h
  refine ⟨p, c, l, e, hd, ?_⟩
  rcases open_slice Tryz.underlying29 h with ⟨e2, _⟩ | ⟨a, len, cap, m, n, D, Pl, e2, _, hlx, _⟩
  · rw [e] at e2
    simp only [List.cons.injEq, Value.slice.injEq, and_true] at e2
    omega
  · rw [e] at e2
    simp only [List.cons.injEq, Value.slice.injEq, and_true] at e2
    omega
set_option maxRecDepth 100000 in
theorem open_frm {v : Value} {b2 : Nat} (hv : Value.okWide Tryz.prog w .any b2 31 v) (h : DataW.trod enc Tryz.prog w base spare held fuel 31 v.cells.toList = some x) :
    ∃ (fk : Int) (fd : Bool) (ft fm : Int) (dp : Option Addr) (dl dc : Nat) (ds : List DatT), v = .agg #[.int .i64 fk, .bool fd, .int .i64 ft, .int .i64 fm, .slice dp dl dc] ∧ DatS w (.slice dp dl dc) ds ∧ dl ≤ dc := by
  unfold Value.okWide at hv
  rw [Tryz.underlying31] at hv
  obtain ⟨cs, rfl, hsz, _⟩ := hv
  have ce : Tryz.prog.cellsOf 31 = 5 := by kernel_rfl
  rw [ce] at hsz
  have t2 := Tryz.underlying31
  have t3 := Tryz.underlying4
  have t4 := Tryz.underlying3
  have c0 : Tryz.prog.cellsOf 4 = 1 := by kernel_rfl
  have c1 : Tryz.prog.cellsOf 3 = 1 := by kernel_rfl
  have c2 : Tryz.prog.cellsOf 29 = 1 := by kernel_rfl
  have od : ∀ {fuel : Nat} {cs : List Value} {x : DataW H × List MemPlace}, DataW.trod enc Tryz.prog w base spare held fuel 29 cs = some x → ∃ (p : Option Addr) (c : Nat) (l : List DatT), cs = [.slice p l.length c] ∧ DatS w (.slice p l.length c) l ∧ l.length ≤ c := fun h => open_dats_cap h
  generalize Tryz.prog = P at *
  obtain ⟨xs, k, hk, hxy, _, hxl, hf⟩ := DataW.trod_struct t2 h
  match xs, hxl, cs, hsz with
  | [y0, y1, y2, y3, y4], _, ⟨[v0, v1, v2, v3, v4]⟩, _ =>
    have g0 := hf 0 _ rfl
    have g1 := hf 1 _ rfl
    have g2 := hf 2 _ rfl
    have g3 := hf 3 _ rfl
    have g4 := hf 4 _ rfl
    simp [Value.cells, c0, c1, c2] at g0 g1 g2 g3 g4
    obtain ⟨z0, e0, _⟩ := DataW.trod_int t4 g0
    obtain ⟨z1, e1, _⟩ := DataW.trod_bool t3 g1
    obtain ⟨z2, e2, _⟩ := DataW.trod_int t4 g2
    obtain ⟨z3, e3, _⟩ := DataW.trod_int t4 g3
    obtain ⟨q, c, ds, e4, hd, hc⟩ := od g4
    simp at e0 e1 e2 e3 e4
    subst e0 e1 e2 e3 e4
    exact ⟨z0, z1, z2, z3, q, _, c, ds, rfl, hd, hc⟩
end
end Go.Proofs.YtlimjohnimgnhaaGreatDoor
