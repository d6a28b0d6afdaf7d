/- A start that fits rows that list the tables and the two errors of the library, and the three tables of package grades: all as their initialisers lay them; and what the list says of the three. -/
import Derived.Test.YthifdgddegpbjaaDoorRowKit
import Derived.Test.YthifdgddegpbjaaDoorShelf
import Derived.Test.YthifdgddegpbjaaDoorGk
import Derived.SizedLaws
import Derived.ChangeSame
import Derived.ChangeVars
import Derived.ChangeMaps5
import Derived.JoinedOf
import Derived.JoinedAt
import Derived.RowKit3
import Derived.RowKitTokens
import Derived.LaidLaws
import Derived.Stop.LaidErr
import Derived.Lib.LaidTab
import Derived.Lib.LaidCaseMet
import Derived.PinnedBridge
import Derived.Carry
namespace Go.Proofs.YthifdgddegpbjaaDoor
open Go.ChangeShapes Go.WideShapes Go.ChangeAt Go.RowKit
open Go.ChangeMaps (open_string shut_string)

/-! one start that fits -/
abbrev synS : ByteArray := { data := #[105, 110, 118, 97, 108, 105, 100, 32, 115, 121, 110, 116, 97, 120] }
abbrev rngS : ByteArray := { data := #[118, 97, 108, 117, 101, 32, 111, 117, 116, 32, 111, 102, 32, 114, 97, 110, 103, 101] }
def litV : DataW Unit → Value
  | .lit (.int k z) => Value.int k z
  | _ => undef
/-- a table of numbers, or of structs of numbers, as a row lists it, as cells -/
def tabCells : DataW Unit → Array Value
  | .agg ds => (ds.flatMap fun | .agg es => es.map litV | d => [litV d]).toArray
  | _ => #[]
noncomputable def low : Nat := (World.holding Tryd.prog default ⟨#[], #[], []⟩).heap.size
noncomputable def laidWorld (os : Os) : World :=
  let w0 := World.holding Tryd.prog os ⟨#[.cells #[.string rngS] 157, .cells #[.string synS] 157, .cells Lib.caseCells5 152], #[], []⟩
  let set (h : Array Obj) (g : Nat) (cs : Array Value) : Array Obj := h.modify g fun
      | .cells _ t frozen => .cells cs t frozen
      | o => o
  let h1 := set (set (set w0.heap 10 (tabCells Rows.laid_math_bits_deBruijn32tab)) 11 (tabCells Rows.laid_math_bits_deBruijn64tab)) 9 (tabCells Rows.laid_internal_strconv_uint64pow10)
  let h2 := set (set h1 8 #[.iface 155 (.pointer (some ⟨low, 0, none⟩))]) 7 #[.iface 155 (.pointer (some ⟨low + 1, 0, none⟩))]
  let h3 := set (set (set h2 0 (tabCells Rows.laid_metrolab_grades_ends)) 1 (tabCells Rows.laid_metrolab_grades_bases)) 2 (tabCells Rows.laid_metrolab_grades_factors)
  let h4 := set (set h3 6 (tabCells Rows.laid_unicode_utf8_acceptRanges)) 5 (tabCells Rows.laid_unicode_utf8_first)
  { w0 with heap := set h4 4 #[.slice (some ⟨low + 2, 0, none⟩) 336 336] }
/-- the list without the two last variables, and those -/
abbrev laidL : List (String × DataW Unit) := [("math/bits.deBruijn32tab", Rows.laid_math_bits_deBruijn32tab), ("math/bits.deBruijn64tab", Rows.laid_math_bits_deBruijn64tab), ("internal/strconv.uint64pow10", Rows.laid_internal_strconv_uint64pow10), ("unicode/utf8.acceptRanges", Rows.laid_unicode_utf8_acceptRanges), ("strconv.ErrRange", Rows.laid_strconv_ErrRange), ("strconv.ErrSyntax", Rows.laid_strconv_ErrSyntax), ("metrolab/grades.ends", Rows.laid_metrolab_grades_ends), ("metrolab/grades.bases", Rows.laid_metrolab_grades_bases), ("metrolab/grades.factors", Rows.laid_metrolab_grades_factors)]
abbrev laidF : String × DataW Unit := ("unicode/utf8.first", Rows.laid_unicode_utf8_first)
abbrev laidC : String × DataW Unit := ("unicode.CaseRanges", Rows.laid_unicode_CaseRanges)

theorem laidVars_parts {P : Program} {w : World} : ∀ {l l' : List (String × DataW Unit)} {ps : List MemPlace}, DataW.LaidVars P w (l ++ l') ps → ∃ p q, ps = p ++ q ∧ DataW.LaidVars P w l p ∧ DataW.LaidVars P w l' q
  | [], _, ps, h => ⟨[], ps, rfl, rfl, h⟩
  | (n, d) :: r, l', _, h => by
    obtain ⟨g, t, cs, fuel, p, q, h1, h2, h3, h4, h5, rfl⟩ := h
    obtain ⟨p2, q2, rfl, h6, h7⟩ := laidVars_parts h5
    exact ⟨MemPlace.row ⟨g, 0, none⟩ cs.size ++ p ++ p2, q2, by simp [List.append_assoc], ⟨g, t, cs, fuel, p, p2, h1, h2, h3, h4, h6, rfl⟩, h7⟩
theorem laidMet_swap {P : Program} {w : World} {l : List (String × DataW Unit)} {x y : String × DataW Unit} (h : laidMet P (l ++ ([x] ++ [y])) w) : laidMet P (l ++ ([y] ++ [x])) w := by
  obtain ⟨ps, h1, h2, h3⟩ := h
  obtain ⟨p, q, rfl, h4, h5⟩ := laidVars_parts h1
  obtain ⟨q1, q2, rfl, h6, h7⟩ := laidVars_parts h5
  have hp : (p ++ (q2 ++ q1)).Perm (p ++ (q1 ++ q2)) := List.Perm.append_left p List.perm_append_comm
  exact ⟨p ++ (q2 ++ q1), LaidVars_append h4 (LaidVars_append h7 h6), hp.nodup_iff.2 h2, fun b off hm => h3 b off (hp.mem_iff.1 hm)⟩
theorem laid_all (os : Os) (args : Array Value) : laidMet Tryd.prog (laidL ++ ([laidC] ++ [laidF])) ((laidWorld os).forCall (fun _ _ => 0) ⟨#[], args, []⟩).memory := by
  refine laidMet_swap ?_
  have := laidMet_with_case (ρ := Tryd.lays204_ren) { Tryd.lays204 with } Tryd.lays204.t206 ⟨by kernel_rfl, by kernel_rfl, by kernel_rfl, by kernel_rfl, by kernel_rfl, by kernel_rfl⟩
    (w := ((laidWorld os).forCall (fun _ _ => 0) ⟨#[], args, []⟩).memory) (l := laidL ++ [laidF]) 10 (by kernel_rfl) (by kernel_rfl) (by kernel_rfl) (low + 2) 152 (of_decide_eq_true (by kernel_rfl)) (by kernel_rfl) (by kernel_rfl) (by kernel_rfl)
  rw [List.append_assoc] at this
  rw [← Pinned.caseRanges_eq] at this
  exact this

theorem Tryd.gEnds : Tryd.prog.globalNamed "metrolab/grades.ends" = some 0 := by kernel_rfl
theorem Tryd.gBases : Tryd.prog.globalNamed "metrolab/grades.bases" = some 1 := by kernel_rfl
theorem Tryd.gFactors : Tryd.prog.globalNamed "metrolab/grades.factors" = some 2 := by kernel_rfl
theorem glo_of_laid {W : World} (hL : laidMet Tryd.prog (laidL ++ ([laidC] ++ [laidF])) W) : Glo W := by
  have h6 := laidMet.tail (laidMet.tail (laidMet.tail (laidMet.tail (laidMet.tail (laidMet.tail hL)))))
  have h7 := laidMet.tail h6
  have h8 := laidMet.tail h7
  have t1 : Lib.TabIs Tryd.prog W "metrolab/grades.ends" .i64 [3000, 6000, 10000, 18000, 30000, 50000, 80000, 100000] := Lib.tabIs_of_head Tryd.gEnds (t := 90) (by kernel_rfl) Tryd.underlying90 Tryd.underlying3 (by kernel_rfl) (by kernel_rfl) h6
  have t2 : Lib.TabIs Tryd.prog W "metrolab/grades.bases" .i64 [6, 8, 9, 11, 13, 16, 19, 22] := Lib.tabIs_of_head Tryd.gBases (t := 90) (by kernel_rfl) Tryd.underlying90 Tryd.underlying3 (by kernel_rfl) (by kernel_rfl) h7
  have t3 : Lib.TabIs Tryd.prog W "metrolab/grades.factors" .i64 [7, 10, 16, 25, 40, 64, 100, 160] := Lib.tabIs_of_head Tryd.gFactors (t := 90) (by kernel_rfl) Tryd.underlying90 Tryd.underlying3 (by kernel_rfl) (by kernel_rfl) h8
  refine ⟨fun i hi => ?_, fun i hi => ?_, fun i hi => ?_⟩
  · rw [t1.cell Tryd.gEnds i hi]
    rcases lt8 hi with rfl | rfl | rfl | rfl | rfl | rfl | rfl | rfl <;> rfl
  · rw [t2.cell Tryd.gBases i hi]
    rcases lt8 hi with rfl | rfl | rfl | rfl | rfl | rfl | rfl | rfl <;> rfl
  · rw [t3.cell Tryd.gFactors i hi]
    rcases lt8 hi with rfl | rfl | rfl | rfl | rfl | rfl | rfl | rfl <;> rfl

/-! a class, opened -/
theorem open_cls {P : Program} {w : World} {r : Reach} {base : Nat} {t tb ti : TypeId} {v : Value} {fs : Array Field} (hu : P.underlying t = some (.struct fs)) (ht : P.cellTypes P.depth t = some #[tb, ti, ti].toList) (hn : P.cellsOf t = 3)
    (hb : P.underlying tb = some .bool) (hi : P.underlying ti = some (.int .i64)) (h : Value.okWide P w r base t v) :
    ∃ (b : Bool) (x y : Int), (IntKind.i64.min ≤ x ∧ x ≤ IntKind.i64.max) ∧ (IntKind.i64.min ≤ y ∧ y ≤ IntKind.i64.max) ∧ v = .agg #[.bool b, .int .i64 x, .int .i64 y] := by
  unfold Value.okWide at h
  rw [hu] at h
  obtain ⟨cs, rfl, hsz, ts, hts, _, hc⟩ := h
  rw [hn] at hsz
  obtain rfl := Option.some.inj (ht.symm.trans hts)
  match cs, hsz with
  | ⟨[c0, c1, c2]⟩, _ =>
    obtain ⟨u0, e0, o0⟩ := hc 0 c0 rfl
    obtain ⟨u1, e1, o1⟩ := hc 1 c1 rfl
    obtain ⟨u2, e2, o2⟩ := hc 2 c2 rfl
    cases e0; cases e1; cases e2
    unfold Cell.okWide at o0 o1 o2
    rw [hb] at o0
    rw [hi] at o1 o2
    unfold Cell.ok at o0 o1 o2
    rw [hb] at o0
    rw [hi] at o1 o2
    cases c0 <;> simp at o0
    cases c1 <;> simp at o1
    cases c2 <;> simp at o2
    obtain ⟨rfl, o1⟩ := o1
    obtain ⟨rfl, o2⟩ := o2
    exact ⟨_, _, _, o1, o2, rfl⟩
end Go.Proofs.YthifdgddegpbjaaDoor
