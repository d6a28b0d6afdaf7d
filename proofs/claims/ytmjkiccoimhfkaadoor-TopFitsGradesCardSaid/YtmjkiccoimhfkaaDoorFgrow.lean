/- A start that fits the rows of T5's fits: the three tables of grades as their initialisers lay them; and what the list says of them. -/
import Derived.Test.YtmjkiccoimhfkaaDoorRows
import Derived.Test.YtmjkiccoimhfkaaDoorFg
import Derived.ProofKit
import Derived.SizedLaws
import Derived.ChangeSame
import Derived.ChangeVars
import Derived.ChangeMaps5
import Derived.JoinedOf
import Derived.JoinedAt
import Derived.RowKit3
import Derived.RowKitTokens
import Derived.LaidLaws
import Derived.Lib.LaidTab
import Derived.Stop.LaidErr
import Derived.OpenShut
namespace Go.Proofs.YtmjkiccoimhfkaaDoor
open Go.ChangeShapes Go.WideShapes Go.ChangeAt Go.RowKit
open Go.ChangeMaps (open_string shut_string)

def litV : DataW Unit → Value
  | .lit (.int k z) => Value.int k z
  | _ => undef
/-- a table of numbers, or of structs of numbers, as a row lists it, as cells -/
def tabCells : DataW Unit → Array Value
  | .agg ds => (ds.flatMap fun | .agg es => es.map litV | d => [litV d]).toArray
  | _ => #[]
noncomputable def laidWorld (os : Os) : World :=
  let w0 := World.holding Tryd.prog os ⟨#[], #[], []⟩
  let set (h : Array Obj) (g : Nat) (cs : Array Value) : Array Obj := h.modify g fun
      | .cells _ t frozen => .cells cs t frozen
      | o => o
  { w0 with heap := set (set (set w0.heap 2 (tabCells Rows.laid_metrolab_grades_ends)) 0 (tabCells Rows.laid_metrolab_grades_bases)) 1 (tabCells Rows.laid_metrolab_grades_factors) }
theorem Tryd.gEnds : Tryd.prog.globalNamed "metrolab/grades.ends" = some 2 := by kernel_rfl
theorem Tryd.gBases : Tryd.prog.globalNamed "metrolab/grades.bases" = some 0 := by kernel_rfl
theorem Tryd.gFactors : Tryd.prog.globalNamed "metrolab/grades.factors" = some 1 := by kernel_rfl
theorem gl_of_laid {W : World} (hL : laidMet Tryd.prog [("metrolab/grades.ends", Rows.laid_metrolab_grades_ends), ("metrolab/grades.bases", Rows.laid_metrolab_grades_bases), ("metrolab/grades.factors", Rows.laid_metrolab_grades_factors)] W) : Gl W := by
  have h7 := laidMet.tail hL
  have h8 := laidMet.tail h7
  have t1 : Lib.TabIs Tryd.prog W "metrolab/grades.ends" .i64 [3000, 6000, 10000, 18000, 30000, 50000, 80000, 100000] := Lib.tabIs_of_head Tryd.gEnds (t := 80) (by kernel_rfl) Tryd.underlying80 Tryd.underlying3 (by kernel_rfl) (by kernel_rfl) hL
  have t2 : Lib.TabIs Tryd.prog W "metrolab/grades.bases" .i64 [6, 8, 9, 11, 13, 16, 19, 22] := Lib.tabIs_of_head Tryd.gBases (t := 80) (by kernel_rfl) Tryd.underlying80 Tryd.underlying3 (by kernel_rfl) (by kernel_rfl) h7
  have t3 : Lib.TabIs Tryd.prog W "metrolab/grades.factors" .i64 [7, 10, 16, 25, 40, 64, 100, 160] := Lib.tabIs_of_head Tryd.gFactors (t := 80) (by kernel_rfl) Tryd.underlying80 Tryd.underlying3 (by kernel_rfl) (by kernel_rfl) h8
  refine ⟨fun i hi => ?_, fun i hi => ?_, fun i hi => ?_⟩
  · rw [t1.cell Tryd.gEnds i hi]
    rcases lt8 hi with rfl | rfl | rfl | rfl | rfl | rfl | rfl | rfl <;> rfl
  · rw [t2.cell Tryd.gBases i hi]
    rcases lt8 hi with rfl | rfl | rfl | rfl | rfl | rfl | rfl | rfl <;> rfl
  · rw [t3.cell Tryd.gFactors i hi]
    rcases lt8 hi with rfl | rfl | rfl | rfl | rfl | rfl | rfl | rfl <;> rfl

end Go.Proofs.YtmjkiccoimhfkaaDoor
