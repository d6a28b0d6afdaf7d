/-
  NARROWER THAN 'FOR EVERY INPUT', by the rows' own cells (each row's printed sentence says how): TopFitsLetters: laid · TopFitsGrades: laid · TopFitsChosen: laid.
  DERIVED. THE GIVEN ROWS OF THIS SEAT. 3 by the template 'for every input the law returns true; each argument reads behind the call as it read before'; 0 by the template 'total and deterministic' (their statements: YtmjkiccoimhfkaaDoorTotals.lean).
  GIVEN WITH THE SEED: the statements are not yours to turn. If you find one false, say at which input.
  Laid BY PROGRAM, IN A SANDBOX (cutbox-rows.mjs): the forced cells as the released guide's own fill.sh prints them over the translation 3a5d3a9e8a559b32… (all of the seat's roots in one cut). By AI agents, Wed Nov 11 2026. No macro, syntax, notation, axiom, sorry.
-/
import Derived.Test.YtmjkiccoimhfkaaDoorChecked
import GoSem.Claim
import GoSem.ClaimJoined
import GoSem.ClaimMapViews
import Derived.JoinedTies
import Derived.KernelRfl
namespace Go.Proofs.YtmjkiccoimhfkaaDoor
/- THE CELL 'sum', in the pinned program and in every row, IS THE sha256 OF THE DUMP (.gsa) THAT YtmjkiccoimhfkaaDoorProg.lean LOADS. Nothing in Lean hashes anything: it is a label: what it is worth is what the hold of that sum in a sandbox is worth. -/
noncomputable def Tryd.pinned : Pinned := { name := "ytmjkiccoimhfkaadoor", sum := "3a5d3a9e8a559b32219fdaa1c82ecc035ecc044f9d4ec809b997b1cd3fa57967", checked := Tryd.checked }
namespace Rows
def none {H : Type} : Left H := { results := [], args := [] }

/- WHAT THE LISTED PACKAGE-LEVEL VARIABLES READ AS WHEN THE CALL BEGINS. Each datum BY PROGRAM (the guide's laid-datum.mjs) off the statement by which the dump's own 'gosem.cut.vars' lays the variable. In a bare row this is a premise. The card (YtmjkiccoimhfkaaDoorCards.lean) ties it to the program's text. -/
def laid_metrolab_grades_ends {H : Type} : DataW H := .agg [.lit (.int .i64 3000), .lit (.int .i64 6000), .lit (.int .i64 10000), .lit (.int .i64 18000), .lit (.int .i64 30000), .lit (.int .i64 50000), .lit (.int .i64 80000), .lit (.int .i64 100000)]
def laid_metrolab_grades_bases {H : Type} : DataW H := .agg [.lit (.int .i64 6), .lit (.int .i64 8), .lit (.int .i64 9), .lit (.int .i64 11), .lit (.int .i64 13), .lit (.int .i64 16), .lit (.int .i64 19), .lit (.int .i64 22)]
def laid_metrolab_grades_factors {H : Type} : DataW H := .agg [.lit (.int .i64 7), .lit (.int .i64 10), .lit (.int .i64 16), .lit (.int .i64 25), .lit (.int .i64 40), .lit (.int .i64 64), .lit (.int .i64 100), .lit (.int .i64 160)]

/-- 'metrolabtop.TopFitsLetters': WHATEVER THE INPUT: true; the input reads as it did. -/
def topFitsLettersSpec : ChangeSpec := { name := "topFitsLetters", fn := fun _ => fun
  | [d] => { results := [.lit (.bool true)], args := [d] }
  | _ => none }
def topFitsLettersRow : OpenClaim := { program := "ytmjkiccoimhfkaadoor", sum := "3a5d3a9e8a559b32219fdaa1c82ecc035ecc044f9d4ec809b997b1cd3fa57967", func := "metrolab/metrolabtop.TopFitsLetters", spec := "topFitsLetters", unfollowed := true, recurses := true, named := ["metrolab/grades.bases", "metrolab/grades.factors", "metrolab/grades.ends"], apart := false, laid := [("metrolab/grades.ends", laid_metrolab_grades_ends), ("metrolab/grades.bases", laid_metrolab_grades_bases), ("metrolab/grades.factors", laid_metrolab_grades_factors)] }
def TopFitsLettersSaid : Prop := topFitsLettersRow.holds Tryd.pinned (OpenSpec.ofChange topFitsLettersSpec)

/-- ITS FALSE NEIGHBOUR: 'it returns false'. Refute it at one input. -/
def topFitsLettersWrong : ChangeSpec := { name := "topFitsLetters", fn := fun _ => fun
  | [d] => { results := [.lit (.bool false)], args := [d] }
  | _ => none }
def TopFitsLettersWrongFalsely : Prop := topFitsLettersRow.holds Tryd.pinned (OpenSpec.ofChange topFitsLettersWrong)

/-- 'metrolabtop.TopFitsGrades': WHATEVER THE INPUT: true; the input reads as it did. -/
def topFitsGradesSpec : ChangeSpec := { name := "topFitsGrades", fn := fun _ => fun
  | [d] => { results := [.lit (.bool true)], args := [d] }
  | _ => none }
def topFitsGradesRow : OpenClaim := { program := "ytmjkiccoimhfkaadoor", sum := "3a5d3a9e8a559b32219fdaa1c82ecc035ecc044f9d4ec809b997b1cd3fa57967", func := "metrolab/metrolabtop.TopFitsGrades", spec := "topFitsGrades", unfollowed := true, recurses := true, named := ["metrolab/grades.bases", "metrolab/grades.factors", "metrolab/grades.ends"], apart := false, laid := [("metrolab/grades.ends", laid_metrolab_grades_ends), ("metrolab/grades.bases", laid_metrolab_grades_bases), ("metrolab/grades.factors", laid_metrolab_grades_factors)] }
def TopFitsGradesSaid : Prop := topFitsGradesRow.holds Tryd.pinned (OpenSpec.ofChange topFitsGradesSpec)

/-- ITS FALSE NEIGHBOUR: 'it returns false'. Refute it at one input. -/
def topFitsGradesWrong : ChangeSpec := { name := "topFitsGrades", fn := fun _ => fun
  | [d] => { results := [.lit (.bool false)], args := [d] }
  | _ => none }
def TopFitsGradesWrongFalsely : Prop := topFitsGradesRow.holds Tryd.pinned (OpenSpec.ofChange topFitsGradesWrong)

/-- 'metrolabtop.TopFitsChosen': WHATEVER THE INPUT: true; the input reads as it did. -/
def topFitsChosenSpec : ChangeSpec := { name := "topFitsChosen", fn := fun _ => fun
  | [d1, d2, d3] => { results := [.lit (.bool true)], args := [d1, d2, d3] }
  | _ => none }
def topFitsChosenRow : OpenClaim := { program := "ytmjkiccoimhfkaadoor", sum := "3a5d3a9e8a559b32219fdaa1c82ecc035ecc044f9d4ec809b997b1cd3fa57967", func := "metrolab/metrolabtop.TopFitsChosen", spec := "topFitsChosen", inPlace := ["internal/bytealg.IndexByteString", "internal/bytealg.IndexString"], unfollowed := true, recurses := true, named := ["metrolab/grades.bases", "metrolab/grades.factors", "metrolab/grades.ends", "internal/bytealg.MaxLen"], apart := false, laid := [("metrolab/grades.ends", laid_metrolab_grades_ends), ("metrolab/grades.bases", laid_metrolab_grades_bases), ("metrolab/grades.factors", laid_metrolab_grades_factors)] }
def TopFitsChosenSaid : Prop := topFitsChosenRow.holds Tryd.pinned (OpenSpec.ofChange topFitsChosenSpec)

/-- ITS FALSE NEIGHBOUR: 'it returns false'. Refute it at one input. -/
def topFitsChosenWrong : ChangeSpec := { name := "topFitsChosen", fn := fun _ => fun
  | [d1, d2, d3] => { results := [.lit (.bool false)], args := [d1, d2, d3] }
  | _ => none }
def TopFitsChosenWrongFalsely : Prop := topFitsChosenRow.holds Tryd.pinned (OpenSpec.ofChange topFitsChosenWrong)

/- THE SECOND FORM. 'bulk': how many values and letters a reading holds, each counted each time it is reached (what is shared counts as often as it is met; a slice's spare places count too). A statement '..UptoSaid' is the law's where the arguments, and the package variables that the reading takes, are together of bulk at most 1048576: NARROWER than '..Said'. Prove '..Said' where nothing that the law and all that it calls make is longer than what came in: it says more and counts as full. Else prove '..UptoSaid'. A law counts once. -/
mutual
def uptoBulk {H : Type} : DataW H → Nat
  | .lit (.string bytes) => bytes.length + 1
  | .lit _ => 1
  | .nil => 1
  | .ptr d => uptoBulk d + 1
  | .slice elems spare => uptoBulkAll elems + uptoBulkAll spare + 1
  | .agg parts => uptoBulkAll parts + 1
  | .iface _ d => uptoBulk d + 1
  | .map entries => uptoBulkEntries entries + 1
  | .held _ => 1
def uptoBulkAll {H : Type} : List (DataW H) → Nat
  | [] => 0
  | d :: r => uptoBulk d + uptoBulkAll r
def uptoBulkEntries {H : Type} : List (Lit × DataW H) → Nat
  | [] => 0
  | x :: r => uptoBulkEntry x + uptoBulkEntries r
def uptoBulkEntry {H : Type} : Lit × DataW H → Nat
  | (.string bytes, d) => bytes.length + uptoBulk d + 1
  | (_, d) => uptoBulk d + 1
 end
def uptoSmall : (H : Type) → List (DataW H) → Bool := fun _ ds => decide (uptoBulkAll ds ≤ 1048576)
def OpenSpec.upto (s : _root_.Go.ChangeSpec) : _root_.Go.OpenSpec := { _root_.Go.OpenSpec.ofChange s with cond := some uptoSmall }

/-- 'metrolabtop.TopFitsLetters', WHERE WHAT IT READS IS OF BULK AT MOST 1048576: true; the input reads as it did. -/
def topFitsLettersUptoRow : OpenClaim := { program := "ytmjkiccoimhfkaadoor", sum := "3a5d3a9e8a559b32219fdaa1c82ecc035ecc044f9d4ec809b997b1cd3fa57967", func := "metrolab/metrolabtop.TopFitsLetters", spec := "topFitsLetters", unfollowed := true, recurses := true, named := ["metrolab/grades.bases", "metrolab/grades.factors", "metrolab/grades.ends"], apart := false, laid := [("metrolab/grades.ends", laid_metrolab_grades_ends), ("metrolab/grades.bases", laid_metrolab_grades_bases), ("metrolab/grades.factors", laid_metrolab_grades_factors)], narrowed := true }
def TopFitsLettersUptoSaid : Prop := topFitsLettersUptoRow.holds Tryd.pinned (OpenSpec.upto topFitsLettersSpec)

/-- 'metrolabtop.TopFitsGrades', WHERE WHAT IT READS IS OF BULK AT MOST 1048576: true; the input reads as it did. -/
def topFitsGradesUptoRow : OpenClaim := { program := "ytmjkiccoimhfkaadoor", sum := "3a5d3a9e8a559b32219fdaa1c82ecc035ecc044f9d4ec809b997b1cd3fa57967", func := "metrolab/metrolabtop.TopFitsGrades", spec := "topFitsGrades", unfollowed := true, recurses := true, named := ["metrolab/grades.bases", "metrolab/grades.factors", "metrolab/grades.ends"], apart := false, laid := [("metrolab/grades.ends", laid_metrolab_grades_ends), ("metrolab/grades.bases", laid_metrolab_grades_bases), ("metrolab/grades.factors", laid_metrolab_grades_factors)], narrowed := true }
def TopFitsGradesUptoSaid : Prop := topFitsGradesUptoRow.holds Tryd.pinned (OpenSpec.upto topFitsGradesSpec)

/-- 'metrolabtop.TopFitsChosen', WHERE WHAT IT READS IS OF BULK AT MOST 1048576: true; the input reads as it did. -/
def topFitsChosenUptoRow : OpenClaim := { program := "ytmjkiccoimhfkaadoor", sum := "3a5d3a9e8a559b32219fdaa1c82ecc035ecc044f9d4ec809b997b1cd3fa57967", func := "metrolab/metrolabtop.TopFitsChosen", spec := "topFitsChosen", inPlace := ["internal/bytealg.IndexByteString", "internal/bytealg.IndexString"], unfollowed := true, recurses := true, named := ["metrolab/grades.bases", "metrolab/grades.factors", "metrolab/grades.ends", "internal/bytealg.MaxLen"], apart := false, laid := [("metrolab/grades.ends", laid_metrolab_grades_ends), ("metrolab/grades.bases", laid_metrolab_grades_bases), ("metrolab/grades.factors", laid_metrolab_grades_factors)], narrowed := true }
def TopFitsChosenUptoSaid : Prop := topFitsChosenUptoRow.holds Tryd.pinned (OpenSpec.upto topFitsChosenSpec)

end Rows
end Go.Proofs.YtmjkiccoimhfkaaDoor
