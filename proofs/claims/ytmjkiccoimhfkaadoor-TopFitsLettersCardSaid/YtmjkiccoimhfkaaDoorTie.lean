/-
  DERIVED. GIVEN WITH THE SEED: THE PROGRAM's TIES (one call each: nine closed facts by the kernel) AND EACH ROW's TIE, after the 31st guide's Derived/Test/Toyas{Tie, Card}.lean. No idea stands in it: it is a product of the set-up. Laid BY PROGRAM, IN A SANDBOX (cutbox-door.mjs). By AI agents, Wed Nov 11 2026. No macro, syntax, notation, axiom, sorry.
-/
import Derived.Test.YtmjkiccoimhfkaaDoorRows
import Derived.LaidByTextLater
import Derived.SevenTiedAt
import Derived.LaidSub
import Derived.LaidOnce
namespace Go.Proofs.YtmjkiccoimhfkaaDoor
open Go
set_option maxRecDepth 100000
theorem seatTie1 : Tryd.prog.laidByTextLater [("metrolab/grades.ends", Rows.laid_metrolab_grades_ends), ("metrolab/grades.bases", Rows.laid_metrolab_grades_bases), ("metrolab/grades.factors", Rows.laid_metrolab_grades_factors)] [.data, .data, .data] true :=
  Program.laidByTextLater_by_one 24 8 9 (by kernel_rfl) (by kernel_rfl) (by kernel_rfl) (by kernel_rfl) (by kernel_rfl) (by kernel_rfl) (fun _ _ => by kernel_rfl)
theorem noOwnUnsafe : Tryd.pinned.checked.prog.headLifts.contains "ownunsafe" = false := by kernel_rfl
theorem tie : Tryd.prog.laidByTextLater [("metrolab/grades.ends", Rows.laid_metrolab_grades_ends), ("metrolab/grades.bases", Rows.laid_metrolab_grades_bases), ("metrolab/grades.factors", Rows.laid_metrolab_grades_factors)] [.data, .data, .data] true :=
  Program.laidByTextLater.sub seatTie1 ["metrolab/grades.ends", "metrolab/grades.bases", "metrolab/grades.factors"] (by kernel_rfl) (by kernel_rfl)
theorem topFitsLetters_row_tie : Rows.topFitsLettersRow.laidByTextAt .later Tryd.pinned [.data, .data, .data] true :=
  OpenClaim.laidByTextAt_later rfl rfl tie noOwnUnsafe
theorem topFitsGrades_row_tie : Rows.topFitsGradesRow.laidByTextAt .later Tryd.pinned [.data, .data, .data] true :=
  OpenClaim.laidByTextAt_later rfl rfl tie noOwnUnsafe
theorem topFitsChosen_row_tie : Rows.topFitsChosenRow.laidByTextAt .later Tryd.pinned [.data, .data, .data] true :=
  OpenClaim.laidByTextAt_later rfl rfl tie noOwnUnsafe
theorem topFitsLettersUpto_row_tie : Rows.topFitsLettersUptoRow.laidByTextAt .later Tryd.pinned [.data, .data, .data] true :=
  OpenClaim.laidByTextAt_later rfl rfl tie noOwnUnsafe
theorem topFitsGradesUpto_row_tie : Rows.topFitsGradesUptoRow.laidByTextAt .later Tryd.pinned [.data, .data, .data] true :=
  OpenClaim.laidByTextAt_later rfl rfl tie noOwnUnsafe
theorem topFitsChosenUpto_row_tie : Rows.topFitsChosenUptoRow.laidByTextAt .later Tryd.pinned [.data, .data, .data] true :=
  OpenClaim.laidByTextAt_later rfl rfl tie noOwnUnsafe
end Go.Proofs.YtmjkiccoimhfkaaDoor
