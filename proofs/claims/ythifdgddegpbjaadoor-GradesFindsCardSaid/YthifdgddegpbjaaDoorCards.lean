/-
  DERIVED. GIVEN WITH THE SEED: THE CARDS: each row of YthifdgddegpbjaaDoorRows.lean that lists a variable, with what it lists TIED to the program's text (the seventh form; the later family's looks); each row that meets fmt, with fmt's text TOLD by the authors' own Lean function (tested against real Go, not proved from fmt's source: count such statements apart). THE CARD IS WHAT COUNTS. Prove the row's statement (the work); the ties are given (YthifdgddegpbjaaDoorTie.lean); close each card by the builder's one call (the guide's Derived/Test/ToyasCard.lean, 'card_holds'). Laid BY PROGRAM, IN A SANDBOX (cutbox-door.mjs). By AI agents, Wed Nov 11 2026. No macro, syntax, notation, axiom, sorry.
-/
import Derived.Test.YthifdgddegpbjaaDoorRows
import GoSem.ClaimSeven
namespace Go.Proofs.YthifdgddegpbjaaDoor
namespace Rows

/-- THE TIED CARD OF 'metrolablaw15.GradesReads'. -/
def gradesReadsCard : Claim7 := { stood := { row := gradesReadsRow, standIns := [], harness := (true, "f060b9d9457f5e18dc34d65da8b5885946eecda2b2de2f3b418974f8dedcaa4a"), looks := true }, kinds := [], alts := [], laidByText := true, laidKinds := [.data, .data, .data, .data, .sentinel, .sentinel, .data, .data, .data, .pinned, .pinned], laidTests := true, laidLooks := .later }
def GradesReadsCardSaid : Prop := Claim7.holds Tryd.pinned (.plain (OpenSpec.ofChange gradesReadsSpec)) gradesReadsCard

/-- THE TIED CARD OF 'metrolablaw15.GradesMeasures'. -/
def gradesMeasuresCard : Claim7 := { stood := { row := gradesMeasuresRow, standIns := [], harness := (true, "f060b9d9457f5e18dc34d65da8b5885946eecda2b2de2f3b418974f8dedcaa4a"), looks := true }, kinds := [], alts := [], laidByText := true, laidKinds := [.data, .data, .data, .data, .sentinel, .sentinel, .data, .data, .data, .pinned, .pinned], laidTests := true, laidLooks := .later }
def GradesMeasuresCardSaid : Prop := Claim7.holds Tryd.pinned (.plain (OpenSpec.ofChange gradesMeasuresSpec)) gradesMeasuresCard

/-- THE TIED CARD OF 'metrolablaw15.GradesDeviates'. -/
def gradesDeviatesCard : Claim7 := { stood := { row := gradesDeviatesRow, standIns := [], harness := (true, "f060b9d9457f5e18dc34d65da8b5885946eecda2b2de2f3b418974f8dedcaa4a"), looks := true }, kinds := [], alts := [], laidByText := true, laidKinds := [.data, .data, .data, .data, .sentinel, .sentinel, .data, .data, .data, .pinned, .pinned], laidTests := true, laidLooks := .later }
def GradesDeviatesCardSaid : Prop := Claim7.holds Tryd.pinned (.plain (OpenSpec.ofChange gradesDeviatesSpec)) gradesDeviatesCard

/-- THE TIED CARD OF 'metrolablaw15.GradesFinds'. -/
def gradesFindsCard : Claim7 := { stood := { row := gradesFindsRow, standIns := [], harness := (true, "f060b9d9457f5e18dc34d65da8b5885946eecda2b2de2f3b418974f8dedcaa4a"), looks := true }, kinds := [], alts := [], laidByText := true, laidKinds := [.data, .data, .data, .data, .sentinel, .sentinel, .data, .data, .data, .pinned, .pinned], laidTests := true, laidLooks := .later }
def GradesFindsCardSaid : Prop := Claim7.holds Tryd.pinned (.plain (OpenSpec.ofChange gradesFindsSpec)) gradesFindsCard

/-- THE TIED CARD OF 'metrolablaw15.GradesGrows'. -/
def gradesGrowsCard : Claim7 := { stood := { row := gradesGrowsRow, standIns := [], harness := (true, "f060b9d9457f5e18dc34d65da8b5885946eecda2b2de2f3b418974f8dedcaa4a"), looks := true }, kinds := [], alts := [], laidByText := true, laidKinds := [.data, .data, .data, .data, .sentinel, .sentinel, .data, .data, .data, .pinned, .pinned], laidTests := true, laidLooks := .later }
def GradesGrowsCardSaid : Prop := Claim7.holds Tryd.pinned (.plain (OpenSpec.ofChange gradesGrowsSpec)) gradesGrowsCard

/-- THE TIED CARD OF 'metrolablaw15.GradesMirrors'. -/
def gradesMirrorsCard : Claim7 := { stood := { row := gradesMirrorsRow, standIns := [], harness := (true, "f060b9d9457f5e18dc34d65da8b5885946eecda2b2de2f3b418974f8dedcaa4a"), looks := true }, kinds := [], alts := [], laidByText := true, laidKinds := [.data, .data, .data, .data, .sentinel, .sentinel, .data, .data, .data, .pinned, .pinned], laidTests := true, laidLooks := .later }
def GradesMirrorsCardSaid : Prop := Claim7.holds Tryd.pinned (.plain (OpenSpec.ofChange gradesMirrorsSpec)) gradesMirrorsCard

/-- THE TIED CARD OF 'metrolablaw15.GradesReturns'. -/
def gradesReturnsCard : Claim7 := { stood := { row := gradesReturnsRow, standIns := [], harness := (true, "f060b9d9457f5e18dc34d65da8b5885946eecda2b2de2f3b418974f8dedcaa4a"), looks := true }, kinds := [], alts := [], laidByText := true, laidKinds := [.data, .data, .data, .data, .sentinel, .sentinel, .data, .data, .data, .pinned, .pinned], laidTests := true, laidLooks := .later }
def GradesReturnsCardSaid : Prop := Claim7.holds Tryd.pinned (.plain (OpenSpec.ofChange gradesReturnsSpec)) gradesReturnsCard

/-- THE TIED CARD OF 'metrolablaw15.GradesBounds'. -/
def gradesBoundsCard : Claim7 := { stood := { row := gradesBoundsRow, standIns := [], harness := (true, "f060b9d9457f5e18dc34d65da8b5885946eecda2b2de2f3b418974f8dedcaa4a"), looks := true }, kinds := [], alts := [], laidByText := true, laidKinds := [.data, .data, .data, .data, .sentinel, .sentinel, .data, .data, .data, .pinned, .pinned], laidTests := true, laidLooks := .later }
def GradesBoundsCardSaid : Prop := Claim7.holds Tryd.pinned (.plain (OpenSpec.ofChange gradesBoundsSpec)) gradesBoundsCard

/-- THE SECOND FORM's CARD OF 'metrolablaw15.GradesReads'. -/
def gradesReadsUptoCard : Claim7 := { stood := { row := gradesReadsUptoRow, standIns := [], harness := (true, "f060b9d9457f5e18dc34d65da8b5885946eecda2b2de2f3b418974f8dedcaa4a"), looks := true }, kinds := [], alts := [], laidByText := true, laidKinds := [.data, .data, .data, .data, .sentinel, .sentinel, .data, .data, .data, .pinned, .pinned], laidTests := true, laidLooks := .later }
def GradesReadsUptoCardSaid : Prop := Claim7.holds Tryd.pinned (.plain (OpenSpec.upto gradesReadsSpec)) gradesReadsUptoCard

/-- THE SECOND FORM's CARD OF 'metrolablaw15.GradesMeasures'. -/
def gradesMeasuresUptoCard : Claim7 := { stood := { row := gradesMeasuresUptoRow, standIns := [], harness := (true, "f060b9d9457f5e18dc34d65da8b5885946eecda2b2de2f3b418974f8dedcaa4a"), looks := true }, kinds := [], alts := [], laidByText := true, laidKinds := [.data, .data, .data, .data, .sentinel, .sentinel, .data, .data, .data, .pinned, .pinned], laidTests := true, laidLooks := .later }
def GradesMeasuresUptoCardSaid : Prop := Claim7.holds Tryd.pinned (.plain (OpenSpec.upto gradesMeasuresSpec)) gradesMeasuresUptoCard

/-- THE SECOND FORM's CARD OF 'metrolablaw15.GradesDeviates'. -/
def gradesDeviatesUptoCard : Claim7 := { stood := { row := gradesDeviatesUptoRow, standIns := [], harness := (true, "f060b9d9457f5e18dc34d65da8b5885946eecda2b2de2f3b418974f8dedcaa4a"), looks := true }, kinds := [], alts := [], laidByText := true, laidKinds := [.data, .data, .data, .data, .sentinel, .sentinel, .data, .data, .data, .pinned, .pinned], laidTests := true, laidLooks := .later }
def GradesDeviatesUptoCardSaid : Prop := Claim7.holds Tryd.pinned (.plain (OpenSpec.upto gradesDeviatesSpec)) gradesDeviatesUptoCard

/-- THE SECOND FORM's CARD OF 'metrolablaw15.GradesFinds'. -/
def gradesFindsUptoCard : Claim7 := { stood := { row := gradesFindsUptoRow, standIns := [], harness := (true, "f060b9d9457f5e18dc34d65da8b5885946eecda2b2de2f3b418974f8dedcaa4a"), looks := true }, kinds := [], alts := [], laidByText := true, laidKinds := [.data, .data, .data, .data, .sentinel, .sentinel, .data, .data, .data, .pinned, .pinned], laidTests := true, laidLooks := .later }
def GradesFindsUptoCardSaid : Prop := Claim7.holds Tryd.pinned (.plain (OpenSpec.upto gradesFindsSpec)) gradesFindsUptoCard

/-- THE SECOND FORM's CARD OF 'metrolablaw15.GradesGrows'. -/
def gradesGrowsUptoCard : Claim7 := { stood := { row := gradesGrowsUptoRow, standIns := [], harness := (true, "f060b9d9457f5e18dc34d65da8b5885946eecda2b2de2f3b418974f8dedcaa4a"), looks := true }, kinds := [], alts := [], laidByText := true, laidKinds := [.data, .data, .data, .data, .sentinel, .sentinel, .data, .data, .data, .pinned, .pinned], laidTests := true, laidLooks := .later }
def GradesGrowsUptoCardSaid : Prop := Claim7.holds Tryd.pinned (.plain (OpenSpec.upto gradesGrowsSpec)) gradesGrowsUptoCard

/-- THE SECOND FORM's CARD OF 'metrolablaw15.GradesMirrors'. -/
def gradesMirrorsUptoCard : Claim7 := { stood := { row := gradesMirrorsUptoRow, standIns := [], harness := (true, "f060b9d9457f5e18dc34d65da8b5885946eecda2b2de2f3b418974f8dedcaa4a"), looks := true }, kinds := [], alts := [], laidByText := true, laidKinds := [.data, .data, .data, .data, .sentinel, .sentinel, .data, .data, .data, .pinned, .pinned], laidTests := true, laidLooks := .later }
def GradesMirrorsUptoCardSaid : Prop := Claim7.holds Tryd.pinned (.plain (OpenSpec.upto gradesMirrorsSpec)) gradesMirrorsUptoCard

/-- THE SECOND FORM's CARD OF 'metrolablaw15.GradesReturns'. -/
def gradesReturnsUptoCard : Claim7 := { stood := { row := gradesReturnsUptoRow, standIns := [], harness := (true, "f060b9d9457f5e18dc34d65da8b5885946eecda2b2de2f3b418974f8dedcaa4a"), looks := true }, kinds := [], alts := [], laidByText := true, laidKinds := [.data, .data, .data, .data, .sentinel, .sentinel, .data, .data, .data, .pinned, .pinned], laidTests := true, laidLooks := .later }
def GradesReturnsUptoCardSaid : Prop := Claim7.holds Tryd.pinned (.plain (OpenSpec.upto gradesReturnsSpec)) gradesReturnsUptoCard

/-- THE SECOND FORM's CARD OF 'metrolablaw15.GradesBounds'. -/
def gradesBoundsUptoCard : Claim7 := { stood := { row := gradesBoundsUptoRow, standIns := [], harness := (true, "f060b9d9457f5e18dc34d65da8b5885946eecda2b2de2f3b418974f8dedcaa4a"), looks := true }, kinds := [], alts := [], laidByText := true, laidKinds := [.data, .data, .data, .data, .sentinel, .sentinel, .data, .data, .data, .pinned, .pinned], laidTests := true, laidLooks := .later }
def GradesBoundsUptoCardSaid : Prop := Claim7.holds Tryd.pinned (.plain (OpenSpec.upto gradesBoundsSpec)) gradesBoundsUptoCard
end Rows
end Go.Proofs.YthifdgddegpbjaaDoor
