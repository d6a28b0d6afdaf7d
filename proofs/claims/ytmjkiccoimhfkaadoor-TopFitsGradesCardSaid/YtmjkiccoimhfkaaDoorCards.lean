/-
  DERIVED. GIVEN WITH THE SEED: THE CARDS: each row of YtmjkiccoimhfkaaDoorRows.lean that lists a variable, with what it lists TIED to the program's text (the seventh form; the later family's looks); each row that meets fmt, with fmt's text TOLD by the authors' own Lean function (tested against real Go, not proved from fmt's source: count such statements apart). THE CARD IS WHAT COUNTS. Prove the row's statement (the work); the ties are given (YtmjkiccoimhfkaaDoorTie.lean); close each card by the builder's one call (the guide's Derived/Test/ToyasCard.lean, 'card_holds'). Laid BY PROGRAM, IN A SANDBOX (cutbox-door.mjs). By AI agents, Wed Nov 11 2026. No macro, syntax, notation, axiom, sorry.
-/
import Derived.Test.YtmjkiccoimhfkaaDoorRows
import GoSem.ClaimSeven
namespace Go.Proofs.YtmjkiccoimhfkaaDoor
namespace Rows

/-- THE TIED CARD OF 'metrolabtop.TopFitsLetters'. -/
def topFitsLettersCard : Claim7 := { stood := { row := topFitsLettersRow, standIns := [], harness := (true, "2b59b877e0c186d03a656c525a500defa916aa0778057b8dadabd83b5ea917cd"), looks := false }, kinds := [], alts := [], laidByText := true, laidKinds := [.data, .data, .data], laidTests := true, laidLooks := .later }
def TopFitsLettersCardSaid : Prop := Claim7.holds Tryd.pinned (.plain (OpenSpec.ofChange topFitsLettersSpec)) topFitsLettersCard

/-- THE TIED CARD OF 'metrolabtop.TopFitsGrades'. -/
def topFitsGradesCard : Claim7 := { stood := { row := topFitsGradesRow, standIns := [], harness := (true, "2b59b877e0c186d03a656c525a500defa916aa0778057b8dadabd83b5ea917cd"), looks := false }, kinds := [], alts := [], laidByText := true, laidKinds := [.data, .data, .data], laidTests := true, laidLooks := .later }
def TopFitsGradesCardSaid : Prop := Claim7.holds Tryd.pinned (.plain (OpenSpec.ofChange topFitsGradesSpec)) topFitsGradesCard

/-- THE TIED CARD OF 'metrolabtop.TopFitsChosen'. -/
def topFitsChosenCard : Claim7 := { stood := { row := topFitsChosenRow, standIns := [], harness := (true, "2b59b877e0c186d03a656c525a500defa916aa0778057b8dadabd83b5ea917cd"), looks := false }, kinds := [], alts := [], laidByText := true, laidKinds := [.data, .data, .data], laidTests := true, laidLooks := .later }
def TopFitsChosenCardSaid : Prop := Claim7.holds Tryd.pinned (.plain (OpenSpec.ofChange topFitsChosenSpec)) topFitsChosenCard

/-- THE SECOND FORM's CARD OF 'metrolabtop.TopFitsLetters'. -/
def topFitsLettersUptoCard : Claim7 := { stood := { row := topFitsLettersUptoRow, standIns := [], harness := (true, "2b59b877e0c186d03a656c525a500defa916aa0778057b8dadabd83b5ea917cd"), looks := false }, kinds := [], alts := [], laidByText := true, laidKinds := [.data, .data, .data], laidTests := true, laidLooks := .later }
def TopFitsLettersUptoCardSaid : Prop := Claim7.holds Tryd.pinned (.plain (OpenSpec.upto topFitsLettersSpec)) topFitsLettersUptoCard

/-- THE SECOND FORM's CARD OF 'metrolabtop.TopFitsGrades'. -/
def topFitsGradesUptoCard : Claim7 := { stood := { row := topFitsGradesUptoRow, standIns := [], harness := (true, "2b59b877e0c186d03a656c525a500defa916aa0778057b8dadabd83b5ea917cd"), looks := false }, kinds := [], alts := [], laidByText := true, laidKinds := [.data, .data, .data], laidTests := true, laidLooks := .later }
def TopFitsGradesUptoCardSaid : Prop := Claim7.holds Tryd.pinned (.plain (OpenSpec.upto topFitsGradesSpec)) topFitsGradesUptoCard

/-- THE SECOND FORM's CARD OF 'metrolabtop.TopFitsChosen'. -/
def topFitsChosenUptoCard : Claim7 := { stood := { row := topFitsChosenUptoRow, standIns := [], harness := (true, "2b59b877e0c186d03a656c525a500defa916aa0778057b8dadabd83b5ea917cd"), looks := false }, kinds := [], alts := [], laidByText := true, laidKinds := [.data, .data, .data], laidTests := true, laidLooks := .later }
def TopFitsChosenUptoCardSaid : Prop := Claim7.holds Tryd.pinned (.plain (OpenSpec.upto topFitsChosenSpec)) topFitsChosenUptoCard
end Rows
end Go.Proofs.YtmjkiccoimhfkaaDoor
