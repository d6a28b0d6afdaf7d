/-
  DERIVED. GIVEN WITH THE SEED: THE CARDS: each row of YthjhjgglkooafaaGreatDoorRows.lean that lists a variable, with what it lists TIED to the program's text (the seventh form; the later family's looks); each row that meets fmt, with fmt's text TOLD by the authors' own Lean function (tested against real Go, not proved from fmt's source: count such statements apart). THE CARD IS WHAT COUNTS. Prove the row's statement (the work); the ties are given (YthjhjgglkooafaaGreatDoorTie.lean); close each card by the builder's one call (the guide's Derived/Test/ToyasCard.lean, 'card_holds'). Laid BY PROGRAM, IN A SANDBOX (cutbox-door.mjs). By AI agents, Wed Nov 11 2026. No macro, syntax, notation, axiom, sorry.
-/
import Derived.Test.YthjhjgglkooafaaGreatDoorRows
import GoSem.ClaimSeven
namespace Go.Proofs.YthjhjgglkooafaaGreatDoor
namespace Rows

/-- THE TIED CARD OF 'metrolabtop.TopNumbersCounted'. -/
def topNumbersCountedCard : Claim7 := { stood := { row := topNumbersCountedRow, standIns := [], harness := (true, "8ad5ce780d51b046d41853ecac05c64b898df480f8795efff9a25489e85e3bd9"), looks := true }, kinds := [], alts := [], laidByText := true, laidKinds := [.data, .data, .data, .sentinel, .sentinel], laidTests := true, laidLooks := .later }
def TopNumbersCountedCardSaid : Prop := Claim7.holds Tryz.pinned (.plain (OpenSpec.ofChange topNumbersCountedSpec)) topNumbersCountedCard

/-- THE SECOND FORM's CARD OF 'metrolabtop.TopNumbersCounted'. -/
def topNumbersCountedUptoCard : Claim7 := { stood := { row := topNumbersCountedUptoRow, standIns := [], harness := (true, "8ad5ce780d51b046d41853ecac05c64b898df480f8795efff9a25489e85e3bd9"), looks := true }, kinds := [], alts := [], laidByText := true, laidKinds := [.data, .data, .data, .sentinel, .sentinel], laidTests := true, laidLooks := .later }
def TopNumbersCountedUptoCardSaid : Prop := Claim7.holds Tryz.pinned (.plain (OpenSpec.upto topNumbersCountedSpec)) topNumbersCountedUptoCard
end Rows
end Go.Proofs.YthjhjgglkooafaaGreatDoor
