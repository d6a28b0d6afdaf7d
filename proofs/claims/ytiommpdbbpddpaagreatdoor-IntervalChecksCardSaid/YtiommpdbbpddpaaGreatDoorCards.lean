/-
  DERIVED. GIVEN WITH THE SEED: THE CARDS: each row of YtiommpdbbpddpaaGreatDoorRows.lean that lists a variable, with what it lists TIED to the program's text (the seventh form; the later family's looks); each row that meets fmt, with fmt's text TOLD by the authors' own Lean function (tested against real Go, not proved from fmt's source: count such statements apart). THE CARD IS WHAT COUNTS. Prove the row's statement (the work); the ties are given (YtiommpdbbpddpaaGreatDoorTie.lean); close each card by the builder's one call (the guide's Derived/Test/ToyasCard.lean, 'card_holds'). Laid BY PROGRAM, IN A SANDBOX (cutbox-door.mjs). By AI agents, Wed Nov 11 2026. No macro, syntax, notation, axiom, sorry.
-/
import Derived.Test.YtiommpdbbpddpaaGreatDoorRows
import GoSem.ClaimSeven
namespace Go.Proofs.YtiommpdbbpddpaaGreatDoor
namespace Rows

/-- THE TIED CARD OF 'metrolablaw03.IntervalChecks'. -/
def intervalChecksCard : Claim7 := { stood := { row := intervalChecksRow, standIns := [], harness := (true, "b7785c0a57b768e7d9d48b1316ab46d9c6af0f4189622fe44bc2b7bea38e09ab"), looks := false }, kinds := [], alts := [], laidByText := true, laidKinds := [.data, .data, .data], laidTests := true, laidLooks := .later }
def IntervalChecksCardSaid : Prop := Claim7.holds Tryz.pinned (.plain (OpenSpec.ofChange intervalChecksSpec)) intervalChecksCard

/-- THE SECOND FORM's CARD OF 'metrolablaw03.IntervalChecks'. -/
def intervalChecksUptoCard : Claim7 := { stood := { row := intervalChecksUptoRow, standIns := [], harness := (true, "b7785c0a57b768e7d9d48b1316ab46d9c6af0f4189622fe44bc2b7bea38e09ab"), looks := false }, kinds := [], alts := [], laidByText := true, laidKinds := [.data, .data, .data], laidTests := true, laidLooks := .later }
def IntervalChecksUptoCardSaid : Prop := Claim7.holds Tryz.pinned (.plain (OpenSpec.upto intervalChecksSpec)) intervalChecksUptoCard
end Rows
end Go.Proofs.YtiommpdbbpddpaaGreatDoor
