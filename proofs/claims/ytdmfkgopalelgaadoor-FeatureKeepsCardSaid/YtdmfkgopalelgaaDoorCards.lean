/-
  DERIVED. GIVEN WITH THE SEED: THE CARDS: each row of YtdmfkgopalelgaaDoorRows.lean that lists a variable, with what it lists TIED to the program's text (the seventh form; the later family's looks); each row that meets fmt, with fmt's text TOLD by the authors' own Lean function (tested against real Go, not proved from fmt's source: count such statements apart). THE CARD IS WHAT COUNTS. Prove the row's statement (the work); the ties are given (YtdmfkgopalelgaaDoorTie.lean); close each card by the builder's one call (the guide's Derived/Test/ToyasCard.lean, 'card_holds'). Laid BY PROGRAM, IN A SANDBOX (cutbox-door.mjs). By AI agents, Wed Nov 11 2026. No macro, syntax, notation, axiom, sorry.
-/
import Derived.Test.YtdmfkgopalelgaaDoorRows
import GoSem.ClaimSeven
namespace Go.Proofs.YtdmfkgopalelgaaDoor
namespace Rows

/-- THE TIED CARD OF 'metrolablaw18.FeatureChecks'. -/
def featureChecksCard : Claim7 := { stood := { row := featureChecksRow, standIns := [], harness := (true, "f64e4ed54b71e378a0a44b42d4bac7a1deac99a27cbec671ca07fae1cb5c402a"), looks := false }, kinds := [], alts := [], laidByText := true, laidKinds := [.data], laidTests := true, laidLooks := .later }
def FeatureChecksCardSaid : Prop := Claim7.holds Tryd.pinned (.plain (OpenSpec.ofChange featureChecksSpec)) featureChecksCard

/-- THE TIED CARD OF 'metrolablaw18.FeatureReaches'. -/
def featureReachesCard : Claim7 := { stood := { row := featureReachesRow, standIns := [], harness := (true, "f64e4ed54b71e378a0a44b42d4bac7a1deac99a27cbec671ca07fae1cb5c402a"), looks := false }, kinds := [], alts := [], laidByText := true, laidKinds := [.data], laidTests := true, laidLooks := .later }
def FeatureReachesCardSaid : Prop := Claim7.holds Tryd.pinned (.plain (OpenSpec.ofChange featureReachesSpec)) featureReachesCard

/-- THE TIED CARD OF 'metrolablaw18.FeatureMoves'. -/
def featureMovesCard : Claim7 := { stood := { row := featureMovesRow, standIns := [], harness := (true, "f64e4ed54b71e378a0a44b42d4bac7a1deac99a27cbec671ca07fae1cb5c402a"), looks := false }, kinds := [], alts := [], laidByText := true, laidKinds := [.data], laidTests := true, laidLooks := .later }
def FeatureMovesCardSaid : Prop := Claim7.holds Tryd.pinned (.plain (OpenSpec.ofChange featureMovesSpec)) featureMovesCard

/-- THE TIED CARD OF 'metrolablaw18.FeatureCompares'. -/
def featureComparesCard : Claim7 := { stood := { row := featureComparesRow, standIns := [], harness := (true, "f64e4ed54b71e378a0a44b42d4bac7a1deac99a27cbec671ca07fae1cb5c402a"), looks := false }, kinds := [], alts := [], laidByText := true, laidKinds := [.data], laidTests := true, laidLooks := .later }
def FeatureComparesCardSaid : Prop := Claim7.holds Tryd.pinned (.plain (OpenSpec.ofChange featureComparesSpec)) featureComparesCard

/-- THE TIED CARD OF 'metrolablaw18.FeatureEnds'. -/
def featureEndsCard : Claim7 := { stood := { row := featureEndsRow, standIns := [], harness := (true, "f64e4ed54b71e378a0a44b42d4bac7a1deac99a27cbec671ca07fae1cb5c402a"), looks := false }, kinds := [], alts := [], laidByText := true, laidKinds := [.data], laidTests := true, laidLooks := .later }
def FeatureEndsCardSaid : Prop := Claim7.holds Tryd.pinned (.plain (OpenSpec.ofChange featureEndsSpec)) featureEndsCard

/-- THE TIED CARD OF 'metrolablaw18.FeatureReturns'. -/
def featureReturnsCard : Claim7 := { stood := { row := featureReturnsRow, standIns := [], harness := (true, "f64e4ed54b71e378a0a44b42d4bac7a1deac99a27cbec671ca07fae1cb5c402a"), looks := false }, kinds := [], alts := [], laidByText := true, laidKinds := [.data], laidTests := true, laidLooks := .later }
def FeatureReturnsCardSaid : Prop := Claim7.holds Tryd.pinned (.plain (OpenSpec.ofChange featureReturnsSpec)) featureReturnsCard

/-- THE TIED CARD OF 'metrolablaw18.FeatureKeeps'. -/
def featureKeepsCard : Claim7 := { stood := { row := featureKeepsRow, standIns := [], harness := (true, "f64e4ed54b71e378a0a44b42d4bac7a1deac99a27cbec671ca07fae1cb5c402a"), looks := false }, kinds := [], alts := [], laidByText := true, laidKinds := [.data], laidTests := true, laidLooks := .later }
def FeatureKeepsCardSaid : Prop := Claim7.holds Tryd.pinned (.plain (OpenSpec.ofChange featureKeepsSpec)) featureKeepsCard

/-- THE SECOND FORM's CARD OF 'metrolablaw18.FeatureChecks'. -/
def featureChecksUptoCard : Claim7 := { stood := { row := featureChecksUptoRow, standIns := [], harness := (true, "f64e4ed54b71e378a0a44b42d4bac7a1deac99a27cbec671ca07fae1cb5c402a"), looks := false }, kinds := [], alts := [], laidByText := true, laidKinds := [.data], laidTests := true, laidLooks := .later }
def FeatureChecksUptoCardSaid : Prop := Claim7.holds Tryd.pinned (.plain (OpenSpec.upto featureChecksSpec)) featureChecksUptoCard

/-- THE SECOND FORM's CARD OF 'metrolablaw18.FeatureReaches'. -/
def featureReachesUptoCard : Claim7 := { stood := { row := featureReachesUptoRow, standIns := [], harness := (true, "f64e4ed54b71e378a0a44b42d4bac7a1deac99a27cbec671ca07fae1cb5c402a"), looks := false }, kinds := [], alts := [], laidByText := true, laidKinds := [.data], laidTests := true, laidLooks := .later }
def FeatureReachesUptoCardSaid : Prop := Claim7.holds Tryd.pinned (.plain (OpenSpec.upto featureReachesSpec)) featureReachesUptoCard

/-- THE SECOND FORM's CARD OF 'metrolablaw18.FeatureMoves'. -/
def featureMovesUptoCard : Claim7 := { stood := { row := featureMovesUptoRow, standIns := [], harness := (true, "f64e4ed54b71e378a0a44b42d4bac7a1deac99a27cbec671ca07fae1cb5c402a"), looks := false }, kinds := [], alts := [], laidByText := true, laidKinds := [.data], laidTests := true, laidLooks := .later }
def FeatureMovesUptoCardSaid : Prop := Claim7.holds Tryd.pinned (.plain (OpenSpec.upto featureMovesSpec)) featureMovesUptoCard

/-- THE SECOND FORM's CARD OF 'metrolablaw18.FeatureCompares'. -/
def featureComparesUptoCard : Claim7 := { stood := { row := featureComparesUptoRow, standIns := [], harness := (true, "f64e4ed54b71e378a0a44b42d4bac7a1deac99a27cbec671ca07fae1cb5c402a"), looks := false }, kinds := [], alts := [], laidByText := true, laidKinds := [.data], laidTests := true, laidLooks := .later }
def FeatureComparesUptoCardSaid : Prop := Claim7.holds Tryd.pinned (.plain (OpenSpec.upto featureComparesSpec)) featureComparesUptoCard

/-- THE SECOND FORM's CARD OF 'metrolablaw18.FeatureEnds'. -/
def featureEndsUptoCard : Claim7 := { stood := { row := featureEndsUptoRow, standIns := [], harness := (true, "f64e4ed54b71e378a0a44b42d4bac7a1deac99a27cbec671ca07fae1cb5c402a"), looks := false }, kinds := [], alts := [], laidByText := true, laidKinds := [.data], laidTests := true, laidLooks := .later }
def FeatureEndsUptoCardSaid : Prop := Claim7.holds Tryd.pinned (.plain (OpenSpec.upto featureEndsSpec)) featureEndsUptoCard

/-- THE SECOND FORM's CARD OF 'metrolablaw18.FeatureReturns'. -/
def featureReturnsUptoCard : Claim7 := { stood := { row := featureReturnsUptoRow, standIns := [], harness := (true, "f64e4ed54b71e378a0a44b42d4bac7a1deac99a27cbec671ca07fae1cb5c402a"), looks := false }, kinds := [], alts := [], laidByText := true, laidKinds := [.data], laidTests := true, laidLooks := .later }
def FeatureReturnsUptoCardSaid : Prop := Claim7.holds Tryd.pinned (.plain (OpenSpec.upto featureReturnsSpec)) featureReturnsUptoCard

/-- THE SECOND FORM's CARD OF 'metrolablaw18.FeatureKeeps'. -/
def featureKeepsUptoCard : Claim7 := { stood := { row := featureKeepsUptoRow, standIns := [], harness := (true, "f64e4ed54b71e378a0a44b42d4bac7a1deac99a27cbec671ca07fae1cb5c402a"), looks := false }, kinds := [], alts := [], laidByText := true, laidKinds := [.data], laidTests := true, laidLooks := .later }
def FeatureKeepsUptoCardSaid : Prop := Claim7.holds Tryd.pinned (.plain (OpenSpec.upto featureKeepsSpec)) featureKeepsUptoCard
end Rows
end Go.Proofs.YtdmfkgopalelgaaDoor
