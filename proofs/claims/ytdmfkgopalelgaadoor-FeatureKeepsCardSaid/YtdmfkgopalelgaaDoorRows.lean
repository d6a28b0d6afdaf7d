/-
  NARROWER THAN 'FOR EVERY INPUT', by the rows' own cells (each row's printed sentence says how): FeatureChecks: laid · FeatureReaches: laid · FeatureMoves: laid · FeatureCompares: laid · FeatureEnds: laid · FeatureReturns: laid · FeatureKeeps: laid.
  DERIVED. THE GIVEN ROWS OF THIS SEAT. 7 by the template 'for every input the law returns true; each argument reads behind the call as it read before'; 0 by the template 'total and deterministic' (their statements: YtdmfkgopalelgaaDoorTotals.lean).
  GIVEN WITH THE SEED: the statements are not yours to turn. If you find one false, say at which input.
  Laid BY PROGRAM, IN A SANDBOX (cutbox-rows.mjs): the forced cells as the released guide's own fill.sh prints them over the translation d3d725e5bda63e30… (all of the seat's roots in one cut). By AI agents, Wed Nov 11 2026. No macro, syntax, notation, axiom, sorry.
-/
import Derived.Test.YtdmfkgopalelgaaDoorChecked
import GoSem.Claim
import GoSem.ClaimJoined
import GoSem.ClaimMapViews
import Derived.JoinedTies
import Derived.KernelRfl
namespace Go.Proofs.YtdmfkgopalelgaaDoor
/- THE CELL 'sum', in the pinned program and in every row, IS THE sha256 OF THE DUMP (.gsa) THAT YtdmfkgopalelgaaDoorProg.lean LOADS. Nothing in Lean hashes anything: it is a label: what it is worth is what the hold of that sum in a sandbox is worth. -/
noncomputable def Tryd.pinned : Pinned := { name := "ytdmfkgopalelgaadoor", sum := "d3d725e5bda63e30a23ee26ba743f975cd44bd6ca5a84b7bcc72e49a3dcba1a2", checked := Tryd.checked }
namespace Rows
def none {H : Type} : Left H := { results := [], args := [] }

/- WHAT THE LISTED PACKAGE-LEVEL VARIABLES READ AS WHEN THE CALL BEGINS. Each datum BY PROGRAM (the guide's laid-datum.mjs) off the statement by which the dump's own 'gosem.cut.vars' lays the variable. In a bare row this is a premise. The card (YtdmfkgopalelgaaDoorCards.lean) ties it to the program's text. -/
def laid_metrolab_feature_kinds {H : Type} : DataW H := .agg [.agg [.lit (.bool false), .lit (.bool true), .lit (.bool false)], .agg [.lit (.bool true), .lit (.bool false), .lit (.bool true)], .agg [.lit (.bool false), .lit (.bool false), .lit (.bool true)], .agg [.lit (.bool true), .lit (.bool true), .lit (.bool false)], .agg [.lit (.bool false), .lit (.bool true), .lit (.bool true)]]

/-- 'metrolablaw18.FeatureChecks': WHATEVER THE INPUT: true; the input reads as it did. -/
def featureChecksSpec : ChangeSpec := { name := "featureChecks", fn := fun _ => fun
  | [d] => { results := [.lit (.bool true)], args := [d] }
  | _ => none }
def featureChecksRow : OpenClaim := { program := "ytdmfkgopalelgaadoor", sum := "d3d725e5bda63e30a23ee26ba743f975cd44bd6ca5a84b7bcc72e49a3dcba1a2", func := "metrolab/metrolablaw18.FeatureChecks", spec := "featureChecks", unfollowed := true, recurses := true, named := ["metrolab/feature.kinds"], apart := false, laid := [("metrolab/feature.kinds", laid_metrolab_feature_kinds)] }
def FeatureChecksSaid : Prop := featureChecksRow.holds Tryd.pinned (OpenSpec.ofChange featureChecksSpec)

/-- ITS FALSE NEIGHBOUR: 'it returns false'. Refute it at one input. -/
def featureChecksWrong : ChangeSpec := { name := "featureChecks", fn := fun _ => fun
  | [d] => { results := [.lit (.bool false)], args := [d] }
  | _ => none }
def FeatureChecksWrongFalsely : Prop := featureChecksRow.holds Tryd.pinned (OpenSpec.ofChange featureChecksWrong)

/-- 'metrolablaw18.FeatureReaches': WHATEVER THE INPUT: true; the input reads as it did. -/
def featureReachesSpec : ChangeSpec := { name := "featureReaches", fn := fun _ => fun
  | [d1, d2, d3] => { results := [.lit (.bool true)], args := [d1, d2, d3] }
  | _ => none }
def featureReachesRow : OpenClaim := { program := "ytdmfkgopalelgaadoor", sum := "d3d725e5bda63e30a23ee26ba743f975cd44bd6ca5a84b7bcc72e49a3dcba1a2", func := "metrolab/metrolablaw18.FeatureReaches", spec := "featureReaches", unfollowed := true, recurses := true, named := ["metrolab/feature.kinds"], apart := false, laid := [("metrolab/feature.kinds", laid_metrolab_feature_kinds)] }
def FeatureReachesSaid : Prop := featureReachesRow.holds Tryd.pinned (OpenSpec.ofChange featureReachesSpec)

/-- ITS FALSE NEIGHBOUR: 'it returns false'. Refute it at one input. -/
def featureReachesWrong : ChangeSpec := { name := "featureReaches", fn := fun _ => fun
  | [d1, d2, d3] => { results := [.lit (.bool false)], args := [d1, d2, d3] }
  | _ => none }
def FeatureReachesWrongFalsely : Prop := featureReachesRow.holds Tryd.pinned (OpenSpec.ofChange featureReachesWrong)

/-- 'metrolablaw18.FeatureMoves': WHATEVER THE INPUT: true; the input reads as it did. -/
def featureMovesSpec : ChangeSpec := { name := "featureMoves", fn := fun _ => fun
  | [d1, d2, d3] => { results := [.lit (.bool true)], args := [d1, d2, d3] }
  | _ => none }
def featureMovesRow : OpenClaim := { program := "ytdmfkgopalelgaadoor", sum := "d3d725e5bda63e30a23ee26ba743f975cd44bd6ca5a84b7bcc72e49a3dcba1a2", func := "metrolab/metrolablaw18.FeatureMoves", spec := "featureMoves", unfollowed := true, recurses := true, named := ["metrolab/feature.kinds"], apart := false, laid := [("metrolab/feature.kinds", laid_metrolab_feature_kinds)] }
def FeatureMovesSaid : Prop := featureMovesRow.holds Tryd.pinned (OpenSpec.ofChange featureMovesSpec)

/-- ITS FALSE NEIGHBOUR: 'it returns false'. Refute it at one input. -/
def featureMovesWrong : ChangeSpec := { name := "featureMoves", fn := fun _ => fun
  | [d1, d2, d3] => { results := [.lit (.bool false)], args := [d1, d2, d3] }
  | _ => none }
def FeatureMovesWrongFalsely : Prop := featureMovesRow.holds Tryd.pinned (OpenSpec.ofChange featureMovesWrong)

/-- 'metrolablaw18.FeatureCompares': WHATEVER THE INPUT: true; the input reads as it did. -/
def featureComparesSpec : ChangeSpec := { name := "featureCompares", fn := fun _ => fun
  | [d1, d2] => { results := [.lit (.bool true)], args := [d1, d2] }
  | _ => none }
def featureComparesRow : OpenClaim := { program := "ytdmfkgopalelgaadoor", sum := "d3d725e5bda63e30a23ee26ba743f975cd44bd6ca5a84b7bcc72e49a3dcba1a2", func := "metrolab/metrolablaw18.FeatureCompares", spec := "featureCompares", unfollowed := true, recurses := true, named := ["metrolab/feature.kinds"], apart := false, laid := [("metrolab/feature.kinds", laid_metrolab_feature_kinds)] }
def FeatureComparesSaid : Prop := featureComparesRow.holds Tryd.pinned (OpenSpec.ofChange featureComparesSpec)

/-- ITS FALSE NEIGHBOUR: 'it returns false'. Refute it at one input. -/
def featureComparesWrong : ChangeSpec := { name := "featureCompares", fn := fun _ => fun
  | [d1, d2] => { results := [.lit (.bool false)], args := [d1, d2] }
  | _ => none }
def FeatureComparesWrongFalsely : Prop := featureComparesRow.holds Tryd.pinned (OpenSpec.ofChange featureComparesWrong)

/-- 'metrolablaw18.FeatureEnds': WHATEVER THE INPUT: true; the input reads as it did. -/
def featureEndsSpec : ChangeSpec := { name := "featureEnds", fn := fun _ => fun
  | [d] => { results := [.lit (.bool true)], args := [d] }
  | _ => none }
def featureEndsRow : OpenClaim := { program := "ytdmfkgopalelgaadoor", sum := "d3d725e5bda63e30a23ee26ba743f975cd44bd6ca5a84b7bcc72e49a3dcba1a2", func := "metrolab/metrolablaw18.FeatureEnds", spec := "featureEnds", unfollowed := true, recurses := true, named := ["metrolab/feature.kinds"], apart := false, laid := [("metrolab/feature.kinds", laid_metrolab_feature_kinds)] }
def FeatureEndsSaid : Prop := featureEndsRow.holds Tryd.pinned (OpenSpec.ofChange featureEndsSpec)

/-- ITS FALSE NEIGHBOUR: 'it returns false'. Refute it at one input. -/
def featureEndsWrong : ChangeSpec := { name := "featureEnds", fn := fun _ => fun
  | [d] => { results := [.lit (.bool false)], args := [d] }
  | _ => none }
def FeatureEndsWrongFalsely : Prop := featureEndsRow.holds Tryd.pinned (OpenSpec.ofChange featureEndsWrong)

/-- 'metrolablaw18.FeatureReturns': WHATEVER THE INPUT: true; the input reads as it did. -/
def featureReturnsSpec : ChangeSpec := { name := "featureReturns", fn := fun _ => fun
  | [d1, d2, d3] => { results := [.lit (.bool true)], args := [d1, d2, d3] }
  | _ => none }
def featureReturnsRow : OpenClaim := { program := "ytdmfkgopalelgaadoor", sum := "d3d725e5bda63e30a23ee26ba743f975cd44bd6ca5a84b7bcc72e49a3dcba1a2", func := "metrolab/metrolablaw18.FeatureReturns", spec := "featureReturns", unfollowed := true, recurses := true, named := ["metrolab/feature.kinds"], apart := false, laid := [("metrolab/feature.kinds", laid_metrolab_feature_kinds)] }
def FeatureReturnsSaid : Prop := featureReturnsRow.holds Tryd.pinned (OpenSpec.ofChange featureReturnsSpec)

/-- ITS FALSE NEIGHBOUR: 'it returns false'. Refute it at one input. -/
def featureReturnsWrong : ChangeSpec := { name := "featureReturns", fn := fun _ => fun
  | [d1, d2, d3] => { results := [.lit (.bool false)], args := [d1, d2, d3] }
  | _ => none }
def FeatureReturnsWrongFalsely : Prop := featureReturnsRow.holds Tryd.pinned (OpenSpec.ofChange featureReturnsWrong)

/-- 'metrolablaw18.FeatureKeeps': WHATEVER THE INPUT: true; the input reads as it did. -/
def featureKeepsSpec : ChangeSpec := { name := "featureKeeps", fn := fun _ => fun
  | [d1, d2, d3] => { results := [.lit (.bool true)], args := [d1, d2, d3] }
  | _ => none }
def featureKeepsRow : OpenClaim := { program := "ytdmfkgopalelgaadoor", sum := "d3d725e5bda63e30a23ee26ba743f975cd44bd6ca5a84b7bcc72e49a3dcba1a2", func := "metrolab/metrolablaw18.FeatureKeeps", spec := "featureKeeps", unfollowed := true, recurses := true, named := ["metrolab/feature.kinds"], apart := false, laid := [("metrolab/feature.kinds", laid_metrolab_feature_kinds)] }
def FeatureKeepsSaid : Prop := featureKeepsRow.holds Tryd.pinned (OpenSpec.ofChange featureKeepsSpec)

/-- ITS FALSE NEIGHBOUR: 'it returns false'. Refute it at one input. -/
def featureKeepsWrong : ChangeSpec := { name := "featureKeeps", fn := fun _ => fun
  | [d1, d2, d3] => { results := [.lit (.bool false)], args := [d1, d2, d3] }
  | _ => none }
def FeatureKeepsWrongFalsely : Prop := featureKeepsRow.holds Tryd.pinned (OpenSpec.ofChange featureKeepsWrong)

/- THE SECOND FORM. 'bulk': how many values and letters a reading holds, each counted each time it is reached (what is shared counts as often as it is met; a slice's spare places count too). A statement '..UptoSaid' is the law's where the arguments, and the package variables that the reading takes, are together of bulk at most 1048576: NARROWER than '..Said'. Prove '..Said' where nothing that the law and all that it calls make is longer than what came in: it says more and counts as full. Else prove '..UptoSaid'. A law counts once. -/
mutual
def uptoBulk {H : Type} : DataW H → Nat
  | .lit (.string bytes) => bytes.length + 1
  | .lit _ => 1
  | .nil => 1
  | .ptr d => uptoBulk d + 1
  | .slice elems spare => uptoBulkAll elems + uptoBulkAll spare + 1
  | .agg parts => uptoBulkAll parts + 1
  | .iface _ d => uptoBulk d + 1
  | .map entries => uptoBulkEntries entries + 1
  | .held _ => 1
def uptoBulkAll {H : Type} : List (DataW H) → Nat
  | [] => 0
  | d :: r => uptoBulk d + uptoBulkAll r
def uptoBulkEntries {H : Type} : List (Lit × DataW H) → Nat
  | [] => 0
  | x :: r => uptoBulkEntry x + uptoBulkEntries r
def uptoBulkEntry {H : Type} : Lit × DataW H → Nat
  | (.string bytes, d) => bytes.length + uptoBulk d + 1
  | (_, d) => uptoBulk d + 1
 end
def uptoSmall : (H : Type) → List (DataW H) → Bool := fun _ ds => decide (uptoBulkAll ds ≤ 1048576)
def OpenSpec.upto (s : _root_.Go.ChangeSpec) : _root_.Go.OpenSpec := { _root_.Go.OpenSpec.ofChange s with cond := some uptoSmall }

/-- 'metrolablaw18.FeatureChecks', WHERE WHAT IT READS IS OF BULK AT MOST 1048576: true; the input reads as it did. -/
def featureChecksUptoRow : OpenClaim := { program := "ytdmfkgopalelgaadoor", sum := "d3d725e5bda63e30a23ee26ba743f975cd44bd6ca5a84b7bcc72e49a3dcba1a2", func := "metrolab/metrolablaw18.FeatureChecks", spec := "featureChecks", unfollowed := true, recurses := true, named := ["metrolab/feature.kinds"], apart := false, laid := [("metrolab/feature.kinds", laid_metrolab_feature_kinds)], narrowed := true }
def FeatureChecksUptoSaid : Prop := featureChecksUptoRow.holds Tryd.pinned (OpenSpec.upto featureChecksSpec)

/-- 'metrolablaw18.FeatureReaches', WHERE WHAT IT READS IS OF BULK AT MOST 1048576: true; the input reads as it did. -/
def featureReachesUptoRow : OpenClaim := { program := "ytdmfkgopalelgaadoor", sum := "d3d725e5bda63e30a23ee26ba743f975cd44bd6ca5a84b7bcc72e49a3dcba1a2", func := "metrolab/metrolablaw18.FeatureReaches", spec := "featureReaches", unfollowed := true, recurses := true, named := ["metrolab/feature.kinds"], apart := false, laid := [("metrolab/feature.kinds", laid_metrolab_feature_kinds)], narrowed := true }
def FeatureReachesUptoSaid : Prop := featureReachesUptoRow.holds Tryd.pinned (OpenSpec.upto featureReachesSpec)

/-- 'metrolablaw18.FeatureMoves', WHERE WHAT IT READS IS OF BULK AT MOST 1048576: true; the input reads as it did. -/
def featureMovesUptoRow : OpenClaim := { program := "ytdmfkgopalelgaadoor", sum := "d3d725e5bda63e30a23ee26ba743f975cd44bd6ca5a84b7bcc72e49a3dcba1a2", func := "metrolab/metrolablaw18.FeatureMoves", spec := "featureMoves", unfollowed := true, recurses := true, named := ["metrolab/feature.kinds"], apart := false, laid := [("metrolab/feature.kinds", laid_metrolab_feature_kinds)], narrowed := true }
def FeatureMovesUptoSaid : Prop := featureMovesUptoRow.holds Tryd.pinned (OpenSpec.upto featureMovesSpec)

/-- 'metrolablaw18.FeatureCompares', WHERE WHAT IT READS IS OF BULK AT MOST 1048576: true; the input reads as it did. -/
def featureComparesUptoRow : OpenClaim := { program := "ytdmfkgopalelgaadoor", sum := "d3d725e5bda63e30a23ee26ba743f975cd44bd6ca5a84b7bcc72e49a3dcba1a2", func := "metrolab/metrolablaw18.FeatureCompares", spec := "featureCompares", unfollowed := true, recurses := true, named := ["metrolab/feature.kinds"], apart := false, laid := [("metrolab/feature.kinds", laid_metrolab_feature_kinds)], narrowed := true }
def FeatureComparesUptoSaid : Prop := featureComparesUptoRow.holds Tryd.pinned (OpenSpec.upto featureComparesSpec)

/-- 'metrolablaw18.FeatureEnds', WHERE WHAT IT READS IS OF BULK AT MOST 1048576: true; the input reads as it did. -/
def featureEndsUptoRow : OpenClaim := { program := "ytdmfkgopalelgaadoor", sum := "d3d725e5bda63e30a23ee26ba743f975cd44bd6ca5a84b7bcc72e49a3dcba1a2", func := "metrolab/metrolablaw18.FeatureEnds", spec := "featureEnds", unfollowed := true, recurses := true, named := ["metrolab/feature.kinds"], apart := false, laid := [("metrolab/feature.kinds", laid_metrolab_feature_kinds)], narrowed := true }
def FeatureEndsUptoSaid : Prop := featureEndsUptoRow.holds Tryd.pinned (OpenSpec.upto featureEndsSpec)

/-- 'metrolablaw18.FeatureReturns', WHERE WHAT IT READS IS OF BULK AT MOST 1048576: true; the input reads as it did. -/
def featureReturnsUptoRow : OpenClaim := { program := "ytdmfkgopalelgaadoor", sum := "d3d725e5bda63e30a23ee26ba743f975cd44bd6ca5a84b7bcc72e49a3dcba1a2", func := "metrolab/metrolablaw18.FeatureReturns", spec := "featureReturns", unfollowed := true, recurses := true, named := ["metrolab/feature.kinds"], apart := false, laid := [("metrolab/feature.kinds", laid_metrolab_feature_kinds)], narrowed := true }
def FeatureReturnsUptoSaid : Prop := featureReturnsUptoRow.holds Tryd.pinned (OpenSpec.upto featureReturnsSpec)

/-- 'metrolablaw18.FeatureKeeps', WHERE WHAT IT READS IS OF BULK AT MOST 1048576: true; the input reads as it did. -/
def featureKeepsUptoRow : OpenClaim := { program := "ytdmfkgopalelgaadoor", sum := "d3d725e5bda63e30a23ee26ba743f975cd44bd6ca5a84b7bcc72e49a3dcba1a2", func := "metrolab/metrolablaw18.FeatureKeeps", spec := "featureKeeps", unfollowed := true, recurses := true, named := ["metrolab/feature.kinds"], apart := false, laid := [("metrolab/feature.kinds", laid_metrolab_feature_kinds)], narrowed := true }
def FeatureKeepsUptoSaid : Prop := featureKeepsUptoRow.holds Tryd.pinned (OpenSpec.upto featureKeepsSpec)

end Rows
end Go.Proofs.YtdmfkgopalelgaaDoor
