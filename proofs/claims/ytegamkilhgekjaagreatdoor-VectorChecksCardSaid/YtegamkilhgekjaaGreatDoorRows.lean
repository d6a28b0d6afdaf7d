/-
  NARROWER THAN 'FOR EVERY INPUT', by the rows' own cells (each row's printed sentence says how): VectorChecks: laid · VectorSpaces: laid · VectorProducts: laid · VectorSolids: laid · VectorDistances: laid · VectorTurns: laid · VectorSplits: laid · VectorNormals: laid · VectorNearer: laid.
  DERIVED. THE GIVEN ROWS OF THIS SEAT. 9 by the template 'for every input the law returns true; each argument reads behind the call as it read before'; 0 by the template 'total and deterministic' (their statements: YtegamkilhgekjaaGreatDoorTotals.lean).
  GIVEN WITH THE SEED: the statements are not yours to turn. If you find one false, say at which input.
  Laid BY PROGRAM, IN A SANDBOX (cutbox-rows.mjs): the forced cells as the released guide's own fill.sh prints them over the translation 3226a880fd72caca… (all of the seat's roots in one cut). By AI agents, Wed Nov 11 2026. No macro, syntax, notation, axiom, sorry.
-/
import Derived.Test.YtegamkilhgekjaaGreatDoorChecked
import GoSem.Claim
import GoSem.ClaimJoined
import GoSem.ClaimMapViews
import Derived.JoinedTies
import Derived.KernelRfl
namespace Go.Proofs.YtegamkilhgekjaaGreatDoor
/- THE CELL 'sum', in the pinned program and in every row, IS THE sha256 OF THE DUMP (.gsa) THAT YtegamkilhgekjaaGreatDoorProg.lean LOADS. Nothing in Lean hashes anything: it is a label: what it is worth is what the hold of that sum in a sandbox is worth. -/
noncomputable def Tryz.pinned : Pinned := { name := "ytegamkilhgekjaagreatdoor", sum := "3226a880fd72caca56d356e9f8fa3990a20cbe039c5f2f496a253a93a7c53f84", checked := Tryz.checked }
namespace Rows
def none {H : Type} : Left H := { results := [], args := [] }

/- WHAT THE LISTED PACKAGE-LEVEL VARIABLES READ AS WHEN THE CALL BEGINS. Each datum BY PROGRAM (the guide's laid-datum.mjs) off the statement by which the dump's own 'gosem.cut.vars' lays the variable. In a bare row this is a premise. The card (YtegamkilhgekjaaGreatDoorCards.lean) ties it to the program's text. -/
def laid_math_bits_deBruijn32tab {H : Type} : DataW H := .agg [.lit (.int .u8 0), .lit (.int .u8 1), .lit (.int .u8 28), .lit (.int .u8 2), .lit (.int .u8 29), .lit (.int .u8 14), .lit (.int .u8 24), .lit (.int .u8 3), .lit (.int .u8 30), .lit (.int .u8 22), .lit (.int .u8 20), .lit (.int .u8 15), .lit (.int .u8 25), .lit (.int .u8 17), .lit (.int .u8 4), .lit (.int .u8 8), .lit (.int .u8 31), .lit (.int .u8 27), .lit (.int .u8 13), .lit (.int .u8 23), .lit (.int .u8 21), .lit (.int .u8 19), .lit (.int .u8 16), .lit (.int .u8 7), .lit (.int .u8 26), .lit (.int .u8 12), .lit (.int .u8 18), .lit (.int .u8 6), .lit (.int .u8 11), .lit (.int .u8 5), .lit (.int .u8 10), .lit (.int .u8 9)]
def laid_math_bits_deBruijn64tab {H : Type} : DataW H := .agg [.lit (.int .u8 0), .lit (.int .u8 1), .lit (.int .u8 56), .lit (.int .u8 2), .lit (.int .u8 57), .lit (.int .u8 49), .lit (.int .u8 28), .lit (.int .u8 3), .lit (.int .u8 61), .lit (.int .u8 58), .lit (.int .u8 42), .lit (.int .u8 50), .lit (.int .u8 38), .lit (.int .u8 29), .lit (.int .u8 17), .lit (.int .u8 4), .lit (.int .u8 62), .lit (.int .u8 47), .lit (.int .u8 59), .lit (.int .u8 36), .lit (.int .u8 45), .lit (.int .u8 43), .lit (.int .u8 51), .lit (.int .u8 22), .lit (.int .u8 53), .lit (.int .u8 39), .lit (.int .u8 33), .lit (.int .u8 30), .lit (.int .u8 24), .lit (.int .u8 18), .lit (.int .u8 12), .lit (.int .u8 5), .lit (.int .u8 63), .lit (.int .u8 55), .lit (.int .u8 48), .lit (.int .u8 27), .lit (.int .u8 60), .lit (.int .u8 41), .lit (.int .u8 37), .lit (.int .u8 16), .lit (.int .u8 46), .lit (.int .u8 35), .lit (.int .u8 44), .lit (.int .u8 21), .lit (.int .u8 52), .lit (.int .u8 32), .lit (.int .u8 23), .lit (.int .u8 11), .lit (.int .u8 54), .lit (.int .u8 26), .lit (.int .u8 40), .lit (.int .u8 15), .lit (.int .u8 34), .lit (.int .u8 20), .lit (.int .u8 31), .lit (.int .u8 10), .lit (.int .u8 25), .lit (.int .u8 14), .lit (.int .u8 19), .lit (.int .u8 9), .lit (.int .u8 13), .lit (.int .u8 8), .lit (.int .u8 7), .lit (.int .u8 6)]
def laid_internal_strconv_uint64pow10 {H : Type} : DataW H := .agg [.lit (.int .u64 1), .lit (.int .u64 10), .lit (.int .u64 100), .lit (.int .u64 1000), .lit (.int .u64 10000), .lit (.int .u64 100000), .lit (.int .u64 1000000), .lit (.int .u64 10000000), .lit (.int .u64 100000000), .lit (.int .u64 1000000000), .lit (.int .u64 10000000000), .lit (.int .u64 100000000000), .lit (.int .u64 1000000000000), .lit (.int .u64 10000000000000), .lit (.int .u64 100000000000000), .lit (.int .u64 1000000000000000), .lit (.int .u64 10000000000000000), .lit (.int .u64 100000000000000000), .lit (.int .u64 1000000000000000000), .lit (.int .u64 10000000000000000000)]

/-- 'metrolablaw07.VectorChecks': WHATEVER THE INPUT: true; the input reads as it did. -/
def vectorChecksSpec : ChangeSpec := { name := "vectorChecks", fn := fun _ => fun
  | [d] => { results := [.lit (.bool true)], args := [d] }
  | _ => none }
def vectorChecksRow : OpenClaim := { program := "ytegamkilhgekjaagreatdoor", sum := "3226a880fd72caca56d356e9f8fa3990a20cbe039c5f2f496a253a93a7c53f84", func := "metrolab/metrolablaw07.VectorChecks", spec := "vectorChecks", inPlace := ["internal/bytealg.IndexByteString", "internal/bytealg.IndexString"], unfollowed := true, recurses := true, named := ["internal/strconv.uint64pow10", "math/bits.deBruijn32tab", "math/bits.deBruijn64tab", "internal/bytealg.MaxLen"], apart := false, laid := [("math/bits.deBruijn32tab", laid_math_bits_deBruijn32tab), ("math/bits.deBruijn64tab", laid_math_bits_deBruijn64tab), ("internal/strconv.uint64pow10", laid_internal_strconv_uint64pow10)] }
def VectorChecksSaid : Prop := vectorChecksRow.holds Tryz.pinned (OpenSpec.ofChange vectorChecksSpec)

/-- ITS FALSE NEIGHBOUR: 'it returns false'. Refute it at one input. -/
def vectorChecksWrong : ChangeSpec := { name := "vectorChecks", fn := fun _ => fun
  | [d] => { results := [.lit (.bool false)], args := [d] }
  | _ => none }
def VectorChecksWrongFalsely : Prop := vectorChecksRow.holds Tryz.pinned (OpenSpec.ofChange vectorChecksWrong)

/-- 'metrolablaw07.VectorSpaces': WHATEVER THE INPUT: true; the input reads as it did. -/
def vectorSpacesSpec : ChangeSpec := { name := "vectorSpaces", fn := fun _ => fun
  | [d] => { results := [.lit (.bool true)], args := [d] }
  | _ => none }
def vectorSpacesRow : OpenClaim := { program := "ytegamkilhgekjaagreatdoor", sum := "3226a880fd72caca56d356e9f8fa3990a20cbe039c5f2f496a253a93a7c53f84", func := "metrolab/metrolablaw07.VectorSpaces", spec := "vectorSpaces", inPlace := ["internal/bytealg.IndexByteString", "internal/bytealg.IndexString"], unfollowed := true, recurses := true, named := ["internal/strconv.uint64pow10", "math/bits.deBruijn32tab", "math/bits.deBruijn64tab", "internal/bytealg.MaxLen"], apart := false, laid := [("math/bits.deBruijn32tab", laid_math_bits_deBruijn32tab), ("math/bits.deBruijn64tab", laid_math_bits_deBruijn64tab), ("internal/strconv.uint64pow10", laid_internal_strconv_uint64pow10)] }
def VectorSpacesSaid : Prop := vectorSpacesRow.holds Tryz.pinned (OpenSpec.ofChange vectorSpacesSpec)

/-- ITS FALSE NEIGHBOUR: 'it returns false'. Refute it at one input. -/
def vectorSpacesWrong : ChangeSpec := { name := "vectorSpaces", fn := fun _ => fun
  | [d] => { results := [.lit (.bool false)], args := [d] }
  | _ => none }
def VectorSpacesWrongFalsely : Prop := vectorSpacesRow.holds Tryz.pinned (OpenSpec.ofChange vectorSpacesWrong)

/-- 'metrolablaw07.VectorProducts': WHATEVER THE INPUT: true; the input reads as it did. -/
def vectorProductsSpec : ChangeSpec := { name := "vectorProducts", fn := fun _ => fun
  | [d1, d2, d3] => { results := [.lit (.bool true)], args := [d1, d2, d3] }
  | _ => none }
def vectorProductsRow : OpenClaim := { program := "ytegamkilhgekjaagreatdoor", sum := "3226a880fd72caca56d356e9f8fa3990a20cbe039c5f2f496a253a93a7c53f84", func := "metrolab/metrolablaw07.VectorProducts", spec := "vectorProducts", inPlace := ["internal/bytealg.IndexByteString", "internal/bytealg.IndexString"], unfollowed := true, recurses := true, named := ["internal/strconv.uint64pow10", "math/bits.deBruijn32tab", "math/bits.deBruijn64tab", "internal/bytealg.MaxLen"], apart := false, laid := [("math/bits.deBruijn32tab", laid_math_bits_deBruijn32tab), ("math/bits.deBruijn64tab", laid_math_bits_deBruijn64tab), ("internal/strconv.uint64pow10", laid_internal_strconv_uint64pow10)] }
def VectorProductsSaid : Prop := vectorProductsRow.holds Tryz.pinned (OpenSpec.ofChange vectorProductsSpec)

/-- ITS FALSE NEIGHBOUR: 'it returns false'. Refute it at one input. -/
def vectorProductsWrong : ChangeSpec := { name := "vectorProducts", fn := fun _ => fun
  | [d1, d2, d3] => { results := [.lit (.bool false)], args := [d1, d2, d3] }
  | _ => none }
def VectorProductsWrongFalsely : Prop := vectorProductsRow.holds Tryz.pinned (OpenSpec.ofChange vectorProductsWrong)

/-- 'metrolablaw07.VectorSolids': WHATEVER THE INPUT: true; the input reads as it did. -/
def vectorSolidsSpec : ChangeSpec := { name := "vectorSolids", fn := fun _ => fun
  | [d] => { results := [.lit (.bool true)], args := [d] }
  | _ => none }
def vectorSolidsRow : OpenClaim := { program := "ytegamkilhgekjaagreatdoor", sum := "3226a880fd72caca56d356e9f8fa3990a20cbe039c5f2f496a253a93a7c53f84", func := "metrolab/metrolablaw07.VectorSolids", spec := "vectorSolids", inPlace := ["internal/bytealg.IndexByteString", "internal/bytealg.IndexString"], unfollowed := true, recurses := true, named := ["internal/strconv.uint64pow10", "math/bits.deBruijn32tab", "math/bits.deBruijn64tab", "internal/bytealg.MaxLen"], apart := false, laid := [("math/bits.deBruijn32tab", laid_math_bits_deBruijn32tab), ("math/bits.deBruijn64tab", laid_math_bits_deBruijn64tab), ("internal/strconv.uint64pow10", laid_internal_strconv_uint64pow10)] }
def VectorSolidsSaid : Prop := vectorSolidsRow.holds Tryz.pinned (OpenSpec.ofChange vectorSolidsSpec)

/-- ITS FALSE NEIGHBOUR: 'it returns false'. Refute it at one input. -/
def vectorSolidsWrong : ChangeSpec := { name := "vectorSolids", fn := fun _ => fun
  | [d] => { results := [.lit (.bool false)], args := [d] }
  | _ => none }
def VectorSolidsWrongFalsely : Prop := vectorSolidsRow.holds Tryz.pinned (OpenSpec.ofChange vectorSolidsWrong)

/-- 'metrolablaw07.VectorDistances': WHATEVER THE INPUT: true; the input reads as it did. -/
def vectorDistancesSpec : ChangeSpec := { name := "vectorDistances", fn := fun _ => fun
  | [d1, d2, d3] => { results := [.lit (.bool true)], args := [d1, d2, d3] }
  | _ => none }
def vectorDistancesRow : OpenClaim := { program := "ytegamkilhgekjaagreatdoor", sum := "3226a880fd72caca56d356e9f8fa3990a20cbe039c5f2f496a253a93a7c53f84", func := "metrolab/metrolablaw07.VectorDistances", spec := "vectorDistances", inPlace := ["internal/bytealg.IndexByteString", "internal/bytealg.IndexString"], unfollowed := true, recurses := true, named := ["internal/strconv.uint64pow10", "math/bits.deBruijn32tab", "math/bits.deBruijn64tab", "internal/bytealg.MaxLen"], apart := false, laid := [("math/bits.deBruijn32tab", laid_math_bits_deBruijn32tab), ("math/bits.deBruijn64tab", laid_math_bits_deBruijn64tab), ("internal/strconv.uint64pow10", laid_internal_strconv_uint64pow10)] }
def VectorDistancesSaid : Prop := vectorDistancesRow.holds Tryz.pinned (OpenSpec.ofChange vectorDistancesSpec)

/-- ITS FALSE NEIGHBOUR: 'it returns false'. Refute it at one input. -/
def vectorDistancesWrong : ChangeSpec := { name := "vectorDistances", fn := fun _ => fun
  | [d1, d2, d3] => { results := [.lit (.bool false)], args := [d1, d2, d3] }
  | _ => none }
def VectorDistancesWrongFalsely : Prop := vectorDistancesRow.holds Tryz.pinned (OpenSpec.ofChange vectorDistancesWrong)

/-- 'metrolablaw07.VectorTurns': WHATEVER THE INPUT: true; the input reads as it did. -/
def vectorTurnsSpec : ChangeSpec := { name := "vectorTurns", fn := fun _ => fun
  | [d1, d2] => { results := [.lit (.bool true)], args := [d1, d2] }
  | _ => none }
def vectorTurnsRow : OpenClaim := { program := "ytegamkilhgekjaagreatdoor", sum := "3226a880fd72caca56d356e9f8fa3990a20cbe039c5f2f496a253a93a7c53f84", func := "metrolab/metrolablaw07.VectorTurns", spec := "vectorTurns", inPlace := ["internal/bytealg.IndexByteString", "internal/bytealg.IndexString"], unfollowed := true, recurses := true, named := ["internal/strconv.uint64pow10", "math/bits.deBruijn32tab", "math/bits.deBruijn64tab", "internal/bytealg.MaxLen"], apart := false, laid := [("math/bits.deBruijn32tab", laid_math_bits_deBruijn32tab), ("math/bits.deBruijn64tab", laid_math_bits_deBruijn64tab), ("internal/strconv.uint64pow10", laid_internal_strconv_uint64pow10)] }
def VectorTurnsSaid : Prop := vectorTurnsRow.holds Tryz.pinned (OpenSpec.ofChange vectorTurnsSpec)

/-- ITS FALSE NEIGHBOUR: 'it returns false'. Refute it at one input. -/
def vectorTurnsWrong : ChangeSpec := { name := "vectorTurns", fn := fun _ => fun
  | [d1, d2] => { results := [.lit (.bool false)], args := [d1, d2] }
  | _ => none }
def VectorTurnsWrongFalsely : Prop := vectorTurnsRow.holds Tryz.pinned (OpenSpec.ofChange vectorTurnsWrong)

/-- 'metrolablaw07.VectorSplits': WHATEVER THE INPUT: true; the input reads as it did. -/
def vectorSplitsSpec : ChangeSpec := { name := "vectorSplits", fn := fun _ => fun
  | [d1, d2] => { results := [.lit (.bool true)], args := [d1, d2] }
  | _ => none }
def vectorSplitsRow : OpenClaim := { program := "ytegamkilhgekjaagreatdoor", sum := "3226a880fd72caca56d356e9f8fa3990a20cbe039c5f2f496a253a93a7c53f84", func := "metrolab/metrolablaw07.VectorSplits", spec := "vectorSplits", inPlace := ["internal/bytealg.IndexByteString", "internal/bytealg.IndexString"], unfollowed := true, recurses := true, named := ["internal/strconv.uint64pow10", "math/bits.deBruijn32tab", "math/bits.deBruijn64tab", "internal/bytealg.MaxLen"], apart := false, laid := [("math/bits.deBruijn32tab", laid_math_bits_deBruijn32tab), ("math/bits.deBruijn64tab", laid_math_bits_deBruijn64tab), ("internal/strconv.uint64pow10", laid_internal_strconv_uint64pow10)] }
def VectorSplitsSaid : Prop := vectorSplitsRow.holds Tryz.pinned (OpenSpec.ofChange vectorSplitsSpec)

/-- ITS FALSE NEIGHBOUR: 'it returns false'. Refute it at one input. -/
def vectorSplitsWrong : ChangeSpec := { name := "vectorSplits", fn := fun _ => fun
  | [d1, d2] => { results := [.lit (.bool false)], args := [d1, d2] }
  | _ => none }
def VectorSplitsWrongFalsely : Prop := vectorSplitsRow.holds Tryz.pinned (OpenSpec.ofChange vectorSplitsWrong)

/-- 'metrolablaw07.VectorNormals': WHATEVER THE INPUT: true; the input reads as it did. -/
def vectorNormalsSpec : ChangeSpec := { name := "vectorNormals", fn := fun _ => fun
  | [d] => { results := [.lit (.bool true)], args := [d] }
  | _ => none }
def vectorNormalsRow : OpenClaim := { program := "ytegamkilhgekjaagreatdoor", sum := "3226a880fd72caca56d356e9f8fa3990a20cbe039c5f2f496a253a93a7c53f84", func := "metrolab/metrolablaw07.VectorNormals", spec := "vectorNormals", inPlace := ["internal/bytealg.IndexByteString", "internal/bytealg.IndexString"], unfollowed := true, recurses := true, named := ["internal/strconv.uint64pow10", "math/bits.deBruijn32tab", "math/bits.deBruijn64tab", "internal/bytealg.MaxLen"], apart := false, laid := [("math/bits.deBruijn32tab", laid_math_bits_deBruijn32tab), ("math/bits.deBruijn64tab", laid_math_bits_deBruijn64tab), ("internal/strconv.uint64pow10", laid_internal_strconv_uint64pow10)] }
def VectorNormalsSaid : Prop := vectorNormalsRow.holds Tryz.pinned (OpenSpec.ofChange vectorNormalsSpec)

/-- ITS FALSE NEIGHBOUR: 'it returns false'. Refute it at one input. -/
def vectorNormalsWrong : ChangeSpec := { name := "vectorNormals", fn := fun _ => fun
  | [d] => { results := [.lit (.bool false)], args := [d] }
  | _ => none }
def VectorNormalsWrongFalsely : Prop := vectorNormalsRow.holds Tryz.pinned (OpenSpec.ofChange vectorNormalsWrong)

/-- 'metrolablaw07.VectorNearer': WHATEVER THE INPUT: true; the input reads as it did. -/
def vectorNearerSpec : ChangeSpec := { name := "vectorNearer", fn := fun _ => fun
  | [d1, d2, d3] => { results := [.lit (.bool true)], args := [d1, d2, d3] }
  | _ => none }
def vectorNearerRow : OpenClaim := { program := "ytegamkilhgekjaagreatdoor", sum := "3226a880fd72caca56d356e9f8fa3990a20cbe039c5f2f496a253a93a7c53f84", func := "metrolab/metrolablaw07.VectorNearer", spec := "vectorNearer", inPlace := ["internal/bytealg.IndexByteString", "internal/bytealg.IndexString"], unfollowed := true, recurses := true, named := ["internal/strconv.uint64pow10", "math/bits.deBruijn32tab", "math/bits.deBruijn64tab", "internal/bytealg.MaxLen"], apart := false, laid := [("math/bits.deBruijn32tab", laid_math_bits_deBruijn32tab), ("math/bits.deBruijn64tab", laid_math_bits_deBruijn64tab), ("internal/strconv.uint64pow10", laid_internal_strconv_uint64pow10)] }
def VectorNearerSaid : Prop := vectorNearerRow.holds Tryz.pinned (OpenSpec.ofChange vectorNearerSpec)

/-- ITS FALSE NEIGHBOUR: 'it returns false'. Refute it at one input. -/
def vectorNearerWrong : ChangeSpec := { name := "vectorNearer", fn := fun _ => fun
  | [d1, d2, d3] => { results := [.lit (.bool false)], args := [d1, d2, d3] }
  | _ => none }
def VectorNearerWrongFalsely : Prop := vectorNearerRow.holds Tryz.pinned (OpenSpec.ofChange vectorNearerWrong)

/- THE SECOND FORM. 'bulk': how many values and letters a reading holds, each counted each time it is reached (what is shared counts as often as it is met; a slice's spare places count too). A statement '..UptoSaid' is the law's where the arguments, and the package variables that the reading takes, are together of bulk at most 1048576: NARROWER than '..Said'. Prove '..Said' where nothing that the law and all that it calls make is longer than what came in: it says more and counts as full. Else prove '..UptoSaid'. A law counts once. -/
mutual
def uptoBulk {H : Type} : DataW H → Nat
  | .lit (.string bytes) => bytes.length + 1
  | .lit _ => 1
  | .nil => 1
  | .ptr d => uptoBulk d + 1
  | .slice elems spare => uptoBulkAll elems + uptoBulkAll spare + 1
  | .agg parts => uptoBulkAll parts + 1
  | .iface _ d => uptoBulk d + 1
  | .map entries => uptoBulkEntries entries + 1
  | .held _ => 1
def uptoBulkAll {H : Type} : List (DataW H) → Nat
  | [] => 0
  | d :: r => uptoBulk d + uptoBulkAll r
def uptoBulkEntries {H : Type} : List (Lit × DataW H) → Nat
  | [] => 0
  | x :: r => uptoBulkEntry x + uptoBulkEntries r
def uptoBulkEntry {H : Type} : Lit × DataW H → Nat
  | (.string bytes, d) => bytes.length + uptoBulk d + 1
  | (_, d) => uptoBulk d + 1
 end
def uptoSmall : (H : Type) → List (DataW H) → Bool := fun _ ds => decide (uptoBulkAll ds ≤ 1048576)
def OpenSpec.upto (s : _root_.Go.ChangeSpec) : _root_.Go.OpenSpec := { _root_.Go.OpenSpec.ofChange s with cond := some uptoSmall }

/-- 'metrolablaw07.VectorChecks', WHERE WHAT IT READS IS OF BULK AT MOST 1048576: true; the input reads as it did. -/
def vectorChecksUptoRow : OpenClaim := { program := "ytegamkilhgekjaagreatdoor", sum := "3226a880fd72caca56d356e9f8fa3990a20cbe039c5f2f496a253a93a7c53f84", func := "metrolab/metrolablaw07.VectorChecks", spec := "vectorChecks", inPlace := ["internal/bytealg.IndexByteString", "internal/bytealg.IndexString"], unfollowed := true, recurses := true, named := ["internal/strconv.uint64pow10", "math/bits.deBruijn32tab", "math/bits.deBruijn64tab", "internal/bytealg.MaxLen"], apart := false, laid := [("math/bits.deBruijn32tab", laid_math_bits_deBruijn32tab), ("math/bits.deBruijn64tab", laid_math_bits_deBruijn64tab), ("internal/strconv.uint64pow10", laid_internal_strconv_uint64pow10)], narrowed := true }
def VectorChecksUptoSaid : Prop := vectorChecksUptoRow.holds Tryz.pinned (OpenSpec.upto vectorChecksSpec)

/-- 'metrolablaw07.VectorSpaces', WHERE WHAT IT READS IS OF BULK AT MOST 1048576: true; the input reads as it did. -/
def vectorSpacesUptoRow : OpenClaim := { program := "ytegamkilhgekjaagreatdoor", sum := "3226a880fd72caca56d356e9f8fa3990a20cbe039c5f2f496a253a93a7c53f84", func := "metrolab/metrolablaw07.VectorSpaces", spec := "vectorSpaces", inPlace := ["internal/bytealg.IndexByteString", "internal/bytealg.IndexString"], unfollowed := true, recurses := true, named := ["internal/strconv.uint64pow10", "math/bits.deBruijn32tab", "math/bits.deBruijn64tab", "internal/bytealg.MaxLen"], apart := false, laid := [("math/bits.deBruijn32tab", laid_math_bits_deBruijn32tab), ("math/bits.deBruijn64tab", laid_math_bits_deBruijn64tab), ("internal/strconv.uint64pow10", laid_internal_strconv_uint64pow10)], narrowed := true }
def VectorSpacesUptoSaid : Prop := vectorSpacesUptoRow.holds Tryz.pinned (OpenSpec.upto vectorSpacesSpec)

/-- 'metrolablaw07.VectorProducts', WHERE WHAT IT READS IS OF BULK AT MOST 1048576: true; the input reads as it did. -/
def vectorProductsUptoRow : OpenClaim := { program := "ytegamkilhgekjaagreatdoor", sum := "3226a880fd72caca56d356e9f8fa3990a20cbe039c5f2f496a253a93a7c53f84", func := "metrolab/metrolablaw07.VectorProducts", spec := "vectorProducts", inPlace := ["internal/bytealg.IndexByteString", "internal/bytealg.IndexString"], unfollowed := true, recurses := true, named := ["internal/strconv.uint64pow10", "math/bits.deBruijn32tab", "math/bits.deBruijn64tab", "internal/bytealg.MaxLen"], apart := false, laid := [("math/bits.deBruijn32tab", laid_math_bits_deBruijn32tab), ("math/bits.deBruijn64tab", laid_math_bits_deBruijn64tab), ("internal/strconv.uint64pow10", laid_internal_strconv_uint64pow10)], narrowed := true }
def VectorProductsUptoSaid : Prop := vectorProductsUptoRow.holds Tryz.pinned (OpenSpec.upto vectorProductsSpec)

/-- 'metrolablaw07.VectorSolids', WHERE WHAT IT READS IS OF BULK AT MOST 1048576: true; the input reads as it did. -/
def vectorSolidsUptoRow : OpenClaim := { program := "ytegamkilhgekjaagreatdoor", sum := "3226a880fd72caca56d356e9f8fa3990a20cbe039c5f2f496a253a93a7c53f84", func := "metrolab/metrolablaw07.VectorSolids", spec := "vectorSolids", inPlace := ["internal/bytealg.IndexByteString", "internal/bytealg.IndexString"], unfollowed := true, recurses := true, named := ["internal/strconv.uint64pow10", "math/bits.deBruijn32tab", "math/bits.deBruijn64tab", "internal/bytealg.MaxLen"], apart := false, laid := [("math/bits.deBruijn32tab", laid_math_bits_deBruijn32tab), ("math/bits.deBruijn64tab", laid_math_bits_deBruijn64tab), ("internal/strconv.uint64pow10", laid_internal_strconv_uint64pow10)], narrowed := true }
def VectorSolidsUptoSaid : Prop := vectorSolidsUptoRow.holds Tryz.pinned (OpenSpec.upto vectorSolidsSpec)

/-- 'metrolablaw07.VectorDistances', WHERE WHAT IT READS IS OF BULK AT MOST 1048576: true; the input reads as it did. -/
def vectorDistancesUptoRow : OpenClaim := { program := "ytegamkilhgekjaagreatdoor", sum := "3226a880fd72caca56d356e9f8fa3990a20cbe039c5f2f496a253a93a7c53f84", func := "metrolab/metrolablaw07.VectorDistances", spec := "vectorDistances", inPlace := ["internal/bytealg.IndexByteString", "internal/bytealg.IndexString"], unfollowed := true, recurses := true, named := ["internal/strconv.uint64pow10", "math/bits.deBruijn32tab", "math/bits.deBruijn64tab", "internal/bytealg.MaxLen"], apart := false, laid := [("math/bits.deBruijn32tab", laid_math_bits_deBruijn32tab), ("math/bits.deBruijn64tab", laid_math_bits_deBruijn64tab), ("internal/strconv.uint64pow10", laid_internal_strconv_uint64pow10)], narrowed := true }
def VectorDistancesUptoSaid : Prop := vectorDistancesUptoRow.holds Tryz.pinned (OpenSpec.upto vectorDistancesSpec)

/-- 'metrolablaw07.VectorTurns', WHERE WHAT IT READS IS OF BULK AT MOST 1048576: true; the input reads as it did. -/
def vectorTurnsUptoRow : OpenClaim := { program := "ytegamkilhgekjaagreatdoor", sum := "3226a880fd72caca56d356e9f8fa3990a20cbe039c5f2f496a253a93a7c53f84", func := "metrolab/metrolablaw07.VectorTurns", spec := "vectorTurns", inPlace := ["internal/bytealg.IndexByteString", "internal/bytealg.IndexString"], unfollowed := true, recurses := true, named := ["internal/strconv.uint64pow10", "math/bits.deBruijn32tab", "math/bits.deBruijn64tab", "internal/bytealg.MaxLen"], apart := false, laid := [("math/bits.deBruijn32tab", laid_math_bits_deBruijn32tab), ("math/bits.deBruijn64tab", laid_math_bits_deBruijn64tab), ("internal/strconv.uint64pow10", laid_internal_strconv_uint64pow10)], narrowed := true }
def VectorTurnsUptoSaid : Prop := vectorTurnsUptoRow.holds Tryz.pinned (OpenSpec.upto vectorTurnsSpec)

/-- 'metrolablaw07.VectorSplits', WHERE WHAT IT READS IS OF BULK AT MOST 1048576: true; the input reads as it did. -/
def vectorSplitsUptoRow : OpenClaim := { program := "ytegamkilhgekjaagreatdoor", sum := "3226a880fd72caca56d356e9f8fa3990a20cbe039c5f2f496a253a93a7c53f84", func := "metrolab/metrolablaw07.VectorSplits", spec := "vectorSplits", inPlace := ["internal/bytealg.IndexByteString", "internal/bytealg.IndexString"], unfollowed := true, recurses := true, named := ["internal/strconv.uint64pow10", "math/bits.deBruijn32tab", "math/bits.deBruijn64tab", "internal/bytealg.MaxLen"], apart := false, laid := [("math/bits.deBruijn32tab", laid_math_bits_deBruijn32tab), ("math/bits.deBruijn64tab", laid_math_bits_deBruijn64tab), ("internal/strconv.uint64pow10", laid_internal_strconv_uint64pow10)], narrowed := true }
def VectorSplitsUptoSaid : Prop := vectorSplitsUptoRow.holds Tryz.pinned (OpenSpec.upto vectorSplitsSpec)

/-- 'metrolablaw07.VectorNormals', WHERE WHAT IT READS IS OF BULK AT MOST 1048576: true; the input reads as it did. -/
def vectorNormalsUptoRow : OpenClaim := { program := "ytegamkilhgekjaagreatdoor", sum := "3226a880fd72caca56d356e9f8fa3990a20cbe039c5f2f496a253a93a7c53f84", func := "metrolab/metrolablaw07.VectorNormals", spec := "vectorNormals", inPlace := ["internal/bytealg.IndexByteString", "internal/bytealg.IndexString"], unfollowed := true, recurses := true, named := ["internal/strconv.uint64pow10", "math/bits.deBruijn32tab", "math/bits.deBruijn64tab", "internal/bytealg.MaxLen"], apart := false, laid := [("math/bits.deBruijn32tab", laid_math_bits_deBruijn32tab), ("math/bits.deBruijn64tab", laid_math_bits_deBruijn64tab), ("internal/strconv.uint64pow10", laid_internal_strconv_uint64pow10)], narrowed := true }
def VectorNormalsUptoSaid : Prop := vectorNormalsUptoRow.holds Tryz.pinned (OpenSpec.upto vectorNormalsSpec)

/-- 'metrolablaw07.VectorNearer', WHERE WHAT IT READS IS OF BULK AT MOST 1048576: true; the input reads as it did. -/
def vectorNearerUptoRow : OpenClaim := { program := "ytegamkilhgekjaagreatdoor", sum := "3226a880fd72caca56d356e9f8fa3990a20cbe039c5f2f496a253a93a7c53f84", func := "metrolab/metrolablaw07.VectorNearer", spec := "vectorNearer", inPlace := ["internal/bytealg.IndexByteString", "internal/bytealg.IndexString"], unfollowed := true, recurses := true, named := ["internal/strconv.uint64pow10", "math/bits.deBruijn32tab", "math/bits.deBruijn64tab", "internal/bytealg.MaxLen"], apart := false, laid := [("math/bits.deBruijn32tab", laid_math_bits_deBruijn32tab), ("math/bits.deBruijn64tab", laid_math_bits_deBruijn64tab), ("internal/strconv.uint64pow10", laid_internal_strconv_uint64pow10)], narrowed := true }
def VectorNearerUptoSaid : Prop := vectorNearerUptoRow.holds Tryz.pinned (OpenSpec.upto vectorNearerSpec)

end Rows
end Go.Proofs.YtegamkilhgekjaaGreatDoor
