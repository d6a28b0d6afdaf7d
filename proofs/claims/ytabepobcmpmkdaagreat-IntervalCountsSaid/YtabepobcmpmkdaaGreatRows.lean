/-
  No cell of these rows narrows 'for every input' (looked for: loops, veiled, ifaces, maps, wideKeys, modest, calm, conditions, laid).
  DERIVED. THE GIVEN ROWS OF THIS SEAT. 7 by the template 'for every input the law returns true; each argument reads behind the call as it read before'; 0 by the template 'total and deterministic' (their statements: YtabepobcmpmkdaaGreatTotals.lean).
  GIVEN WITH THE SEED: the statements are not yours to turn. If you find one false, say at which input.
  Laid BY PROGRAM, IN A SANDBOX (cutbox-rows.mjs): the forced cells as the released guide's own fill.sh prints them over the translation 0027673447fa51ef… (all of the seat's roots in one cut). By AI agents, Wed Nov 11 2026. No macro, syntax, notation, axiom, sorry.
-/
import Derived.Test.YtabepobcmpmkdaaGreatChecked
import GoSem.Claim
import GoSem.ClaimJoined
import GoSem.ClaimMapViews
import Derived.JoinedTies
import Derived.KernelRfl
namespace Go.Proofs.YtabepobcmpmkdaaGreat
/- THE CELL 'sum', in the pinned program and in every row, IS THE sha256 OF THE DUMP (.gsa) THAT YtabepobcmpmkdaaGreatProg.lean LOADS. Nothing in Lean hashes anything: it is a label: what it is worth is what the hold of that sum in a sandbox is worth. -/
noncomputable def Tryz.pinned : Pinned := { name := "ytabepobcmpmkdaagreat", sum := "0027673447fa51ef4d1dbf4c2d42282c8bdd1a1b06446f72dbe1f5639e52cd98", checked := Tryz.checked }
namespace Rows
def none {H : Type} : Left H := { results := [], args := [] }

/-- 'metrolablaw03.IntervalCombines': WHATEVER THE INPUT: true; the input reads as it did. -/
def intervalCombinesSpec : ChangeSpec := { name := "intervalCombines", fn := fun _ => fun
  | [d1, d2, d3] => { results := [.lit (.bool true)], args := [d1, d2, d3] }
  | _ => none }
def intervalCombinesRow : OpenClaim := { program := "ytabepobcmpmkdaagreat", sum := "0027673447fa51ef4d1dbf4c2d42282c8bdd1a1b06446f72dbe1f5639e52cd98", func := "metrolab/metrolablaw03.IntervalCombines", spec := "intervalCombines", inPlace := ["internal/bytealg.IndexByteString", "internal/bytealg.IndexString"], unfollowed := true, recurses := true, named := ["internal/bytealg.MaxLen"], apart := false }
def IntervalCombinesSaid : Prop := intervalCombinesRow.holds Tryz.pinned (OpenSpec.ofChange intervalCombinesSpec)

/-- ITS FALSE NEIGHBOUR: 'it returns false'. Refute it at one input. -/
def intervalCombinesWrong : ChangeSpec := { name := "intervalCombines", fn := fun _ => fun
  | [d1, d2, d3] => { results := [.lit (.bool false)], args := [d1, d2, d3] }
  | _ => none }
def IntervalCombinesWrongFalsely : Prop := intervalCombinesRow.holds Tryz.pinned (OpenSpec.ofChange intervalCombinesWrong)

/-- 'metrolablaw03.IntervalMeets': WHATEVER THE INPUT: true; the input reads as it did. -/
def intervalMeetsSpec : ChangeSpec := { name := "intervalMeets", fn := fun _ => fun
  | [d1, d2, d3] => { results := [.lit (.bool true)], args := [d1, d2, d3] }
  | _ => none }
def intervalMeetsRow : OpenClaim := { program := "ytabepobcmpmkdaagreat", sum := "0027673447fa51ef4d1dbf4c2d42282c8bdd1a1b06446f72dbe1f5639e52cd98", func := "metrolab/metrolablaw03.IntervalMeets", spec := "intervalMeets", inPlace := ["internal/bytealg.IndexByteString", "internal/bytealg.IndexString"], unfollowed := true, recurses := true, named := ["internal/bytealg.MaxLen"], apart := false }
def IntervalMeetsSaid : Prop := intervalMeetsRow.holds Tryz.pinned (OpenSpec.ofChange intervalMeetsSpec)

/-- ITS FALSE NEIGHBOUR: 'it returns false'. Refute it at one input. -/
def intervalMeetsWrong : ChangeSpec := { name := "intervalMeets", fn := fun _ => fun
  | [d1, d2, d3] => { results := [.lit (.bool false)], args := [d1, d2, d3] }
  | _ => none }
def IntervalMeetsWrongFalsely : Prop := intervalMeetsRow.holds Tryz.pinned (OpenSpec.ofChange intervalMeetsWrong)

/-- 'metrolablaw03.IntervalSets': WHATEVER THE INPUT: true; the input reads as it did. -/
def intervalSetsSpec : ChangeSpec := { name := "intervalSets", fn := fun _ => fun
  | [d1, d2] => { results := [.lit (.bool true)], args := [d1, d2] }
  | _ => none }
def intervalSetsRow : OpenClaim := { program := "ytabepobcmpmkdaagreat", sum := "0027673447fa51ef4d1dbf4c2d42282c8bdd1a1b06446f72dbe1f5639e52cd98", func := "metrolab/metrolablaw03.IntervalSets", spec := "intervalSets", inPlace := ["internal/bytealg.IndexByteString", "internal/bytealg.IndexString"], unfollowed := true, recurses := true, named := ["internal/bytealg.MaxLen"], apart := false }
def IntervalSetsSaid : Prop := intervalSetsRow.holds Tryz.pinned (OpenSpec.ofChange intervalSetsSpec)

/-- ITS FALSE NEIGHBOUR: 'it returns false'. Refute it at one input. -/
def intervalSetsWrong : ChangeSpec := { name := "intervalSets", fn := fun _ => fun
  | [d1, d2] => { results := [.lit (.bool false)], args := [d1, d2] }
  | _ => none }
def IntervalSetsWrongFalsely : Prop := intervalSetsRow.holds Tryz.pinned (OpenSpec.ofChange intervalSetsWrong)

/-- 'metrolablaw03.IntervalJoins': WHATEVER THE INPUT: true; the input reads as it did. -/
def intervalJoinsSpec : ChangeSpec := { name := "intervalJoins", fn := fun _ => fun
  | [d1, d2] => { results := [.lit (.bool true)], args := [d1, d2] }
  | _ => none }
def intervalJoinsRow : OpenClaim := { program := "ytabepobcmpmkdaagreat", sum := "0027673447fa51ef4d1dbf4c2d42282c8bdd1a1b06446f72dbe1f5639e52cd98", func := "metrolab/metrolablaw03.IntervalJoins", spec := "intervalJoins", inPlace := ["internal/bytealg.IndexByteString", "internal/bytealg.IndexString"], unfollowed := true, recurses := true, named := ["internal/bytealg.MaxLen"], apart := false }
def IntervalJoinsSaid : Prop := intervalJoinsRow.holds Tryz.pinned (OpenSpec.ofChange intervalJoinsSpec)

/-- ITS FALSE NEIGHBOUR: 'it returns false'. Refute it at one input. -/
def intervalJoinsWrong : ChangeSpec := { name := "intervalJoins", fn := fun _ => fun
  | [d1, d2] => { results := [.lit (.bool false)], args := [d1, d2] }
  | _ => none }
def IntervalJoinsWrongFalsely : Prop := intervalJoinsRow.holds Tryz.pinned (OpenSpec.ofChange intervalJoinsWrong)

/-- 'metrolablaw03.IntervalEnds': WHATEVER THE INPUT: true; the input reads as it did. -/
def intervalEndsSpec : ChangeSpec := { name := "intervalEnds", fn := fun _ => fun
  | [d1, d2, d3] => { results := [.lit (.bool true)], args := [d1, d2, d3] }
  | _ => none }
def intervalEndsRow : OpenClaim := { program := "ytabepobcmpmkdaagreat", sum := "0027673447fa51ef4d1dbf4c2d42282c8bdd1a1b06446f72dbe1f5639e52cd98", func := "metrolab/metrolablaw03.IntervalEnds", spec := "intervalEnds", inPlace := ["internal/bytealg.IndexByteString", "internal/bytealg.IndexString"], unfollowed := true, recurses := true, named := ["internal/bytealg.MaxLen"], apart := false }
def IntervalEndsSaid : Prop := intervalEndsRow.holds Tryz.pinned (OpenSpec.ofChange intervalEndsSpec)

/-- ITS FALSE NEIGHBOUR: 'it returns false'. Refute it at one input. -/
def intervalEndsWrong : ChangeSpec := { name := "intervalEnds", fn := fun _ => fun
  | [d1, d2, d3] => { results := [.lit (.bool false)], args := [d1, d2, d3] }
  | _ => none }
def IntervalEndsWrongFalsely : Prop := intervalEndsRow.holds Tryz.pinned (OpenSpec.ofChange intervalEndsWrong)

/-- 'metrolablaw03.IntervalCounts': WHATEVER THE INPUT: true; the input reads as it did. -/
def intervalCountsSpec : ChangeSpec := { name := "intervalCounts", fn := fun _ => fun
  | [d1, d2] => { results := [.lit (.bool true)], args := [d1, d2] }
  | _ => none }
def intervalCountsRow : OpenClaim := { program := "ytabepobcmpmkdaagreat", sum := "0027673447fa51ef4d1dbf4c2d42282c8bdd1a1b06446f72dbe1f5639e52cd98", func := "metrolab/metrolablaw03.IntervalCounts", spec := "intervalCounts", inPlace := ["internal/bytealg.IndexByteString", "internal/bytealg.IndexString"], unfollowed := true, recurses := true, named := ["internal/bytealg.MaxLen"], apart := false }
def IntervalCountsSaid : Prop := intervalCountsRow.holds Tryz.pinned (OpenSpec.ofChange intervalCountsSpec)

/-- ITS FALSE NEIGHBOUR: 'it returns false'. Refute it at one input. -/
def intervalCountsWrong : ChangeSpec := { name := "intervalCounts", fn := fun _ => fun
  | [d1, d2] => { results := [.lit (.bool false)], args := [d1, d2] }
  | _ => none }
def IntervalCountsWrongFalsely : Prop := intervalCountsRow.holds Tryz.pinned (OpenSpec.ofChange intervalCountsWrong)

/-- 'metrolablaw03.IntervalHolds': WHATEVER THE INPUT: true; the input reads as it did. -/
def intervalHoldsSpec : ChangeSpec := { name := "intervalHolds", fn := fun _ => fun
  | [d1, d2, d3] => { results := [.lit (.bool true)], args := [d1, d2, d3] }
  | _ => none }
def intervalHoldsRow : OpenClaim := { program := "ytabepobcmpmkdaagreat", sum := "0027673447fa51ef4d1dbf4c2d42282c8bdd1a1b06446f72dbe1f5639e52cd98", func := "metrolab/metrolablaw03.IntervalHolds", spec := "intervalHolds", inPlace := ["internal/bytealg.IndexByteString", "internal/bytealg.IndexString"], unfollowed := true, recurses := true, named := ["internal/bytealg.MaxLen"], apart := false }
def IntervalHoldsSaid : Prop := intervalHoldsRow.holds Tryz.pinned (OpenSpec.ofChange intervalHoldsSpec)

/-- ITS FALSE NEIGHBOUR: 'it returns false'. Refute it at one input. -/
def intervalHoldsWrong : ChangeSpec := { name := "intervalHolds", fn := fun _ => fun
  | [d1, d2, d3] => { results := [.lit (.bool false)], args := [d1, d2, d3] }
  | _ => none }
def IntervalHoldsWrongFalsely : Prop := intervalHoldsRow.holds Tryz.pinned (OpenSpec.ofChange intervalHoldsWrong)

/- THE SECOND FORM. 'bulk': how many values and letters a reading holds, each counted each time it is reached (what is shared counts as often as it is met; a slice's spare places count too). A statement '..UptoSaid' is the law's where the arguments, and the package variables that the reading takes, are together of bulk at most 1048576: NARROWER than '..Said'. Prove '..Said' where nothing that the law and all that it calls make is longer than what came in: it says more and counts as full. Else prove '..UptoSaid'. A law counts once. -/
mutual
def uptoBulk {H : Type} : DataW H → Nat
  | .lit (.string bytes) => bytes.length + 1
  | .lit _ => 1
  | .nil => 1
  | .ptr d => uptoBulk d + 1
  | .slice elems spare => uptoBulkAll elems + uptoBulkAll spare + 1
  | .agg parts => uptoBulkAll parts + 1
  | .iface _ d => uptoBulk d + 1
  | .map entries => uptoBulkEntries entries + 1
  | .held _ => 1
def uptoBulkAll {H : Type} : List (DataW H) → Nat
  | [] => 0
  | d :: r => uptoBulk d + uptoBulkAll r
def uptoBulkEntries {H : Type} : List (Lit × DataW H) → Nat
  | [] => 0
  | x :: r => uptoBulkEntry x + uptoBulkEntries r
def uptoBulkEntry {H : Type} : Lit × DataW H → Nat
  | (.string bytes, d) => bytes.length + uptoBulk d + 1
  | (_, d) => uptoBulk d + 1
 end
def uptoSmall : (H : Type) → List (DataW H) → Bool := fun _ ds => decide (uptoBulkAll ds ≤ 1048576)
def OpenSpec.upto (s : _root_.Go.ChangeSpec) : _root_.Go.OpenSpec := { _root_.Go.OpenSpec.ofChange s with cond := some uptoSmall }

/-- 'metrolablaw03.IntervalCombines', WHERE WHAT IT READS IS OF BULK AT MOST 1048576: true; the input reads as it did. -/
def intervalCombinesUptoRow : OpenClaim := { program := "ytabepobcmpmkdaagreat", sum := "0027673447fa51ef4d1dbf4c2d42282c8bdd1a1b06446f72dbe1f5639e52cd98", func := "metrolab/metrolablaw03.IntervalCombines", spec := "intervalCombines", inPlace := ["internal/bytealg.IndexByteString", "internal/bytealg.IndexString"], unfollowed := true, recurses := true, named := ["internal/bytealg.MaxLen"], apart := false, narrowed := true }
def IntervalCombinesUptoSaid : Prop := intervalCombinesUptoRow.holds Tryz.pinned (OpenSpec.upto intervalCombinesSpec)

/-- 'metrolablaw03.IntervalMeets', WHERE WHAT IT READS IS OF BULK AT MOST 1048576: true; the input reads as it did. -/
def intervalMeetsUptoRow : OpenClaim := { program := "ytabepobcmpmkdaagreat", sum := "0027673447fa51ef4d1dbf4c2d42282c8bdd1a1b06446f72dbe1f5639e52cd98", func := "metrolab/metrolablaw03.IntervalMeets", spec := "intervalMeets", inPlace := ["internal/bytealg.IndexByteString", "internal/bytealg.IndexString"], unfollowed := true, recurses := true, named := ["internal/bytealg.MaxLen"], apart := false, narrowed := true }
def IntervalMeetsUptoSaid : Prop := intervalMeetsUptoRow.holds Tryz.pinned (OpenSpec.upto intervalMeetsSpec)

/-- 'metrolablaw03.IntervalSets', WHERE WHAT IT READS IS OF BULK AT MOST 1048576: true; the input reads as it did. -/
def intervalSetsUptoRow : OpenClaim := { program := "ytabepobcmpmkdaagreat", sum := "0027673447fa51ef4d1dbf4c2d42282c8bdd1a1b06446f72dbe1f5639e52cd98", func := "metrolab/metrolablaw03.IntervalSets", spec := "intervalSets", inPlace := ["internal/bytealg.IndexByteString", "internal/bytealg.IndexString"], unfollowed := true, recurses := true, named := ["internal/bytealg.MaxLen"], apart := false, narrowed := true }
def IntervalSetsUptoSaid : Prop := intervalSetsUptoRow.holds Tryz.pinned (OpenSpec.upto intervalSetsSpec)

/-- 'metrolablaw03.IntervalJoins', WHERE WHAT IT READS IS OF BULK AT MOST 1048576: true; the input reads as it did. -/
def intervalJoinsUptoRow : OpenClaim := { program := "ytabepobcmpmkdaagreat", sum := "0027673447fa51ef4d1dbf4c2d42282c8bdd1a1b06446f72dbe1f5639e52cd98", func := "metrolab/metrolablaw03.IntervalJoins", spec := "intervalJoins", inPlace := ["internal/bytealg.IndexByteString", "internal/bytealg.IndexString"], unfollowed := true, recurses := true, named := ["internal/bytealg.MaxLen"], apart := false, narrowed := true }
def IntervalJoinsUptoSaid : Prop := intervalJoinsUptoRow.holds Tryz.pinned (OpenSpec.upto intervalJoinsSpec)

/-- 'metrolablaw03.IntervalEnds', WHERE WHAT IT READS IS OF BULK AT MOST 1048576: true; the input reads as it did. -/
def intervalEndsUptoRow : OpenClaim := { program := "ytabepobcmpmkdaagreat", sum := "0027673447fa51ef4d1dbf4c2d42282c8bdd1a1b06446f72dbe1f5639e52cd98", func := "metrolab/metrolablaw03.IntervalEnds", spec := "intervalEnds", inPlace := ["internal/bytealg.IndexByteString", "internal/bytealg.IndexString"], unfollowed := true, recurses := true, named := ["internal/bytealg.MaxLen"], apart := false, narrowed := true }
def IntervalEndsUptoSaid : Prop := intervalEndsUptoRow.holds Tryz.pinned (OpenSpec.upto intervalEndsSpec)

/-- 'metrolablaw03.IntervalCounts', WHERE WHAT IT READS IS OF BULK AT MOST 1048576: true; the input reads as it did. -/
def intervalCountsUptoRow : OpenClaim := { program := "ytabepobcmpmkdaagreat", sum := "0027673447fa51ef4d1dbf4c2d42282c8bdd1a1b06446f72dbe1f5639e52cd98", func := "metrolab/metrolablaw03.IntervalCounts", spec := "intervalCounts", inPlace := ["internal/bytealg.IndexByteString", "internal/bytealg.IndexString"], unfollowed := true, recurses := true, named := ["internal/bytealg.MaxLen"], apart := false, narrowed := true }
def IntervalCountsUptoSaid : Prop := intervalCountsUptoRow.holds Tryz.pinned (OpenSpec.upto intervalCountsSpec)

/-- 'metrolablaw03.IntervalHolds', WHERE WHAT IT READS IS OF BULK AT MOST 1048576: true; the input reads as it did. -/
def intervalHoldsUptoRow : OpenClaim := { program := "ytabepobcmpmkdaagreat", sum := "0027673447fa51ef4d1dbf4c2d42282c8bdd1a1b06446f72dbe1f5639e52cd98", func := "metrolab/metrolablaw03.IntervalHolds", spec := "intervalHolds", inPlace := ["internal/bytealg.IndexByteString", "internal/bytealg.IndexString"], unfollowed := true, recurses := true, named := ["internal/bytealg.MaxLen"], apart := false, narrowed := true }
def IntervalHoldsUptoSaid : Prop := intervalHoldsUptoRow.holds Tryz.pinned (OpenSpec.upto intervalHoldsSpec)

end Rows
end Go.Proofs.YtabepobcmpmkdaaGreat
