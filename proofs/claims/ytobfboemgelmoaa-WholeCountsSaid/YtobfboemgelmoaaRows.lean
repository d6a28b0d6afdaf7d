/-
  No cell of these rows narrows 'for every input' (looked for: loops, veiled, ifaces, maps, wideKeys, modest, calm, conditions, laid).
  DERIVED. THE GIVEN ROWS OF THIS SEAT. 8 by the template 'for every input the law returns true; each argument reads behind the call as it read before'; 0 by the template 'total and deterministic' (their statements: YtobfboemgelmoaaTotals.lean).
  GIVEN WITH THE SEED: the statements are not yours to turn. If you find one false, say at which input.
  Laid BY PROGRAM, IN A SANDBOX (cutbox-rows.mjs): the forced cells as the released guide's own fill.sh prints them over the translation e05eb5a75a82c7fe… (all of the seat's roots in one cut). By AI agents, Wed Nov 11 2026. No macro, syntax, notation, axiom, sorry.
-/
import Derived.Test.YtobfboemgelmoaaChecked
import GoSem.Claim
import GoSem.ClaimJoined
import GoSem.ClaimMapViews
import Derived.JoinedTies
import Derived.KernelRfl
namespace Go.Proofs.Ytobfboemgelmoaa
/- THE CELL 'sum', in the pinned program and in every row, IS THE sha256 OF THE DUMP (.gsa) THAT YtobfboemgelmoaaProg.lean LOADS. Nothing in Lean hashes anything: it is a label: what it is worth is what the hold of that sum in a sandbox is worth. -/
noncomputable def Try.pinned : Pinned := { name := "ytobfboemgelmoaa", sum := "e05eb5a75a82c7fe53782c95499d3a981fe346ae905ce7d938775bfa4edf0bae", checked := Try.checked }
namespace Rows
def none {H : Type} : Left H := { results := [], args := [] }

/-- 'metrolablaw01.WholeAdds': WHATEVER THE INPUT: true; the input reads as it did. -/
def wholeAddsSpec : ChangeSpec := { name := "wholeAdds", fn := fun _ => fun
  | [d1, d2] => { results := [.lit (.bool true)], args := [d1, d2] }
  | _ => none }
def wholeAddsRow : OpenClaim := { program := "ytobfboemgelmoaa", sum := "e05eb5a75a82c7fe53782c95499d3a981fe346ae905ce7d938775bfa4edf0bae", func := "metrolab/metrolablaw01.WholeAdds", spec := "wholeAdds", unfollowed := true, recurses := true, apart := false }
def WholeAddsSaid : Prop := wholeAddsRow.holds Try.pinned (OpenSpec.ofChange wholeAddsSpec)

/-- ITS FALSE NEIGHBOUR: 'it returns false'. Refute it at one input. -/
def wholeAddsWrong : ChangeSpec := { name := "wholeAdds", fn := fun _ => fun
  | [d1, d2] => { results := [.lit (.bool false)], args := [d1, d2] }
  | _ => none }
def WholeAddsWrongFalsely : Prop := wholeAddsRow.holds Try.pinned (OpenSpec.ofChange wholeAddsWrong)

/-- 'metrolablaw01.WholeTotals': WHATEVER THE INPUT: true; the input reads as it did. -/
def wholeTotalsSpec : ChangeSpec := { name := "wholeTotals", fn := fun _ => fun
  | [d] => { results := [.lit (.bool true)], args := [d] }
  | _ => none }
def wholeTotalsRow : OpenClaim := { program := "ytobfboemgelmoaa", sum := "e05eb5a75a82c7fe53782c95499d3a981fe346ae905ce7d938775bfa4edf0bae", func := "metrolab/metrolablaw01.WholeTotals", spec := "wholeTotals", unfollowed := true, recurses := true, apart := false }
def WholeTotalsSaid : Prop := wholeTotalsRow.holds Try.pinned (OpenSpec.ofChange wholeTotalsSpec)

/-- ITS FALSE NEIGHBOUR: 'it returns false'. Refute it at one input. -/
def wholeTotalsWrong : ChangeSpec := { name := "wholeTotals", fn := fun _ => fun
  | [d] => { results := [.lit (.bool false)], args := [d] }
  | _ => none }
def WholeTotalsWrongFalsely : Prop := wholeTotalsRow.holds Try.pinned (OpenSpec.ofChange wholeTotalsWrong)

/-- 'metrolablaw01.WholeMultiplies': WHATEVER THE INPUT: true; the input reads as it did. -/
def wholeMultipliesSpec : ChangeSpec := { name := "wholeMultiplies", fn := fun _ => fun
  | [d1, d2] => { results := [.lit (.bool true)], args := [d1, d2] }
  | _ => none }
def wholeMultipliesRow : OpenClaim := { program := "ytobfboemgelmoaa", sum := "e05eb5a75a82c7fe53782c95499d3a981fe346ae905ce7d938775bfa4edf0bae", func := "metrolab/metrolablaw01.WholeMultiplies", spec := "wholeMultiplies", unfollowed := true, recurses := true, apart := false }
def WholeMultipliesSaid : Prop := wholeMultipliesRow.holds Try.pinned (OpenSpec.ofChange wholeMultipliesSpec)

/-- ITS FALSE NEIGHBOUR: 'it returns false'. Refute it at one input. -/
def wholeMultipliesWrong : ChangeSpec := { name := "wholeMultiplies", fn := fun _ => fun
  | [d1, d2] => { results := [.lit (.bool false)], args := [d1, d2] }
  | _ => none }
def WholeMultipliesWrongFalsely : Prop := wholeMultipliesRow.holds Try.pinned (OpenSpec.ofChange wholeMultipliesWrong)

/-- 'metrolablaw01.WholeCounts': WHATEVER THE INPUT: true; the input reads as it did. -/
def wholeCountsSpec : ChangeSpec := { name := "wholeCounts", fn := fun _ => fun
  | [d1, d2, d3] => { results := [.lit (.bool true)], args := [d1, d2, d3] }
  | _ => none }
def wholeCountsRow : OpenClaim := { program := "ytobfboemgelmoaa", sum := "e05eb5a75a82c7fe53782c95499d3a981fe346ae905ce7d938775bfa4edf0bae", func := "metrolab/metrolablaw01.WholeCounts", spec := "wholeCounts", unfollowed := true, recurses := true, apart := false }
def WholeCountsSaid : Prop := wholeCountsRow.holds Try.pinned (OpenSpec.ofChange wholeCountsSpec)

/-- ITS FALSE NEIGHBOUR: 'it returns false'. Refute it at one input. -/
def wholeCountsWrong : ChangeSpec := { name := "wholeCounts", fn := fun _ => fun
  | [d1, d2, d3] => { results := [.lit (.bool false)], args := [d1, d2, d3] }
  | _ => none }
def WholeCountsWrongFalsely : Prop := wholeCountsRow.holds Try.pinned (OpenSpec.ofChange wholeCountsWrong)

/-- 'metrolablaw01.WholeObeys': WHATEVER THE INPUT: true; the input reads as it did. -/
def wholeObeysSpec : ChangeSpec := { name := "wholeObeys", fn := fun _ => fun
  | [d1, d2, d3] => { results := [.lit (.bool true)], args := [d1, d2, d3] }
  | _ => none }
def wholeObeysRow : OpenClaim := { program := "ytobfboemgelmoaa", sum := "e05eb5a75a82c7fe53782c95499d3a981fe346ae905ce7d938775bfa4edf0bae", func := "metrolab/metrolablaw01.WholeObeys", spec := "wholeObeys", unfollowed := true, recurses := true, apart := false }
def WholeObeysSaid : Prop := wholeObeysRow.holds Try.pinned (OpenSpec.ofChange wholeObeysSpec)

/-- ITS FALSE NEIGHBOUR: 'it returns false'. Refute it at one input. -/
def wholeObeysWrong : ChangeSpec := { name := "wholeObeys", fn := fun _ => fun
  | [d1, d2, d3] => { results := [.lit (.bool false)], args := [d1, d2, d3] }
  | _ => none }
def WholeObeysWrongFalsely : Prop := wholeObeysRow.holds Try.pinned (OpenSpec.ofChange wholeObeysWrong)

/-- 'metrolablaw01.WholeDivides': WHATEVER THE INPUT: true; the input reads as it did. -/
def wholeDividesSpec : ChangeSpec := { name := "wholeDivides", fn := fun _ => fun
  | [d1, d2] => { results := [.lit (.bool true)], args := [d1, d2] }
  | _ => none }
def wholeDividesRow : OpenClaim := { program := "ytobfboemgelmoaa", sum := "e05eb5a75a82c7fe53782c95499d3a981fe346ae905ce7d938775bfa4edf0bae", func := "metrolab/metrolablaw01.WholeDivides", spec := "wholeDivides", unfollowed := true, recurses := true, apart := false }
def WholeDividesSaid : Prop := wholeDividesRow.holds Try.pinned (OpenSpec.ofChange wholeDividesSpec)

/-- ITS FALSE NEIGHBOUR: 'it returns false'. Refute it at one input. -/
def wholeDividesWrong : ChangeSpec := { name := "wholeDivides", fn := fun _ => fun
  | [d1, d2] => { results := [.lit (.bool false)], args := [d1, d2] }
  | _ => none }
def WholeDividesWrongFalsely : Prop := wholeDividesRow.holds Try.pinned (OpenSpec.ofChange wholeDividesWrong)

/-- 'metrolablaw01.WholeShares': WHATEVER THE INPUT: true; the input reads as it did. -/
def wholeSharesSpec : ChangeSpec := { name := "wholeShares", fn := fun _ => fun
  | [d1, d2, d3] => { results := [.lit (.bool true)], args := [d1, d2, d3] }
  | _ => none }
def wholeSharesRow : OpenClaim := { program := "ytobfboemgelmoaa", sum := "e05eb5a75a82c7fe53782c95499d3a981fe346ae905ce7d938775bfa4edf0bae", func := "metrolab/metrolablaw01.WholeShares", spec := "wholeShares", unfollowed := true, recurses := true, apart := false }
def WholeSharesSaid : Prop := wholeSharesRow.holds Try.pinned (OpenSpec.ofChange wholeSharesSpec)

/-- ITS FALSE NEIGHBOUR: 'it returns false'. Refute it at one input. -/
def wholeSharesWrong : ChangeSpec := { name := "wholeShares", fn := fun _ => fun
  | [d1, d2, d3] => { results := [.lit (.bool false)], args := [d1, d2, d3] }
  | _ => none }
def WholeSharesWrongFalsely : Prop := wholeSharesRow.holds Try.pinned (OpenSpec.ofChange wholeSharesWrong)

/-- 'metrolablaw01.WholeChooses': WHATEVER THE INPUT: true; the input reads as it did. -/
def wholeChoosesSpec : ChangeSpec := { name := "wholeChooses", fn := fun _ => fun
  | [d1, d2, d3] => { results := [.lit (.bool true)], args := [d1, d2, d3] }
  | _ => none }
def wholeChoosesRow : OpenClaim := { program := "ytobfboemgelmoaa", sum := "e05eb5a75a82c7fe53782c95499d3a981fe346ae905ce7d938775bfa4edf0bae", func := "metrolab/metrolablaw01.WholeChooses", spec := "wholeChooses", unfollowed := true, recurses := true, apart := false }
def WholeChoosesSaid : Prop := wholeChoosesRow.holds Try.pinned (OpenSpec.ofChange wholeChoosesSpec)

/-- ITS FALSE NEIGHBOUR: 'it returns false'. Refute it at one input. -/
def wholeChoosesWrong : ChangeSpec := { name := "wholeChooses", fn := fun _ => fun
  | [d1, d2, d3] => { results := [.lit (.bool false)], args := [d1, d2, d3] }
  | _ => none }
def WholeChoosesWrongFalsely : Prop := wholeChoosesRow.holds Try.pinned (OpenSpec.ofChange wholeChoosesWrong)

/- THE SECOND FORM. 'bulk': how many values and letters a reading holds, each counted each time it is reached (what is shared counts as often as it is met; a slice's spare places count too). A statement '..UptoSaid' is the law's where the arguments, and the package variables that the reading takes, are together of bulk at most 1048576: NARROWER than '..Said'. Prove '..Said' where nothing that the law and all that it calls make is longer than what came in: it says more and counts as full. Else prove '..UptoSaid'. A law counts once. -/
mutual
def uptoBulk {H : Type} : DataW H → Nat
  | .lit (.string bytes) => bytes.length + 1
  | .lit _ => 1
  | .nil => 1
  | .ptr d => uptoBulk d + 1
  | .slice elems spare => uptoBulkAll elems + uptoBulkAll spare + 1
  | .agg parts => uptoBulkAll parts + 1
  | .iface _ d => uptoBulk d + 1
  | .map entries => uptoBulkEntries entries + 1
  | .held _ => 1
def uptoBulkAll {H : Type} : List (DataW H) → Nat
  | [] => 0
  | d :: r => uptoBulk d + uptoBulkAll r
def uptoBulkEntries {H : Type} : List (Lit × DataW H) → Nat
  | [] => 0
  | x :: r => uptoBulkEntry x + uptoBulkEntries r
def uptoBulkEntry {H : Type} : Lit × DataW H → Nat
  | (.string bytes, d) => bytes.length + uptoBulk d + 1
  | (_, d) => uptoBulk d + 1
 end
def uptoSmall : (H : Type) → List (DataW H) → Bool := fun _ ds => decide (uptoBulkAll ds ≤ 1048576)
def OpenSpec.upto (s : _root_.Go.ChangeSpec) : _root_.Go.OpenSpec := { _root_.Go.OpenSpec.ofChange s with cond := some uptoSmall }

/-- 'metrolablaw01.WholeAdds', WHERE WHAT IT READS IS OF BULK AT MOST 1048576: true; the input reads as it did. -/
def wholeAddsUptoRow : OpenClaim := { program := "ytobfboemgelmoaa", sum := "e05eb5a75a82c7fe53782c95499d3a981fe346ae905ce7d938775bfa4edf0bae", func := "metrolab/metrolablaw01.WholeAdds", spec := "wholeAdds", unfollowed := true, recurses := true, apart := false, narrowed := true }
def WholeAddsUptoSaid : Prop := wholeAddsUptoRow.holds Try.pinned (OpenSpec.upto wholeAddsSpec)

/-- 'metrolablaw01.WholeTotals', WHERE WHAT IT READS IS OF BULK AT MOST 1048576: true; the input reads as it did. -/
def wholeTotalsUptoRow : OpenClaim := { program := "ytobfboemgelmoaa", sum := "e05eb5a75a82c7fe53782c95499d3a981fe346ae905ce7d938775bfa4edf0bae", func := "metrolab/metrolablaw01.WholeTotals", spec := "wholeTotals", unfollowed := true, recurses := true, apart := false, narrowed := true }
def WholeTotalsUptoSaid : Prop := wholeTotalsUptoRow.holds Try.pinned (OpenSpec.upto wholeTotalsSpec)

/-- 'metrolablaw01.WholeMultiplies', WHERE WHAT IT READS IS OF BULK AT MOST 1048576: true; the input reads as it did. -/
def wholeMultipliesUptoRow : OpenClaim := { program := "ytobfboemgelmoaa", sum := "e05eb5a75a82c7fe53782c95499d3a981fe346ae905ce7d938775bfa4edf0bae", func := "metrolab/metrolablaw01.WholeMultiplies", spec := "wholeMultiplies", unfollowed := true, recurses := true, apart := false, narrowed := true }
def WholeMultipliesUptoSaid : Prop := wholeMultipliesUptoRow.holds Try.pinned (OpenSpec.upto wholeMultipliesSpec)

/-- 'metrolablaw01.WholeCounts', WHERE WHAT IT READS IS OF BULK AT MOST 1048576: true; the input reads as it did. -/
def wholeCountsUptoRow : OpenClaim := { program := "ytobfboemgelmoaa", sum := "e05eb5a75a82c7fe53782c95499d3a981fe346ae905ce7d938775bfa4edf0bae", func := "metrolab/metrolablaw01.WholeCounts", spec := "wholeCounts", unfollowed := true, recurses := true, apart := false, narrowed := true }
def WholeCountsUptoSaid : Prop := wholeCountsUptoRow.holds Try.pinned (OpenSpec.upto wholeCountsSpec)

/-- 'metrolablaw01.WholeObeys', WHERE WHAT IT READS IS OF BULK AT MOST 1048576: true; the input reads as it did. -/
def wholeObeysUptoRow : OpenClaim := { program := "ytobfboemgelmoaa", sum := "e05eb5a75a82c7fe53782c95499d3a981fe346ae905ce7d938775bfa4edf0bae", func := "metrolab/metrolablaw01.WholeObeys", spec := "wholeObeys", unfollowed := true, recurses := true, apart := false, narrowed := true }
def WholeObeysUptoSaid : Prop := wholeObeysUptoRow.holds Try.pinned (OpenSpec.upto wholeObeysSpec)

/-- 'metrolablaw01.WholeDivides', WHERE WHAT IT READS IS OF BULK AT MOST 1048576: true; the input reads as it did. -/
def wholeDividesUptoRow : OpenClaim := { program := "ytobfboemgelmoaa", sum := "e05eb5a75a82c7fe53782c95499d3a981fe346ae905ce7d938775bfa4edf0bae", func := "metrolab/metrolablaw01.WholeDivides", spec := "wholeDivides", unfollowed := true, recurses := true, apart := false, narrowed := true }
def WholeDividesUptoSaid : Prop := wholeDividesUptoRow.holds Try.pinned (OpenSpec.upto wholeDividesSpec)

/-- 'metrolablaw01.WholeShares', WHERE WHAT IT READS IS OF BULK AT MOST 1048576: true; the input reads as it did. -/
def wholeSharesUptoRow : OpenClaim := { program := "ytobfboemgelmoaa", sum := "e05eb5a75a82c7fe53782c95499d3a981fe346ae905ce7d938775bfa4edf0bae", func := "metrolab/metrolablaw01.WholeShares", spec := "wholeShares", unfollowed := true, recurses := true, apart := false, narrowed := true }
def WholeSharesUptoSaid : Prop := wholeSharesUptoRow.holds Try.pinned (OpenSpec.upto wholeSharesSpec)

/-- 'metrolablaw01.WholeChooses', WHERE WHAT IT READS IS OF BULK AT MOST 1048576: true; the input reads as it did. -/
def wholeChoosesUptoRow : OpenClaim := { program := "ytobfboemgelmoaa", sum := "e05eb5a75a82c7fe53782c95499d3a981fe346ae905ce7d938775bfa4edf0bae", func := "metrolab/metrolablaw01.WholeChooses", spec := "wholeChooses", unfollowed := true, recurses := true, apart := false, narrowed := true }
def WholeChoosesUptoSaid : Prop := wholeChoosesUptoRow.holds Try.pinned (OpenSpec.upto wholeChoosesSpec)

end Rows
end Go.Proofs.Ytobfboemgelmoaa
