/- Texts RowKit, TabRow: each says in its own first comment what it proves. -/
import Derived.Test.YtegamkilhgekjaaGreatDoorRows
import Derived.Test.YtegamkilhgekjaaGreatDoorM01
import Derived.WalkKit
import Derived.ProofKit
import Derived.ChangeMaps5
import Derived.Test.YtegamkilhgekjaaGreatDoorM31
import Derived.SizedLaws
import Derived.ChangeSame
import Derived.ChangeVars
import Derived.JoinedOf
import Derived.JoinedAt
import Derived.RowKit3
import Derived.RowKitTokens
import Derived.LaidLaws
import Derived.Lib.LaidTab
import Derived.Stop.LaidErr
/- The end of a row for a call that leaves all blocks that were there as they were. No law is named here. -/
namespace Go.Proofs.YtegamkilhgekjaaGreatDoor
open Go.ChangeShapes Go.WideShapes Go.ChangeAt Go.RowKit
open Go.ChangeMaps (open_string shut_string)

theorem Tryz.own : ownKnob Tryz.prog.godebug = none := by kernel_rfl
end Go.Proofs.YtegamkilhgekjaaGreatDoor

/- A start that fits the rows of ratio: the listed tables as their initialisers lay them; and what a listed table says. -/
namespace Go.Proofs.YtegamkilhgekjaaGreatDoor
open Go.ChangeShapes Go.WideShapes Go.ChangeAt Go.RowKit
open Go.ChangeMaps (open_string shut_string)

/-- a table of bytes or words as a row lists it, as cells -/
def tabCells : DataW Unit → Array Value
  | .agg ds => (ds.map fun | .lit (.int k z) => Value.int k z | _ => undef).toArray
  | _ => #[]
noncomputable def laidWorld (os : Os) : World :=
  let w0 := World.holding Tryz.prog os ⟨#[], #[], []⟩
  let set (h : Array Obj) (g : Nat) (cs : Array Value) : Array Obj := h.modify g fun
      | .cells _ t frozen => .cells cs t frozen
      | o => o
  { w0 with heap := set (set (set w0.heap 2 (tabCells Rows.laid_math_bits_deBruijn32tab)) 3 (tabCells Rows.laid_math_bits_deBruijn64tab)) 1 (tabCells Rows.laid_internal_strconv_uint64pow10) }

theorem Tryz.gPow : Tryz.prog.globalNamed "internal/strconv.uint64pow10" = some 1 := by kernel_rfl
theorem Tryz.gPowType : (Tryz.prog.globals[1]?).map (·.type) = some 242 := by kernel_rfl

/-- the list of the rows -/
theorem tab_of_laid {W : World} {d1 d2 : String × DataW Unit} (hL : laidMet Tryz.prog (d1 :: d2 :: [("internal/strconv.uint64pow10", Lib.tabData .u64 Lib.pow10Tab)]) W) : Tab W :=
  Lib.tabIs_of_head Tryz.gPow Tryz.gPowType Tryz.underlying242 Tryz.underlying169 (by kernel_rfl) (by kernel_rfl) (laidMet.tail (laidMet.tail hL))
end Go.Proofs.YtegamkilhgekjaaGreatDoor
