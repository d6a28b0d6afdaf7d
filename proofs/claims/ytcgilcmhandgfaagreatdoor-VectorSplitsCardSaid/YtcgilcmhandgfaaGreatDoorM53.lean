/- Texts RowKit, TabRow, OpenFlat: each says in its own first comment what it proves. -/
import Derived.Test.YtcgilcmhandgfaaGreatDoorRows
import Derived.Test.YtcgilcmhandgfaaGreatDoorM01
import Derived.WalkKit
import Derived.ProofKit
import Derived.ChangeMaps5
import Derived.Test.YtcgilcmhandgfaaGreatDoorM31
import Derived.SizedLaws
import Derived.ChangeSame
import Derived.ChangeVars
import Derived.JoinedOf
import Derived.JoinedAt
import Derived.RowKit3
import Derived.RowKitTokens
import Derived.LaidLaws
import Derived.Lib.LaidTab
import Derived.Stop.LaidErr
import Derived.Carry
/- The end of a row for a call that leaves all blocks that were there as they were. No law is named here. -/
namespace Go.Proofs.YtcgilcmhandgfaaGreatDoor
open Go.ChangeShapes Go.WideShapes Go.ChangeAt Go.RowKit
open Go.ChangeMaps (open_string shut_string)

theorem Tryz.own : ownKnob Tryz.prog.godebug = none := by kernel_rfl
end Go.Proofs.YtcgilcmhandgfaaGreatDoor

/- A start that fits the rows of ratio: the listed tables as their initialisers lay them; and what a listed table says. -/
namespace Go.Proofs.YtcgilcmhandgfaaGreatDoor
open Go.ChangeShapes Go.WideShapes Go.ChangeAt Go.RowKit
open Go.ChangeMaps (open_string shut_string)

/-- a table of bytes or words as a row lists it, as cells -/
def tabCells : DataW Unit → Array Value
  | .agg ds => (ds.map fun | .lit (.int k z) => Value.int k z | _ => undef).toArray
  | _ => #[]
noncomputable def laidWorld (os : Os) : World :=
  let w0 := World.holding Tryz.prog os ⟨#[], #[], []⟩
  let set (h : Array Obj) (g : Nat) (cs : Array Value) : Array Obj := h.modify g fun
      | .cells _ t frozen => .cells cs t frozen
      | o => o
  { w0 with heap := set (set (set w0.heap 2 (tabCells Rows.laid_math_bits_deBruijn32tab)) 3 (tabCells Rows.laid_math_bits_deBruijn64tab)) 1 (tabCells Rows.laid_internal_strconv_uint64pow10) }

theorem Tryz.gPow : Tryz.prog.globalNamed "internal/strconv.uint64pow10" = some 1 := by kernel_rfl
theorem Tryz.gPowType : (Tryz.prog.globals[1]?).map (·.type) = some 243 := by kernel_rfl

/-- the list of the rows -/
theorem tab_of_laid {W : World} {d1 d2 : String × DataW Unit} (hL : laidMet Tryz.prog (d1 :: d2 :: [("internal/strconv.uint64pow10", Lib.tabData .u64 Lib.pow10Tab)]) W) : Tab W :=
  Lib.tabIs_of_head Tryz.gPow Tryz.gPowType Tryz.underlying243 Tryz.underlying169 (by kernel_rfl) (by kernel_rfl) (laidMet.tail (laidMet.tail hL))
end Go.Proofs.YtcgilcmhandgfaaGreatDoor

/- A struct or an array of ints, opened: its cells are ints. -/
namespace Go.Proofs.YtcgilcmhandgfaaGreatDoor
open Go.ChangeShapes Go.WideShapes Go.ChangeAt Go.RowKit

def isI64 : Option TypeDesc → Bool
  | some (.int .i64) => true
  | _ => false
theorem isI64_eq {x : Option TypeDesc} (h : isI64 x = true) : x = some (.int .i64) := by
  unfold isI64 at h
  split at h
  · rfl
  · cases h
/-- all cells of a type are ints -/
def flatT (P : Program) (t : TypeId) (N : Nat) : Bool := (P.cellsOf t == N) && (match P.cellTypes P.depth t with | some ts => ts.all fun u => isI64 (P.underlying u) | none => false)
theorem open_flat {P : Program} {w : World} {r : Reach} {base : Nat} {t : TypeId} {v : Value} {N : Nat} (hf : flatT P t N = true)
    (h : ∃ cs, v = .agg cs ∧ cs.size = P.cellsOf t ∧ Row.okWide P w r base t cs) :
    ∃ zs : List Int, zs.length = N ∧ (∀ z ∈ zs, IntKind.i64.min ≤ z ∧ z ≤ IntKind.i64.max) ∧ v = .agg (zs.map fun z => Value.int .i64 z).toArray := by
  obtain ⟨cs, rfl, hsz, ts, hts, _, hc⟩ := h
  unfold flatT at hf
  rw [hts, Bool.and_eq_true, beq_iff_eq] at hf
  obtain ⟨hN, hall⟩ := hf
  rw [hN] at hsz
  have hel : ∀ i (hi : i < cs.size), ∃ z, cs[i] = .int .i64 z ∧ IntKind.i64.min ≤ z ∧ z ≤ IntKind.i64.max := by
    intro i hi
    obtain ⟨u, hu, ho⟩ := hc i cs[i] (Array.getElem?_eq_getElem hi)
    have hu2 := isI64_eq (List.all_eq_true.1 hall u (List.mem_of_getElem? hu))
    unfold Cell.okWide at ho
    rw [hu2] at ho
    unfold Cell.ok at ho
    rw [hu2] at ho
    generalize cs[i] = c at *
    cases c <;> simp at ho
    rename_i k z
    obtain ⟨rfl, ho⟩ := ho
    exact ⟨z, rfl, ho⟩
  let f : Fin cs.size → Int := fun i => (hel i i.2).choose
  have hfz : ∀ i, cs[i.1] = .int .i64 (f i) ∧ IntKind.i64.min ≤ f i ∧ f i ≤ IntKind.i64.max := fun i => (hel i i.2).choose_spec
  refine ⟨List.ofFn f, by simp [hsz], ?_, ?_⟩
  · intro z hz
    obtain ⟨i, rfl⟩ := (List.mem_ofFn).1 hz
    exact (hfz i).2
  · congr 1
    apply Array.ext
    · simp
    · intro i h1 h2
      simp [(hfz ⟨i, h1⟩).1]
theorem list2 {zs : List Int} (h : zs.length = 2) : ∃ x y, zs = [x, y] := by
  match zs, h with
  | [x, y], _ => exact ⟨x, y, rfl⟩
end Go.Proofs.YtcgilcmhandgfaaGreatDoor
