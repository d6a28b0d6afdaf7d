/- Texts Region, Root4, RowKit, TabRow, Binom, AwakeR: each says in its own first comment what it proves. -/
import Derived.Test.YtiommpdbbpddpaaGreatDoorM26
import Derived.Test.YtiommpdbbpddpaaGreatDoorM29
import Derived.Test.YtiommpdbbpddpaaGreatDoorRows
import Derived.Test.YtiommpdbbpddpaaGreatDoorM01
import Derived.WalkKit
import Derived.ProofKit
import Derived.ChangeMaps5
import Derived.Test.YtiommpdbbpddpaaGreatDoorM27
import Derived.SizedLaws
import Derived.ChangeSame
import Derived.ChangeVars
import Derived.JoinedOf
import Derived.JoinedAt
import Derived.RowKit3
import Derived.RowKitTokens
import Derived.LaidLaws
import Derived.Lib.LaidTab
import Derived.Stop.LaidErr
import Derived.Test.YtiommpdbbpddpaaGreatDoorM08
import Derived.Test.YtiommpdbbpddpaaGreatDoorM04
import Derived.Test.YtiommpdbbpddpaaGreatDoorM06
import Derived.Test.YtiommpdbbpddpaaGreatDoorM34
/- A law for regions that draw their order: reads, calls in a chain that change the keeper alone, blocks for fractions, and stores into them. One obligation for each operation, not one for each order. -/
namespace Go.Proofs.YtiommpdbbpddpaaGreatDoor
open Go.RowKit
open Go.Lib (nDigits itoa decDigits)

/-- which slots the operations leave alone, and what those that have come up have left -/
structure RMid (m : Nat) (T0 : Nat → Value) (dst kind : Nat → Nat) (V : Nat → Value) (l : Array Bool) (T : Nat → Value) : Prop where
  out : ∀ s, (∀ j, j < m → kind j ≠ 3 → dst j ≠ s) → T s = T0 s
  val : ∀ j, j < m → kind j ≤ 1 → l.getD j false = true → T (dst j) = V j

/-- kind 0: a read; 1: a call; 2: a new block; 3: a store into one -/
structure RegOps (ops : Array Oper) (m N g K : Nat) (w0 : World) (T0 : Nat → Value) (dst kind pos mate : Nat → Nat) (V : Nat → Value) (E : Nat → Int) (nt dt : Nat → ByteArray) : Prop where
  size : ops.size = m
  kinds : ∀ i, i < m → kind i ≤ 3
  dstN : ∀ i, i < m → kind i ≠ 3 → dst i < N
  inj : ∀ i, i < m → ∀ j, j < m → kind i ≠ 3 → kind j ≠ 3 → dst i = dst j → i = j
  op : ∀ i, i < m → ∃ o, ops[i]? = some o ∧ o.guard = none ∧ o.dst = if kind i = 3 then none else some (dst i)
  read : ∀ i, i < m → kind i = 0 → ∀ l T w o, i ∈ Region.ready .any ops l → RMid m T0 dst kind V l T → Kp [g] w0 w → ops[i]? = some o → (execOp (frameOf N T).eval o).run Tryz.prog w = .ok (.value (V i)) w
  call : ∀ i, i < m → kind i = 1 → ∀ l T w o, i ∈ Region.ready .any ops l → RMid m T0 dst kind V l T → Kp [g] w0 w → ops[i]? = some o →
    ∃ F args, (execOp (frameOf N T).eval o).run Tryz.prog w = .ok (.enter F args) w ∧ (KE w g (E (pos i)) → Calls Tryz.prog F args w fun x w' => x = .returned (V i) ∧ KE w' g (E (pos i + 1)) ∧ Kp [g] w w')
  chain : ∀ i, i < m → kind i = 1 → pos i < K ∧ ∀ l, i ∈ Region.ready .any ops l → ∀ j, j < m → kind j = 1 → pos j + 1 = pos i → l.getD j false = true
  pinj : ∀ i, i < m → ∀ j, j < m → kind i = 1 → kind j = 1 → pos i = pos j → i = j
  psur : ∀ c, c < K → ∃ i, i < m ∧ kind i = 1 ∧ pos i = c
  alloc : ∀ i, i < m → kind i = 2 → (∀ o, ops[i]? = some o → o.op = .alloc 85) ∧ mate i < m ∧ kind (mate i) = 3 ∧ mate (mate i) = i
  store : ∀ i, i < m → kind i = 3 → mate i < m ∧ kind (mate i) = 2 ∧ mate (mate i) = i ∧ ∀ l T o, i ∈ Region.ready .any ops l → RMid m T0 dst kind V l T → ops[i]? = some o →
    l.getD (mate i) false = true ∧ ∃ y, o.op = .store 85 (.tmp (dst (mate i))) y ∧ (frameOf N T).eval y = .agg #[.string (nt (mate i)), .string (dt (mate i))]
  fin : ∀ l : Array Bool, l.size = m → Region.ready .any ops l = [] → ∀ i, i < m → l.getD i false = true

structure RInv (m g K : Nat) (w0 : World) (T0 : Nat → Value) (dst kind pos mate : Nat → Nat) (V : Nat → Value) (E : Nat → Int) (nt dt : Nat → ByteArray) (l : Array Bool) (T : Nat → Value) (w : World) : Prop where
  mid : RMid m T0 dst kind V l T
  ald : ∀ i, i < m → kind i = 2 → l.getD i false = true → ∃ b, T (dst i) = .pointer (some ⟨b, 0, none⟩) ∧ w0.heap.size ≤ b ∧
    FrB w b (if l.getD (mate i) false = true then nt i else ⟨#[]⟩) (if l.getD (mate i) false = true then dt i else ⟨#[]⟩)
  dis : ∀ i j, i < m → j < m → kind i = 2 → kind j = 2 → i ≠ j → l.getD i false = true → l.getD j false = true → T (dst i) ≠ T (dst j)
  cnt : ∃ c, c ≤ K ∧ (∀ i, i < m → kind i = 1 → l.getD i false = decide (pos i < c)) ∧ KE w g (E c)
  sal : ∀ i, i < m → kind i = 2 → l.getD (mate i) false = true → l.getD i false = true
  kpw : Kp [g] w0 w

end Go.Proofs.YtiommpdbbpddpaaGreatDoor

/- The closures of signRoots, in package ratio. -/
namespace Go.Proofs.YtiommpdbbpddpaaGreatDoor
open Go.RowKit
open Go.Lib (nDigits itoa decDigits)

/-- what signRoots asks for last: the sign of rest + mixed root (c e), and its error -/
structure Rts where
  rN : ByteArray
  rD : ByteArray
  mN : ByteArray
  mD : ByteArray
  qN : ByteArray
  qD : ByteArray
end Go.Proofs.YtiommpdbbpddpaaGreatDoor

/- The end of a row for a call that leaves all blocks that were there as they were. No law is named here. -/
namespace Go.Proofs.YtiommpdbbpddpaaGreatDoor
open Go.ChangeShapes Go.WideShapes Go.ChangeAt Go.RowKit
open Go.ChangeMaps (open_string shut_string)

theorem Tryz.own : ownKnob Tryz.prog.godebug = none := by kernel_rfl
end Go.Proofs.YtiommpdbbpddpaaGreatDoor

/- A start that fits the rows of ratio: the listed tables as their initialisers lay them; and what a listed table says. -/
namespace Go.Proofs.YtiommpdbbpddpaaGreatDoor
open Go.ChangeShapes Go.WideShapes Go.ChangeAt Go.RowKit
open Go.ChangeMaps (open_string shut_string)

/-- a table of bytes or words as a row lists it, as cells -/
def tabCells : DataW Unit → Array Value
  | .agg ds => (ds.map fun | .lit (.int k z) => Value.int k z | _ => undef).toArray
  | _ => #[]
noncomputable def laidWorld (os : Os) : World :=
  let w0 := World.holding Tryz.prog os ⟨#[], #[], []⟩
  let set (h : Array Obj) (g : Nat) (cs : Array Value) : Array Obj := h.modify g fun
      | .cells _ t frozen => .cells cs t frozen
      | o => o
  { w0 with heap := set (set (set w0.heap 2 (tabCells Rows.laid_math_bits_deBruijn32tab)) 3 (tabCells Rows.laid_math_bits_deBruijn64tab)) 1 (tabCells Rows.laid_internal_strconv_uint64pow10) }

theorem Tryz.gPow : Tryz.prog.globalNamed "internal/strconv.uint64pow10" = some 1 := by kernel_rfl
theorem Tryz.gPowType : (Tryz.prog.globals[1]?).map (·.type) = some 192 := by kernel_rfl

/-- the list of the rows -/
theorem tab_of_laid {W : World} {d1 d2 : String × DataW Unit} (hL : laidMet Tryz.prog (d1 :: d2 :: [("internal/strconv.uint64pow10", Lib.tabData .u64 Lib.pow10Tab)]) W) : Tab W :=
  Lib.tabIs_of_head Tryz.gPow Tryz.gPowType Tryz.underlying192 Tryz.underlying174 (by kernel_rfl) (by kernel_rfl) (laidMet.tail (laidMet.tail hL))
end Go.Proofs.YtiommpdbbpddpaaGreatDoor

/- Walk over whole.Binomial: the number of sets of k elements among n. -/
namespace Go.Proofs.YtiommpdbbpddpaaGreatDoor
open Go.RowKit
open Go.Lib (nDigits itoa decDigits)

theorem S_one : S 1 = ⟨#[49]⟩ := by unfold S; rw [show itoa 1 = decDigits 1 from rfl, dec_small (by omega)]; rfl
end Go.Proofs.YtiommpdbbpddpaaGreatDoor

/- awake of metrolablaw02: the examples of the chapter. -/
namespace Go.Proofs.YtiommpdbbpddpaaGreatDoor
open Go.RowKit
open Go.Lib (nDigits itoa decDigits)

/-- what a call with literal texts gives, whatever the world -/
def Lit (f : Nat) (args : Array Value) (v : Value) : Prop := Hid (∀ W : World, Calls Tryz.prog f args W fun e w' => e = .returned v ∧ Kp [] W w')
end Go.Proofs.YtiommpdbbpddpaaGreatDoor
