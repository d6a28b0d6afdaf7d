/- Texts Region, Root4, Small, Ik13: each says in its own first comment what it proves. -/
import Derived.Test.YtiommpdbbpddpaaGreatM25
import Derived.Test.YtiommpdbbpddpaaGreatM28
import Derived.Test.YtiommpdbbpddpaaGreatShelf
import Derived.Test.YtiommpdbbpddpaaGreatM19
import Derived.Lib.AtoiAll
import Derived.Lib.AppendIntMem
import Derived.Lib.AtoiErrMem
import Derived.Test.YtiommpdbbpddpaaGreatM36
import Derived.Test.YtiommpdbbpddpaaGreatM37
import Derived.Deep.Cut
import Derived.Deep.CutRange
import Derived.Test.YtiommpdbbpddpaaGreatM12
import Derived.Test.YtiommpdbbpddpaaGreatM11
import Derived.Test.YtiommpdbbpddpaaGreatM34
import Derived.Test.YtiommpdbbpddpaaGreatM29
import Derived.Test.YtiommpdbbpddpaaGreatM31
import Derived.Test.YtiommpdbbpddpaaGreatM49
import Derived.Test.YtiommpdbbpddpaaGreatM32
import Derived.Test.YtiommpdbbpddpaaGreatM33
import Derived.Test.YtiommpdbbpddpaaGreatM17
import Derived.Test.YtiommpdbbpddpaaGreatM38
/- A law for regions that draw their order: reads, calls in a chain that change the keeper alone, blocks for fractions, and stores into them. One obligation for each operation, not one for each order. -/
namespace Go.Proofs.YtiommpdbbpddpaaGreat
open Go.RowKit
open Go.Lib (nDigits itoa decDigits)

/-- which slots the operations leave alone, and what those that have come up have left -/
structure RMid (m : Nat) (T0 : Nat → Value) (dst kind : Nat → Nat) (V : Nat → Value) (l : Array Bool) (T : Nat → Value) : Prop where
  out : ∀ s, (∀ j, j < m → kind j ≠ 3 → dst j ≠ s) → T s = T0 s
  val : ∀ j, j < m → kind j ≤ 1 → l.getD j false = true → T (dst j) = V j

/-- kind 0: a read; 1: a call; 2: a new block; 3: a store into one -/
structure RegOps (ops : Array Oper) (m N g K : Nat) (w0 : World) (T0 : Nat → Value) (dst kind pos mate : Nat → Nat) (V : Nat → Value) (E : Nat → Int) (nt dt : Nat → ByteArray) : Prop where
  size : ops.size = m
  kinds : ∀ i, i < m → kind i ≤ 3
  dstN : ∀ i, i < m → kind i ≠ 3 → dst i < N
  inj : ∀ i, i < m → ∀ j, j < m → kind i ≠ 3 → kind j ≠ 3 → dst i = dst j → i = j
  op : ∀ i, i < m → ∃ o, ops[i]? = some o ∧ o.guard = none ∧ o.dst = if kind i = 3 then none else some (dst i)
  read : ∀ i, i < m → kind i = 0 → ∀ l T w o, i ∈ Region.ready .any ops l → RMid m T0 dst kind V l T → Kp [g] w0 w → ops[i]? = some o → (execOp (frameOf N T).eval o).run Tryz.prog w = .ok (.value (V i)) w
  call : ∀ i, i < m → kind i = 1 → ∀ l T w o, i ∈ Region.ready .any ops l → RMid m T0 dst kind V l T → Kp [g] w0 w → ops[i]? = some o →
    ∃ F args, (execOp (frameOf N T).eval o).run Tryz.prog w = .ok (.enter F args) w ∧ (KE w g (E (pos i)) → Calls Tryz.prog F args w fun x w' => x = .returned (V i) ∧ KE w' g (E (pos i + 1)) ∧ Kp [g] w w')
  chain : ∀ i, i < m → kind i = 1 → pos i < K ∧ ∀ l, i ∈ Region.ready .any ops l → ∀ j, j < m → kind j = 1 → pos j + 1 = pos i → l.getD j false = true
  pinj : ∀ i, i < m → ∀ j, j < m → kind i = 1 → kind j = 1 → pos i = pos j → i = j
  psur : ∀ c, c < K → ∃ i, i < m ∧ kind i = 1 ∧ pos i = c
  alloc : ∀ i, i < m → kind i = 2 → (∀ o, ops[i]? = some o → o.op = .alloc 79) ∧ mate i < m ∧ kind (mate i) = 3 ∧ mate (mate i) = i
  store : ∀ i, i < m → kind i = 3 → mate i < m ∧ kind (mate i) = 2 ∧ mate (mate i) = i ∧ ∀ l T o, i ∈ Region.ready .any ops l → RMid m T0 dst kind V l T → ops[i]? = some o →
    l.getD (mate i) false = true ∧ ∃ y, o.op = .store 79 (.tmp (dst (mate i))) y ∧ (frameOf N T).eval y = .agg #[.string (nt (mate i)), .string (dt (mate i))]
  fin : ∀ l : Array Bool, l.size = m → Region.ready .any ops l = [] → ∀ i, i < m → l.getD i false = true

structure RInv (m g K : Nat) (w0 : World) (T0 : Nat → Value) (dst kind pos mate : Nat → Nat) (V : Nat → Value) (E : Nat → Int) (nt dt : Nat → ByteArray) (l : Array Bool) (T : Nat → Value) (w : World) : Prop where
  mid : RMid m T0 dst kind V l T
  ald : ∀ i, i < m → kind i = 2 → l.getD i false = true → ∃ b, T (dst i) = .pointer (some ⟨b, 0, none⟩) ∧ w0.heap.size ≤ b ∧
    FrB w b (if l.getD (mate i) false = true then nt i else ⟨#[]⟩) (if l.getD (mate i) false = true then dt i else ⟨#[]⟩)
  dis : ∀ i j, i < m → j < m → kind i = 2 → kind j = 2 → i ≠ j → l.getD i false = true → l.getD j false = true → T (dst i) ≠ T (dst j)
  cnt : ∃ c, c ≤ K ∧ (∀ i, i < m → kind i = 1 → l.getD i false = decide (pos i < c)) ∧ KE w g (E c)
  sal : ∀ i, i < m → kind i = 2 → l.getD (mate i) false = true → l.getD i false = true
  kpw : Kp [g] w0 w

end Go.Proofs.YtiommpdbbpddpaaGreat

/- The closures of signRoots, in package ratio. -/
namespace Go.Proofs.YtiommpdbbpddpaaGreat
open Go.RowKit
open Go.Lib (nDigits itoa decDigits)

/-- what signRoots asks for last: the sign of rest + mixed root (c e), and its error -/
structure Rts where
  rN : ByteArray
  rD : ByteArray
  mN : ByteArray
  mD : ByteArray
  qN : ByteArray
  qD : ByteArray
end Go.Proofs.YtiommpdbbpddpaaGreat

/- Small and Of: of whole and of the reference, for all texts and ints, where the listed variables of strconv hold what the row says. -/
namespace Go.Proofs.YtiommpdbbpddpaaGreat
open Go.RowKit
open Go.Lib (nDigits itoa decDigits)

/-! what Atoi makes of a canonical text -/
/-- an int -/
def InI (z : Int) : Prop := -9223372036854775808 ≤ z ∧ z ≤ 9223372036854775807
instance (z : Int) : Decidable (InI z) := inferInstanceAs (Decidable (_ ∧ _))
/-- what the row lists, as the walks use it -/
def Lay (w : World) : Prop := (∃ tp p, w.var? Tryz.prog "strconv.ErrRange" = some #[.iface tp p]) ∧ Lib.TabIs Tryz.prog w "internal/strconv.uint64pow10" .u64 Lib.pow10Tab
theorem var_kp {P : Program} {w w' : World} {n : String} {cs : Array Value} (h : w.var? P n = some cs) (k : Kp [] w w') : w'.var? P n = some cs := by
  unfold World.var? at *
  cases hg : P.globalNamed n with
  | none => simp [hg] at h
  | some g =>
    simp only [hg, Option.bind_some] at h ⊢
    have hlt : g < w.heap.size := by
      rcases Nat.lt_or_ge g w.heap.size with h' | h'
      · exact h'
      · rw [Array.getElem?_eq_none h'] at h; simp at h
    rw [k.block g hlt (by simp)]
    exact h
theorem Lay.kp {w w' : World} (h : Lay w) (k : Kp [] w w') : Lay w' := by
  obtain ⟨⟨tp, p, h1⟩, h2⟩ := h
  exact ⟨⟨tp, p, var_kp h1 k⟩, var_kp h2 k⟩














/-! the reference's Small -/
end Go.Proofs.YtiommpdbbpddpaaGreat

/- Scale, Hull, Contains, Within of package interval and of the reference of layer 3 give the same for short texts. -/
namespace Go.Proofs.YtiommpdbbpddpaaGreat
open Go.RowKit
open Go.Lib (nDigits itoa decDigits)

theorem kc_order (g : Nat) (e : Int) (a b : ByteArray) (ha : a.size ≤ 9223372036854775807) (hb : b.size ≤ 9223372036854775807) : KC g 67 #[.pointer (some ⟨g, 0, none⟩), .string a, .string b] e (.int .i64 (qCmV a b)) (kp e (qCmE a b)) :=
  Lib.hid fun V hR => kOrder g e _ a b _ V hR (Lib.hid fun V => qCompare_any a b V ha hb)






















































































































end Go.Proofs.YtiommpdbbpddpaaGreat
