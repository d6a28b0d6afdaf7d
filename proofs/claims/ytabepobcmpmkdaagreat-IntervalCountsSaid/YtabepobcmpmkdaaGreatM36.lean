/- Texts Region, Root4: each says in its own first comment what it proves. -/
import Derived.Test.YtabepobcmpmkdaaGreatM30
import Derived.Test.YtabepobcmpmkdaaGreatM33
/- A law for regions that draw their order: reads, calls in a chain that change the keeper alone, blocks for fractions, and stores into them. One obligation for each operation, not one for each order. -/
namespace Go.Proofs.YtabepobcmpmkdaaGreat
open Go.RowKit
open Go.Lib (nDigits itoa decDigits)

/-- which slots the operations leave alone, and what those that have come up have left -/
structure RMid (m : Nat) (T0 : Nat → Value) (dst kind : Nat → Nat) (V : Nat → Value) (l : Array Bool) (T : Nat → Value) : Prop where
  out : ∀ s, (∀ j, j < m → kind j ≠ 3 → dst j ≠ s) → T s = T0 s
  val : ∀ j, j < m → kind j ≤ 1 → l.getD j false = true → T (dst j) = V j

/-- kind 0: a read; 1: a call; 2: a new block; 3: a store into one -/
structure RegOps (ops : Array Oper) (m N g K : Nat) (w0 : World) (T0 : Nat → Value) (dst kind pos mate : Nat → Nat) (V : Nat → Value) (E : Nat → Int) (nt dt : Nat → ByteArray) : Prop where
  size : ops.size = m
  kinds : ∀ i, i < m → kind i ≤ 3
  dstN : ∀ i, i < m → kind i ≠ 3 → dst i < N
  inj : ∀ i, i < m → ∀ j, j < m → kind i ≠ 3 → kind j ≠ 3 → dst i = dst j → i = j
  op : ∀ i, i < m → ∃ o, ops[i]? = some o ∧ o.guard = none ∧ o.dst = if kind i = 3 then none else some (dst i)
  read : ∀ i, i < m → kind i = 0 → ∀ l T w o, i ∈ Region.ready .any ops l → RMid m T0 dst kind V l T → Kp [g] w0 w → ops[i]? = some o → (execOp (frameOf N T).eval o).run Tryz.prog w = .ok (.value (V i)) w
  call : ∀ i, i < m → kind i = 1 → ∀ l T w o, i ∈ Region.ready .any ops l → RMid m T0 dst kind V l T → Kp [g] w0 w → ops[i]? = some o →
    ∃ F args, (execOp (frameOf N T).eval o).run Tryz.prog w = .ok (.enter F args) w ∧ (KE w g (E (pos i)) → Calls Tryz.prog F args w fun x w' => x = .returned (V i) ∧ KE w' g (E (pos i + 1)) ∧ Kp [g] w w')
  chain : ∀ i, i < m → kind i = 1 → pos i < K ∧ ∀ l, i ∈ Region.ready .any ops l → ∀ j, j < m → kind j = 1 → pos j + 1 = pos i → l.getD j false = true
  pinj : ∀ i, i < m → ∀ j, j < m → kind i = 1 → kind j = 1 → pos i = pos j → i = j
  psur : ∀ c, c < K → ∃ i, i < m ∧ kind i = 1 ∧ pos i = c
  alloc : ∀ i, i < m → kind i = 2 → (∀ o, ops[i]? = some o → o.op = .alloc 120) ∧ mate i < m ∧ kind (mate i) = 3 ∧ mate (mate i) = i
  store : ∀ i, i < m → kind i = 3 → mate i < m ∧ kind (mate i) = 2 ∧ mate (mate i) = i ∧ ∀ l T o, i ∈ Region.ready .any ops l → RMid m T0 dst kind V l T → ops[i]? = some o →
    l.getD (mate i) false = true ∧ ∃ y, o.op = .store 120 (.tmp (dst (mate i))) y ∧ (frameOf N T).eval y = .agg #[.string (nt (mate i)), .string (dt (mate i))]
  fin : ∀ l : Array Bool, l.size = m → Region.ready .any ops l = [] → ∀ i, i < m → l.getD i false = true

structure RInv (m g K : Nat) (w0 : World) (T0 : Nat → Value) (dst kind pos mate : Nat → Nat) (V : Nat → Value) (E : Nat → Int) (nt dt : Nat → ByteArray) (l : Array Bool) (T : Nat → Value) (w : World) : Prop where
  mid : RMid m T0 dst kind V l T
  ald : ∀ i, i < m → kind i = 2 → l.getD i false = true → ∃ b, T (dst i) = .pointer (some ⟨b, 0, none⟩) ∧ w0.heap.size ≤ b ∧
    FrB w b (if l.getD (mate i) false = true then nt i else ⟨#[]⟩) (if l.getD (mate i) false = true then dt i else ⟨#[]⟩)
  dis : ∀ i j, i < m → j < m → kind i = 2 → kind j = 2 → i ≠ j → l.getD i false = true → l.getD j false = true → T (dst i) ≠ T (dst j)
  cnt : ∃ c, c ≤ K ∧ (∀ i, i < m → kind i = 1 → l.getD i false = decide (pos i < c)) ∧ KE w g (E c)
  sal : ∀ i, i < m → kind i = 2 → l.getD (mate i) false = true → l.getD i false = true
  kpw : Kp [g] w0 w

end Go.Proofs.YtabepobcmpmkdaaGreat

/- The closures of signRoots, in package ratio. -/
namespace Go.Proofs.YtabepobcmpmkdaaGreat
open Go.RowKit
open Go.Lib (nDigits itoa decDigits)

/-- what signRoots asks for last: the sign of rest + mixed root (c e), and its error -/
structure Rts where
  rN : ByteArray
  rD : ByteArray
  mN : ByteArray
  mD : ByteArray
  qN : ByteArray
  qD : ByteArray
end Go.Proofs.YtabepobcmpmkdaaGreat
