/- Texts Squares, Roots: each says in its own first comment what it proves. -/
import Derived.Test.YtiommpdbbpddpaaGreatM25
import Derived.Test.YtiommpdbbpddpaaGreatM02
import Derived.Test.YtiommpdbbpddpaaGreatM27
/- Regions 'x, y := k.squareOf(a, b), k.squareOf(c, d)' in package ratio: three loads and a call for each block, whatever order the model draws. -/
namespace Go.Proofs.YtiommpdbbpddpaaGreat
open Go.RowKit
open Go.Lib (nDigits itoa decDigits)

/-- the shape of the operations: k times three reads and a call, then k blocks, then k stores -/
structure SqOps (ops : Array Oper) (k C A N g F : Nat) (w0 : World) (T0 : Nat → Value) (u0 u1 u2 : Nat → Value) : Prop where
  size : ops.size = 6 * k
  CA : C + k ≤ A
  AN : A + 4 * k ≤ N
  hr0 : ∀ i, i < k → ∃ o, ops[4 * i]? = some o ∧ o.dst = some (A + 4 * i) ∧ o.guard = none ∧ (∀ T w, (∀ x, x < C → T x = T0 x) → Kp [g] w0 w → (execOp (frameOf N T).eval o).run Tryz.prog w = .ok (.value (u0 i)) w)
  hr1 : ∀ i, i < k → ∃ o, ops[4 * i + 1]? = some o ∧ o.dst = some (A + 4 * i + 1) ∧ o.guard = none ∧ (∀ T w, (∀ x, x < C → T x = T0 x) → Kp [g] w0 w → (execOp (frameOf N T).eval o).run Tryz.prog w = .ok (.value (u1 i)) w)
  hr2 : ∀ i, i < k → ∃ o, ops[4 * i + 2]? = some o ∧ o.dst = some (A + 4 * i + 2) ∧ o.guard = none ∧ (∀ T w, (∀ x, x < C → T x = T0 x) → Kp [g] w0 w → (execOp (frameOf N T).eval o).run Tryz.prog w = .ok (.value (u2 i)) w)
  hcl : ∀ i, i < k → ∃ o, ops[4 * i + 3]? = some o ∧ o.dst = some (A + 4 * i + 3) ∧ o.guard = none ∧ (∀ T w, T (A + 4 * i) = u0 i → T (A + 4 * i + 1) = u1 i → T (A + 4 * i + 2) = u2 i → (execOp (frameOf N T).eval o).run Tryz.prog w = .ok (.enter F #[u0 i, u1 i, u2 i]) w)
  hal : ∀ i, i < k → ∃ o, ops[4 * k + i]? = some o ∧ o.dst = some (C + i) ∧ o.op = .alloc 79 ∧ o.guard = none
  hst : ∀ i, i < k → ∃ o, ops[5 * k + i]? = some o ∧ o.dst = none ∧ o.op = .store 79 (.tmp (C + i)) (.tmp (A + 4 * i + 3)) ∧ o.guard = none
  dcl : ∀ i, i < k → ∀ l, 4 * i + 3 ∈ Region.ready .any ops l → l.getD (4 * i) false = true ∧ l.getD (4 * i + 1) false = true ∧ l.getD (4 * i + 2) false = true ∧ (∀ j, j + 1 = i → l.getD (4 * j + 3) false = true)
  dst : ∀ i, i < k → ∀ l, 5 * k + i ∈ Region.ready .any ops l → l.getD (4 * k + i) false = true ∧ l.getD (4 * i + 3) false = true
  rr0 : ∀ i, i < k → ∀ l : Array Bool, l.getD (4 * i) true = false → 4 * i ∈ Region.ready .any ops l
  rr1 : ∀ i, i < k → ∀ l : Array Bool, l.getD (4 * i + 1) true = false → 4 * i + 1 ∈ Region.ready .any ops l
  rr2 : ∀ i, i < k → ∀ l : Array Bool, l.getD (4 * i + 2) true = false → 4 * i + 2 ∈ Region.ready .any ops l
  rcl : ∀ i, i < k → ∀ l : Array Bool, l.getD (4 * i + 3) true = false → (∀ j, j < 4 * i + 3 → l.getD j false = true) → 4 * i + 3 ∈ Region.ready .any ops l
  ral : ∀ i, i < k → ∀ l : Array Bool, l.getD (4 * k + i) true = false → 4 * k + i ∈ Region.ready .any ops l
  rst : ∀ i, i < k → ∀ l : Array Bool, l.getD (5 * k + i) true = false → (∀ j, j < 5 * k + i → l.getD j false = true) → 5 * k + i ∈ Region.ready .any ops l

structure QInv (k C A g : Nat) (w0 : World) (T0 : Nat → Value) (u0 u1 u2 : Nat → Value) (n d : Nat → ByteArray) (E : Nat → Int) (l : Array Bool) (T : Nat → Value) (w : World) : Prop where
  out : ∀ j, (j < C ∨ (C + k ≤ j ∧ j < A)) ∨ A + 4 * k ≤ j → T j = T0 j
  rd0 : ∀ i, i < k → l.getD (4 * i) false = true → T (A + 4 * i) = u0 i
  rd1 : ∀ i, i < k → l.getD (4 * i + 1) false = true → T (A + 4 * i + 1) = u1 i
  rd2 : ∀ i, i < k → l.getD (4 * i + 2) false = true → T (A + 4 * i + 2) = u2 i
  cld : ∀ i, i < k → l.getD (4 * i + 3) false = true → T (A + 4 * i + 3) = .agg #[.string (n i), .string (d i)]
  ald : ∀ i, i < k → l.getD (4 * k + i) false = true → ∃ b, T (C + i) = .pointer (some ⟨b, 0, none⟩) ∧ w0.heap.size ≤ b ∧
    FrB w b (if l.getD (5 * k + i) false = true then n i else ⟨#[]⟩) (if l.getD (5 * k + i) false = true then d i else ⟨#[]⟩)
  dis : ∀ i j, i < k → j < k → i ≠ j → l.getD (4 * k + i) false = true → l.getD (4 * k + j) false = true → T (C + i) ≠ T (C + j)
  cnt : ∃ c, c ≤ k ∧ (∀ i, i < k → l.getD (4 * i + 3) false = decide (i < c)) ∧ KE w g (E c)
  sal : ∀ i, i < k → l.getD (5 * k + i) false = true → l.getD (4 * k + i) false = true
  kpw : Kp [g] w0 w

section
variable {k C A N g : Nat} {w0 w : World} {T0 T : Nat → Value} {u0 u1 u2 : Nat → Value} {n d : Nat → ByteArray} {E : Nat → Int} {l : Array Bool} {ops : Array Oper}

theorem QInv.call (h : QInv k C A g w0 T0 u0 u1 u2 n d E l T w) (hg : g < w0.heap.size) (CA : C + k ≤ A) (hs : l.size = 6 * k) {i : Nat} (hi : i < k) {w' : World}
    (hn : l.getD (4 * i + 3) false = false) (hp : ∀ j, j < i → l.getD (4 * j + 3) false = true) (hE : KE w' g (E (i + 1))) (hk : Kp [g] w w') :
    QInv k C A g w0 T0 u0 u1 u2 n d E (l.setIfInBounds (4 * i + 3) true) (updV T (A + 4 * i + 3) (.agg #[.string (n i), .string (d i)])) w' where
  out j hj := by rw [updV_ne (by omega)]; exact h.out j hj
  rd0 j hj hl := by rw [get_set (by omega)] at hl; rw [updV_ne (by omega)]; exact h.rd0 j hj hl
  rd1 j hj hl := by rw [get_set (by omega)] at hl; rw [updV_ne (by omega)]; exact h.rd1 j hj hl
  rd2 j hj hl := by rw [get_set (by omega)] at hl; rw [updV_ne (by omega)]; exact h.rd2 j hj hl
  cld j hj hl := by
    by_cases e : j = i
    · subst e; rw [updV_same]
    · rw [get_set (by omega)] at hl; rw [updV_ne (by omega)]; exact h.cld j hj hl
  ald j hj hl := by
    rw [get_set (by omega)] at hl; rw [updV_ne (by omega), get_set (by omega)]
    obtain ⟨b, h1, h2, h3⟩ := h.ald j hj hl
    exact ⟨b, h1, h2, h3.kept hk (nmem_one (by omega))⟩
  dis a b ha hb hab hla hlb := by
    rw [get_set (by omega)] at hla hlb; rw [updV_ne (by omega), updV_ne (by omega)]; exact h.dis a b ha hb hab hla hlb
  cnt := by
    obtain ⟨c, hc, h1, h2⟩ := h.cnt
    have e1 : c = i := by
      have a1 : ¬ i < c := by
        have := h1 i hi
        rw [hn] at this
        exact of_decide_eq_false this.symm
      have a2 : ¬ c < i := fun hlt => by
        have := h1 c (by omega)
        rw [hp c hlt] at this
        have := of_decide_eq_true this.symm
        omega
      omega
    subst e1
    refine ⟨c + 1, by omega, fun j hj => ?_, hE⟩
    by_cases e : j = c
    · subst e; rw [get_self (by omega)]; exact (decide_eq_true (by omega)).symm
    · rw [get_set (by omega), h1 j hj]
      by_cases e2 : j < c
      · rw [decide_eq_true e2, decide_eq_true (by omega)]
      · rw [decide_eq_false e2, decide_eq_false (by omega)]
  sal j hj hl := by rw [get_set (by omega)] at hl ⊢; exact h.sal j hj hl
  kpw := h.kpw.trans hk

theorem QInv.alloc (h : QInv k C A g w0 T0 u0 u1 u2 n d E l T w) (CA : C + k ≤ A) (hs : l.size = 6 * k) {i : Nat} (hi : i < k) (hn : l.getD (4 * k + i) false = false) :
    QInv k C A g w0 T0 u0 u1 u2 n d E (l.setIfInBounds (4 * k + i) true) (updV T (C + i) (.pointer (some ⟨w.heap.size, 0, none⟩))) (w.alloc (.cells #[.string ⟨#[]⟩, .string ⟨#[]⟩] 79 (0, 0))) where
  out j hj := by rw [updV_ne (by omega)]; exact h.out j hj
  rd0 j hj hl := by rw [get_set (by omega)] at hl; rw [updV_ne (by omega)]; exact h.rd0 j hj hl
  rd1 j hj hl := by rw [get_set (by omega)] at hl; rw [updV_ne (by omega)]; exact h.rd1 j hj hl
  rd2 j hj hl := by rw [get_set (by omega)] at hl; rw [updV_ne (by omega)]; exact h.rd2 j hj hl
  cld j hj hl := by rw [get_set (by omega)] at hl; rw [updV_ne (by omega)]; exact h.cld j hj hl
  ald j hj hl := by
    rw [get_set (by omega)]
    by_cases e : j = i
    · subst e
      have hst : ¬ l.getD (5 * k + j) false = true := fun hl2 => by have := h.sal j hj hl2; rw [hn] at this; cases this
      rw [updV_same, if_neg hst, if_neg hst]
      exact ⟨_, rfl, h.kpw.size, FrB.made w _ _⟩
    · rw [get_set (by omega)] at hl; rw [updV_ne (by omega)]
      obtain ⟨b, h1, h2, h3⟩ := h.ald j hj hl
      exact ⟨b, h1, h2, h3.alloc _⟩
  dis a b ha hb hab hla hlb := by
    by_cases ea : a = i
    · subst ea
      rw [get_set (by omega)] at hlb
      rw [updV_same, updV_ne (by omega)]
      obtain ⟨b', h1, h2, h3⟩ := h.ald b hb hlb
      rw [h1]
      have := h3.lt
      intro he
      injection he with he
      injection he with he
      injection he with he1
      omega
    · rw [get_set (by omega)] at hla
      by_cases eb : b = i
      · subst eb
        rw [updV_same, updV_ne (by omega)]
        obtain ⟨b', h1, h2, h3⟩ := h.ald a ha hla
        rw [h1]
        have := h3.lt
        intro he
        injection he with he
        injection he with he
        injection he with he1
        omega
      · rw [get_set (by omega)] at hlb; rw [updV_ne (by omega), updV_ne (by omega)]; exact h.dis a b ha hb hab hla hlb
  cnt := by
    obtain ⟨c, hc, h1, h2⟩ := h.cnt
    exact ⟨c, hc, fun j hj => by rw [get_set (by omega)]; exact h1 j hj, h2.alloc _⟩
  sal j hj hl := by
    rw [get_set (by omega)] at hl
    by_cases e : j = i
    · subst e; exact get_self (by omega) _
    · rw [get_set (by omega)]; exact h.sal j hj hl
  kpw := h.kpw.alloc _

theorem QInv.store (h : QInv k C A g w0 T0 u0 u1 u2 n d E l T w) (hg : g < w0.heap.size) (_CA : C + k ≤ A) (hs : l.size = 6 * k) {i b : Nat} (hi : i < k) (ha : l.getD (4 * k + i) false = true)
    (hT : T (C + i) = .pointer (some ⟨b, 0, none⟩)) (hb : w0.heap.size ≤ b) {p q : ByteArray} (hF : FrB w b p q) :
    QInv k C A g w0 T0 u0 u1 u2 n d E (l.setIfInBounds (5 * k + i) true) T ((w.setCell ⟨b, 0, none⟩ (.string (n i))).setCell ⟨b, 1, none⟩ (.string (d i))) where
  out := h.out
  rd0 j hj hl := by rw [get_set (by omega)] at hl; exact h.rd0 j hj hl
  rd1 j hj hl := by rw [get_set (by omega)] at hl; exact h.rd1 j hj hl
  rd2 j hj hl := by rw [get_set (by omega)] at hl; exact h.rd2 j hj hl
  cld j hj hl := by rw [get_set (by omega)] at hl; exact h.cld j hj hl
  ald j hj hl := by
    rw [get_set (by omega)] at hl
    by_cases e : j = i
    · subst e
      rw [get_self (by omega), if_pos rfl, if_pos rfl]
      exact ⟨b, hT, hb, hF.set2⟩
    · rw [get_set (by omega)]
      obtain ⟨b', h1, h2, h3⟩ := h.ald j hj hl
      refine ⟨b', h1, h2, h3.far2 (fun he => ?_) _ _⟩
      subst he
      exact h.dis j i hj hi e hl ha (h1.trans hT.symm)
  dis a b ha hb hab hla hlb := by
    rw [get_set (by omega)] at hla hlb; exact h.dis a b ha hb hab hla hlb
  cnt := by
    obtain ⟨c, hc, h1, h2⟩ := h.cnt
    exact ⟨c, hc, fun j hj => by rw [get_set (by omega)]; exact h1 j hj, ke_set2 h2 (by omega) _ _⟩
  sal j hj hl := by
    rw [get_set (by omega)]
    by_cases e : j = i
    · subst e; exact ha
    · rw [get_set (by omega)] at hl; exact h.sal j hj hl
  kpw := kp_set2 h.kpw hb _ _
end

end Go.Proofs.YtiommpdbbpddpaaGreat

/- Squares, radicands and signs of two terms, in package ratio. -/
namespace Go.Proofs.YtiommpdbbpddpaaGreat
open Go.RowKit
open Go.Lib (nDigits itoa decDigits)

/-- block b holds the keeper's pointer -/
def PtB (w : World) (b g : Nat) : Prop := w.heap[b]? = some (.cells #[.pointer (some ⟨g, 0, none⟩)] 54 (0, 0))
section
variable {w w' : World} {b g : Nat} {L : List Nat}
theorem PtB.lt (h : PtB w b g) : b < w.heap.size := (Array.getElem?_eq_some_iff.1 h).1
theorem PtB.c (h : PtB w b g) : w.cell? ⟨b, 0, none⟩ = some (.pointer (some ⟨g, 0, none⟩)) := by unfold PtB at h; simp [World.cell?, h]
theorem PtB.kept (h : PtB w b g) (k : Kp L w w') (hb : b ∉ L) : PtB w' b g := (k.block b h.lt hb).trans h
theorem PtB.alloc (h : PtB w b g) (o : Obj) : PtB (w.alloc o) b g := (Below.heap_alloc w o b h.lt).trans h
theorem PtB.drew (h : PtB w b g) : PtB w.drew b g := h
end
theorem PtB.made (w : World) (g : Nat) : PtB (w.alloc (.cells #[.pointer (some ⟨g, 0, none⟩)] 54 (0, 0))) w.heap.size g := heap_alloc_new w _

















































end Go.Proofs.YtiommpdbbpddpaaGreat
