/- Texts Squares, Roots: each says in its own first comment what it proves. -/
import Derived.Test.YtminjcknmhgpiaaGreatDoorM33
import Derived.Test.YtminjcknmhgpiaaGreatDoorM35
/- Regions 'x, y := k.squareOf(a, b), k.squareOf(c, d)' in package ratio: three loads and a call for each block, whatever order the model draws. -/
namespace Go.Proofs.YtminjcknmhgpiaaGreatDoor
open Go.RowKit
open Go.Lib (nDigits itoa decDigits)

/-- the shape of the operations: k times three reads and a call, then k blocks, then k stores -/
structure SqOps (ops : Array Oper) (k C A N g F : Nat) (w0 : World) (T0 : Nat → Value) (u0 u1 u2 : Nat → Value) : Prop where
  size : ops.size = 6 * k
  CA : C + k ≤ A
  AN : A + 4 * k ≤ N
  hr0 : ∀ i, i < k → ∃ o, ops[4 * i]? = some o ∧ o.dst = some (A + 4 * i) ∧ o.guard = none ∧ (∀ T w, (∀ x, x < C → T x = T0 x) → Kp [g] w0 w → (execOp (frameOf N T).eval o).run Tryz.prog w = .ok (.value (u0 i)) w)
  hr1 : ∀ i, i < k → ∃ o, ops[4 * i + 1]? = some o ∧ o.dst = some (A + 4 * i + 1) ∧ o.guard = none ∧ (∀ T w, (∀ x, x < C → T x = T0 x) → Kp [g] w0 w → (execOp (frameOf N T).eval o).run Tryz.prog w = .ok (.value (u1 i)) w)
  hr2 : ∀ i, i < k → ∃ o, ops[4 * i + 2]? = some o ∧ o.dst = some (A + 4 * i + 2) ∧ o.guard = none ∧ (∀ T w, (∀ x, x < C → T x = T0 x) → Kp [g] w0 w → (execOp (frameOf N T).eval o).run Tryz.prog w = .ok (.value (u2 i)) w)
  hcl : ∀ i, i < k → ∃ o, ops[4 * i + 3]? = some o ∧ o.dst = some (A + 4 * i + 3) ∧ o.guard = none ∧ (∀ T w, T (A + 4 * i) = u0 i → T (A + 4 * i + 1) = u1 i → T (A + 4 * i + 2) = u2 i → (execOp (frameOf N T).eval o).run Tryz.prog w = .ok (.enter F #[u0 i, u1 i, u2 i]) w)
  hal : ∀ i, i < k → ∃ o, ops[4 * k + i]? = some o ∧ o.dst = some (C + i) ∧ o.op = .alloc 86 ∧ o.guard = none
  hst : ∀ i, i < k → ∃ o, ops[5 * k + i]? = some o ∧ o.dst = none ∧ o.op = .store 86 (.tmp (C + i)) (.tmp (A + 4 * i + 3)) ∧ o.guard = none
  dcl : ∀ i, i < k → ∀ l, 4 * i + 3 ∈ Region.ready .any ops l → l.getD (4 * i) false = true ∧ l.getD (4 * i + 1) false = true ∧ l.getD (4 * i + 2) false = true ∧ (∀ j, j + 1 = i → l.getD (4 * j + 3) false = true)
  dst : ∀ i, i < k → ∀ l, 5 * k + i ∈ Region.ready .any ops l → l.getD (4 * k + i) false = true ∧ l.getD (4 * i + 3) false = true
  rr0 : ∀ i, i < k → ∀ l : Array Bool, l.getD (4 * i) true = false → 4 * i ∈ Region.ready .any ops l
  rr1 : ∀ i, i < k → ∀ l : Array Bool, l.getD (4 * i + 1) true = false → 4 * i + 1 ∈ Region.ready .any ops l
  rr2 : ∀ i, i < k → ∀ l : Array Bool, l.getD (4 * i + 2) true = false → 4 * i + 2 ∈ Region.ready .any ops l
  rcl : ∀ i, i < k → ∀ l : Array Bool, l.getD (4 * i + 3) true = false → (∀ j, j < 4 * i + 3 → l.getD j false = true) → 4 * i + 3 ∈ Region.ready .any ops l
  ral : ∀ i, i < k → ∀ l : Array Bool, l.getD (4 * k + i) true = false → 4 * k + i ∈ Region.ready .any ops l
  rst : ∀ i, i < k → ∀ l : Array Bool, l.getD (5 * k + i) true = false → (∀ j, j < 5 * k + i → l.getD j false = true) → 5 * k + i ∈ Region.ready .any ops l

structure QInv (k C A g : Nat) (w0 : World) (T0 : Nat → Value) (u0 u1 u2 : Nat → Value) (n d : Nat → ByteArray) (E : Nat → Int) (l : Array Bool) (T : Nat → Value) (w : World) : Prop where
  out : ∀ j, (j < C ∨ (C + k ≤ j ∧ j < A)) ∨ A + 4 * k ≤ j → T j = T0 j
  rd0 : ∀ i, i < k → l.getD (4 * i) false = true → T (A + 4 * i) = u0 i
  rd1 : ∀ i, i < k → l.getD (4 * i + 1) false = true → T (A + 4 * i + 1) = u1 i
  rd2 : ∀ i, i < k → l.getD (4 * i + 2) false = true → T (A + 4 * i + 2) = u2 i
  cld : ∀ i, i < k → l.getD (4 * i + 3) false = true → T (A + 4 * i + 3) = .agg #[.string (n i), .string (d i)]
  ald : ∀ i, i < k → l.getD (4 * k + i) false = true → ∃ b, T (C + i) = .pointer (some ⟨b, 0, none⟩) ∧ w0.heap.size ≤ b ∧
    FrB w b (if l.getD (5 * k + i) false = true then n i else ⟨#[]⟩) (if l.getD (5 * k + i) false = true then d i else ⟨#[]⟩)
  dis : ∀ i j, i < k → j < k → i ≠ j → l.getD (4 * k + i) false = true → l.getD (4 * k + j) false = true → T (C + i) ≠ T (C + j)
  cnt : ∃ c, c ≤ k ∧ (∀ i, i < k → l.getD (4 * i + 3) false = decide (i < c)) ∧ KE w g (E c)
  sal : ∀ i, i < k → l.getD (5 * k + i) false = true → l.getD (4 * k + i) false = true
  kpw : Kp [g] w0 w

section
variable {k C A N g : Nat} {w0 w : World} {T0 T : Nat → Value} {u0 u1 u2 : Nat → Value} {n d : Nat → ByteArray} {E : Nat → Int} {l : Array Bool} {ops : Array Oper}

theorem QInv.read0 (h : QInv k C A g w0 T0 u0 u1 u2 n d E l T w) (CA : C + k ≤ A) (hs : l.size = 6 * k) {i : Nat} (hi : i < k) :
    QInv k C A g w0 T0 u0 u1 u2 n d E (l.setIfInBounds (4 * i) true) (updV T (A + 4 * i) (u0 i)) w where
  out j hj := by rw [updV_ne (by omega)]; exact h.out j hj
  rd0 j hj hl := by
    by_cases e : j = i
    · subst e; rw [updV_same]
    · rw [get_set (by omega)] at hl; rw [updV_ne (by omega)]; exact h.rd0 j hj hl
  rd1 j hj hl := by rw [get_set (by omega)] at hl; rw [updV_ne (by omega)]; exact h.rd1 j hj hl
  rd2 j hj hl := by rw [get_set (by omega)] at hl; rw [updV_ne (by omega)]; exact h.rd2 j hj hl
  cld j hj hl := by rw [get_set (by omega)] at hl; rw [updV_ne (by omega)]; exact h.cld j hj hl
  ald j hj hl := by
    rw [get_set (by omega)] at hl; rw [updV_ne (by omega), get_set (by omega)]; exact h.ald j hj hl
  dis a b ha hb hab hla hlb := by
    rw [get_set (by omega)] at hla hlb; rw [updV_ne (by omega), updV_ne (by omega)]; exact h.dis a b ha hb hab hla hlb
  cnt := by
    obtain ⟨c, hc, h1, h2⟩ := h.cnt
    exact ⟨c, hc, fun j hj => by rw [get_set (by omega)]; exact h1 j hj, h2⟩
  sal j hj hl := by rw [get_set (by omega)] at hl ⊢; exact h.sal j hj hl
  kpw := h.kpw

theorem QInv.read1 (h : QInv k C A g w0 T0 u0 u1 u2 n d E l T w) (CA : C + k ≤ A) (hs : l.size = 6 * k) {i : Nat} (hi : i < k) :
    QInv k C A g w0 T0 u0 u1 u2 n d E (l.setIfInBounds (4 * i + 1) true) (updV T (A + 4 * i + 1) (u1 i)) w where
  out j hj := by rw [updV_ne (by omega)]; exact h.out j hj
  rd0 j hj hl := by rw [get_set (by omega)] at hl; rw [updV_ne (by omega)]; exact h.rd0 j hj hl
  rd1 j hj hl := by
    by_cases e : j = i
    · subst e; rw [updV_same]
    · rw [get_set (by omega)] at hl; rw [updV_ne (by omega)]; exact h.rd1 j hj hl
  rd2 j hj hl := by rw [get_set (by omega)] at hl; rw [updV_ne (by omega)]; exact h.rd2 j hj hl
  cld j hj hl := by rw [get_set (by omega)] at hl; rw [updV_ne (by omega)]; exact h.cld j hj hl
  ald j hj hl := by
    rw [get_set (by omega)] at hl; rw [updV_ne (by omega), get_set (by omega)]; exact h.ald j hj hl
  dis a b ha hb hab hla hlb := by
    rw [get_set (by omega)] at hla hlb; rw [updV_ne (by omega), updV_ne (by omega)]; exact h.dis a b ha hb hab hla hlb
  cnt := by
    obtain ⟨c, hc, h1, h2⟩ := h.cnt
    exact ⟨c, hc, fun j hj => by rw [get_set (by omega)]; exact h1 j hj, h2⟩
  sal j hj hl := by rw [get_set (by omega)] at hl ⊢; exact h.sal j hj hl
  kpw := h.kpw

theorem QInv.read2 (h : QInv k C A g w0 T0 u0 u1 u2 n d E l T w) (CA : C + k ≤ A) (hs : l.size = 6 * k) {i : Nat} (hi : i < k) :
    QInv k C A g w0 T0 u0 u1 u2 n d E (l.setIfInBounds (4 * i + 2) true) (updV T (A + 4 * i + 2) (u2 i)) w where
  out j hj := by rw [updV_ne (by omega)]; exact h.out j hj
  rd0 j hj hl := by rw [get_set (by omega)] at hl; rw [updV_ne (by omega)]; exact h.rd0 j hj hl
  rd1 j hj hl := by rw [get_set (by omega)] at hl; rw [updV_ne (by omega)]; exact h.rd1 j hj hl
  rd2 j hj hl := by
    by_cases e : j = i
    · subst e; rw [updV_same]
    · rw [get_set (by omega)] at hl; rw [updV_ne (by omega)]; exact h.rd2 j hj hl
  cld j hj hl := by rw [get_set (by omega)] at hl; rw [updV_ne (by omega)]; exact h.cld j hj hl
  ald j hj hl := by
    rw [get_set (by omega)] at hl; rw [updV_ne (by omega), get_set (by omega)]; exact h.ald j hj hl
  dis a b ha hb hab hla hlb := by
    rw [get_set (by omega)] at hla hlb; rw [updV_ne (by omega), updV_ne (by omega)]; exact h.dis a b ha hb hab hla hlb
  cnt := by
    obtain ⟨c, hc, h1, h2⟩ := h.cnt
    exact ⟨c, hc, fun j hj => by rw [get_set (by omega)]; exact h1 j hj, h2⟩
  sal j hj hl := by rw [get_set (by omega)] at hl ⊢; exact h.sal j hj hl
  kpw := h.kpw

theorem QInv.call (h : QInv k C A g w0 T0 u0 u1 u2 n d E l T w) (hg : g < w0.heap.size) (CA : C + k ≤ A) (hs : l.size = 6 * k) {i : Nat} (hi : i < k) {w' : World}
    (hn : l.getD (4 * i + 3) false = false) (hp : ∀ j, j < i → l.getD (4 * j + 3) false = true) (hE : KE w' g (E (i + 1))) (hk : Kp [g] w w') :
    QInv k C A g w0 T0 u0 u1 u2 n d E (l.setIfInBounds (4 * i + 3) true) (updV T (A + 4 * i + 3) (.agg #[.string (n i), .string (d i)])) w' where
  out j hj := by rw [updV_ne (by omega)]; exact h.out j hj
  rd0 j hj hl := by rw [get_set (by omega)] at hl; rw [updV_ne (by omega)]; exact h.rd0 j hj hl
  rd1 j hj hl := by rw [get_set (by omega)] at hl; rw [updV_ne (by omega)]; exact h.rd1 j hj hl
  rd2 j hj hl := by rw [get_set (by omega)] at hl; rw [updV_ne (by omega)]; exact h.rd2 j hj hl
  cld j hj hl := by
    by_cases e : j = i
    · subst e; rw [updV_same]
    · rw [get_set (by omega)] at hl; rw [updV_ne (by omega)]; exact h.cld j hj hl
  ald j hj hl := by
    rw [get_set (by omega)] at hl; rw [updV_ne (by omega), get_set (by omega)]
    obtain ⟨b, h1, h2, h3⟩ := h.ald j hj hl
    exact ⟨b, h1, h2, h3.kept hk (nmem_one (by omega))⟩
  dis a b ha hb hab hla hlb := by
    rw [get_set (by omega)] at hla hlb; rw [updV_ne (by omega), updV_ne (by omega)]; exact h.dis a b ha hb hab hla hlb
  cnt := by
    obtain ⟨c, hc, h1, h2⟩ := h.cnt
    have e1 : c = i := by
      have a1 : ¬ i < c := by
        have := h1 i hi
        rw [hn] at this
        exact of_decide_eq_false this.symm
      have a2 : ¬ c < i := fun hlt => by
        have := h1 c (by omega)
        rw [hp c hlt] at this
        have := of_decide_eq_true this.symm
        omega
      omega
    subst e1
    refine ⟨c + 1, by omega, fun j hj => ?_, hE⟩
    by_cases e : j = c
    · subst e; rw [get_self (by omega)]; exact (decide_eq_true (by omega)).symm
    · rw [get_set (by omega), h1 j hj]
      by_cases e2 : j < c
      · rw [decide_eq_true e2, decide_eq_true (by omega)]
      · rw [decide_eq_false e2, decide_eq_false (by omega)]
  sal j hj hl := by rw [get_set (by omega)] at hl ⊢; exact h.sal j hj hl
  kpw := h.kpw.trans hk

theorem QInv.alloc (h : QInv k C A g w0 T0 u0 u1 u2 n d E l T w) (CA : C + k ≤ A) (hs : l.size = 6 * k) {i : Nat} (hi : i < k) (hn : l.getD (4 * k + i) false = false) :
    QInv k C A g w0 T0 u0 u1 u2 n d E (l.setIfInBounds (4 * k + i) true) (updV T (C + i) (.pointer (some ⟨w.heap.size, 0, none⟩))) (w.alloc (.cells #[.string ⟨#[]⟩, .string ⟨#[]⟩] 86 (0, 0))) where
  out j hj := by rw [updV_ne (by omega)]; exact h.out j hj
  rd0 j hj hl := by rw [get_set (by omega)] at hl; rw [updV_ne (by omega)]; exact h.rd0 j hj hl
  rd1 j hj hl := by rw [get_set (by omega)] at hl; rw [updV_ne (by omega)]; exact h.rd1 j hj hl
  rd2 j hj hl := by rw [get_set (by omega)] at hl; rw [updV_ne (by omega)]; exact h.rd2 j hj hl
  cld j hj hl := by rw [get_set (by omega)] at hl; rw [updV_ne (by omega)]; exact h.cld j hj hl
  ald j hj hl := by
    rw [get_set (by omega)]
    by_cases e : j = i
    · subst e
      have hst : ¬ l.getD (5 * k + j) false = true := fun hl2 => by have := h.sal j hj hl2; rw [hn] at this; cases this
      rw [updV_same, if_neg hst, if_neg hst]
      exact ⟨_, rfl, h.kpw.size, FrB.made w _ _⟩
    · rw [get_set (by omega)] at hl; rw [updV_ne (by omega)]
      obtain ⟨b, h1, h2, h3⟩ := h.ald j hj hl
      exact ⟨b, h1, h2, h3.alloc _⟩
  dis a b ha hb hab hla hlb := by
    by_cases ea : a = i
    · subst ea
      rw [get_set (by omega)] at hlb
      rw [updV_same, updV_ne (by omega)]
      obtain ⟨b', h1, h2, h3⟩ := h.ald b hb hlb
      rw [h1]
      have := h3.lt
      intro he
      injection he with he
      injection he with he
      injection he with he1
      omega
    · rw [get_set (by omega)] at hla
      by_cases eb : b = i
      · subst eb
        rw [updV_same, updV_ne (by omega)]
        obtain ⟨b', h1, h2, h3⟩ := h.ald a ha hla
        rw [h1]
        have := h3.lt
        intro he
        injection he with he
        injection he with he
        injection he with he1
        omega
      · rw [get_set (by omega)] at hlb; rw [updV_ne (by omega), updV_ne (by omega)]; exact h.dis a b ha hb hab hla hlb
  cnt := by
    obtain ⟨c, hc, h1, h2⟩ := h.cnt
    exact ⟨c, hc, fun j hj => by rw [get_set (by omega)]; exact h1 j hj, h2.alloc _⟩
  sal j hj hl := by
    rw [get_set (by omega)] at hl
    by_cases e : j = i
    · subst e; exact get_self (by omega) _
    · rw [get_set (by omega)]; exact h.sal j hj hl
  kpw := h.kpw.alloc _

theorem QInv.store (h : QInv k C A g w0 T0 u0 u1 u2 n d E l T w) (hg : g < w0.heap.size) (_CA : C + k ≤ A) (hs : l.size = 6 * k) {i b : Nat} (hi : i < k) (ha : l.getD (4 * k + i) false = true)
    (hT : T (C + i) = .pointer (some ⟨b, 0, none⟩)) (hb : w0.heap.size ≤ b) {p q : ByteArray} (hF : FrB w b p q) :
    QInv k C A g w0 T0 u0 u1 u2 n d E (l.setIfInBounds (5 * k + i) true) T ((w.setCell ⟨b, 0, none⟩ (.string (n i))).setCell ⟨b, 1, none⟩ (.string (d i))) where
  out := h.out
  rd0 j hj hl := by rw [get_set (by omega)] at hl; exact h.rd0 j hj hl
  rd1 j hj hl := by rw [get_set (by omega)] at hl; exact h.rd1 j hj hl
  rd2 j hj hl := by rw [get_set (by omega)] at hl; exact h.rd2 j hj hl
  cld j hj hl := by rw [get_set (by omega)] at hl; exact h.cld j hj hl
  ald j hj hl := by
    rw [get_set (by omega)] at hl
    by_cases e : j = i
    · subst e
      rw [get_self (by omega), if_pos rfl, if_pos rfl]
      exact ⟨b, hT, hb, hF.set2⟩
    · rw [get_set (by omega)]
      obtain ⟨b', h1, h2, h3⟩ := h.ald j hj hl
      refine ⟨b', h1, h2, h3.far2 (fun he => ?_) _ _⟩
      subst he
      exact h.dis j i hj hi e hl ha (h1.trans hT.symm)
  dis a b ha hb hab hla hlb := by
    rw [get_set (by omega)] at hla hlb; exact h.dis a b ha hb hab hla hlb
  cnt := by
    obtain ⟨c, hc, h1, h2⟩ := h.cnt
    exact ⟨c, hc, fun j hj => by rw [get_set (by omega)]; exact h1 j hj, ke_set2 h2 (by omega) _ _⟩
  sal j hj hl := by
    rw [get_set (by omega)]
    by_cases e : j = i
    · subst e; exact ha
    · rw [get_set (by omega)] at hl; exact h.sal j hj hl
  kpw := kp_set2 h.kpw hb _ _
end

/-- the law of such a region -/
theorem squares_region {k C A N g F id : Nat} {ops : Array Oper} {T0 : Nat → Value} {u0 u1 u2 : Nat → Value} {n d : Nat → ByteArray} {E : Nat → Int} {w : World} {Q : Exit → Act → World → Prop}
    (hm : Tryz.prog.follows .mixedOrders = true) (hO : SqOps ops k C A N g F w.drew T0 u0 u1 u2) (hke : KE w.drew g (E 0))
    (hcon : ∀ i, i < k → ∀ W, KE W g (E i) → Calls Tryz.prog F #[u0 i, u1 i, u2 i] W fun x w' => x = .returned (.agg #[.string (n i), .string (d i)]) ∧ KE w' g (E (i + 1)) ∧ Kp [g] W w')
    (_hP : ∀ c a w', Q (.panic c) a w' → Q (.panic c) a w')
    (hQ : ∀ (T : Nat → Value) (b : Nat → Nat) (w' : World), (∀ j, (j < C ∨ (C + k ≤ j ∧ j < A)) ∨ A + 4 * k ≤ j → T j = T0 j) →
      (∀ i, i < k → T (A + 4 * i) = u0 i ∧ T (A + 4 * i + 1) = u1 i ∧ T (A + 4 * i + 2) = u2 i ∧ T (A + 4 * i + 3) = .agg #[.string (n i), .string (d i)] ∧ T (C + i) = .pointer (some ⟨b i, 0, none⟩) ∧ w.heap.size ≤ b i ∧ FrB w' (b i) (n i) (d i)) →
      KE w' g (E k) → Kp [g] w w' → Q .normal (frameOf N T) w') :
    (Code.region id ops true).wp Tryz.prog Q (frameOf N T0) w := by
  have hg : g < w.drew.heap.size := hke.lt
  have hCA := hO.CA
  have hAN := hO.AN
  refine wp_region_any hm (wpAny_inv (fun l a w' => ∃ T, a = frameOf N T ∧ QInv k C A g w.drew T0 u0 u1 u2 n d E l T w') ?_ ?_ ops.size (Array.replicate ops.size false) _ _ (by simp) ?_ ?_)
  · -- all have come up
    rintro l a w' hs ⟨T, rfl, h⟩ hr
    have hsz : l.size = 6 * k := by rw [hs, hO.size]
    have nomem : ∀ i, i ∉ Region.ready .any ops l := by intro i; rw [hr]; simp
    have lr0 : ∀ i, i < k → l.getD (4 * i) false = true := fun i hi => true_of_not (by omega) (fun hf => nomem _ (hO.rr0 i hi l hf))
    have lr1 : ∀ i, i < k → l.getD (4 * i + 1) false = true := fun i hi => true_of_not (by omega) (fun hf => nomem _ (hO.rr1 i hi l hf))
    have lr2 : ∀ i, i < k → l.getD (4 * i + 2) false = true := fun i hi => true_of_not (by omega) (fun hf => nomem _ (hO.rr2 i hi l hf))
    have lal : ∀ i, i < k → l.getD (4 * k + i) false = true := fun i hi => true_of_not (by omega) (fun hf => nomem _ (hO.ral i hi l hf))
    have lcl : ∀ m i, i ≤ m → i < k → l.getD (4 * i + 3) false = true := by
      intro m
      induction m with
      | zero =>
        intro i hi hk
        obtain rfl : i = 0 := by omega
        refine true_of_not (by omega) (fun hf => nomem _ (hO.rcl 0 hk l hf fun j hj => ?_))
        obtain rfl | rfl | rfl : j = 0 ∨ j = 1 ∨ j = 2 := by omega
        · exact lr0 0 hk
        · exact lr1 0 hk
        · exact lr2 0 hk
      | succ m ih =>
        intro i hi hk
        refine true_of_not (by omega) (fun hf => nomem _ (hO.rcl i hk l hf fun j hj => ?_))
        obtain ⟨q, hq⟩ : ∃ q, j = 4 * q ∨ j = 4 * q + 1 ∨ j = 4 * q + 2 ∨ j = 4 * q + 3 := ⟨j / 4, by omega⟩
        rcases hq with rfl | rfl | rfl | rfl
        · exact lr0 q (by omega)
        · exact lr1 q (by omega)
        · exact lr2 q (by omega)
        · exact ih q (by omega) (by omega)
    have lpre : ∀ j, j < 5 * k → l.getD j false = true := by
      intro j hj
      by_cases h3 : j < 4 * k
      · obtain ⟨q, hq⟩ : ∃ q, j = 4 * q ∨ j = 4 * q + 1 ∨ j = 4 * q + 2 ∨ j = 4 * q + 3 := ⟨j / 4, by omega⟩
        rcases hq with rfl | rfl | rfl | rfl
        · exact lr0 q (by omega)
        · exact lr1 q (by omega)
        · exact lr2 q (by omega)
        · exact lcl q q (Nat.le_refl _) (by omega)
      · have := lal (j - 4 * k) (by omega)
        rwa [show 4 * k + (j - 4 * k) = j by omega] at this
    have lst : ∀ m i, i ≤ m → i < k → l.getD (5 * k + i) false = true := by
      intro m
      induction m with
      | zero =>
        intro i hi hk
        refine true_of_not (by omega) (fun hf => nomem _ (hO.rst i hk l hf fun j hj => lpre j (by omega)))
      | succ m ih =>
        intro i hi hk
        refine true_of_not (by omega) (fun hf => nomem _ (hO.rst i hk l hf fun j hj => ?_))
        by_cases h4 : j < 5 * k
        · exact lpre j h4
        · have := ih (j - 5 * k) (by omega) (by omega)
          rwa [show 5 * k + (j - 5 * k) = j by omega] at this
    have hb : ∀ i, i < k → ∃ b, T (C + i) = .pointer (some ⟨b, 0, none⟩) ∧ w.heap.size ≤ b ∧ FrB w' b (n i) (d i) := by
      intro i hi
      obtain ⟨b, h1, h2, h3⟩ := h.ald i hi (lal i hi)
      rw [if_pos (lst i i (Nat.le_refl _) hi), if_pos (lst i i (Nat.le_refl _) hi)] at h3
      exact ⟨b, h1, h2, h3⟩
    have hb2 : ∃ b : Nat → Nat, ∀ i, i < k → T (C + i) = .pointer (some ⟨b i, 0, none⟩) ∧ w.heap.size ≤ b i ∧ FrB w' (b i) (n i) (d i) := by
      refine ⟨fun i => if hi : i < k then (hb i hi).choose else 0, fun i hi => ?_⟩
      simp only [hi, dif_pos]
      exact (hb i hi).choose_spec
    obtain ⟨b, hb3⟩ := hb2
    obtain ⟨c, hc, hc1, hc2⟩ := h.cnt
    have hck : c = k := by
      by_cases e : c < k
      · have := hc1 c e
        rw [lcl c c (Nat.le_refl _) e] at this
        have := of_decide_eq_true this.symm
        omega
      · omega
    subst hck
    refine hQ T b w' h.out (fun i hi => ?_) hc2 ⟨h.kpw.os, h.kpw.tape, h.kpw.output, h.kpw.size, h.kpw.block⟩
    obtain ⟨h1, h2, h3⟩ := hb3 i hi
    exact ⟨h.rd0 i hi (lr0 i hi), h.rd1 i hi (lr1 i hi), h.rd2 i hi (lr2 i hi), h.cld i hi (lcl i i (Nat.le_refl _) hi), h1, h2, h3⟩
  · -- one comes up
    rintro l a w' i hs ⟨T, rfl, h⟩ hr
    have hsz : l.size = 6 * k := by rw [hs, hO.size]
    obtain ⟨hil, hun⟩ := ready_lt hr
    rw [hO.size] at hil
    by_cases h3 : i < 4 * k
    · obtain ⟨q, hq⟩ : ∃ q, i = 4 * q ∨ i = 4 * q + 1 ∨ i = 4 * q + 2 ∨ i = 4 * q + 3 := ⟨i / 4, by omega⟩
      rcases hq with rfl | rfl | rfl | rfl
      · obtain ⟨o, h1, h2, h5, h6⟩ := hO.hr0 q (by omega)
        refine wpOp_of h1 h5 ?_
        unfold Oper.wp
        rw [h6 T w' (fun x hx => h.out x (by omega)) h.kpw, Oper.upon_value, h2, frame_put]
        exact ⟨_, rfl, h.read0 hCA hsz (by omega)⟩
      · obtain ⟨o, h1, h2, h5, h6⟩ := hO.hr1 q (by omega)
        refine wpOp_of h1 h5 ?_
        unfold Oper.wp
        rw [h6 T w' (fun x hx => h.out x (by omega)) h.kpw, Oper.upon_value, h2, frame_put]
        exact ⟨_, rfl, h.read1 hCA hsz (by omega)⟩
      · obtain ⟨o, h1, h2, h5, h6⟩ := hO.hr2 q (by omega)
        refine wpOp_of h1 h5 ?_
        unfold Oper.wp
        rw [h6 T w' (fun x hx => h.out x (by omega)) h.kpw, Oper.upon_value, h2, frame_put]
        exact ⟨_, rfl, h.read2 hCA hsz (by omega)⟩
      · obtain ⟨o, h1, h2, h5, h6⟩ := hO.hcl q (by omega)
        obtain ⟨d1, d2, dd2, d3⟩ := hO.dcl q (by omega) l hr
        refine wpOp_of h1 h5 ?_
        unfold Oper.wp
        rw [h6 T w' (h.rd0 q (by omega) d1) (h.rd1 q (by omega) d2) (h.rd2 q (by omega) dd2)]
        have hnl := false_of_true (l := l) (by omega) hun
        obtain ⟨c, hc, hc1, hc2⟩ := h.cnt
        have hcq : c = q := by
          have a1 : ¬ q < c := by
            have := hc1 q (by omega)
            rw [hnl] at this
            exact of_decide_eq_false this.symm
          have a2 : ¬ c < q := fun hlt => by
            have := hc1 (q - 1) (by omega)
            rw [d3 (q - 1) (by omega)] at this
            have := of_decide_eq_true this.symm
            omega
          omega
        subst hcq
        have d3' : ∀ j, j < c → l.getD (4 * j + 3) false = true := fun j hj => by rw [hc1 j (by omega)]; exact decide_eq_true hj
        have hcon2 := hcon c (by omega) w' hc2
        unfold Oper.upon
        refine Calls.mono hcon2 ?_
        rintro x w2 ⟨rfl, hE2, hk2⟩
        simp only []
        rw [h2, frame_put]
        exact ⟨_, rfl, h.call hg hCA hsz (by omega) hnl d3' hE2 hk2⟩
    · by_cases h4k : i < 5 * k
      · obtain ⟨q, rfl⟩ : ∃ q, i = 4 * k + q := ⟨i - 4 * k, by omega⟩
        obtain ⟨o, h1, h2, h4, h5⟩ := hO.hal q (by omega)
        refine wpOp_of h1 h5 ?_
        unfold Oper.wp
        rw [op_alloc h4, Oper.upon_value, h2, frame_put]
        exact ⟨_, rfl, h.alloc hCA hsz (by omega) (false_of_true (by omega) hun)⟩
      · obtain ⟨q, rfl⟩ : ∃ q, i = 5 * k + q := ⟨i - 5 * k, by omega⟩
        obtain ⟨o, h1, h2, h4, h5⟩ := hO.hst q (by omega)
        obtain ⟨d1, d2⟩ := hO.dst q (by omega) l hr
        obtain ⟨b, hb1, hb2, hb3⟩ := h.ald q (by omega) d1
        refine wpOp_of h1 h5 ?_
        unfold Oper.wp
        rw [op_store h4 (by rw [frame_eval (by omega)]; exact hb1) (by rw [frame_eval (by omega)]; exact h.cld q (by omega) d2) hb3, Oper.upon_skip, h2]
        exact ⟨_, rfl, h.store hg hCA hsz (by omega) d1 hb1 hb2 hb3⟩
  · -- the fuel
    have : ∀ m, unl (Array.replicate ops.size false) m ≤ m := by
      intro m
      induction m with
      | zero => exact Nat.le_refl _
      | succ m ih => unfold unl; split <;> omega
    exact this _
  · -- the start
    have hf : ∀ i, (Array.replicate ops.size false).getD i false = false := by
      intro i
      simp only [Array.getD]
      split
      · simp
      · rfl
    refine ⟨T0, rfl, ⟨fun _ _ => rfl, ?_, ?_, ?_, ?_, ?_, ?_, ⟨0, Nat.zero_le _, ?_, hke⟩, ?_, Kp.refl _ _⟩⟩
    · intro i _ h; rw [hf] at h; cases h
    · intro i _ h; rw [hf] at h; cases h
    · intro i _ h; rw [hf] at h; cases h
    · intro i _ h; rw [hf] at h; cases h
    · intro i _ h; rw [hf] at h; cases h
    · intro i j _ _ _ h; rw [hf] at h; cases h
    · intro i _; rw [hf]; exact (decide_eq_false (by omega)).symm
    · intro i _ h; rw [hf] at h; cases h
end Go.Proofs.YtminjcknmhgpiaaGreatDoor

/- Squares, radicands and signs of two terms, in package ratio. -/
namespace Go.Proofs.YtminjcknmhgpiaaGreatDoor
open Go.RowKit
open Go.Lib (nDigits itoa decDigits)

def sqN (n p m q : ByteArray) : ByteArray := prN (prN n p n p) (prD n p n p) m q
def sqD (n p m q : ByteArray) : ByteArray := prD (prN n p n p) (prD n p n p) m q
def sqE (n p m q : ByteArray) : Int := kp (prE n p n p) (prE (prN n p n p) (prD n p n p) m q)
theorem sqN_size (n p m q : ByteArray) : (sqN n p m q).size ≤ 9223372036854775807 := (le9 (prN_size _ _ _ _))
theorem sqD_size (n p m q : ByteArray) : (sqD n p m q).size ≤ 9223372036854775807 := (le9 (prD_size _ _ _ _))
/-- block b holds the keeper's pointer -/
def PtB (w : World) (b g : Nat) : Prop := w.heap[b]? = some (.cells #[.pointer (some ⟨g, 0, none⟩)] 89 (0, 0))
section
variable {w w' : World} {b g : Nat} {L : List Nat}
theorem PtB.lt (h : PtB w b g) : b < w.heap.size := (Array.getElem?_eq_some_iff.1 h).1
theorem PtB.c (h : PtB w b g) : w.cell? ⟨b, 0, none⟩ = some (.pointer (some ⟨g, 0, none⟩)) := by unfold PtB at h; simp [World.cell?, h]
theorem PtB.kept (h : PtB w b g) (k : Kp L w w') (hb : b ∉ L) : PtB w' b g := (k.block b h.lt hb).trans h
theorem PtB.alloc (h : PtB w b g) (o : Obj) : PtB (w.alloc o) b g := (Below.heap_alloc w o b h.lt).trans h
theorem PtB.drew (h : PtB w b g) : PtB w.drew b g := h
end
theorem PtB.made (w : World) (g : Nat) : PtB (w.alloc (.cells #[.pointer (some ⟨g, 0, none⟩)] 89 (0, 0))) w.heap.size g := heap_alloc_new w _

set_option maxRecDepth 100000 in
set_option maxHeartbeats 4000000 in
theorem k_squareOf (g : Nat) (e : Int) (n p m q : ByteArray) (w : World) (h : KE w g e) (hn : n.size ≤ 9223372036854775807) (hp : p.size ≤ 9223372036854775807) (hm : m.size ≤ 9223372036854775807) (hq : q.size ≤ 9223372036854775807) :
    Calls Tryz.prog 135 #[.pointer (some ⟨g, 0, none⟩), .agg #[.string n, .string p], .agg #[.string m, .string q]] w fun x w' => x = .returned (.agg #[.string (sqN n p m q), .string (sqD n p m q)]) ∧ KE w' g (kp e (sqE n p m q)) ∧ Kp [g] w w' := by
  have hl := h.lt
  have q1 := Lib.hid (fun W E hE => k_product g E n p n p W hE hn hp hn hp)
  have q2 := Lib.hid (fun W E hE => k_product g E (prN n p n p) (prD n p n p) m q W hE (le9 (prN_size _ _ _ _)) (le9 (prD_size _ _ _ _)) hm hq)
  have e1 : Hid (sqN n p m q = prN (prN n p n p) (prD n p n p) m q) := rfl
  have e2 : Hid (sqD n p m q = prD (prN n p n p) (prD n p n p) m q) := rfl
  have e3 : Hid (sqE n p m q = kp (prE n p n p) (prE (prN n p n p) (prD n p n p) m q)) := rfl
  rw [← e1.out, ← e2.out] at q2
  generalize prE (prN n p n p) (prD n p n p) m q = E2 at *
  generalize prN n p n p = A at *
  generalize prD n p n p = B at *
  have bx := (((FrB.made w n p).alloc (.cells #[.string m, .string q] 86 (0, 0))).alloc (.cells #[.string ⟨#[]⟩, .string ⟨#[]⟩] 86 (0, 0)))
  have by_ := ((FrB.made (w.alloc (.cells #[.string n, .string p] 86 (0, 0))) m q).alloc (.cells #[.string ⟨#[]⟩, .string ⟨#[]⟩] 86 (0, 0)))
  have bz := FrB.made ((w.alloc (.cells #[.string n, .string p] 86 (0, 0))).alloc (.cells #[.string m, .string q] 86 (0, 0))) ⟨#[]⟩ ⟨#[]⟩
  rw [World.size_alloc] at by_
  rw [World.size_alloc, World.size_alloc] at bz
  have hE := ((h.alloc (.cells #[.string n, .string p] 86 (0, 0))).alloc (.cells #[.string m, .string q] 86 (0, 0))).alloc (.cells #[.string ⟨#[]⟩, .string ⟨#[]⟩] 86 (0, 0))
  have k0 : Kp [g] w (((w.alloc (.cells #[.string n, .string p] 86 (0, 0))).alloc (.cells #[.string m, .string q] 86 (0, 0))).alloc (.cells #[.string ⟨#[]⟩, .string ⟨#[]⟩] 86 (0, 0))) := (((Kp.refl _ _).alloc _).alloc _).alloc _
  have cx0 := bx.c0
  have cx1 := bx.c1
  have cy0 := by_.c0
  have cy1 := by_.c1
  clear h
  go_enter Tryz.func135, Tryz.ntmps135
  go_wp2_with fail
  go_region_held3 (fun w' => w'.cell? ⟨w.heap.size, 0, none⟩ = some (.string n) ∧ w'.cell? ⟨w.heap.size, 1, none⟩ = some (.string p) ∧ w'.cell? ⟨w.heap.size + 1, 0, none⟩ = some (.string m) ∧ w'.cell? ⟨w.heap.size + 1, 1, none⟩ = some (.string q))
    (first
      | exact ⟨bx5.c0, bx5.c1, by5.c0, by5.c1⟩
      | exact ⟨bx4.c0, bx4.c1, by4.c0, by4.c1⟩
      | exact ⟨(FrB.far2 bx5 (by omega) _ _).c0, (FrB.far2 bx5 (by omega) _ _).c1, (FrB.far2 by5 (by omega) _ _).c0, (FrB.far2 by5 (by omega) _ _).c1⟩
      | go_keep)
    (first
      | (go_at_call 89; with_reducible refine (q1.out _ _ (KE.drew hE)).mono ?_; rintro x w4 ⟨rfl, hE4, k4⟩; have bx4 := FrB.kept (FrB.drew bx) k4 (nmem_one (by omega)); have by4 := FrB.kept (FrB.drew by_) k4 (nmem_one (by omega)); have bz4 := FrB.kept (FrB.drew bz) k4 (nmem_one (by omega)))
      | (go_at_call 89; with_reducible refine (q2.out _ _ hE4).mono ?_; rintro x w5 ⟨rfl, hE5, k5⟩; have bx5 := FrB.kept bx4 k5 (nmem_one (by omega)); have by5 := FrB.kept by4 k5 (nmem_one (by omega)); have bz5 := FrB.kept bz4 k5 (nmem_one (by omega)); have z0 := bz5.c0; have z1 := bz5.c1; have y0 := bz5.f0 0; have y1 := bz5.f0 1))
  have b4 := bz5.set2 (x := sqN n p m q) (y := sqD n p m q)
  have h4 := ke_set2 hE5 (b := w.heap.size + 2) (by omega) (.string (sqN n p m q)) (.string (sqD n p m q))
  have kk4 := kp_set2 (((Kp.drew k0).trans k4).trans k5) (b := w.heap.size + 2) (by omega) (.string (sqN n p m q)) (.string (sqD n p m q))
  clear z0 z1 y0 y1 bz5 bz4 k4 k5 hE5 hE4 bx4 bx5 by4 by5
  generalize (w5.setCell ⟨w.heap.size + 2, 0, none⟩ (.string (sqN n p m q))).setCell ⟨w.heap.size + 2, 1, none⟩ (.string (sqD n p m q)) = W at *
  have d0 := b4.c0
  have d1 := b4.c1
  go_wp2
  refine bodyPost_ret (v := .agg #[.string (sqN n p m q), .string (sqD n p m q)]) (by simp [results, Tryz.results135, go_sem, d0, d1]) rfl ?_
  exact ⟨rfl, by rw [e3.out]; simpa only [kp_assoc] using h4, kk4⟩

/-- the error of a radicand -/
def rcE (n : ByteArray) : Int := kp (chk n.data.toList) (if signI n < 0 then 2 else 0)
set_option maxRecDepth 100000 in
set_option maxHeartbeats 4000000 in
theorem k_radicand (g : Nat) (e : Int) (n p : ByteArray) (w : World) (h : KE w g e) (hn : n.size ≤ 9223372036854775807) :
    Calls Tryz.prog 99 #[.pointer (some ⟨g, 0, none⟩), .agg #[.string n, .string p]] w fun x w' => x = .returned (.tuple #[]) ∧ KE w' g (kp e (rcE n)) ∧ Kp [g] w w' := by
  have q1 := Lib.hid (fun W E hE => k_sign g E n W hE (by omega))
  have hE := h.alloc (.cells #[.string n, .string p] 86 (0, 0))
  have k0 : Kp [g] w (w.alloc (.cells #[.string n, .string p] 86 (0, 0))) := (Kp.refl _ _).alloc _
  have c0 := (FrB.made w n p).c0
  by_cases hs : signI n < 0
  · have e3 : Hid (rcE n = kp (chk n.data.toList) 2) := by show _ = _; unfold rcE; rw [if_pos hs]
    generalize signI n = S at *
    go_enter Tryz.func99, Tryz.ntmps99
    go_wp2_with fail
    with_reducible refine (q1.out _ _ hE).mono ?_
    rintro x w1 ⟨rfl, hE1, k1⟩
    go_wp2_with fail
    with_reducible refine (keep_any g _ 2 _ hE1).mono ?_
    rintro x w2 ⟨rfl, hE2, k2⟩
    have kk := (k0.trans k1).trans k2
    go_wp2
    go_end0
    exact ⟨rfl, by rw [e3.out]; simpa only [kp_assoc] using hE2, kk⟩
  · have e3 : Hid (rcE n = chk n.data.toList) := by show _ = _; unfold rcE; rw [if_neg hs, kp_right]
    generalize signI n = S at *
    go_enter Tryz.func99, Tryz.ntmps99
    go_wp2_with fail
    with_reducible refine (q1.out _ _ hE).mono ?_
    rintro x w1 ⟨rfl, hE1, k1⟩
    have kk := k0.trans k1
    go_wp2
    go_end0
    exact ⟨rfl, by rw [e3.out]; exact hE1, kk⟩

/-- the sign of a sum of two terms: its value, and whether the order is asked for -/
def stV (s t o : Int) : Int := if s = 0 then t else if t = 0 then s else if s = t then s else s * o
def stE (s t E : Int) : Int := if s = 0 then 0 else if t = 0 then 0 else if s = t then 0 else E
set_option maxRecDepth 100000 in
set_option maxHeartbeats 4000000 in
theorem signOfTwo_any (F g : Nat) (cs : Array Value) (e s t o E : Int) (w : World) (h : KE w g e) (hs : -1 ≤ s ∧ s ≤ 1) (ho : -1 ≤ o ∧ o ≤ 1)
    (he : ∀ args w, (callFunc F args).run Tryz.prog w = .ok (.enter F args) w)
    (q : Hid (Calls Tryz.prog F cs w fun x w' => x = .returned (.int .i64 o) ∧ KE w' g (kp e E) ∧ Kp [g] w w')) :
    Calls Tryz.prog 133 #[.int .i64 s, .int .i64 t, .func (.func F) #[] cs] w fun x w' => x = .returned (.int .i64 (stV s t o)) ∧ KE w' g (kp e (stE s t E)) ∧ Kp [g] w w' := by
  by_cases h1 : s = 0
  · have e1 : stV s t o = t := if_pos h1
    have e2 : stE s t E = 0 := if_pos h1
    rw [e1, e2, kp_right]
    have b1 : (s == 0) = true := by simpa using h1
    clear e1 e2 h1 hs ho
    go_enter Tryz.func133, Tryz.ntmps133
    go_wp2
    go_ret
    exact ⟨rfl, h, Kp.refl _ _⟩
  · have b1 : (s == 0) = false := by simpa using h1
    by_cases h2 : t = 0
    · have e1 : stV s t o = s := by unfold stV; rw [if_neg h1, if_pos h2]
      have e2 : stE s t E = 0 := by unfold stE; rw [if_neg h1, if_pos h2]
      rw [e1, e2, kp_right]
      have b2 : (t == 0) = true := by simpa using h2
      clear e1 e2 h1 h2 hs ho
      go_enter Tryz.func133, Tryz.ntmps133
      go_wp2
      go_ret
      exact ⟨rfl, h, Kp.refl _ _⟩
    · have b2 : (t == 0) = false := by simpa using h2
      by_cases h3 : s = t
      · have e1 : stV s t o = s := by unfold stV; rw [if_neg h1, if_neg h2, if_pos h3]
        have e2 : stE s t E = 0 := by unfold stE; rw [if_neg h1, if_neg h2, if_pos h3]
        rw [e1, e2, kp_right]
        have b3 : (s == t) = true := by simpa using h3
        clear e1 e2 h1 h2 h3 hs ho
        go_enter Tryz.func133, Tryz.ntmps133
        go_wp2
        go_ret
        exact ⟨rfl, h, Kp.refl _ _⟩
      · have e1 : stV s t o = s * o := by unfold stV; rw [if_neg h1, if_neg h2, if_neg h3]
        have e2 : stE s t E = E := by unfold stE; rw [if_neg h1, if_neg h2, if_neg h3]
        rw [e1, e2]
        have b3 : (s == t) = false := by simpa using h3
        have hw : wrap64 (s * o) = s * o := by
          obtain ⟨s1, s2⟩ := hs
          obtain ⟨o1, o2⟩ := ho
          obtain rfl | rfl : s = -1 ∨ s = 1 := by omega
          · unfold wrap64; omega
          · unfold wrap64; omega
        clear e1 e2 h1 h2 h3 hs ho
        go_enter Tryz.func133, Tryz.ntmps133
        go_wp2_with (go_at_fn F; refine q.out.mono ?_; rintro x w1 ⟨rfl, h1, k1⟩)
        go_ret
        exact ⟨by first | rfl | (rw [hw]; rfl), h1, k1⟩
end Go.Proofs.YtminjcknmhgpiaaGreatDoor
