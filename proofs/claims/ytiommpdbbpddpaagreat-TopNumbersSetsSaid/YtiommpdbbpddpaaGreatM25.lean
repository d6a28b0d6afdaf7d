/- Texts Frames, Splits, TwoCl: each says in its own first comment what it proves. -/
import Derived.Orders
import Derived.Test.YtiommpdbbpddpaaGreatM02
import Derived.Test.YtiommpdbbpddpaaGreatM24
/- Frames as functions, which operations of a region have come up, and the law of a region by an invariant. -/
namespace Go.Proofs.YtiommpdbbpddpaaGreat
open Go.RowKit

/-! frames as functions -/
def frameOf (N : Nat) (T : Nat → Value) : Act := ⟨Array.ofFn (n := N) (fun i => T i.val), []⟩
def updV (T : Nat → Value) (d : Nat) (v : Value) : Nat → Value := fun j => if j = d then v else T j
theorem updV_same (T : Nat → Value) (d : Nat) (v : Value) : updV T d v d = v := if_pos rfl
theorem updV_ne {T : Nat → Value} {d j : Nat} {v : Value} (h : j ≠ d) : updV T d v j = T j := if_neg h
theorem frame_eval {N d : Nat} {T : Nat → Value} (h : d < N) : (frameOf N T).eval (.tmp d) = T d := by
  unfold frameOf Act.eval
  simp [Array.getD, h]
theorem frame_put {N d : Nat} {T : Nat → Value} {v : Value} : (frameOf N T).put (some d) v = frameOf N (updV T d v) := by
  unfold frameOf Act.put
  simp only [Act.mk.injEq, and_true]
  apply Array.ext
  · simp
  · intro i h1 h2
    simp only [Array.size_ofFn] at h2
    rw [Array.getElem_setIfInBounds (by simpa using h2), Array.getElem_ofFn, Array.getElem_ofFn]
    unfold updV
    by_cases e : d = i
    · subst e; simp
    · rw [if_neg e, if_neg (fun h => e h.symm)]

/-! operations -/
theorem op_move {a : Act} {w : World} {o : Oper} {x : Operand} (h : o.op = .move x) : (execOp a.eval o).run Tryz.prog w = .ok (.value (a.eval x)) w := by
  simp [execOp, h]

/-! which operations have come up -/
theorem get_set {l : Array Bool} {i j : Nat} (h : i ≠ j) (d : Bool) : (l.setIfInBounds i true).getD j d = l.getD j d := getD_set_ne d h
theorem get_self {l : Array Bool} {i : Nat} (h : i < l.size) (d : Bool) : (l.setIfInBounds i true).getD i d = true := by
  simp [Array.getD, h]
/-- how many of the first m have not -/
def unl (l : Array Bool) : Nat → Nat
  | 0 => 0
  | m + 1 => unl l m + (if l.getD m true = false then 1 else 0)
theorem unl_set {l : Array Bool} {i : Nat} (hi : i < l.size) (hf : l.getD i true = false) : ∀ m, (i < m → unl (l.setIfInBounds i true) m + 1 = unl l m) ∧ (m ≤ i → unl (l.setIfInBounds i true) m = unl l m)
  | 0 => ⟨fun h => by omega, fun _ => rfl⟩
  | m + 1 => by
    obtain ⟨h1, h2⟩ := unl_set hi hf m
    unfold unl
    constructor
    · intro h
      by_cases e : i = m
      · subst e
        rw [h2 (Nat.le_refl _), get_self hi, if_neg (by decide), if_pos hf]
      · rw [get_set e, ← h1 (by omega)]; omega
    · intro h
      rw [get_set (by omega), h2 (by omega)]
theorem unl_zero {l : Array Bool} : ∀ {m j : Nat}, unl l m = 0 → j < m → l.getD j true = true
  | 0, j, _, h => by omega
  | m + 1, j, h0, h => by
    unfold unl at h0
    by_cases e : l.getD m true = false
    · rw [if_pos e] at h0; omega
    · by_cases e2 : j = m
      · subst e2; simpa using e
      · exact unl_zero (m := m) (by omega) (by omega)

section
variable {P : Program} {ops : Array Oper} {Q : Exit → Act → World → Prop} {md : Region.Mode}
theorem ready_lt {l : Array Bool} {i : Nat} (h : i ∈ Region.ready md ops l) : i < ops.size ∧ l.getD i true = false := by
  obtain ⟨h1, o, h2, _⟩ := mem_ready.1 h
  exact ⟨(Array.getElem?_eq_some_iff.1 h2).1, h1⟩
/-- the law of a region by an invariant -/
theorem wpAny_inv (I : Array Bool → Act → World → Prop)
    (hfin : ∀ l a w, l.size = ops.size → I l a w → Region.ready md ops l = [] → Q .normal a w)
    (hstep : ∀ l a w i, l.size = ops.size → I l a w → i ∈ Region.ready md ops l → wpOp P ops Q i (fun a' w' => I (l.setIfInBounds i true) a' w') a w) :
    ∀ (fuel : Nat) (l : Array Bool) (a : Act) (w : World), l.size = ops.size → unl l ops.size ≤ fuel → I l a w → wpAny P md ops Q fuel l a w
  | 0, l, a, w, hs, hu, hI => by
    have hr : Region.ready md ops l = [] := by
      apply List.eq_nil_iff_forall_not_mem.2
      intro i hi
      obtain ⟨h1, h2⟩ := ready_lt hi
      have := unl_zero (l := l) (m := ops.size) (j := i) (by omega) h1
      rw [this] at h2; cases h2
    exact ⟨hr, hfin l a w hs hI hr⟩
  | fuel + 1, l, a, w, hs, hu, hI => by
    refine ⟨fun hr => hfin l a w hs hI hr, fun i hi => ?_⟩
    obtain ⟨h1, h2⟩ := ready_lt hi
    refine wpOp_mono (fun a' w' h' => ?_) (hstep l a w i hs hI hi)
    refine wpAny_inv I hfin hstep fuel _ a' w' (by simpa using hs) ?_ h'
    have := (unl_set (l := l) (by omega) h2 ops.size).1 h1
    omega
theorem ready_of {l : Array Bool} {i m : Nat} {o : Oper} (hu : l.getD i true = false) (ho : ops[i]? = some o) (ha : (o.after.all fun e => !Region.binds md e || decide (e.on < m)) = true) (h : ∀ j, j < m → l.getD j false = true) : i ∈ Region.ready md ops l := by
  refine mem_ready.2 ⟨hu, o, ho, fun e he hb => h _ ?_⟩
  have := (Array.all_eq_true_iff_forall_mem.1 ha) e he
  rw [hb] at this
  simpa using this
theorem dep_of {l : Array Bool} {i j : Nat} {o : Oper} (hr : i ∈ Region.ready md ops l) (ho : ops[i]? = some o) (ha : (o.after.any fun e => e.on == j && Region.binds md e) = true) : l.getD j false = true := by
  obtain ⟨_, o', ho', h⟩ := mem_ready.1 hr
  obtain rfl := Option.some.inj (ho.symm.trans ho')
  obtain ⟨k, hk, h2⟩ := Array.any_eq_true.1 ha
  obtain ⟨e, he0⟩ : ∃ e, e = o.after[k] := ⟨_, rfl⟩
  have he : e ∈ o.after := by rw [he0]; exact Array.getElem_mem hk
  rw [← he0] at h2
  simp only [Bool.and_eq_true, beq_iff_eq] at h2
  rw [← h2.1]
  exact h e he h2.2
theorem wpOp_of {i : Nat} {o : Oper} {K : Act → World → Prop} {a : Act} {w : World} (ho : ops[i]? = some o) (hg : o.guard = none) (h : o.wp P a w K Q) : wpOp P ops Q i K a w := by
  unfold wpOp
  rw [ho]
  have hw : Region.wanted o (yielded ops a.tmps) = true := by simp [Region.wanted, hg]
  simp only [hw, if_true]
  exact .inl h
end
theorem get_tf {l : Array Bool} {i : Nat} (h : i < l.size) : l.getD i true = l.getD i false := by simp [Array.getD, h]
theorem false_of_true {l : Array Bool} {i : Nat} (h : i < l.size) (hf : l.getD i true = false) : l.getD i false = false := by rw [← get_tf h]; exact hf
theorem true_of_not {l : Array Bool} {i : Nat} (h : i < l.size) (hn : ¬ l.getD i true = false) : l.getD i false = true := by
  rw [← get_tf h]; simpa using hn

theorem frame_lit (t : Array Value) : (⟨t, []⟩ : Act) = frameOf t.size (fun j => t.getD j undef) := by
  unfold frameOf
  simp only [Act.mk.injEq, and_true]
  apply Array.ext
  · simp
  · intro i h1 h2
    rw [Array.getElem_ofFn]
    simp [Array.getD, h1]
end Go.Proofs.YtiommpdbbpddpaaGreat

/- Regions 'x, y, .. := k.split(a), k.split(b), ..' in package ratio: whatever order the model draws for their calls and for the blocks that they make. -/
namespace Go.Proofs.YtiommpdbbpddpaaGreat
open Go.RowKit
open Go.Lib (nDigits itoa decDigits)

theorem op_load {a : Act} {w : World} {o : Oper} {x : Operand} {b : Nat} {s : ByteArray} (h : o.op = .load 24 x) (hx : a.eval x = .pointer (some ⟨b, 0, none⟩)) (hc : w.cell? ⟨b, 0, none⟩ = some (.string s)) :
    (execOp a.eval o).run Tryz.prog w = .ok (.value (.string s)) w := by
  generalize a.eval = r at *
  simp [execOp, h, hx, go_sem, hc]
theorem op_alloc {a : Act} {w : World} {o : Oper} (h : o.op = .alloc 79) :
    (execOp a.eval o).run Tryz.prog w = .ok (.value (.pointer (some ⟨w.heap.size, 0, none⟩))) (w.alloc (.cells #[.string ⟨#[]⟩, .string ⟨#[]⟩] 79 (0, 0))) := by
  simp [execOp, h, go_sem]
theorem op_store {a : Act} {w : World} {o : Oper} {x y : Operand} {b : Nat} {n d p q : ByteArray} (h : o.op = .store 79 x y) (hx : a.eval x = .pointer (some ⟨b, 0, none⟩)) (hy : a.eval y = .agg #[.string n, .string d]) (hb : FrB w b p q) :
    (execOp a.eval o).run Tryz.prog w = .ok .skip ((w.setCell ⟨b, 0, none⟩ (.string n)).setCell ⟨b, 1, none⟩ (.string d)) := by
  have z0 := hb.c0
  have z1 := hb.c1
  have y0 := hb.f0 0
  have y1 := hb.f0 1
  generalize a.eval = r at *
  simp [execOp, h, hx, hy, go_sem, z0, z1, y0, y1]
theorem op_call {a : Act} {w : World} {o : Oper} {x y : Operand} {ty : Array TypeId} {u v : Value} (h : o.op = .call { callee := .value (.func 47), args := #[x, y], argTypes := ty }) (hx : a.eval x = u) (hy : a.eval y = v) :
    (execOp a.eval o).run Tryz.prog w = .ok (.enter 47 #[u, v]) w := by
  have hf : a.eval (.func 47) = .func (.func 47) #[] #[] := rfl
  generalize a.eval = r at *
  simp [execOp, h, hx, hy, hf, go_sem]


/-- the shape of the operations: k moves, loads and calls, then k blocks, then k stores -/
structure SplitOps (ops : Array Oper) (k C N : Nat) : Prop where
  size : ops.size = 5 * k
  kC : k < C
  CN : C + 4 * k ≤ N
  hmv : ∀ i, i < k → ∃ o, ops[3 * i]? = some o ∧ o.dst = some (C + k + 3 * i) ∧ o.op = .move (.tmp 0) ∧ o.guard = none
  hld : ∀ i, i < k → ∃ o, ops[3 * i + 1]? = some o ∧ o.dst = some (C + k + 3 * i + 1) ∧ o.op = .load 24 (.tmp (1 + i)) ∧ o.guard = none
  hcl : ∀ i, i < k → ∃ o ty, ops[3 * i + 2]? = some o ∧ o.dst = some (C + k + 3 * i + 2) ∧ o.op = .call { callee := .value (.func 47), args := #[.tmp (C + k + 3 * i), .tmp (C + k + 3 * i + 1)], argTypes := ty } ∧ o.guard = none
  hal : ∀ i, i < k → ∃ o, ops[3 * k + i]? = some o ∧ o.dst = some (C + i) ∧ o.op = .alloc 79 ∧ o.guard = none
  hst : ∀ i, i < k → ∃ o, ops[4 * k + i]? = some o ∧ o.dst = none ∧ o.op = .store 79 (.tmp (C + i)) (.tmp (C + k + 3 * i + 2)) ∧ o.guard = none
  dcl : ∀ i, i < k → ∀ l, 3 * i + 2 ∈ Region.ready .any ops l → l.getD (3 * i) false = true ∧ l.getD (3 * i + 1) false = true ∧ (∀ j, j + 1 = i → l.getD (3 * j + 2) false = true)
  dst : ∀ i, i < k → ∀ l, 4 * k + i ∈ Region.ready .any ops l → l.getD (3 * k + i) false = true ∧ l.getD (3 * i + 2) false = true
  rmv : ∀ i, i < k → ∀ l : Array Bool, l.getD (3 * i) true = false → 3 * i ∈ Region.ready .any ops l
  rld : ∀ i, i < k → ∀ l : Array Bool, l.getD (3 * i + 1) true = false → 3 * i + 1 ∈ Region.ready .any ops l
  rcl : ∀ i, i < k → ∀ l : Array Bool, l.getD (3 * i + 2) true = false → (∀ j, j < 3 * i + 2 → l.getD j false = true) → 3 * i + 2 ∈ Region.ready .any ops l
  ral : ∀ i, i < k → ∀ l : Array Bool, l.getD (3 * k + i) true = false → 3 * k + i ∈ Region.ready .any ops l
  rst : ∀ i, i < k → ∀ l : Array Bool, l.getD (4 * k + i) true = false → (∀ j, j < 4 * k + i → l.getD j false = true) → 4 * k + i ∈ Region.ready .any ops l

/-- what is split, and what comes out -/
structure SplitIn (k g : Nat) (w0 : World) (T0 : Nat → Value) (s n d : Nat → ByteArray) (E : Nat → Int) : Prop where
  ptr : T0 0 = .pointer (some ⟨g, 0, none⟩)
  cap : ∀ i, i < k → ∃ b, T0 (1 + i) = .pointer (some ⟨b, 0, none⟩) ∧ StB w0 b (s i) ∧ b ≠ g
  ke : KE w0 g (E 0)
  con : ∀ i, i < k → ∀ W, KE W g (E i) → Calls Tryz.prog 47 #[.pointer (some ⟨g, 0, none⟩), .string (s i)] W fun x w' => x = .returned (.agg #[.string (n i), .string (d i)]) ∧ KE w' g (E (i + 1)) ∧ Kp [g] W w'

structure SInv (k C g : Nat) (w0 : World) (T0 : Nat → Value) (s n d : Nat → ByteArray) (E : Nat → Int) (l : Array Bool) (T : Nat → Value) (w : World) : Prop where
  out : ∀ j, j < C ∨ C + 4 * k ≤ j → T j = T0 j
  mvd : ∀ i, i < k → l.getD (3 * i) false = true → T (C + k + 3 * i) = .pointer (some ⟨g, 0, none⟩)
  ldd : ∀ i, i < k → l.getD (3 * i + 1) false = true → T (C + k + 3 * i + 1) = .string (s i)
  cld : ∀ i, i < k → l.getD (3 * i + 2) false = true → T (C + k + 3 * i + 2) = .agg #[.string (n i), .string (d i)]
  ald : ∀ i, i < k → l.getD (3 * k + i) false = true → ∃ b, T (C + i) = .pointer (some ⟨b, 0, none⟩) ∧ w0.heap.size ≤ b ∧
    FrB w b (if l.getD (4 * k + i) false = true then n i else ⟨#[]⟩) (if l.getD (4 * k + i) false = true then d i else ⟨#[]⟩)
  dis : ∀ i j, i < k → j < k → i ≠ j → l.getD (3 * k + i) false = true → l.getD (3 * k + j) false = true → T (C + i) ≠ T (C + j)
  cnt : ∃ c, c ≤ k ∧ (∀ i, i < k → l.getD (3 * i + 2) false = decide (i < c)) ∧ KE w g (E c)
  sal : ∀ i, i < k → l.getD (4 * k + i) false = true → l.getD (3 * k + i) false = true
  kpw : Kp [g] w0 w


section
variable {k C N g : Nat} {w0 w : World} {T0 T : Nat → Value} {s n d : Nat → ByteArray} {E : Nat → Int} {l : Array Bool} {ops : Array Oper}

theorem SInv.move (h : SInv k C g w0 T0 s n d E l T w) (hI : SplitIn k g w0 T0 s n d E) (kC : k < C) (_hs : l.size = 5 * k) {i : Nat} (hi : i < k) :
    SInv k C g w0 T0 s n d E (l.setIfInBounds (3 * i) true) (updV T (C + k + 3 * i) (T 0)) w where
  out j hj := by rw [updV_ne (by omega)]; exact h.out j hj
  mvd j hj hl := by
    by_cases e : j = i
    · subst e; rw [updV_same, h.out 0 (by omega)]; exact hI.ptr
    · rw [get_set (by omega)] at hl; rw [updV_ne (by omega)]; exact h.mvd j hj hl
  ldd j hj hl := by rw [get_set (by omega)] at hl; rw [updV_ne (by omega)]; exact h.ldd j hj hl
  cld j hj hl := by rw [get_set (by omega)] at hl; rw [updV_ne (by omega)]; exact h.cld j hj hl
  ald j hj hl := by
    rw [get_set (by omega)] at hl; rw [updV_ne (by omega), get_set (by omega)]; exact h.ald j hj hl
  dis a b ha hb hab hla hlb := by
    rw [get_set (by omega)] at hla hlb; rw [updV_ne (by omega), updV_ne (by omega)]; exact h.dis a b ha hb hab hla hlb
  cnt := by
    obtain ⟨c, hc, h1, h2⟩ := h.cnt
    exact ⟨c, hc, fun j hj => by rw [get_set (by omega)]; exact h1 j hj, h2⟩
  sal j hj hl := by rw [get_set (by omega)] at hl ⊢; exact h.sal j hj hl
  kpw := h.kpw

theorem SInv.load (h : SInv k C g w0 T0 s n d E l T w) (_kC : k < C) (_hs : l.size = 5 * k) {i : Nat} (hi : i < k) :
    SInv k C g w0 T0 s n d E (l.setIfInBounds (3 * i + 1) true) (updV T (C + k + 3 * i + 1) (.string (s i))) w where
  out j hj := by rw [updV_ne (by omega)]; exact h.out j hj
  mvd j hj hl := by rw [get_set (by omega)] at hl; rw [updV_ne (by omega)]; exact h.mvd j hj hl
  ldd j hj hl := by
    by_cases e : j = i
    · subst e; rw [updV_same]
    · rw [get_set (by omega)] at hl; rw [updV_ne (by omega)]; exact h.ldd j hj hl
  cld j hj hl := by rw [get_set (by omega)] at hl; rw [updV_ne (by omega)]; exact h.cld j hj hl
  ald j hj hl := by
    rw [get_set (by omega)] at hl; rw [updV_ne (by omega), get_set (by omega)]; exact h.ald j hj hl
  dis a b ha hb hab hla hlb := by
    rw [get_set (by omega)] at hla hlb; rw [updV_ne (by omega), updV_ne (by omega)]; exact h.dis a b ha hb hab hla hlb
  cnt := by
    obtain ⟨c, hc, h1, h2⟩ := h.cnt
    exact ⟨c, hc, fun j hj => by rw [get_set (by omega)]; exact h1 j hj, h2⟩
  sal j hj hl := by rw [get_set (by omega)] at hl ⊢; exact h.sal j hj hl
  kpw := h.kpw

theorem SInv.call (h : SInv k C g w0 T0 s n d E l T w) (hg : g < w0.heap.size) (_kC : k < C) (hs : l.size = 5 * k) {i : Nat} (hi : i < k) {w' : World}
    (hn : l.getD (3 * i + 2) false = false) (hp : ∀ j, j < i → l.getD (3 * j + 2) false = true) (hE : KE w' g (E (i + 1))) (hk : Kp [g] w w') :
    SInv k C g w0 T0 s n d E (l.setIfInBounds (3 * i + 2) true) (updV T (C + k + 3 * i + 2) (.agg #[.string (n i), .string (d i)])) w' where
  out j hj := by rw [updV_ne (by omega)]; exact h.out j hj
  mvd j hj hl := by rw [get_set (by omega)] at hl; rw [updV_ne (by omega)]; exact h.mvd j hj hl
  ldd j hj hl := by rw [get_set (by omega)] at hl; rw [updV_ne (by omega)]; exact h.ldd j hj hl
  cld j hj hl := by
    by_cases e : j = i
    · subst e; rw [updV_same]
    · rw [get_set (by omega)] at hl; rw [updV_ne (by omega)]; exact h.cld j hj hl
  ald j hj hl := by
    rw [get_set (by omega)] at hl; rw [updV_ne (by omega), get_set (by omega)]
    obtain ⟨b, h1, h2, h3⟩ := h.ald j hj hl
    exact ⟨b, h1, h2, h3.kept hk (nmem_one (by omega))⟩
  dis a b ha hb hab hla hlb := by
    rw [get_set (by omega)] at hla hlb; rw [updV_ne (by omega), updV_ne (by omega)]; exact h.dis a b ha hb hab hla hlb
  cnt := by
    obtain ⟨c, hc, h1, h2⟩ := h.cnt
    have e1 : c = i := by
      have a1 : ¬ i < c := by
        have := h1 i hi
        rw [hn] at this
        exact of_decide_eq_false this.symm
      have a2 : ¬ c < i := fun hlt => by
        have := h1 c (by omega)
        rw [hp c hlt] at this
        have := of_decide_eq_true this.symm
        omega
      omega
    subst e1
    refine ⟨c + 1, by omega, fun j hj => ?_, hE⟩
    by_cases e : j = c
    · subst e; rw [get_self (by omega)]; exact (decide_eq_true (by omega)).symm
    · rw [get_set (by omega), h1 j hj]
      by_cases e2 : j < c
      · rw [decide_eq_true e2, decide_eq_true (by omega)]
      · rw [decide_eq_false e2, decide_eq_false (by omega)]
  sal j hj hl := by rw [get_set (by omega)] at hl ⊢; exact h.sal j hj hl
  kpw := h.kpw.trans hk

theorem SInv.alloc (h : SInv k C g w0 T0 s n d E l T w) (_kC : k < C) (hs : l.size = 5 * k) {i : Nat} (hi : i < k) (hn : l.getD (3 * k + i) false = false) :
    SInv k C g w0 T0 s n d E (l.setIfInBounds (3 * k + i) true) (updV T (C + i) (.pointer (some ⟨w.heap.size, 0, none⟩))) (w.alloc (.cells #[.string ⟨#[]⟩, .string ⟨#[]⟩] 79 (0, 0))) where
  out j hj := by rw [updV_ne (by omega)]; exact h.out j hj
  mvd j hj hl := by rw [get_set (by omega)] at hl; rw [updV_ne (by omega)]; exact h.mvd j hj hl
  ldd j hj hl := by rw [get_set (by omega)] at hl; rw [updV_ne (by omega)]; exact h.ldd j hj hl
  cld j hj hl := by rw [get_set (by omega)] at hl; rw [updV_ne (by omega)]; exact h.cld j hj hl
  ald j hj hl := by
    rw [get_set (by omega)]
    by_cases e : j = i
    · subst e
      have hst : ¬ l.getD (4 * k + j) false = true := fun hl2 => by have := h.sal j hj hl2; rw [hn] at this; cases this
      rw [updV_same, if_neg hst, if_neg hst]
      exact ⟨_, rfl, h.kpw.size, FrB.made w _ _⟩
    · rw [get_set (by omega)] at hl; rw [updV_ne (by omega)]
      obtain ⟨b, h1, h2, h3⟩ := h.ald j hj hl
      exact ⟨b, h1, h2, h3.alloc _⟩
  dis a b ha hb hab hla hlb := by
    by_cases ea : a = i
    · subst ea
      rw [get_set (by omega)] at hlb
      rw [updV_same, updV_ne (by omega)]
      obtain ⟨b', h1, h2, h3⟩ := h.ald b hb hlb
      rw [h1]
      have := h3.lt
      intro he
      injection he with he
      injection he with he
      injection he with he1
      omega
    · rw [get_set (by omega)] at hla
      by_cases eb : b = i
      · subst eb
        rw [updV_same, updV_ne (by omega)]
        obtain ⟨b', h1, h2, h3⟩ := h.ald a ha hla
        rw [h1]
        have := h3.lt
        intro he
        injection he with he
        injection he with he
        injection he with he1
        omega
      · rw [get_set (by omega)] at hlb; rw [updV_ne (by omega), updV_ne (by omega)]; exact h.dis a b ha hb hab hla hlb
  cnt := by
    obtain ⟨c, hc, h1, h2⟩ := h.cnt
    exact ⟨c, hc, fun j hj => by rw [get_set (by omega)]; exact h1 j hj, h2.alloc _⟩
  sal j hj hl := by
    rw [get_set (by omega)] at hl
    by_cases e : j = i
    · subst e; exact get_self (by omega) _
    · rw [get_set (by omega)]; exact h.sal j hj hl
  kpw := h.kpw.alloc _

theorem SInv.store (h : SInv k C g w0 T0 s n d E l T w) (hg : g < w0.heap.size) (_kC : k < C) (hs : l.size = 5 * k) {i b : Nat} (hi : i < k) (ha : l.getD (3 * k + i) false = true)
    (hT : T (C + i) = .pointer (some ⟨b, 0, none⟩)) (hb : w0.heap.size ≤ b) {p q : ByteArray} (hF : FrB w b p q) :
    SInv k C g w0 T0 s n d E (l.setIfInBounds (4 * k + i) true) T ((w.setCell ⟨b, 0, none⟩ (.string (n i))).setCell ⟨b, 1, none⟩ (.string (d i))) where
  out := h.out
  mvd j hj hl := by rw [get_set (by omega)] at hl; exact h.mvd j hj hl
  ldd j hj hl := by rw [get_set (by omega)] at hl; exact h.ldd j hj hl
  cld j hj hl := by rw [get_set (by omega)] at hl; exact h.cld j hj hl
  ald j hj hl := by
    rw [get_set (by omega)] at hl
    by_cases e : j = i
    · subst e
      rw [get_self (by omega), if_pos rfl, if_pos rfl]
      exact ⟨b, hT, hb, hF.set2⟩
    · rw [get_set (by omega)]
      obtain ⟨b', h1, h2, h3⟩ := h.ald j hj hl
      refine ⟨b', h1, h2, h3.far2 (fun he => ?_) _ _⟩
      subst he
      exact h.dis j i hj hi e hl ha (h1.trans hT.symm)
  dis a b ha hb hab hla hlb := by
    rw [get_set (by omega)] at hla hlb; exact h.dis a b ha hb hab hla hlb
  cnt := by
    obtain ⟨c, hc, h1, h2⟩ := h.cnt
    exact ⟨c, hc, fun j hj => by rw [get_set (by omega)]; exact h1 j hj, ke_set2 h2 (by omega) _ _⟩
  sal j hj hl := by
    rw [get_set (by omega)]
    by_cases e : j = i
    · subst e; exact ha
    · rw [get_set (by omega)] at hl; exact h.sal j hj hl
  kpw := kp_set2 h.kpw hb _ _
end

/-- the law of such a region -/
theorem splits_region {k C N g id : Nat} {ops : Array Oper} {T0 : Nat → Value} {s n d : Nat → ByteArray} {E : Nat → Int} {w : World} {Q : Exit → Act → World → Prop}
    (hm : Tryz.prog.follows .mixedOrders = true) (hO : SplitOps ops k C N) (hI : SplitIn k g w.drew T0 s n d E)
    (_hP : ∀ c a w', Q (.panic c) a w' → Q (.panic c) a w')
    (hQ : ∀ (T : Nat → Value) (b : Nat → Nat) (w' : World), (∀ j, j < C ∨ C + 4 * k ≤ j → T j = T0 j) →
      (∀ i, i < k → T (C + k + 3 * i) = .pointer (some ⟨g, 0, none⟩) ∧ T (C + k + 3 * i + 1) = .string (s i) ∧ T (C + k + 3 * i + 2) = .agg #[.string (n i), .string (d i)] ∧ T (C + i) = .pointer (some ⟨b i, 0, none⟩) ∧ w.heap.size ≤ b i ∧ FrB w' (b i) (n i) (d i)) →
      KE w' g (E k) → Kp [g] w w' → Q .normal (frameOf N T) w') :
    (Code.region id ops true).wp Tryz.prog Q (frameOf N T0) w := by
  have hg : g < w.drew.heap.size := hI.ke.lt
  have hkC := hO.kC
  have hCN := hO.CN
  refine wp_region_any hm (wpAny_inv (fun l a w' => ∃ T, a = frameOf N T ∧ SInv k C g w.drew T0 s n d E l T w') ?_ ?_ ops.size (Array.replicate ops.size false) _ _ (by simp) ?_ ?_)
  · -- all have come up
    rintro l a w' hs ⟨T, rfl, h⟩ hr
    have hsz : l.size = 5 * k := by rw [hs, hO.size]
    have nomem : ∀ i, i ∉ Region.ready .any ops l := by intro i; rw [hr]; simp
    have lmv : ∀ i, i < k → l.getD (3 * i) false = true := fun i hi => true_of_not (by omega) (fun hf => nomem _ (hO.rmv i hi l hf))
    have lld : ∀ i, i < k → l.getD (3 * i + 1) false = true := fun i hi => true_of_not (by omega) (fun hf => nomem _ (hO.rld i hi l hf))
    have lal : ∀ i, i < k → l.getD (3 * k + i) false = true := fun i hi => true_of_not (by omega) (fun hf => nomem _ (hO.ral i hi l hf))
    have lcl : ∀ m i, i ≤ m → i < k → l.getD (3 * i + 2) false = true := by
      intro m
      induction m with
      | zero =>
        intro i hi hk
        obtain rfl : i = 0 := by omega
        refine true_of_not (by omega) (fun hf => nomem _ (hO.rcl 0 hk l hf fun j hj => ?_))
        obtain rfl | rfl : j = 0 ∨ j = 1 := by omega
        · exact lmv 0 hk
        · exact lld 0 hk
      | succ m ih =>
        intro i hi hk
        refine true_of_not (by omega) (fun hf => nomem _ (hO.rcl i hk l hf fun j hj => ?_))
        obtain ⟨q, hq⟩ : ∃ q, j = 3 * q ∨ j = 3 * q + 1 ∨ j = 3 * q + 2 := ⟨j / 3, by omega⟩
        rcases hq with rfl | rfl | rfl
        · exact lmv q (by omega)
        · exact lld q (by omega)
        · exact ih q (by omega) (by omega)
    have lpre : ∀ j, j < 4 * k → l.getD j false = true := by
      intro j hj
      by_cases h3 : j < 3 * k
      · obtain ⟨q, hq⟩ : ∃ q, j = 3 * q ∨ j = 3 * q + 1 ∨ j = 3 * q + 2 := ⟨j / 3, by omega⟩
        rcases hq with rfl | rfl | rfl
        · exact lmv q (by omega)
        · exact lld q (by omega)
        · exact lcl q q (Nat.le_refl _) (by omega)
      · have := lal (j - 3 * k) (by omega)
        rwa [show 3 * k + (j - 3 * k) = j by omega] at this
    have lst : ∀ m i, i ≤ m → i < k → l.getD (4 * k + i) false = true := by
      intro m
      induction m with
      | zero =>
        intro i hi hk
        refine true_of_not (by omega) (fun hf => nomem _ (hO.rst i hk l hf fun j hj => lpre j (by omega)))
      | succ m ih =>
        intro i hi hk
        refine true_of_not (by omega) (fun hf => nomem _ (hO.rst i hk l hf fun j hj => ?_))
        by_cases h4 : j < 4 * k
        · exact lpre j h4
        · have := ih (j - 4 * k) (by omega) (by omega)
          rwa [show 4 * k + (j - 4 * k) = j by omega] at this
    have hb : ∀ i, i < k → ∃ b, T (C + i) = .pointer (some ⟨b, 0, none⟩) ∧ w.heap.size ≤ b ∧ FrB w' b (n i) (d i) := by
      intro i hi
      obtain ⟨b, h1, h2, h3⟩ := h.ald i hi (lal i hi)
      rw [if_pos (lst i i (Nat.le_refl _) hi), if_pos (lst i i (Nat.le_refl _) hi)] at h3
      exact ⟨b, h1, h2, h3⟩
    have hb2 : ∃ b : Nat → Nat, ∀ i, i < k → T (C + i) = .pointer (some ⟨b i, 0, none⟩) ∧ w.heap.size ≤ b i ∧ FrB w' (b i) (n i) (d i) := by
      refine ⟨fun i => if hi : i < k then (hb i hi).choose else 0, fun i hi => ?_⟩
      simp only [hi, dif_pos]
      exact (hb i hi).choose_spec
    obtain ⟨b, hb3⟩ := hb2
    obtain ⟨c, hc, hc1, hc2⟩ := h.cnt
    have hck : c = k := by
      by_cases e : c < k
      · have := hc1 c e
        rw [lcl c c (Nat.le_refl _) e] at this
        have := of_decide_eq_true this.symm
        omega
      · omega
    subst hck
    refine hQ T b w' h.out (fun i hi => ?_) hc2 h.kpw.undrew
    obtain ⟨h1, h2, h3⟩ := hb3 i hi
    exact ⟨h.mvd i hi (lmv i hi), h.ldd i hi (lld i hi), h.cld i hi (lcl i i (Nat.le_refl _) hi), h1, h2, h3⟩
  · -- one comes up
    rintro l a w' i hs ⟨T, rfl, h⟩ hr
    have hsz : l.size = 5 * k := by rw [hs, hO.size]
    obtain ⟨hil, hun⟩ := ready_lt hr
    rw [hO.size] at hil
    by_cases h3 : i < 3 * k
    · obtain ⟨q, hq⟩ : ∃ q, i = 3 * q ∨ i = 3 * q + 1 ∨ i = 3 * q + 2 := ⟨i / 3, by omega⟩
      rcases hq with rfl | rfl | rfl
      · obtain ⟨o, h1, h2, h4, h5⟩ := hO.hmv q (by omega)
        refine wpOp_of h1 h5 ?_
        unfold Oper.wp
        rw [op_move h4, Oper.upon_value, h2, frame_put, frame_eval (by omega)]
        exact ⟨_, rfl, h.move hI hkC hsz (by omega)⟩
      · obtain ⟨o, h1, h2, h4, h5⟩ := hO.hld q (by omega)
        obtain ⟨b, hb1, hb2, hb3⟩ := hI.cap q (by omega)
        refine wpOp_of h1 h5 ?_
        unfold Oper.wp
        rw [op_load h4 (by rw [frame_eval (by omega), h.out _ (by omega)]; exact hb1) (hb2.kept h.kpw (nmem_one hb3)).c, Oper.upon_value, h2, frame_put]
        exact ⟨_, rfl, h.load hkC hsz (by omega)⟩
      · obtain ⟨o, ty, h1, h2, h4, h5⟩ := hO.hcl q (by omega)
        obtain ⟨d1, d2, d3⟩ := hO.dcl q (by omega) l hr
        refine wpOp_of h1 h5 ?_
        unfold Oper.wp
        rw [op_call (u := .pointer (some ⟨g, 0, none⟩)) (v := .string (s q)) h4 (by rw [frame_eval (by omega)]; exact h.mvd q (by omega) d1) (by rw [frame_eval (by omega)]; exact h.ldd q (by omega) d2)]
        have hnl := false_of_true (l := l) (by omega) hun
        obtain ⟨c, hc, hc1, hc2⟩ := h.cnt
        have hcq : c = q := by
          have a1 : ¬ q < c := by
            have := hc1 q (by omega)
            rw [hnl] at this
            exact of_decide_eq_false this.symm
          have a2 : ¬ c < q := fun hlt => by
            have := hc1 (q - 1) (by omega)
            rw [d3 (q - 1) (by omega)] at this
            have := of_decide_eq_true this.symm
            omega
          omega
        subst hcq
        have d3' : ∀ j, j < c → l.getD (3 * j + 2) false = true := fun j hj => by rw [hc1 j (by omega)]; exact decide_eq_true hj
        have hcon := hI.con c (by omega) w' hc2
        unfold Oper.upon
        refine Calls.mono hcon ?_
        rintro x w2 ⟨rfl, hE2, hk2⟩
        simp only []
        rw [h2, frame_put]
        exact ⟨_, rfl, h.call hg hkC hsz (by omega) hnl d3' hE2 hk2⟩
    · by_cases h4k : i < 4 * k
      · obtain ⟨q, rfl⟩ : ∃ q, i = 3 * k + q := ⟨i - 3 * k, by omega⟩
        obtain ⟨o, h1, h2, h4, h5⟩ := hO.hal q (by omega)
        refine wpOp_of h1 h5 ?_
        unfold Oper.wp
        rw [op_alloc h4, Oper.upon_value, h2, frame_put]
        exact ⟨_, rfl, h.alloc hkC hsz (by omega) (false_of_true (by omega) hun)⟩
      · obtain ⟨q, rfl⟩ : ∃ q, i = 4 * k + q := ⟨i - 4 * k, by omega⟩
        obtain ⟨o, h1, h2, h4, h5⟩ := hO.hst q (by omega)
        obtain ⟨d1, d2⟩ := hO.dst q (by omega) l hr
        obtain ⟨b, hb1, hb2, hb3⟩ := h.ald q (by omega) d1
        refine wpOp_of h1 h5 ?_
        unfold Oper.wp
        rw [op_store h4 (by rw [frame_eval (by omega)]; exact hb1) (by rw [frame_eval (by omega)]; exact h.cld q (by omega) d2) hb3, Oper.upon_skip, h2]
        exact ⟨_, rfl, h.store hg hkC hsz (by omega) d1 hb1 hb2 hb3⟩
  · -- the fuel
    have : ∀ m, unl (Array.replicate ops.size false) m ≤ m := by
      intro m
      induction m with
      | zero => exact Nat.le_refl _
      | succ m ih => unfold unl; split <;> omega
    exact this _
  · -- the start
    have hf : ∀ i, (Array.replicate ops.size false).getD i false = false := by
      intro i
      simp only [Array.getD]
      split
      · simp
      · rfl
    refine ⟨T0, rfl, ⟨fun _ _ => rfl, ?_, ?_, ?_, ?_, ?_, ⟨0, Nat.zero_le _, ?_, hI.ke⟩, ?_, Kp.refl _ _⟩⟩
    · intro i _ h; rw [hf] at h; cases h
    · intro i _ h; rw [hf] at h; cases h
    · intro i _ h; rw [hf] at h; cases h
    · intro i _ h; rw [hf] at h; cases h
    · intro i j _ _ _ h; rw [hf] at h; cases h
    · intro i _; rw [hf]; exact (decide_eq_false (by omega)).symm
    · intro i _ h; rw [hf] at h; cases h

end Go.Proofs.YtiommpdbbpddpaaGreat

/- Calculations with two rational texts, in package ratio. -/
namespace Go.Proofs.YtiommpdbbpddpaaGreat
open Go.RowKit
open Go.Lib (nDigits itoa decDigits)

def two {α : Type} (a b : α) : Nat → α := fun i => if i = 0 then a else b
def err2 (a b : Int) : Nat → Int := fun i => if i = 0 then 0 else if i = 1 then kp 0 a else kp (kp 0 a) b

set_option maxRecDepth 100000 in
set_option maxHeartbeats 4000000 in
theorem ofTwo_in (F T g b0 b1 b2 : Nat) (a b N D : ByteArray) (E : Int) (w : World) (h : KE w g 0) (ha : a.size ≤ 9223372036854775807) (hb : b.size ≤ 9223372036854775807)
    (s0 : StB w b0 a) (s1 : StB w b1 b) (s2 : FnB w b2 F T) (g0 : b0 ≠ g) (g1 : b1 ≠ g) (g2 : b2 ≠ g)
    (he : ∀ args w, (callFunc F args).run Tryz.prog w = .ok (.enter F args) w) (q : Calc2 F (cN a) (cD a) (cN b) (cD b) N D E) :
    Calls Tryz.prog 46 #[.pointer (some ⟨g, 0, none⟩), .pointer (some ⟨b0, 0, none⟩), .pointer (some ⟨b1, 0, none⟩), .pointer (some ⟨b2, 0, none⟩)] w fun x w' => x = .returned (.agg #[.string N, .string D]) ∧ KE w' g (kp (spE a) (kp (spE b) E)) ∧ Kp [g] w w' := by
  have hl := h.lt
  have l0 := s0.lt
  have l1 := s1.lt
  have l2 := s2.lt
  have q1 := Lib.hid (fun W E hE => k_split g E a W hE ha)
  have q2 := Lib.hid (fun W E hE => k_split g E b W hE hb)
  generalize cN a = n at *
  generalize cD a = p at *
  generalize cN b = m at *
  generalize cD b = t at *
  generalize spE a = Ea at *
  generalize spE b = Eb at *
  have h0 := h.alloc (.cells #[.string ⟨#[]⟩, .string ⟨#[]⟩] 79 (0, 0))
  have k0 : Kp [g] w (w.alloc (.cells #[.string ⟨#[]⟩, .string ⟨#[]⟩] 79 (0, 0))) := (Kp.refl _ _).alloc _
  have t0 := s0.alloc (.cells #[.string ⟨#[]⟩, .string ⟨#[]⟩] 79 (0, 0))
  have t1 := s1.alloc (.cells #[.string ⟨#[]⟩, .string ⟨#[]⟩] 79 (0, 0))
  have hI : ∀ T0 : Nat → Value, T0 0 = .pointer (some ⟨g, 0, none⟩) → T0 1 = .pointer (some ⟨b0, 0, none⟩) → T0 2 = .pointer (some ⟨b1, 0, none⟩) →
      SplitIn 2 g (w.alloc (.cells #[.string ⟨#[]⟩, .string ⟨#[]⟩] 79 (0, 0))).drew T0 (two a b) (two n m) (two p t) (err2 Ea Eb) := by
    intro T0 e0 e1 e2
    refine ⟨e0, fun i hi => ?_, h0, fun i hi W hE => ?_⟩
    · obtain rfl | rfl : i = 0 ∨ i = 1 := by omega
      · exact ⟨b0, e1, t0, g0⟩
      · exact ⟨b1, e2, t1, g1⟩
    · obtain rfl | rfl : i = 0 ∨ i = 1 := by omega
      · exact q1.out W _ hE
      · exact q2.out W _ hE
  go_enter Tryz.func46, Tryz.ntmps46
  go_wp2_with fail
  rw [frame_lit]
  refine splits_region (k := 2) (C := 6) (g := g) (s := two a b) (n := two n m) (d := two p t) (E := err2 Ea Eb) (by kernel_rfl) ?shape (hI _ rfl rfl rfl) (fun _ _ _ h => h) ?rest
  case shape =>
    refine ⟨rfl, by decide, by simp, ?_, ?_, ?_, ?_, ?_, ?_, ?_, ?_, ?_, ?_, ?_, ?_⟩
    · intro i hi; obtain rfl | rfl : i = 0 ∨ i = 1 := by omega
      all_goals exact ⟨_, rfl, rfl, rfl, rfl⟩
    · intro i hi; obtain rfl | rfl : i = 0 ∨ i = 1 := by omega
      all_goals exact ⟨_, rfl, rfl, rfl, rfl⟩
    · intro i hi; obtain rfl | rfl : i = 0 ∨ i = 1 := by omega
      all_goals exact ⟨_, _, rfl, rfl, rfl, rfl⟩
    · intro i hi; obtain rfl | rfl : i = 0 ∨ i = 1 := by omega
      all_goals exact ⟨_, rfl, rfl, rfl, rfl⟩
    · intro i hi; obtain rfl | rfl : i = 0 ∨ i = 1 := by omega
      all_goals exact ⟨_, rfl, rfl, rfl, rfl⟩
    · intro i hi l hr; obtain rfl | rfl : i = 0 ∨ i = 1 := by omega
      · exact ⟨dep_of hr rfl (by kernel_rfl), dep_of hr rfl (by kernel_rfl), fun j hj => by omega⟩
      · refine ⟨dep_of hr rfl (by kernel_rfl), dep_of hr rfl (by kernel_rfl), fun j hj => ?_⟩
        obtain rfl : j = 0 := by omega
        exact dep_of hr rfl (by kernel_rfl)
    · intro i hi l hr; obtain rfl | rfl : i = 0 ∨ i = 1 := by omega
      all_goals exact ⟨dep_of hr rfl (by kernel_rfl), dep_of hr rfl (by kernel_rfl)⟩
    · intro i hi l hu; obtain rfl | rfl : i = 0 ∨ i = 1 := by omega
      all_goals exact ready_of (m := 0) hu rfl (by kernel_rfl) (fun j hj => by omega)
    · intro i hi l hu; obtain rfl | rfl : i = 0 ∨ i = 1 := by omega
      all_goals exact ready_of (m := 0) hu rfl (by kernel_rfl) (fun j hj => by omega)
    · intro i hi l hu hp; obtain rfl | rfl : i = 0 ∨ i = 1 := by omega
      · exact ready_of (m := 2) hu rfl (by kernel_rfl) hp
      · exact ready_of (m := 5) hu rfl (by kernel_rfl) hp
    · intro i hi l hu; obtain rfl | rfl : i = 0 ∨ i = 1 := by omega
      all_goals exact ready_of (m := 0) hu rfl (by kernel_rfl) (fun j hj => by omega)
    · intro i hi l hu hp; obtain rfl | rfl : i = 0 ∨ i = 1 := by omega
      · exact ready_of (m := 8) hu rfl (by kernel_rfl) hp
      · exact ready_of (m := 9) hu rfl (by kernel_rfl) hp
  case rest =>
    intro T bb w1 hout hin hE1 k1
    obtain ⟨v0, v1, v2, v3, x3, x4⟩ := hin 0 (by omega)
    obtain ⟨u0, u1, u2, u3, y3, y4⟩ := hin 1 (by omega)
    have z1 := (FrB.made w ⟨#[]⟩ ⟨#[]⟩).kept k1 (nmem_one (by omega))
    have fn1 := (s2.kept k0 (nmem_one g2)).kept k1 (nmem_one g2)
    have kk := k0.trans k1
    have e0 : T 0 = .pointer (some ⟨g, 0, none⟩) := hout 0 (by omega)
    have e1 : T 1 = .pointer (some ⟨b0, 0, none⟩) := hout 1 (by omega)
    have e2 : T 2 = .pointer (some ⟨b1, 0, none⟩) := hout 2 (by omega)
    have e3 : T 3 = .pointer (some ⟨b2, 0, none⟩) := hout 3 (by omega)
    have e4 : T 4 = undef := hout 4 (by omega)
    have e5 : T 5 = .pointer (some ⟨w.heap.size, 0, none⟩) := hout 5 (by omega)
    have e6 : T 6 = .pointer (some ⟨bb 0, 0, none⟩) := v3
    have e7 : T 7 = .pointer (some ⟨bb 1, 0, none⟩) := u3
    have e8 : T 8 = .pointer (some ⟨g, 0, none⟩) := v0
    have e9 : T 9 = .string a := v1
    have e10 : T 10 = .agg #[.string n, .string p] := v2
    have e11 : T 11 = .pointer (some ⟨g, 0, none⟩) := u0
    have e12 : T 12 = .string b := u1
    have e13 : T 13 = .agg #[.string m, .string t] := u2
    have e14 : T 14 = undef := hout 14 (by omega)
    have e15 : T 15 = undef := hout 15 (by omega)
    have e16 : T 16 = undef := hout 16 (by omega)
    have e17 : T 17 = undef := hout 17 (by omega)
    have e18 : T 18 = undef := hout 18 (by omega)
    have X : FrB w1 (bb 0) n p := x4
    have Y : FrB w1 (bb 1) m t := y4
    have x3' : w.heap.size + 1 ≤ bb 0 := by rw [World.size_alloc] at x3; exact x3
    have y3' : w.heap.size + 1 ≤ bb 1 := by rw [World.size_alloc] at y3; exact y3
    have hE1' : KE w1 g (kp (kp 0 Ea) Eb) := hE1
    clear v0 v1 v2 v3 u0 u1 u2 u3 x3 y3 x4 y4 hE1
    generalize bb 0 = bx at *
    generalize bb 1 = by_ at *
    change Exit.then _ _ _ (⟨#[T 0, T 1, T 2, T 3, T 4, T 5, T 6, T 7, T 8, T 9, T 10, T 11, T 12, T 13, T 14, T 15, T 16, T 17, T 18], []⟩ : Act) w1
    rw [e0, e1, e2, e3, e4, e5, e6, e7, e8, e9, e10, e11, e12, e13, e14, e15, e16, e17, e18]
    clear e0 e1 e2 e3 e4 e5 e6 e7 e8 e9 e10 e11 e12 e13 e14 e15 e16 e17 e18 hout hin
    have cF := fn1.c
    have cx0 := X.c0
    have cx1 := X.c1
    have cy0 := Y.c0
    have cy1 := Y.c1
    go_wp2_with (go_at_fn F; refine (q.out _ _ _ hE1').mono ?_; rintro x w2 ⟨rfl, hE2, k2⟩; have z2 := z1.kept k2 (nmem_one (by omega)); have r0 := z2.c0; have r1 := z2.c1; have y0 := z2.f0 0; have y1 := z2.f0 1)
    have kk2 := kk.trans k2
    have b4 := z2.set2 (x := N) (y := D)
    have h4 := ke_set2 hE2 (b := w.heap.size) (by omega) (.string N) (.string D)
    have kk4 := kp_set2 kk2 (b := w.heap.size) (by omega) (.string N) (.string D)
    generalize (w2.setCell ⟨w.heap.size, 0, none⟩ (.string N)).setCell ⟨w.heap.size, 1, none⟩ (.string D) = W at *
    have d0 := b4.c0
    have d1 := b4.c1
    refine bodyPost_ret (v := .agg #[.string N, .string D]) (by simp [results, Tryz.results46, go_sem, d0, d1]) rfl ?_
    exact ⟨rfl, by simpa only [kp_assoc, kp_zero] using h4, kk4⟩
end Go.Proofs.YtiommpdbbpddpaaGreat
