/- Texts Or: each says in its own first comment what it proves. -/
import Derived.Orders
import Derived.Test.YtlimjohnimgnhaaGreatDoorM14
/- A law for regions that draw their order: each operation keeps what the others have given; one obligation for each operation, none for each order. -/
namespace Go.Proofs.YtlimjohnimgnhaaGreatDoor
open Go.RowKit

/-! frames as functions -/
def oF (N : Nat) (T : Nat → Value) : Act := ⟨Array.ofFn (n := N) (fun i => T i.val), []⟩
def oU (T : Nat → Value) (d : Nat) (v : Value) : Nat → Value := fun j => if j = d then v else T j
theorem oU_same (T : Nat → Value) (d : Nat) (v : Value) : oU T d v d = v := if_pos rfl
theorem oU_ne {T : Nat → Value} {d j : Nat} {v : Value} (h : j ≠ d) : oU T d v j = T j := if_neg h
theorem oF_eval {N d : Nat} {T : Nat → Value} (h : d < N) : (oF N T).eval (.tmp d) = T d := by
  unfold oF Act.eval
  simp [Array.getD, h]
theorem oF_put {N d : Nat} {T : Nat → Value} {v : Value} : (oF N T).put (some d) v = oF N (oU T d v) := by
  unfold oF Act.put
  simp only [Act.mk.injEq, and_true]
  apply Array.ext
  · simp
  · intro i h1 h2
    simp only [Array.size_ofFn] at h2
    rw [Array.getElem_setIfInBounds (by simpa using h2), Array.getElem_ofFn, Array.getElem_ofFn]
    unfold oU
    by_cases e : d = i
    · subst e; simp
    · rw [if_neg e, if_neg (fun h => e h.symm)]
theorem oF_list (N : Nat) (T : Nat → Value) : oF N T = ⟨((List.range' 0 N).map T).toArray, []⟩ := by
  unfold oF
  simp only [Act.mk.injEq, and_true]
  apply Array.ext
  · simp
  · intro i h1 h2
    simp
theorem oF_lit (t : Array Value) : (⟨t, []⟩ : Act) = oF t.size (fun j => t.getD j undef) := by
  unfold oF
  simp only [Act.mk.injEq, and_true]
  apply Array.ext
  · simp
  · intro i h1 h2
    rw [Array.getElem_ofFn]
    simp [Array.getD, h1]

/-! which operations have come up -/
theorem o_set {l : Array Bool} {i j : Nat} (h : i ≠ j) (d : Bool) : (l.setIfInBounds i true).getD j d = l.getD j d := getD_set_ne d h
theorem o_self {l : Array Bool} {i : Nat} (h : i < l.size) (d : Bool) : (l.setIfInBounds i true).getD i d = true := by
  simp [Array.getD, h]
def oN (l : Array Bool) : Nat → Nat
  | 0 => 0
  | m + 1 => oN l m + (if l.getD m true = false then 1 else 0)
theorem oN_set {l : Array Bool} {i : Nat} (hi : i < l.size) (hf : l.getD i true = false) : ∀ m, (i < m → oN (l.setIfInBounds i true) m + 1 = oN l m) ∧ (m ≤ i → oN (l.setIfInBounds i true) m = oN l m)
  | 0 => ⟨fun h => by omega, fun _ => rfl⟩
  | m + 1 => by
    obtain ⟨h1, h2⟩ := oN_set hi hf m
    unfold oN
    constructor
    · intro h
      by_cases e : i = m
      · subst e
        rw [h2 (Nat.le_refl _), o_self hi, if_neg (by decide), if_pos hf]
      · rw [o_set e, ← h1 (by omega)]; omega
    · intro h
      rw [o_set (by omega), h2 (by omega)]
theorem oN_zero {l : Array Bool} : ∀ {m j : Nat}, oN l m = 0 → j < m → l.getD j true = true
  | 0, j, _, h => by omega
  | m + 1, j, h0, h => by
    unfold oN at h0
    by_cases e : l.getD m true = false
    · rw [if_pos e] at h0; omega
    · by_cases e2 : j = m
      · subst e2; simpa using e
      · exact oN_zero (m := m) (by omega) (by omega)
section
variable {P : Program} {ops : Array Oper} {Q : Exit → Act → World → Prop} {md : Region.Mode}
theorem o_ready {l : Array Bool} {i : Nat} (h : i ∈ Region.ready md ops l) : i < ops.size ∧ l.getD i true = false := by
  obtain ⟨h1, o, h2, _⟩ := mem_ready.1 h
  exact ⟨(Array.getElem?_eq_some_iff.1 h2).1, h1⟩
theorem o_inv (I : Array Bool → Act → World → Prop)
    (hfin : ∀ l a w, l.size = ops.size → I l a w → Region.ready md ops l = [] → Q .normal a w)
    (hstep : ∀ l a w i, l.size = ops.size → I l a w → i ∈ Region.ready md ops l → wpOp P ops Q i (fun a' w' => I (l.setIfInBounds i true) a' w') a w) :
    ∀ (fuel : Nat) (l : Array Bool) (a : Act) (w : World), l.size = ops.size → oN l ops.size ≤ fuel → I l a w → wpAny P md ops Q fuel l a w
  | 0, l, a, w, hs, hu, hI => by
    have hr : Region.ready md ops l = [] := by
      apply List.eq_nil_iff_forall_not_mem.2
      intro i hi
      obtain ⟨h1, h2⟩ := o_ready hi
      have := oN_zero (l := l) (m := ops.size) (j := i) (by omega) h1
      rw [this] at h2; cases h2
    exact ⟨hr, hfin l a w hs hI hr⟩
  | fuel + 1, l, a, w, hs, hu, hI => by
    refine ⟨fun hr => hfin l a w hs hI hr, fun i hi => ?_⟩
    obtain ⟨h1, h2⟩ := o_ready hi
    refine wpOp_mono (fun a' w' h' => ?_) (hstep l a w i hs hI hi)
    refine o_inv I hfin hstep fuel _ a' w' (by simpa using hs) ?_ h'
    have := (oN_set (l := l) (by omega) h2 ops.size).1 h1
    omega
end
theorem o_tf {l : Array Bool} {i : Nat} (h : i < l.size) : l.getD i true = l.getD i false := by simp [Array.getD, h]
theorem o_ff {l : Array Bool} {i : Nat} (h : i < l.size) (hf : l.getD i true = false) : l.getD i false = false := by rw [← o_tf h]; exact hf
theorem o_tt {l : Array Bool} {i : Nat} (h : i < l.size) (hn : ¬ l.getD i true = false) : l.getD i false = true := by
  rw [← o_tf h]; simpa using hn

/-! the table of a region: slots, what an operation's operands come from, which slots it finds as they were -/
structure OT where
  N : Nat
  dst : List (Option Nat)
  sl : List Nat
  dep : List (List Nat)
  old : List (List Nat)
def OT.d (t : OT) (i : Nat) : Option Nat := t.dst.getD i none
def OT.s (t : OT) (i : Nat) : Nat := t.sl.getD i t.N
def oEdge (o : Oper) (j : Nat) : Bool := o.after.any fun e => e.on == j && Region.binds .any e
def oOk (ops : Array Oper) (t : OT) : Bool :=
  (ops.size == t.dst.length) && (List.range t.dst.length).all fun i => match ops[i]? with
    | none => false
    | some o => (o.dst == t.d i) && (match t.d i with | some d => decide (d < t.N) && (t.s i == d) && (List.range t.dst.length).all (fun j => j == i || !(t.d j == some d)) | none => (List.range t.dst.length).all (fun j => !(t.d j == some (t.s i)) || oEdge o j))
      && (o.after.all fun e => !Region.binds .any e || decide (e.on < i))
      && (t.dep.getD i []).all (fun j => decide (j < t.dst.length) && oEdge o j)
      && (match o.guard with | some (g, _) => decide (g < t.dst.length) && (t.d g).isSome && o.dst.isSome | none => true)
      && (t.old.getD i []).all (fun s => (List.range t.dst.length).all fun j => !(t.d j == some s) || j == i || (match ops[j]? with | some o2 => oEdge o2 i | none => false))
def AllD {α : Type} (p : α → Prop) : List α → Prop
  | [] => True
  | x :: l => p x ∧ AllD p l
theorem allD_of {α : Type} {p : α → Prop} : ∀ {l : List α}, (∀ x ∈ l, p x) → AllD p l
  | [], _ => trivial
  | x :: _, h => ⟨h x (by simp), allD_of fun y hy => h y (by simp [hy])⟩
theorem allD_at {α : Type} {p : α → Prop} {d : α} : ∀ {l : List α}, AllD p l → ∀ i, i < l.length → p (l.getD i d)
  | [], _, i, hi => absurd hi (by simp)
  | x :: l, h, 0, _ => h.1
  | x :: l, h, i + 1, hi => allD_at (l := l) h.2 i (by simpa using hi)

/-- what an operation must do: a value of its kind (one without a slot: the slot that it is told by), and the others' values keep theirs -/
def ONext (N : Nat) (T : Nat → Value) (G : World → World → Prop) (R : Nat → Value → World → Prop) (w : World) (s : Nat) (o : Oper) (i : Nat) (a' : Act) (w' : World) : Prop :=
  ∃ v, a' = (oF N T).put o.dst v ∧ (o.dst.isSome = true → R i v w') ∧ (o.dst = none → R i (T s) w') ∧ G w w'
structure OW (P : Program) (N s : Nat) (G : World → World → Prop) (R : Nat → Value → World → Prop) (T : Nat → Value) (w : World) (i : Nat) (o : Oper) (Q : Exit → Act → World → Prop) : Prop where
  out : o.wp P (oF N T) w (ONext N T G R w s o i) Q
inductive OGo (P : Program) (t : OT) (G : World → World → Prop) (R : Nat → Value → World → Prop) (T : Nat → Value) (w : World) (i : Nat) (o : Oper) (Q : Exit → Act → World → Prop) : Prop
  | none (hg : o.guard = .none) (h : OW P t.N (t.s i) G R T w i o Q) : OGo P t G R T w i o Q
  | some (g : Nat) (b c : Bool) (hg : o.guard = .some (g, b)) (hv : T (t.s g) = .bool c) (h : c = b → OW P t.N (t.s i) G R T w i o Q) (h2 : c ≠ b → R i undef w) : OGo P t G R T w i o Q
def OStep (P : Program) (t : OT) (w0 : World) (T0 : Nat → Value) (G : World → World → Prop) (R : Nat → Value → World → Prop) (i : Nat) (o : Oper) : Prop :=
  ∀ T w, G w0 w → AllD (fun j => R j (T (t.s j)) w) (t.dep.getD i []) → AllD (fun s => T s = T0 s) (t.old.getD i []) → ∀ Q, OGo P t G R T w i o Q
def AllO (p : Nat → Oper → Prop) : Nat → List Oper → Prop
  | _, [] => True
  | i, o :: l => p i o ∧ AllO p (i + 1) l
theorem allO_at {p : Nat → Oper → Prop} : ∀ {l : List Oper} {s : Nat}, AllO p s l → ∀ i o, l[i]? = some o → p (s + i) o
  | [], _, _, i, o, h => by simp at h
  | x :: l, s, h, 0, o, ho => by
    obtain rfl : x = o := by simpa using ho
    exact h.1
  | x :: l, s, h, i + 1, o, ho => by rw [show s + (i + 1) = s + 1 + i by omega]; exact allO_at h.2 i o (by simpa using ho)
theorem allO_cons {p : Nat → Oper → Prop} {i : Nat} {o : Oper} {l : List Oper} (h : p i o) (k : AllO p (i + 1) l) : AllO p i (o :: l) := ⟨h, k⟩
theorem allO_nil {p : Nat → Oper → Prop} {i : Nat} : AllO p i [] := trivial
structure OR (P : Program) (os : List Oper) (t : OT) (w0 : World) (T0 : Nat → Value) (G : World → World → Prop) (R : Nat → Value → World → Prop) : Prop where
  refl : ∀ w, G w w
  trans : ∀ a b c, G a b → G b c → G a c
  stab : ∀ i v w w', G w w' → R i v w → R i v w'
  step : AllO (OStep P t w0 T0 G R) 0 os

/-! one operation -/
section
variable {P : Program} {ops : Array Oper} {i N s : Nat} {o : Oper} {T : Nat → Value} {w w' : World} {v : Value} {G : World → World → Prop} {R : Nat → Value → World → Prop} {Q : Exit → Act → World → Prop}
theorem o_do (ho : ops[i]? = some o) (hg : o.guard = none) (h : o.wp P (oF N T) w (ONext N T G R w s o i) Q) : wpOp P ops Q i (ONext N T G R w s o i) (oF N T) w := by
  unfold wpOp
  rw [ho]
  have hw : Region.wanted o (yielded ops (oF N T).tmps) = true := by simp [Region.wanted, hg]
  simp only [hw, if_true]
  exact .inl h
theorem o_guard {g q : Nat} {b c : Bool} {og : Oper} (ho : ops[i]? = some o) (hgu : o.guard = some (g, b)) (hod : o.dst.isSome = true) (hog : ops[g]? = some og) (hs : og.dst = some q) (hN : q < N) (hv : T q = .bool c)
    (h : c = b → o.wp P (oF N T) w (ONext N T G R w s o i) Q) (h2 : c ≠ b → R i undef w ∧ G w w) : wpOp P ops Q i (ONext N T G R w s o i) (oF N T) w := by
  have hy : yielded ops (oF N T).tmps g = some c := by
    unfold yielded oF
    simp [hog, hs, hN, hv]
  unfold wpOp
  rw [ho]
  by_cases e : c = b
  · have hw : Region.wanted o (yielded ops (oF N T).tmps) = true := by simp [Region.wanted, hgu, hy, e]
    simp only [hw, if_true]
    exact .inl (h e)
  · have hw : Region.wanted o (yielded ops (oF N T).tmps) = false := by simp [Region.wanted, hgu, hy, e]
    simp only [hw]
    exact ⟨undef, rfl, fun _ => (h2 e).1, fun e2 => (by rw [e2] at hod; cases hod), (h2 e).2⟩
theorem og_none {t : OT} (hg : o.guard = none) (h : OW P t.N (t.s i) G R T w i o Q) : OGo P t G R T w i o Q := .none hg h
theorem og_some {t : OT} {g : Nat} {b c : Bool} (hg : o.guard = some (g, b)) (hv : T (t.s g) = .bool c) (h : c = b → OW P t.N (t.s i) G R T w i o Q) (h2 : c ≠ b → R i undef w) : OGo P t G R T w i o Q := .some g b c hg hv h h2
theorem o_val (hrun : (execOp (oF N T).eval o).run P w = .ok (.value v) w') (hd : o.dst.isSome = true) (hR : R i v w') (hG : G w w') : OW P N s G R T w i o Q := by
  refine ⟨?_⟩
  unfold Oper.wp
  rw [hrun]
  exact ⟨v, rfl, fun _ => hR, fun e => (by rw [e] at hd; cases hd), hG⟩
theorem o_skip (hrun : (execOp (oF N T).eval o).run P w = .ok .skip w') (hd : o.dst = none) (hR : R i (T s) w') (hG : G w w') : OW P N s G R T w i o Q := by
  refine ⟨?_⟩
  unfold Oper.wp
  rw [hrun]
  exact ⟨undef, rfl, fun e => (by rw [hd] at e; cases e), fun _ => hR, hG⟩
theorem o_call {F : Nat} {args : Array Value} (hrun : (execOp (oF N T).eval o).run P w = .ok (.enter F args) w) (hd : o.dst.isSome = true) (hc : Calls P F args w fun r w' => ∃ v, r = .returned v ∧ R i v w' ∧ G w w') : OW P N s G R T w i o Q := by
  refine ⟨?_⟩
  unfold Oper.wp
  rw [hrun]
  unfold Oper.upon
  refine Calls.mono hc ?_
  rintro x w2 ⟨v, rfl, h1, h2⟩
  exact ⟨v, rfl, fun _ => h1, fun e => (by rw [e] at hd; cases hd), h2⟩
end
structure OInv (t : OT) (w0 : World) (T0 : Nat → Value) (G : World → World → Prop) (R : Nat → Value → World → Prop) (ops : Array Oper) (l : Array Bool) (T : Nat → Value) (w : World) : Prop where
  out : ∀ s, (∀ j, j < t.dst.length → t.d j = some s → l.getD j false = false) → T s = T0 s
  val : ∀ j, j < t.dst.length → l.getD j false = true → R j (T (t.s j)) w
  cl : ∀ j o, ops[j]? = some o → l.getD j false = true → ∀ i, oEdge o i = true → l.getD i false = true
  g : G w0 w

theorem o_fin {ops : Array Oper} {m : Nat} (_hm : ops.size = m) (hb : ∀ i, i < m → ∃ o, ops[i]? = some o ∧ (o.after.all fun e => !Region.binds .any e || decide (e.on < i)) = true) (l : Array Bool) (hs : l.size = m)
    (hr : Region.ready .any ops l = []) : ∀ i, i < m → l.getD i false = true := by
  intro i
  induction i using Nat.strongRecOn with
  | _ i ih =>
    intro hi
    refine o_tt (by omega) (fun hf => ?_)
    obtain ⟨o, ho, ha⟩ := hb i hi
    have : i ∈ Region.ready .any ops l := by
      refine mem_ready.2 ⟨hf, o, ho, fun e he hb => ih _ ?_ ?_⟩
      · have := (Array.all_eq_true_iff_forall_mem.1 ha) e he
        rw [hb] at this
        simpa using this
      · have := (Array.all_eq_true_iff_forall_mem.1 ha) e he
        rw [hb] at this
        have : e.on < i := by simpa using this
        omega
    rw [hr] at this
    cases this

theorem o_law {P : Program} {os : List Oper} {id : Nat} {w : World} {T0 : Nat → Value} {Q : Exit → Act → World → Prop} (t : OT) (G : World → World → Prop) (R : Nat → Value → World → Prop)
    (hm : P.follows .mixedOrders = true) (hk : oOk os.toArray t = true) (hR : OR P os t w.drew T0 G R)
    (hQ : ∀ (T : Nat → Value) (w' : World), (∀ s, (t.dst.all fun x => !(x == some s)) = true → T s = T0 s) → (∀ j, j < t.dst.length → R j (T (t.s j)) w') → G w.drew w' → Q .normal (oF t.N T) w') :
    (Code.region id os.toArray true).wp P Q (oF t.N T0) w := by
  obtain ⟨ops, hops⟩ : ∃ ops : Array Oper, ops = os.toArray := ⟨_, rfl⟩
  rw [← hops] at hk ⊢
  unfold oOk at hk
  rw [Bool.and_eq_true, beq_iff_eq, List.all_eq_true] at hk
  obtain ⟨hsize, hall⟩ := hk
  have each : ∀ i, i < t.dst.length → ∃ o, ops[i]? = some o ∧ o.dst = t.d i ∧ (∀ d, t.d i = some d → d < t.N ∧ t.s i = d ∧ ∀ j, j < t.dst.length → t.d j = some d → j = i) ∧ (o.after.all fun e => !Region.binds .any e || decide (e.on < i)) = true ∧
      (∀ j ∈ t.dep.getD i [], j < t.dst.length ∧ oEdge o j = true) ∧ (∀ s ∈ t.old.getD i [], ∀ j, j < t.dst.length → t.d j = some s → j = i ∨ ∃ o2, ops[j]? = some o2 ∧ oEdge o2 i = true) ∧ (∀ g b, o.guard = some (g, b) → g < t.dst.length ∧ (t.d g).isSome = true ∧ o.dst.isSome = true) ∧
      (t.d i = none → ∀ j, j < t.dst.length → t.d j = some (t.s i) → oEdge o j = true) := by
    intro i hi
    have h := hall i (by simpa using hi)
    cases ho : ops[i]? with
    | none => rw [ho] at h; cases h
    | some o =>
      rw [ho] at h
      simp only [Bool.and_eq_true] at h
      obtain ⟨⟨⟨⟨⟨h1, h2⟩, h3⟩, h4⟩, h6⟩, h5⟩ := h
      refine ⟨o, rfl, by simpa using h1, fun d hd => ?_, h3, fun j hj => ?_, fun s hs j hj hjs => ?_, fun g b hgb => ?_, fun hn j hj hjs => ?_⟩
      · rw [hd] at h2
        simp only [Bool.and_eq_true, decide_eq_true_eq, List.all_eq_true, List.mem_range, Bool.or_eq_true, beq_iff_eq] at h2
        refine ⟨h2.1.1, h2.1.2, fun j hj hjd => ?_⟩
        rcases h2.2 j hj with e | e
        · exact e
        · rw [hjd] at e; simp at e
      · have := List.all_eq_true.1 h4 j hj
        rw [Bool.and_eq_true, decide_eq_true_eq] at this
        exact this
      · have := List.all_eq_true.1 (List.all_eq_true.1 h5 s hs) j (by simpa using hj)
        simp only [Bool.or_eq_true, beq_iff_eq] at this
        rcases this with (e | e) | e
        · rw [hjs] at e; simp at e
        · exact .inl e
        · right
          cases ho2 : ops[j]? with
          | none => rw [ho2] at e; cases e
          | some o2 => rw [ho2] at e; exact ⟨o2, rfl, e⟩
      · rw [hgb] at h6
        simp only [Bool.and_eq_true, decide_eq_true_eq] at h6
        exact ⟨h6.1.1, h6.1.2, h6.2⟩
      · rw [hn] at h2
        have := List.all_eq_true.1 h2 j (by simpa using hj)
        rw [hjs] at this
        simpa using this
  refine wp_region_any hm (o_inv (fun l a w' => ∃ T, a = oF t.N T ∧ OInv t w.drew T0 G R ops l T w') ?_ ?_ ops.size (Array.replicate ops.size false) _ _ (by simp) ?_ ?_)
  · rintro l a w' hs ⟨T, rfl, h⟩ hr
    have la := o_fin hsize (fun i hi => by obtain ⟨o, a1, _, _, a2, _⟩ := each i hi; exact ⟨o, a1, a2⟩) l (by rw [hs, hsize]) hr
    refine hQ T w' (fun s hsn => h.out s fun j hj e => ?_) (fun j hj => h.val j hj (la j hj)) h.g
    have := List.all_eq_true.1 hsn (t.d j) (by
      unfold OT.d
      rw [List.getD_eq_getElem?_getD, List.getElem?_eq_getElem hj]
      simp)
    rw [e] at this
    simp at this
  · rintro l a w' i hs ⟨T, rfl, h⟩ hr
    obtain ⟨hil, hun⟩ := o_ready hr
    rw [hsize] at hil
    have hls : l.size = t.dst.length := by rw [hs, hsize]
    have hnl := o_ff (l := l) (by omega) hun
    obtain ⟨o, h1, h2, h3, _, h5, h6, h7, h8⟩ := each i hil
    have ri : ∀ j, oEdge o j = true → l.getD j false = true := by
      obtain ⟨_, o', ho', h9⟩ := mem_ready.1 hr
      obtain rfl := Option.some.inj (h1.symm.trans ho')
      intro j hj
      obtain ⟨k, hk, hk2⟩ := Array.any_eq_true.1 hj
      simp only [Bool.and_eq_true, beq_iff_eq] at hk2
      rw [← hk2.1]
      exact h9 _ (Array.getElem_mem hk) hk2.2
    have st0 := allO_at hR.step i o (by rw [← h1, hops]; simp) T w'
    rw [Nat.zero_add] at st0
    have st := st0 h.g (allD_of fun j hj => h.val j (h5 j hj).1 (ri j (h5 j hj).2))
      (allD_of fun s hsn => h.out s fun j hj hjs => by
        rcases h6 s hsn j hj hjs with e | ⟨o2, ho2, he⟩
        · subst e; exact hnl
        · rcases Bool.eq_false_or_eq_true (l.getD j false) with e | e
          · have := h.cl j o2 ho2 e i he
            rw [hnl] at this; cases this
          · exact e) Q
    have st2 : wpOp P ops Q i (ONext t.N T G R w' (t.s i) o i) (oF t.N T) w' := by
      rcases st with ⟨hgu, st⟩ | ⟨g, b, c, hgu, hc, s1, s2⟩
      · exact o_do h1 hgu st.out
      · obtain ⟨hgm, hgs, hod⟩ := h7 g b hgu
        obtain ⟨og, a1, a2, a3, _⟩ := each g hgm
        obtain ⟨s, hs2⟩ := Option.isSome_iff_exists.1 hgs
        have hsg : t.s g = s := (a3 s hs2).2.1
        rw [hsg] at hc
        exact o_guard h1 hgu hod a1 (a2.trans hs2) (a3 s hs2).1 hc (fun e => (s1 e).out) (fun hne => ⟨s2 hne, hR.refl _⟩)
    refine wpOp_mono ?_ st2
    rintro a2 w2 ⟨v, rfl, hv, hv0, hg⟩
    have cl2 : ∀ j o, ops[j]? = some o → (l.setIfInBounds i true).getD j false = true → ∀ k, oEdge o k = true → (l.setIfInBounds i true).getD k false = true := by
      intro j o2 ho2 hd2 k he
      have hset : ∀ k, l.getD k false = true → (l.setIfInBounds i true).getD k false = true := fun k hk => by
        by_cases e : i = k
        · subst e; exact o_self (by omega) _
        · rw [o_set e]; exact hk
      by_cases e2 : j = i
      · subst e2
        obtain rfl := Option.some.inj (h1.symm.trans ho2)
        exact hset _ (ri k he)
      · rw [o_set (fun x => e2 x.symm)] at hd2
        exact hset _ (h.cl j o2 ho2 hd2 k he)
    rw [h2]
    cases hdi : t.d i with
    | none =>
      refine ⟨T, rfl, ⟨fun s hsn => h.out s fun j hj e => ?_, fun j hj hl => ?_, cl2, hR.trans _ _ _ h.g hg⟩⟩
      · by_cases e2 : j = i
        · subst e2; rw [hdi] at e; cases e
        · have := hsn j hj e
          rwa [o_set (fun x => e2 x.symm)] at this
      · by_cases e2 : j = i
        · subst e2; exact hv0 (by rw [h2, hdi])
        · rw [o_set (fun x => e2 x.symm)] at hl
          exact hR.stab _ _ _ _ hg (h.val j hj hl)
    | some d =>
      obtain ⟨hdN, hsi, hdu⟩ := h3 d hdi
      rw [oF_put]
      refine ⟨_, rfl, ⟨fun s hsn => ?_, fun j hj hl => ?_, cl2, hR.trans _ _ _ h.g hg⟩⟩
      · by_cases e : s = d
        · subst e
          have := hsn i hil hdi
          rw [o_self (by omega)] at this; cases this
        · rw [oU_ne e]
          refine h.out s fun j hj e3 => ?_
          have := hsn j hj e3
          by_cases e2 : j = i
          · subst e2; exact hnl
          · rwa [o_set (fun x => e2 x.symm)] at this
      · by_cases e2 : j = i
        · subst e2; rw [hsi, oU_same]; exact hv (by rw [h2, hdi]; rfl)
        · rw [o_set (fun x => e2 x.symm)] at hl
          have hne : t.s j ≠ d := fun e => by
            obtain ⟨o2, b1, b2, b3, _, _, _, _, b8⟩ := each j hj
            cases hdj : t.d j with
            | none =>
              have := h.cl j o2 b1 hl i (b8 hdj i hil (by rw [hdi, e]))
              rw [hnl] at this; cases this
            | some d2 =>
              have e5 : t.s j = d2 := (b3 d2 hdj).2.1
              exact e2 (hdu j hj (by rw [hdj, ← e5, e]))
          rw [oU_ne hne]
          exact hR.stab _ _ _ _ hg (h.val j hj hl)
  · have : ∀ q, oN (Array.replicate ops.size false) q ≤ q := by
      intro q
      induction q with
      | zero => exact Nat.le_refl _
      | succ q ih => unfold oN; split <;> omega
    exact this _
  · have hf : ∀ i, (Array.replicate ops.size false).getD i false = false := by
      intro i
      simp only [Array.getD]
      split
      · simp
      · rfl
    refine ⟨T0, rfl, ⟨fun _ _ => rfl, ?_, ?_, hR.refl _⟩⟩
    · intro i _ h; rw [hf] at h; cases h
    · intro j o _ h; rw [hf] at h; cases h

/-! lists of kinds, of obligations; calls -/
def RL (l : List (Value → World → Prop)) (i : Nat) : Value → World → Prop := l.getD i fun _ _ => True
theorem rl_stab {G : World → World → Prop} {l : List (Value → World → Prop)} (h : AllD (fun p => ∀ v w w', G w w' → p v w → p v w') l) : ∀ i v w w', G w w' → RL l i v w → RL l i v w' := by
  intro i v w w' g hv
  by_cases hi : i < l.length
  · exact allD_at (d := fun _ _ => True) h i hi v w w' g hv
  · unfold RL
    rw [List.getD_eq_getElem?_getD, List.getElem?_eq_none (by omega)]
    trivial
section
variable {r : Operand → Value} {w : World} {o : Oper} {F : Nat} {ty : Array TypeId} {x y z : Operand} {u v t : Value}
theorem oc0 (he : ∀ args w, (callFunc F args).run Tryz.prog w = .ok (.enter F args) w) (h : o.op = .call { callee := .value (.func F), args := #[], argTypes := ty }) (hf : r (.func F) = .func (.func F) #[] #[]) : (execOp r o).run Tryz.prog w = .ok (.enter F #[]) w := by
  simp [execOp, h, hf, go_sem, he]
theorem oc1 (he : ∀ args w, (callFunc F args).run Tryz.prog w = .ok (.enter F args) w) (h : o.op = .call { callee := .value (.func F), args := #[x], argTypes := ty }) (hf : r (.func F) = .func (.func F) #[] #[]) (hx : r x = u) : (execOp r o).run Tryz.prog w = .ok (.enter F #[u]) w := by
  simp [execOp, h, hf, go_sem, he, hx]
theorem oc2 (he : ∀ args w, (callFunc F args).run Tryz.prog w = .ok (.enter F args) w) (h : o.op = .call { callee := .value (.func F), args := #[x, y], argTypes := ty }) (hf : r (.func F) = .func (.func F) #[] #[]) (hx : r x = u) (hy : r y = v) : (execOp r o).run Tryz.prog w = .ok (.enter F #[u, v]) w := by
  simp [execOp, h, hf, go_sem, he, hx, hy]
end

/-! what a region may write: nothing that is there (Kx []); one block R of the function's own, once (Gz); one new block, once (Gn) -/
def Gz (R : Nat) (z n : Array Value) (T : TypeId) (w w' : World) : Prop := Kx [R] w w' ∧ (Is w R n T → Is w' R n T) ∧ (Is w R z T ∨ Is w R n T → Is w' R z T ∨ Is w' R n T)
theorem Gz.refl (R : Nat) (z n : Array Value) (T : TypeId) (w : World) : Gz R z n T w w := ⟨Kx.refl _ _, id, id⟩
theorem Gz.trans {R : Nat} {z n : Array Value} {T : TypeId} {a b c : World} (h : Gz R z n T a b) (k : Gz R z n T b c) : Gz R z n T a c := ⟨h.1.trans k.1, fun x => k.2.1 (h.2.1 x), fun x => k.2.2 (h.2.2 x)⟩
theorem Kb.gz {R : Nat} {z n : Array Value} {T : TypeId} {w w' : World} (h : Kb w w') : Gz R z n T w w' := ⟨h.kx, fun x => x.kb h, fun x => x.imp (fun y => y.kb h) (fun y => y.kb h)⟩
theorem Gz.old {R : Nat} {z n : Array Value} {T : TypeId} {e a w : World} (h : Gz R z n T a w) (k : Kb e a) (hL : e.heap.size ≤ R) : Kb e w := h.1.old k (fun x hx => by simp at hx; omega)
def Gn (base : Nat) (z n : Array Value) (T : TypeId) (w w' : World) : Prop := w'.os = w.os ∧ w'.tape = w.tape ∧ w'.output = w.output ∧ w.heap.size ≤ w'.heap.size ∧ ∀ k, k < w.heap.size → w'.heap[k]? = w.heap[k]? ∨ (base ≤ k ∧ Is w k z T ∧ Is w' k n T)
theorem Gn.refl (base : Nat) (z n : Array Value) (T : TypeId) (w : World) : Gn base z n T w w := ⟨rfl, rfl, rfl, Nat.le_refl _, fun _ _ => .inl rfl⟩
theorem Gn.trans {base : Nat} {z n : Array Value} {T : TypeId} {a b c : World} (h : Gn base z n T a b) (k : Gn base z n T b c) : Gn base z n T a c := by
  refine ⟨k.1.trans h.1, k.2.1.trans h.2.1, k.2.2.1.trans h.2.2.1, Nat.le_trans h.2.2.2.1 k.2.2.2.1, fun i hi => ?_⟩
  rcases h.2.2.2.2 i hi with e | ⟨e1, e2, e3⟩
  · rcases k.2.2.2.2 i (Nat.lt_of_lt_of_le hi h.2.2.2.1) with f | ⟨f1, f2, f3⟩
    · exact .inl (f.trans e)
    · exact .inr ⟨f1, e.symm.trans f2, f3⟩
  · rcases k.2.2.2.2 i (Nat.lt_of_lt_of_le hi h.2.2.2.1) with f | ⟨f1, f2, f3⟩
    · exact .inr ⟨e1, e2, f.trans e3⟩
    · exact .inr ⟨f1, e2, f3⟩
theorem Kb.gn {base : Nat} {z n : Array Value} {T : TypeId} {w w' : World} (h : Kb w w') : Gn base z n T w w' := ⟨h.os, h.tape, h.output, h.size, fun k hk => .inl (h.block k hk)⟩
theorem Gn.old {base : Nat} {z n : Array Value} {T : TypeId} {e a w : World} (h : Gn base z n T a w) (k : Kb e a) (hL : e.heap.size ≤ base) : Kb e w := ⟨h.1.trans k.os, h.2.1.trans k.tape, h.2.2.1.trans k.output, Nat.le_trans k.size h.2.2.2.1, fun i hi => by
  rcases h.2.2.2.2 i (Nat.lt_of_lt_of_le hi k.size) with f | ⟨f1, _, _⟩
  · exact f.trans (k.block i hi)
  · omega⟩
theorem Is.gn {base b : Nat} {z n cs : Array Value} {T T' : TypeId} {w w' : World} (h : Is w b cs T') (k : Gn base z n T w w') (hb : b < base) : Is w' b cs T' := by
  rcases k.2.2.2.2 b h.lt with f | ⟨f1, _, _⟩
  · exact h.same f
  · omega
/-- the new block, before and behind the store -/
def An (base : Nat) (z n : Array Value) (T : TypeId) (v : Value) (w : World) : Prop := ∃ g, v = .pointer (some ⟨g, 0, none⟩) ∧ base ≤ g ∧ (Is w g z T ∨ Is w g n T)
def Sn (base : Nat) (n : Array Value) (T : TypeId) (v : Value) (w : World) : Prop := ∃ g, v = .pointer (some ⟨g, 0, none⟩) ∧ base ≤ g ∧ Is w g n T
theorem An.gn {base : Nat} {z n : Array Value} {T : TypeId} {v : Value} {w w' : World} (h : An base z n T v w) (k : Gn base z n T w w') : An base z n T v w' := by
  obtain ⟨g, h1, h2, h3⟩ := h
  refine ⟨g, h1, h2, ?_⟩
  have hlt : g < w.heap.size := h3.elim Is.lt Is.lt
  rcases k.2.2.2.2 g hlt with f | ⟨_, _, f3⟩
  · exact h3.imp (fun x => x.same f) (fun x => x.same f)
  · exact .inr f3
theorem Sn.gn {base : Nat} {z n : Array Value} {T : TypeId} {v : Value} {w w' : World} (h : Sn base n T v w) (k : Gn base z n T w w') : Sn base n T v w' := by
  obtain ⟨g, h1, h2, h3⟩ := h
  refine ⟨g, h1, h2, ?_⟩
  rcases k.2.2.2.2 g h3.lt with f | ⟨_, _, f3⟩
  · exact h3.same f
  · exact f3

/-! stores into one block -/
structure Pt (g : Nat) (w w' : World) : Prop where
  os : w'.os = w.os
  tape : w'.tape = w.tape
  output : w'.output = w.output
  size : w'.heap.size = w.heap.size
  far : ∀ k, k ≠ g → w'.heap[k]? = w.heap[k]?
theorem Pt.refl (g : Nat) (w : World) : Pt g w w := ⟨rfl, rfl, rfl, rfl, fun _ _ => rfl⟩
theorem Pt.set {g : Nat} {w w' : World} (h : Pt g w w') (i : Nat) (u : Value) : Pt g w (w'.setCell ⟨g, i, none⟩ u) :=
  ⟨h.os, h.tape, h.output, by rw [← h.size]; simp [World.setCell], fun k hk => (Below.heap_setCell w' ⟨g, i, none⟩ u k hk).trans (h.far k hk)⟩
theorem Pt.gz {g : Nat} {w w' : World} {z n : Array Value} {T : TypeId} (h : Pt g w w') (is : Is w' g n T) : Gz g z n T w w' :=
  ⟨⟨h.os, h.tape, h.output, Nat.le_of_eq h.size.symm, fun k _ hk => h.far k (fun e => hk (by simp [e]))⟩, fun _ => is, fun _ => .inr is⟩
theorem Pt.gn {g base : Nat} {w w' : World} {z n : Array Value} {T : TypeId} (h : Pt g w w') (is : Is w' g n T) (io : Is w g z T ∨ Is w g n T) (hge : base ≤ g) : Gn base z n T w w' :=
  ⟨h.os, h.tape, h.output, Nat.le_of_eq h.size.symm, fun k _ => if e : k = g then (by subst e; exact io.elim (fun x => .inr ⟨hge, x, is⟩) (fun x => .inl (is.trans x.symm))) else .inl (h.far k e)⟩
theorem Pt.kb {g : Nat} {a w w' : World} (h : Pt g w w') (k : Kb a w) (hg : a.heap.size ≤ g) : Kb a w' :=
  ⟨h.os.trans k.os, h.tape.trans k.tape, h.output.trans k.output, by rw [h.size]; exact k.size, fun i hi => (h.far i (by omega)).trans (k.block i hi)⟩
end Go.Proofs.YtlimjohnimgnhaaGreatDoor
