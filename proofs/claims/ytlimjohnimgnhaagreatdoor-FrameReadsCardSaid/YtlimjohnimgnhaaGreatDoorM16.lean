/- Texts Or2: each says in its own first comment what it proves. -/
import Derived.Test.YtlimjohnimgnhaaGreatDoorM34
/- A law for drawn regions that make two new blocks, each filled by one store, among calls and loads in any order. -/
namespace Go.Proofs.YtlimjohnimgnhaaGreatDoor
open Go.RowKit

/-- a new block: the operation that makes it, the one that fills it, its slot; its cells before and behind -/
structure OP2 where
  a : Nat
  s : Nat
  d : Nat
  z : Array Value
  n : Array Value
  T : TypeId
def Pr2 (p : OP2) (base : Nat) (l : Array Bool) (T : Nat → Value) (w : World) : Prop := l.getD p.a false = true → ∃ g, T p.d = .pointer (some ⟨g, 0, none⟩) ∧ base ≤ g ∧ Is w g (if l.getD p.s false = true then p.n else p.z) p.T
inductive OK2 (P : Program) (t : OT) (w0 : World) (T0 : Nat → Value) (R : Nat → Value → World → Prop) (p q : OP2) (i : Nat) (o : Oper) : Prop
  | val (hn : (i != p.a && i != p.s && i != q.a && i != q.s) = true) (h : ∀ T w, Kx [] w0 w → AllD (fun j => R j (T (t.s j)) w) (t.dep.getD i []) → AllD (fun s => T s = T0 s) (t.old.getD i []) → ∀ Q, OGo P t Kb R T w i o Q) : OK2 P t w0 T0 R p q i o
  | alloc (r : OP2) (hr : r = p ∨ r = q) (hi : i = r.a) (hg : o.guard = none) (h : ∀ T w, (execOp (oF t.N T).eval o).run P w = .ok (.value (.pointer (some ⟨w.heap.size, 0, none⟩))) (w.alloc (.cells r.z r.T (0, 0)))) (hR : ∀ v w, R i v w) : OK2 P t w0 T0 R p q i o
  | store (r : OP2) (hr : r = p ∨ r = q) (hi : i = r.s) (hg : o.guard = none) (h : ∀ T w g, AllD (fun j => R j (T (t.s j)) w) (t.dep.getD i []) → AllD (fun s => T s = T0 s) (t.old.getD i []) → T r.d = .pointer (some ⟨g, 0, none⟩) → Is w g r.z r.T → ∃ w', (execOp (oF t.N T).eval o).run P w = .ok .skip w' ∧ Is w' g r.n r.T ∧ Pt g w w') (hR : ∀ v w, R i v w) : OK2 P t w0 T0 R p q i o
structure OInv2 (t : OT) (w0 : World) (T0 : Nat → Value) (R : Nat → Value → World → Prop) (p q : OP2) (ops : Array Oper) (l : Array Bool) (T : Nat → Value) (w : World) : Prop where
  out : ∀ s, (∀ j, j < t.dst.length → t.d j = some s → l.getD j false = false) → T s = T0 s
  val : ∀ j, j < t.dst.length → l.getD j false = true → R j (T (t.s j)) w
  cl : ∀ j o, ops[j]? = some o → l.getD j false = true → ∀ i, oEdge o i = true → l.getD i false = true
  kx : Kx [] w0 w
  p1 : Pr2 p w0.heap.size l T w
  p2 : Pr2 q w0.heap.size l T w
  ne : l.getD p.a false = true → l.getD q.a false = true → T p.d ≠ T q.d
def oOk2 (t : OT) (p q : OP2) : Bool :=
  decide (p.a < t.dst.length) && decide (p.s < t.dst.length) && decide (q.a < t.dst.length) && decide (q.s < t.dst.length) &&
  (t.d p.a == some p.d) && (t.d q.a == some q.d) && (t.d p.s == none) && (t.d q.s == none) && (t.dep.getD p.s []).contains p.a && (t.dep.getD q.s []).contains q.a &&
  (p.a != q.a) && (p.s != q.s) && (p.a != p.s) && (p.a != q.s) && (q.a != p.s) && (q.a != q.s) && (p.d != q.d)

theorem Pt.kx {g : Nat} {a w w' : World} (h : Pt g w w') (k : Kx [] a w) (hg : a.heap.size ≤ g) : Kx [] a w' :=
  ⟨h.os.trans k.1, h.tape.trans k.2.1, h.output.trans k.2.2.1, by rw [h.size]; exact k.2.2.2.1, fun i hi hn => (h.far i (by omega)).trans (k.2.2.2.2 i hi hn)⟩
theorem Is.pt {g b : Nat} {cs : Array Value} {T : TypeId} {w w' : World} (h : Is w b cs T) (k : Pt g w w') (hb : b ≠ g) : Is w' b cs T := h.same (k.far b hb)
theorem rl_free {l : List (Value → World → Prop)} (h : AllD (fun p => ∀ v w w', p v w → p v w') l) : ∀ i v w w', RL l i v w → RL l i v w' := by
  intro i v w w' hv
  by_cases hi : i < l.length
  · exact allD_at (d := fun _ _ => True) h i hi v w w' hv
  · unfold RL
    rw [List.getD_eq_getElem?_getD, List.getElem?_eq_none (by omega)]
    trivial

theorem pr2_keep {t : OT} {r : OP2} {base i : Nat} {l : Array Bool} {T T' : Nat → Value} {w w' : World} (h : Pr2 r base l T w) (ha : i ≠ r.a) (hs : i ≠ r.s) (hT : T' r.d = T r.d) (hw : ∀ g cs, l.getD r.a false = true → T r.d = .pointer (some ⟨g, 0, none⟩) → Is w g cs r.T → Is w' g cs r.T) (_ : t.N = t.N) : Pr2 r base (l.setIfInBounds i true) T' w' := by
  intro hd
  rw [o_set ha] at hd
  obtain ⟨g, h1, h2, h3⟩ := h hd
  refine ⟨g, hT.trans h1, h2, ?_⟩
  rw [o_set hs]
  exact hw g _ hd h1 h3

set_option maxHeartbeats 1000000 in
theorem o_law2 {P : Program} {os : List Oper} {id : Nat} {w : World} {T0 : Nat → Value} {Q : Exit → Act → World → Prop} (t : OT) (R : Nat → Value → World → Prop) (p q : OP2)
    (hm : P.follows .mixedOrders = true) (hk : oOk os.toArray t = true) (hk2 : oOk2 t p q = true) (hst : ∀ i v w w', R i v w → R i v w')
    (hR : AllO (OK2 P t w.drew T0 R p q) 0 os)
    (hQ : ∀ (T : Nat → Value) (w' : World), (∀ s, (t.dst.all fun x => !(x == some s)) = true → T s = T0 s) → (∀ j, j < t.dst.length → R j (T (t.s j)) w') → Kx [] w.drew w' →
      (∃ g, T p.d = .pointer (some ⟨g, 0, none⟩) ∧ w.heap.size ≤ g ∧ Is w' g p.n p.T) → (∃ g, T q.d = .pointer (some ⟨g, 0, none⟩) ∧ w.heap.size ≤ g ∧ Is w' g q.n q.T) → T p.d ≠ T q.d → Q .normal (oF t.N T) w') :
    (Code.region id os.toArray true).wp P Q (oF t.N T0) w := by
  obtain ⟨ops, hops⟩ : ∃ ops : Array Oper, ops = os.toArray := ⟨_, rfl⟩
  rw [← hops] at hk ⊢
  unfold oOk at hk
  rw [Bool.and_eq_true, beq_iff_eq, List.all_eq_true] at hk
  obtain ⟨hsize, hall⟩ := hk
  unfold oOk2 at hk2
  simp only [Bool.and_eq_true, decide_eq_true_eq, beq_iff_eq, bne_iff_ne, ne_eq, List.contains_iff_mem] at hk2
  obtain ⟨⟨⟨⟨⟨⟨⟨⟨⟨⟨⟨⟨⟨⟨⟨⟨hpa, hps⟩, hqa⟩, hqs⟩, hpd⟩, hqd⟩, hpn⟩, hqn⟩, hpe⟩, hqe⟩, n1⟩, n2⟩, n3⟩, n4⟩, n5⟩, n6⟩, n7⟩ := hk2
  have each : ∀ i, i < t.dst.length → ∃ o, ops[i]? = some o ∧ o.dst = t.d i ∧ (∀ d, t.d i = some d → d < t.N ∧ t.s i = d ∧ ∀ j, j < t.dst.length → t.d j = some d → j = i) ∧ (o.after.all fun e => !Region.binds .any e || decide (e.on < i)) = true ∧
      (∀ j ∈ t.dep.getD i [], j < t.dst.length ∧ oEdge o j = true) ∧ (∀ s ∈ t.old.getD i [], ∀ j, j < t.dst.length → t.d j = some s → j = i ∨ ∃ o2, ops[j]? = some o2 ∧ oEdge o2 i = true) ∧ (∀ g b, o.guard = some (g, b) → g < t.dst.length ∧ (t.d g).isSome = true ∧ o.dst.isSome = true) ∧
      (t.d i = none → ∀ j, j < t.dst.length → t.d j = some (t.s i) → oEdge o j = true) := by
    intro i hi
    have h := hall i (by simpa using hi)
    cases ho : ops[i]? with
    | none => rw [ho] at h; cases h
    | some o =>
      rw [ho] at h
      simp only [Bool.and_eq_true] at h
      obtain ⟨⟨⟨⟨⟨h1, h2⟩, h3⟩, h4⟩, h6⟩, h5⟩ := h
      refine ⟨o, rfl, by simpa using h1, fun d hd => ?_, h3, fun j hj => ?_, fun s hs j hj hjs => ?_, fun g b hgb => ?_, fun hn j hj hjs => ?_⟩
      · rw [hd] at h2
        simp only [Bool.and_eq_true, decide_eq_true_eq, List.all_eq_true, List.mem_range, Bool.or_eq_true, beq_iff_eq] at h2
        refine ⟨h2.1.1, h2.1.2, fun j hj hjd => ?_⟩
        rcases h2.2 j hj with e | e
        · exact e
        · rw [hjd] at e; simp at e
      · have := List.all_eq_true.1 h4 j hj
        rw [Bool.and_eq_true, decide_eq_true_eq] at this
        exact this
      · have := List.all_eq_true.1 (List.all_eq_true.1 h5 s hs) j (by simpa using hj)
        simp only [Bool.or_eq_true, beq_iff_eq] at this
        rcases this with (e | e) | e
        · rw [hjs] at e; simp at e
        · exact .inl e
        · right
          cases ho2 : ops[j]? with
          | none => rw [ho2] at e; cases e
          | some o2 => rw [ho2] at e; exact ⟨o2, rfl, e⟩
      · rw [hgb] at h6
        simp only [Bool.and_eq_true, decide_eq_true_eq] at h6
        exact ⟨h6.1.1, h6.1.2, h6.2⟩
      · rw [hn] at h2
        have := List.all_eq_true.1 h2 j (by simpa using hj)
        rw [hjs] at this
        simpa using this
  refine wp_region_any hm (o_inv (fun l a w' => ∃ T, a = oF t.N T ∧ OInv2 t w.drew T0 R p q ops l T w') ?_ ?_ ops.size (Array.replicate ops.size false) _ _ (by simp) ?_ ?_)
  · rintro l a w' hs ⟨T, rfl, h⟩ hr
    have la := o_fin hsize (fun i hi => by obtain ⟨o, a1, _, _, a2, _⟩ := each i hi; exact ⟨o, a1, a2⟩) l (by rw [hs, hsize]) hr
    have f1 := h.p1 (la _ hpa)
    have f2 := h.p2 (la _ hqa)
    rw [if_pos (la _ hps)] at f1
    rw [if_pos (la _ hqs)] at f2
    refine hQ T w' (fun s hsn => h.out s fun j hj e => ?_) (fun j hj => h.val j hj (la j hj)) h.kx f1 f2 (h.ne (la _ hpa) (la _ hqa))
    have := List.all_eq_true.1 hsn (t.d j) (by
      unfold OT.d
      rw [List.getD_eq_getElem?_getD, List.getElem?_eq_getElem hj]
      simp)
    rw [e] at this
    simp at this
  · rintro l a w' i hs ⟨T, rfl, h⟩ hrd
    obtain ⟨hil, hun⟩ := o_ready hrd
    rw [hsize] at hil
    have hls : l.size = t.dst.length := by rw [hs, hsize]
    have hnl := o_ff (l := l) (by omega) hun
    obtain ⟨o, h1, h2, h3, _, h5, h6, h7, h8⟩ := each i hil
    have ri : ∀ j, oEdge o j = true → l.getD j false = true := by
      obtain ⟨_, o', ho', h9⟩ := mem_ready.1 hrd
      obtain rfl := Option.some.inj (h1.symm.trans ho')
      intro j hj
      obtain ⟨k, hk, hk2⟩ := Array.any_eq_true.1 hj
      simp only [Bool.and_eq_true, beq_iff_eq] at hk2
      rw [← hk2.1]
      exact h9 _ (Array.getElem_mem hk) hk2.2
    have st0 := allO_at hR i o (by rw [← h1, hops]; simp)
    rw [Nat.zero_add] at st0
    have hdeps : AllD (fun j => R j (T (t.s j)) w') (t.dep.getD i []) := allD_of fun j hj => h.val j (h5 j hj).1 (ri j (h5 j hj).2)
    have holds : AllD (fun s => T s = T0 s) (t.old.getD i []) := allD_of fun s hsn => h.out s fun j hj hjs => by
        rcases h6 s hsn j hj hjs with e | ⟨o2, ho2, he⟩
        · subst e; exact hnl
        · rcases Bool.eq_false_or_eq_true (l.getD j false) with e | e
          · have := h.cl j o2 ho2 e i he
            rw [hnl] at this; cases this
          · exact e
    have cl2 : ∀ j o, ops[j]? = some o → (l.setIfInBounds i true).getD j false = true → ∀ k, oEdge o k = true → (l.setIfInBounds i true).getD k false = true := by
      intro j o2 ho2 hd2 k he
      have hset : ∀ k, l.getD k false = true → (l.setIfInBounds i true).getD k false = true := fun k hk => by
        by_cases e : i = k
        · subst e; exact o_self (by omega) _
        · rw [o_set e]; exact hk
      by_cases e2 : j = i
      · subst e2
        obtain rfl := Option.some.inj (h1.symm.trans ho2)
        exact hset _ (ri k he)
      · rw [o_set (fun x => e2 x.symm)] at hd2
        exact hset _ (h.cl j o2 ho2 hd2 k he)
    -- what a slot's turn leaves
    have out2 : ∀ (d : Nat) (v : Value), t.d i = some d → ∀ s, (∀ j, j < t.dst.length → t.d j = some s → (l.setIfInBounds i true).getD j false = false) → oU T d v s = T0 s := by
      intro d v hdi s hsn
      by_cases e : s = d
      · subst e
        have := hsn i hil hdi
        rw [o_self (by omega)] at this; cases this
      · rw [oU_ne e]
        refine h.out s fun j hj e3 => ?_
        have := hsn j hj e3
        by_cases e2 : j = i
        · subst e2; exact hnl
        · rwa [o_set (fun x => e2 x.symm)] at this
    have out3 : t.d i = none → ∀ s, (∀ j, j < t.dst.length → t.d j = some s → (l.setIfInBounds i true).getD j false = false) → T s = T0 s := by
      intro hdi s hsn
      refine h.out s fun j hj e => ?_
      by_cases e2 : j = i
      · subst e2; rw [hdi] at e; cases e
      · have := hsn j hj e
        rwa [o_set (fun x => e2 x.symm)] at this
    have val2 : ∀ (d : Nat) (v : Value) (w2 : World), t.d i = some d → R i v w2 → ∀ j, j < t.dst.length → (l.setIfInBounds i true).getD j false = true → R j (oU T d v (t.s j)) w2 := by
      intro d v w2 hdi hv j hj hl
      obtain ⟨hdN, hsi, hdu⟩ := h3 d hdi
      by_cases e2 : j = i
      · subst e2; rw [hsi, oU_same]; exact hv
      · rw [o_set (fun x => e2 x.symm)] at hl
        have hne : t.s j ≠ d := fun e => by
          obtain ⟨o2, b1, b2, b3, _, _, _, _, b8⟩ := each j hj
          cases hdj : t.d j with
          | none =>
            have := h.cl j o2 b1 hl i (b8 hdj i hil (by rw [hdi, e]))
            rw [hnl] at this; cases this
          | some d2 =>
            have e5 : t.s j = d2 := (b3 d2 hdj).2.1
            exact e2 (hdu j hj (by rw [hdj, ← e5, e]))
        rw [oU_ne hne]
        exact hst _ _ _ _ (h.val j hj hl)
    have val3 : ∀ (w2 : World), t.d i = none → R i (T (t.s i)) w2 → ∀ j, j < t.dst.length → (l.setIfInBounds i true).getD j false = true → R j (T (t.s j)) w2 := by
      intro w2 hdi hv j hj hl
      by_cases e2 : j = i
      · subst e2; exact hv
      · rw [o_set (fun x => e2 x.symm)] at hl
        exact hst _ _ _ _ (h.val j hj hl)
    -- the pairs' slots are turned by their own operations alone
    have far : ∀ (r : OP2) (d : Nat) (v : Value), r = p ∨ r = q → i ≠ r.a → t.d i = some d → oU T d v r.d = T r.d := by
      intro r d v hr hne hdi
      refine oU_ne fun e => hne ?_
      have := (h3 d hdi).2.2
      rcases hr with rfl | rfl
      · exact (this _ hpa (by rw [hpd, e])).symm
      · exact (this _ hqa (by rw [hqd, e])).symm
    have nek : ∀ (T2 : Nat → Value), i ≠ p.a → i ≠ q.a → T2 p.d = T p.d → T2 q.d = T q.d → (l.setIfInBounds i true).getD p.a false = true → (l.setIfInBounds i true).getD q.a false = true → T2 p.d ≠ T2 q.d := by
      intro T2 e1 e2 t1 t2 x y
      rw [o_set e1] at x; rw [o_set e2] at y
      rw [t1, t2]; exact h.ne x y
    rcases st0 with ⟨hn, st⟩ | ⟨r, hr, hi, hgu, st, hRi⟩ | ⟨r, hr, hi, hgu, st, hRi⟩
    · simp only [Bool.and_eq_true, bne_iff_ne, ne_eq] at hn
      obtain ⟨⟨⟨m1, m2⟩, m3⟩, m4⟩ := hn
      have st := st T w' h.kx hdeps holds Q
      have st2 : wpOp P ops Q i (ONext t.N T Kb R w' (t.s i) o i) (oF t.N T) w' := by
        rcases st with ⟨hgu, st⟩ | ⟨g, b, c, hgu, hc, s1, s2⟩
        · exact o_do h1 hgu st.out
        · obtain ⟨hgm, hgs, hod⟩ := h7 g b hgu
          obtain ⟨og, a1, a2, a3, _⟩ := each g hgm
          obtain ⟨s, hs2⟩ := Option.isSome_iff_exists.1 hgs
          have hsg : t.s g = s := (a3 s hs2).2.1
          rw [hsg] at hc
          exact o_guard h1 hgu hod a1 (a2.trans hs2) (a3 s hs2).1 hc (fun e => (s1 e).out) (fun hne => ⟨s2 hne, Kb.refl _⟩)
      refine wpOp_mono ?_ st2
      rintro a2 w2 ⟨v, rfl, hv, hv0, hg⟩
      rw [h2]
      cases hdi : t.d i with
      | none => exact ⟨T, rfl, ⟨out3 hdi, val3 w2 hdi (hv0 (by rw [h2, hdi])), cl2, h.kx.trans hg.kx, pr2_keep (t := t) h.p1 m1 m2 rfl (fun g cs _ _ x => x.kb hg) rfl, pr2_keep (t := t) h.p2 m3 m4 rfl (fun g cs _ _ x => x.kb hg) rfl, nek T m1 m3 rfl rfl⟩⟩
      | some d =>
        rw [oF_put]
        exact ⟨_, rfl, ⟨out2 d v hdi, val2 d v w2 hdi (hv (by rw [h2, hdi]; rfl)), cl2, h.kx.trans hg.kx, pr2_keep (t := t) h.p1 m1 m2 (far p d v (.inl rfl) m1 hdi) (fun g cs _ _ x => x.kb hg) rfl, pr2_keep (t := t) h.p2 m3 m4 (far q d v (.inr rfl) m3 hdi) (fun g cs _ _ x => x.kb hg) rfl, nek _ m1 m3 (far p d v (.inl rfl) m1 hdi) (far q d v (.inr rfl) m3 hdi)⟩⟩
    · -- a new block
      subst hi
      have hdr : t.d r.a = some r.d := by rcases hr with rfl | rfl <;> assumption
      have hsz : r.s ≠ r.a := by rcases hr with rfl | rfl <;> (intro e; omega)
      have hsl : l.getD r.s false = false := by
        rcases Bool.eq_false_or_eq_true (l.getD r.s false) with e | e
        · have hsi : r.s < t.dst.length := by rcases hr with rfl | rfl <;> assumption
          have he : r.a ∈ t.dep.getD r.s [] := by rcases hr with rfl | rfl <;> assumption
          obtain ⟨o2, b1, _, _, _, b5, _⟩ := each r.s hsi
          have := h.cl r.s o2 b1 e r.a (b5 _ he).2
          rw [hnl] at this; cases this
        · exact e
      have st2 : wpOp P ops Q r.a (ONext t.N T (fun a b => b = a.alloc (.cells r.z r.T (0, 0))) (fun _ v _ => v = .pointer (some ⟨w'.heap.size, 0, none⟩)) w' (t.s r.a) o r.a) (oF t.N T) w' :=
        o_do h1 hgu (o_val (st T w') (by rw [h2, hdr]; rfl) rfl rfl).out
      refine wpOp_mono ?_ st2
      rintro a2 w2 ⟨v, rfl, hv, _, rfl⟩
      obtain rfl := hv (by rw [h2, hdr]; rfl)
      rw [h2, hdr, oF_put]
      have own : Pr2 r (World.drew w).heap.size (l.setIfInBounds r.a true) (oU T r.d (.pointer (some ⟨w'.heap.size, 0, none⟩))) (w'.alloc (.cells r.z r.T (0, 0))) := by
        intro _
        refine ⟨w'.heap.size, oU_same _ _ _, h.kx.2.2.2.1, ?_⟩
        rw [o_set (fun e => hsz e.symm), hsl]
        exact Is.made _ _ _
      have lt1 : ∀ (g : Nat) (x : OP2) cs, Is w' g cs x.T → (⟨g, 0, none⟩ : Addr) ≠ ⟨w'.heap.size, 0, none⟩ := fun g x cs hx e => by
        have := hx.lt
        have e2 : g = w'.heap.size := congrArg Addr.block e
        omega
      rcases hr with rfl | rfl
      · refine ⟨_, rfl, ⟨out2 _ _ hdr, val2 _ _ _ hdr (hRi _ _), cl2, h.kx.trans ((Kb.refl _).alloc _).kx, own, pr2_keep (t := t) h.p2 n1 n4 (oU_ne (fun e => n7 e.symm)) (fun g cs _ _ x => x.alloc _) rfl, ?_⟩⟩
        intro _ y
        rw [o_set n1] at y
        obtain ⟨g, g1, _, g3⟩ := h.p2 y
        rw [oU_same, oU_ne (fun e => n7 e.symm), g1]
        intro e
        injection e with e
        injection e with e
        exact lt1 g q _ g3 e.symm
      · refine ⟨_, rfl, ⟨out2 _ _ hdr, val2 _ _ _ hdr (hRi _ _), cl2, h.kx.trans ((Kb.refl _).alloc _).kx, pr2_keep (t := t) h.p1 (fun e => n1 e.symm) n5 (oU_ne n7) (fun g cs _ _ x => x.alloc _) rfl, own, ?_⟩⟩
        intro x _
        rw [o_set (fun e => n1 e.symm)] at x
        obtain ⟨g, g1, _, g3⟩ := h.p1 x
        rw [oU_same, oU_ne n7, g1]
        intro e
        injection e with e
        injection e with e
        exact lt1 g p _ g3 e
    · -- a store
      subst hi
      have hdr : t.d r.s = none := by rcases hr with rfl | rfl <;> assumption
      have hda : l.getD r.a false = true := by
        have he : r.a ∈ t.dep.getD r.s [] := by rcases hr with rfl | rfl <;> assumption
        exact ri _ (h5 _ he).2
      have hpr : Pr2 r (World.drew w).heap.size l T w' := by rcases hr with rfl | rfl; exact h.p1; exact h.p2
      obtain ⟨g, g1, g2, g3⟩ := hpr hda
      rw [hnl] at g3
      obtain ⟨w2, k1, k2, k3⟩ := st T w' g hdeps holds g1 g3
      have st2 : wpOp P ops Q r.s (ONext t.N T (fun _ b => b = w2) (fun _ _ _ => True) w' (t.s r.s) o r.s) (oF t.N T) w' :=
        o_do h1 hgu (o_skip k1 (by rw [h2, hdr]) trivial rfl).out
      refine wpOp_mono ?_ st2
      rintro a2 w3 ⟨v, rfl, _, _, rfl⟩
      rw [h2, hdr]
      have hsn : r.s ≠ r.a := by rcases hr with rfl | rfl <;> (intro e; omega)
      have own : Pr2 r (World.drew w).heap.size (l.setIfInBounds r.s true) T w3 := by
        intro _
        refine ⟨g, g1, g2, ?_⟩
        rw [o_self (by omega)]
        exact k2
      rcases hr with rfl | rfl
      · refine ⟨T, rfl, ⟨out3 hdr, val3 _ hdr (hRi _ _), cl2, k3.kx h.kx g2, own, pr2_keep (t := t) h.p2 (fun e => n5 e.symm) n2 rfl (fun g' cs e2 e x => x.pt k3 (fun e3 => h.ne hda e2 (g1.trans (by rw [e, e3])))) rfl, nek T (fun e => n3 e.symm) (fun e => n5 e.symm) rfl rfl⟩⟩
      · refine ⟨T, rfl, ⟨out3 hdr, val3 _ hdr (hRi _ _), cl2, k3.kx h.kx g2, pr2_keep (t := t) h.p1 (fun e => n4 e.symm) (fun e => n2 e.symm) rfl (fun g' cs e2 e x => x.pt k3 (fun e3 => h.ne e2 hda (by rw [g1, e, e3]))) rfl, own, nek T (fun e => n4 e.symm) (fun e => n6 e.symm) rfl rfl⟩⟩
  · have : ∀ q, oN (Array.replicate ops.size false) q ≤ q := by
      intro q
      induction q with
      | zero => exact Nat.le_refl _
      | succ q ih => unfold oN; split <;> omega
    exact this _
  · have hf : ∀ i, (Array.replicate ops.size false).getD i false = false := by
      intro i
      simp only [Array.getD]
      split
      · simp
      · rfl
    refine ⟨T0, rfl, ⟨fun _ _ => rfl, ?_, ?_, Kx.refl _ _, ?_, ?_, ?_⟩⟩
    · intro i _ h; rw [hf] at h; cases h
    · intro j o _ h; rw [hf] at h; cases h
    · intro h; rw [hf] at h; cases h
    · intro h; rw [hf] at h; cases h
    · intro h; rw [hf] at h; cases h
end Go.Proofs.YtlimjohnimgnhaaGreatDoor
