/- Texts RegF: each says in its own first comment what it proves. -/
import Derived.Test.YtabepobcmpmkdaaGreatM35
/- reg_seq and reg_refl once more: a property of the world that the chain hands on, which may speak of the values of the operations that are done; a chain with stores into new blocks. -/
namespace Go.Proofs.YtabepobcmpmkdaaGreat
open Go.RowKit

/-- the values of the operations that are no reads and are done -/
def dnV (m : Nat) (kind dst : Nat → Nat) (l : Array Bool) (T : Nat → Value) : Nat → Value := fun j => if j < m ∧ kind j ≠ 0 ∧ l.getD j false = true then T (dst j) else undef
/-- what is new is no old block -/
def NewU (u : Value) (w : World) : Prop := ∀ b o p, u = .pointer (some ⟨b, o, p⟩) → w.heap.size ≤ b
theorem dn_none {m n : Nat} {kind dst : Nat → Nat} {T : Nat → Value} : dnV m kind dst (Array.replicate n false) T = fun _ => undef := by
  funext j
  unfold dnV
  refine if_neg fun h => ?_
  have := h.2.2
  rw [Array.getD_eq_getD_getElem?, Array.getElem?_replicate] at this
  split at this <;> simp at this
theorem dn_all {m : Nat} {kind dst : Nat → Nat} {l : Array Bool} {T : Nat → Value} (h : ∀ j, j < m → l.getD j false = true) : dnV m kind dst l T = fun j => if j < m ∧ kind j ≠ 0 then T (dst j) else undef := by
  funext j
  unfold dnV
  by_cases hj : j < m ∧ kind j ≠ 0
  · rw [if_pos ⟨hj.1, hj.2, h j hj.1⟩, if_pos hj]
  · rw [if_neg (fun e => hj ⟨e.1, e.2.1⟩), if_neg hj]
theorem dn_read {m i : Nat} {kind dst : Nat → Nat} {l : Array Bool} {T T' : Nat → Value} (hk : kind i = 0) (_hi : i < m) (hs : i < l.size) (keep : ∀ j, j < m → j ≠ i → T' (dst j) = T (dst j)) : dnV m kind dst (l.setIfInBounds i true) T' = dnV m kind dst l T := by
  funext j
  unfold dnV
  by_cases e : j = i
  · subst e
    rw [if_neg (fun x => x.2.1 hk), if_neg (fun x => x.2.1 hk)]
  · rw [get_set (fun x => e x.symm)]
    by_cases hj : j < m ∧ kind j ≠ 0 ∧ l.getD j false = true
    · rw [if_pos hj, if_pos hj, keep j hj.1 e]
    · rw [if_neg hj, if_neg hj]
theorem dn_free {m i : Nat} {kind dst : Nat → Nat} {l : Array Bool} {T T' : Nat → Value} {v : Value} (hk : kind i ≠ 0) (hi : i < m) (hs : i < l.size) (_hn : l.getD i false = false) (keep : ∀ j, j < m → j ≠ i → T' (dst j) = T (dst j)) (hv : T' (dst i) = v) : dnV m kind dst (l.setIfInBounds i true) T' = updV (dnV m kind dst l T) i v := by
  funext j
  by_cases e : j = i
  · subst e
    rw [updV_same]
    unfold dnV
    rw [if_pos ⟨hi, hk, get_self hs _⟩, hv]
  · rw [updV_ne e]
    unfold dnV
    rw [get_set (fun x => e x.symm)]
    by_cases hj : j < m ∧ kind j ≠ 0 ∧ l.getD j false = true
    · rw [if_pos hj, if_pos hj, keep j hj.1 e]
    · rw [if_neg hj, if_neg hj]
structure SMidF (t : RTab) (w0 : World) (T0 : Nat → Value) (c : Nat) (l : Array Bool) (T : Nat → Value) (w : World) : Prop where
  out : ∀ s, t.inv s = t.m → T s = T0 s
  val : ∀ j, j < t.m → t.kind j = 0 → l.getD j false = true → T (t.dst j) = t.V j
  cval : ∀ j, j < t.m → t.kind j = 1 → t.X j = true → l.getD j false = true → T (t.dst j) = t.V j
  free : ∀ j, j < t.m → t.kind j = 2 → l.getD j false = true → t.F j (T (t.dst j)) w
  come : Come t.toRSt c l
  kp : Kp t.L w0 w
  ext : t.E c (dnV t.m t.kind t.dst l T) w
  old : ∀ s, t.inv s < t.m → l.getD (t.inv s) false = false → T s = T0 s
/-- where an operation of the chain leaves off -/
def AfterF (t : RTab) (w0 : World) (l : Array Bool) (i : Nat) (T : Nat → Value) (w : World) (a' : Act) (w' : World) : Prop :=
  ∃ T', a' = frameOf t.N T' ∧ (∀ s, s ≠ t.dst i ∨ t.dst i = t.N → T' s = T s) ∧ Kp t.L w0 w' ∧ (∀ j u, t.F j u w → t.F j u w') ∧ (t.X i = true → T' (t.dst i) = t.V i) ∧ t.E (t.pos i + 1) (updV (dnV t.m t.kind t.dst l T) i (T' (t.dst i))) w'
structure ROpsF (ops : Array Oper) (t : RTab) (w0 : World) (T0 : Nat → Value) : Prop where
  ok : regOk ops t.toRSt = true
  gv : ∀ i, i < t.m → t.isg i = true → t.act i = true ∧ t.V (t.gd i) = .bool (t.gb i) ∨ t.act i = false ∧ t.V (t.gd i) = .bool (!t.gb i) ∧ t.kind i = 0 ∧ t.V i = undef
  read : ∀ i, i < t.m → t.kind i = 0 → t.act i = true → ∀ l T w o c, i ∈ Region.ready .any ops l → Closed ops l → SMidF t w0 T0 c l T w → ops[i]? = some o →
    (execOp (frameOf t.N T).eval o).run Tryz.prog w = .ok (.value (t.V i)) w
  chain : ∀ i, i < t.m → t.kind i = 1 → ∀ l T w o, i ∈ Region.ready .any ops l → Closed ops l → SMidF t w0 T0 (t.pos i) l T w → ops[i]? = some o →
    ∀ Q, o.wp Tryz.prog (frameOf t.N T) w (AfterF t w0 l i T w) Q
  free : ∀ i, i < t.m → t.kind i = 2 → ∀ l T w o c, i ∈ Region.ready .any ops l → Closed ops l → SMidF t w0 T0 c l T w → ops[i]? = some o →
    ∃ u w', (execOp (frameOf t.N T).eval o).run Tryz.prog w = .ok (.value u) w' ∧ t.F i u w' ∧ Kp [] w w' ∧ NewU u w

theorem reg_seqF {ops : Array Oper} {id : Nat} {w : World} {T0 : Nat → Value} (t : RTab) {Q : Exit → Act → World → Prop}
    (hm : Tryz.prog.follows .mixedOrders = true) (hF : RFit t.toRSt) (hR : ROpsF ops t w.drew T0) (hE0 : t.E 0 (fun _ => undef) w.drew) (hEs : ∀ c v w1 w2, t.E c v w1 → Kp [] w1 w2 → t.E c v w2) (hEf : ∀ c v w0 w1 j u, t.E c v w0 → Kp [] w0 w1 → t.F j u w1 → NewU u w0 → v j = undef → t.E c (updV v j u) w1) (hFs : ∀ i u w1 w2, t.F i u w1 → Kp [] w1 w2 → t.F i u w2)
    (hQ : ∀ (T : Nat → Value) (w' : World), (∀ s, t.inv s = t.m → T s = T0 s) → (∀ j, j < t.m → t.kind j = 0 ∨ t.kind j = 1 ∧ t.X j = true → T (t.dst j) = t.V j) → Kp t.L w w' → t.E t.K (fun j => if j < t.m ∧ t.kind j ≠ 0 then T (t.dst j) else undef) w' → (∀ j, j < t.m → t.kind j = 2 → t.F j (T (t.dst j)) w') → Q .normal (frameOf t.N T) w') :
    (Code.region id ops true).wp Tryz.prog Q (frameOf t.N T0) w := by
  obtain ⟨hsize, heach⟩ := each_of hR.ok
  have rdst : ∀ i, i < t.m → t.kind i ≠ 1 → t.dst i < t.N ∧ t.inv (t.dst i) = i := fun i hi hk => by
    rcases hF.dsts i hi with h | h
    · exact h
    · exact absurd h.2 hk
  have inj : ∀ i, i < t.m → ∀ j, j < t.m → t.dst i < t.N → t.dst i = t.dst j → i = j := fun i hi j hj hN e => by
    rcases hF.dsts i hi with ⟨_, h⟩ | ⟨h, _⟩
    · rcases hF.dsts j hj with ⟨_, h2⟩ | ⟨h2, _⟩
      · rw [← h, ← h2, e]
      · omega
    · omega
  refine wp_region_any hm (wpAny_inv (fun l a w' => ∃ T c, c ≤ t.K ∧ a = frameOf t.N T ∧ Closed ops l ∧ SMidF t w.drew T0 c l T w') ?_ ?_ ops.size (Array.replicate ops.size false) _ _ (by simp) ?_ ?_)
  · rintro l a w' hs ⟨T, c, hc, rfl, hcl, h⟩ hr
    have hsz : l.size = t.m := by rw [hs, hsize]
    have la := jfin_of hsize (fun i hi => by obtain ⟨o, a1, _, a2, _⟩ := heach i hi; exact ⟨o, a1, a2⟩) l hsz hr
    have hck : c = t.K := by
      by_cases e : c < t.K
      · obtain ⟨hi, hk, hp⟩ := hF.chis c e
        have := h.come _ hi hk
        rw [la _ hi] at this
        have := of_decide_eq_true this.symm
        omega
      · omega
    subst hck
    have hkp := h.kp
    exact hQ T w' h.out (fun j hj hk => hk.elim (fun hk => h.val j hj hk (la j hj)) (fun hk => h.cval j hj hk.1 hk.2 (la j hj))) hkp.undrew (by have e := h.ext; rwa [dn_all (fun j hj => la j hj)] at e) (fun j hj hk => h.free j hj hk (la j hj))
  · rintro l a w' i hs ⟨T, c, hc, rfl, hcl, h⟩ hr
    have hsz : l.size = t.m := by rw [hs, hsize]
    obtain ⟨hil, hun⟩ := ready_lt hr
    rw [hsize] at hil
    have hnl := false_of_true (l := l) (by omega) hun
    obtain ⟨o, h1, h2, _, hgd, hbf⟩ := heach i hil
    have hk1 := hF.kinds i hil
    have ri : ∀ e, e ∈ o.after → Region.binds .any e = true → l.getD e.on false = true := by
      obtain ⟨_, o', ho', h9⟩ := mem_ready.1 hr
      obtain rfl := Option.some.inj (h1.symm.trans ho')
      exact h9
    have hcl2 : Closed ops (l.setIfInBounds i true) := by
      intro j o2 ho2 hd e he hb
      have hset : ∀ k, l.getD k false = true → (l.setIfInBounds i true).getD k false = true := fun k hk => by
        by_cases e : i = k
        · subst e; exact get_self (by omega) _
        · rw [get_set e]; exact hk
      by_cases e2 : j = i
      · subst e2
        obtain rfl := Option.some.inj (h1.symm.trans ho2)
        exact hset _ (ri e he hb)
      · rw [get_set (fun x => e2 x.symm)] at hd
        exact hset _ (hcl j o2 ho2 hd e he hb)
    -- a value that goes into the slot of a read or a free operation
    have step : t.kind i ≠ 1 → ∀ v w2, Kp [] w' w2 → (t.kind i = 0 → v = t.V i) → (t.kind i = 2 → t.F i v w2) → (t.kind i = 2 → NewU v w') → SMidF t w.drew T0 c (l.setIfInBounds i true) (updV T (t.dst i) v) w2 := fun k0 v w2 hk2 hv hf hnew => by
      obtain ⟨hdN, hdi⟩ := rdst i hil k0
      have keep : ∀ j, j < t.m → j ≠ i → updV T (t.dst i) v (t.dst j) = T (t.dst j) := fun j hj hne => updV_ne (fun x => hne (inj i hil j hj hdN x.symm).symm)
      refine ⟨fun s hsn => ?_, fun j hj hkj hl => ?_, fun j hj hkj hX hl => ?_, fun j hj hkj hl => ?_, fun j hj hkj => ?_, h.kp.trans (hk2.mono (fun _ hx => absurd hx List.not_mem_nil)), ?_, fun s hs1 hs2 => ?_⟩
      · rw [updV_ne (fun e => by rw [e, hdi] at hsn; omega)]; exact h.out s hsn
      · by_cases e : j = i
        · subst e; rw [updV_same]; exact hv hkj
        · rw [get_set (fun x => e x.symm)] at hl
          rw [keep j hj e]
          exact h.val j hj hkj hl
      · have e : j ≠ i := fun x => by subst x; exact k0 hkj
        rw [get_set (fun x => e x.symm)] at hl
        rw [keep j hj e]
        exact h.cval j hj hkj hX hl
      · by_cases e : j = i
        · subst e; rw [updV_same]; exact hf hkj
        · rw [get_set (fun x => e x.symm)] at hl
          rw [keep j hj e]
          exact hFs _ _ _ _ (h.free j hj hkj hl) hk2
      · rw [get_set (fun x => by subst x; exact k0 hkj)]; exact h.come j hj hkj
      · by_cases kz : t.kind i = 0
        · rw [dn_read kz hil (by omega) keep]
          exact hEs _ _ _ _ h.ext hk2
        · have hk2' : t.kind i = 2 := by omega
          rw [dn_free kz hil (by omega) hnl keep (updV_same _ _ _)]
          exact hEf _ _ _ _ _ _ h.ext hk2 (hf hk2') (hnew hk2') (by unfold dnV; rw [if_neg (by rw [hnl]; simp)])
      · by_cases e3 : t.inv s = i
        · rw [e3, get_self (by omega)] at hs2; cases hs2
        · rw [get_set (fun x => e3 x.symm)] at hs2
          rw [updV_ne (fun x => e3 (by rw [x, hdi]))]
          exact h.old s hs1 hs2
    have wants : t.act i = true → Region.wanted o (yielded ops (frameOf t.N T).tmps) = true := fun ha => by
      rcases hgd with ⟨h3, _⟩ | ⟨b, h3, h6, h7, h4, h5, h8⟩
      · simp [Region.wanted, h3]
      · obtain ⟨o2, g1, g2, _⟩ := heach (t.gd i) h4
        obtain ⟨hdg, _⟩ := rdst _ h4 (by omega)
        rw [if_neg (by omega)] at g2
        rcases hR.gv i hil h7 with ⟨_, h9⟩ | ⟨h9, _⟩
        · have := yielded_frame (ops := ops) (T := T) g1 g2 hdg ((h.val _ h4 h5 (dep_of hr h1 h8)).trans h9)
          simp [Region.wanted, h3, this, h6]
        · rw [ha] at h9; cases h9
    by_cases k0 : t.kind i = 0
    · obtain ⟨hdN, _⟩ := rdst i hil (by omega)
      rw [if_neg (by omega)] at h2
      by_cases ha : t.act i = true
      · refine wpOp_want h1 (wants ha) ?_
        unfold Oper.wp
        rw [hR.read i hil k0 ha l T w' o c hr hcl h h1, Oper.upon_value, h2, frame_put]
        exact ⟨_, c, hc, rfl, hcl2, step (by omega) _ _ (Kp.refl _ _) (fun _ => rfl) (fun x => by omega) (fun x => by omega)⟩
      · rcases hgd with ⟨_, h3⟩ | ⟨b, h3, h6, h7, h4, h5, h8⟩
        · exact absurd h3 ha
        · rcases hR.gv i hil h7 with ⟨h9, _⟩ | ⟨_, h9, _, hv⟩
          · exact absurd h9 ha
          · obtain ⟨o2, g1, g2, _⟩ := heach (t.gd i) h4
            obtain ⟨hdg, _⟩ := rdst _ h4 (by omega)
            rw [if_neg (by omega)] at g2
            have hy := yielded_frame (ops := ops) (T := T) g1 g2 hdg ((h.val _ h4 h5 (dep_of hr h1 h8)).trans h9)
            refine wpOp_shun h1 (by simp [Region.wanted, h3, hy, h6]) ?_
            rw [h2, frame_put]
            exact ⟨_, c, hc, rfl, hcl2, step (by omega) _ _ (Kp.refl _ _) (fun _ => hv.symm) (fun x => by omega) (fun x => by omega)⟩
    have ha : t.act i = true := by
      rcases hgd with ⟨_, h3⟩ | ⟨b, h3, h6, h7, h4, h5, h8⟩
      · exact h3
      · rcases hR.gv i hil h7 with ⟨h9, _⟩ | ⟨_, _, h9, _⟩
        · exact h9
        · exact absurd h9 k0
    refine wpOp_want h1 (wants ha) ?_
    by_cases k2 : t.kind i = 2
    · obtain ⟨hdN, _⟩ := rdst i hil (by omega)
      rw [if_neg (by omega)] at h2
      obtain ⟨u, w2, hrun, hFi, hk2, hnu⟩ := hR.free i hil k2 l T w' o c hr hcl h h1
      unfold Oper.wp
      rw [hrun, Oper.upon_value, h2, frame_put]
      exact ⟨_, c, hc, rfl, hcl2, step (by omega) _ _ hk2 (fun x => absurd x k0) (fun _ => hFi) (fun _ => hnu)⟩
    · have k1 : t.kind i = 1 := by omega
      obtain ⟨hpK, hchi⟩ := hF.poss i hil k1
      have hcq : c = t.pos i := by
        have a1 : ¬ t.pos i < c := by
          have := h.come i hil k1
          rw [hnl] at this
          exact of_decide_eq_false this.symm
        have a2 : ¬ c < t.pos i := fun hlt => by
          rcases hbf with h0 | h0 | hb
          · exact h0 k1
          · omega
          · obtain ⟨hq, hkq, hpq⟩ := hF.chis (t.pos i - 1) (by omega)
            have := h.come _ hq hkq
            obtain ⟨q, hq, h10⟩ := Array.any_eq_true.1 hb
            rw [Bool.and_eq_true] at h10
            rw [reach_done hcl h10.2 (ri _ (Array.getElem_mem hq) h10.1)] at this
            have := of_decide_eq_true this.symm
            omega
        omega
      subst hcq
      refine Oper.wp_mono (fun a2 w2 h9 => ?_) (hR.chain i hil k1 l T w' o hr hcl h h1 Q)
      obtain ⟨T2, rfl, hT2, hk2, hF2, hX2, hE2⟩ := h9
      have keep : ∀ j, j < t.m → j ≠ i → T2 (t.dst j) = T (t.dst j) := fun j hj hne => by
        refine hT2 _ ?_
        rcases hF.dsts i hil with ⟨h3, _⟩ | ⟨h3, _⟩
        · exact .inl (fun y => hne (inj i hil j hj h3 y.symm).symm)
        · exact .inr h3
      refine ⟨T2, t.pos i + 1, by omega, rfl, hcl2, fun s hsn => ?_, fun j hj hkj hl => ?_, fun j hj hkj hX hl => ?_, fun j hj hkj hl => ?_, fun j hj hkj => ?_, hk2, ?_, fun s hs1 hs2 => ?_⟩
      · rw [hT2 s (by
          rcases hF.dsts i hil with ⟨_, h3⟩ | ⟨h3, _⟩
          · left; intro e; rw [e, h3] at hsn; omega
          · exact .inr h3)]
        exact h.out s hsn
      · have e : j ≠ i := fun x => by subst x; omega
        rw [get_set (fun x => e x.symm)] at hl
        rw [keep j hj e]
        exact h.val j hj hkj hl
      · by_cases e : j = i
        · subst e; exact hX2 hX
        · rw [get_set (fun x => e x.symm)] at hl
          rw [keep j hj e]
          exact h.cval j hj hkj hX hl
      · have e : j ≠ i := fun x => by subst x; omega
        rw [get_set (fun x => e x.symm)] at hl
        rw [keep j hj e]
        exact hF2 _ _ (h.free j hj hkj hl)
      · by_cases e : j = i
        · subst e; rw [get_self (by omega)]; exact (decide_eq_true (by omega)).symm
        · rw [get_set (fun x => e x.symm), h.come j hj hkj]
          have : t.pos j ≠ t.pos i := fun x => e (by rw [← (hF.poss j hj hkj).2, x, hchi])
          by_cases e2 : t.pos j < t.pos i
          · rw [decide_eq_true e2, decide_eq_true (by omega)]
          · rw [decide_eq_false e2, decide_eq_false (by omega)]
      · rw [dn_free (by omega) hil (by omega) hnl keep rfl]; exact hE2
      · by_cases e3 : t.inv s = i
        · rw [e3, get_self (by omega)] at hs2; cases hs2
        · rw [get_set (fun x => e3 x.symm)] at hs2
          rw [hT2 s (by
            rcases hF.dsts i hil with ⟨_, h3⟩ | ⟨h3, _⟩
            · left; intro x; exact e3 (by rw [x, h3])
            · exact .inr h3)]
          exact h.old s hs1 hs2
  · have : ∀ q, unl (Array.replicate ops.size false) q ≤ q := by
      intro q
      induction q with
      | zero => exact Nat.le_refl _
      | succ q ih => unfold unl; split <;> omega
    exact this _
  · have hf : ∀ i, (Array.replicate ops.size false).getD i false = false := by
      intro i
      simp only [Array.getD]
      split
      · simp
      · rfl
    refine ⟨T0, 0, Nat.zero_le _, rfl, (fun j o _ h => by rw [hf] at h; cases h), fun _ _ => rfl, ?_, ?_, ?_, ?_, Kp.refl _ _, (by rw [dn_none]; exact hE0), fun _ _ _ => rfl⟩
    · intro i _ _ h; rw [hf] at h; cases h
    · intro i _ _ _ h; rw [hf] at h; cases h
    · intro i _ _ h; rw [hf] at h; cases h
    · intro i _ _; rw [hf]; exact (decide_eq_false (by omega)).symm

def RSy.tabF (y : RSy) (ρ : Nat → Value) (L : List Nat) (F : Nat → Value → World → Prop) (E : Nat → (Nat → Value) → World → Prop) : RTab := { y.st with V := fun i => (y.Sy i).den ρ, X := y.X, L := L, E := E, F := F }
theorem forgetF {y : RSy} {ρ : Nat → Value} {L : List Nat} {F : Nat → Value → World → Prop} {E : Nat → (Nat → Value) → World → Prop} {w0 w : World} {T0 T : Nat → Value} {c : Nat} {l : Array Bool} (h : SMidF (y.tabF ρ L F E) w0 T0 c l T w) : SMid (y.tab ρ L F) w0 T0 c l T w :=
  ⟨h.out, h.val, h.cval, h.free, h.come, h.kp, trivial, h.old⟩
theorem reg_reflF {ops : Array Oper} {id : Nat} {w : World} {T0 : Nat → Value} (y : RSy) (ρ : Nat → Value) (L : List Nat) (F : Nat → Value → World → Prop) (E : Nat → (Nat → Value) → World → Prop) (ops' : Array Oper) (sp : List Nat) (ca : List (Nat × Nat × List SV)) (cx fr : List Nat)
    {Q : Exit → Act → World → Prop} (hm : Tryz.prog.follows .mixedOrders = true) (hops : ops = ops') (hok : reflOk ops' y sp ca cx fr = true) (hT0 : Each (fun p => T0 p.1 = p.2.den ρ) y.outs)
    (hs : Each (fun i => ∀ T wz, RHere ops' y ρ L F w.drew i T wz → ∀ o, ops'[i]? = some o → (execOp (frameOf y.st.N T).eval o).run Tryz.prog wz = .ok (.value ((y.Sy i).den ρ)) wz) sp)
    (hc : Each (fun p => (∀ args w, (callFunc p.2.1 args).run Tryz.prog w = .ok (.enter p.2.1 args) w) ∧ ∀ wz, Kp L w.drew wz → Calls Tryz.prog p.2.1 (p.2.2.map (SV.den ρ)).toArray wz fun x w' => ∃ v, x = .returned v ∧ Kp [] wz w' ∧ (y.X p.1 = true → v = (y.Sy p.1).den ρ) ∧ ∀ V, E (y.st.pos p.1) V wz → E (y.st.pos p.1 + 1) (updV V p.1 v) w') ca)
    (hx : Each (fun i => ∀ l T wz, SMidF (y.tabF ρ L F E) w.drew T0 (y.st.pos i) l T wz → RHere ops' y ρ L F w.drew i T wz → (∀ j, depB ops' i j = true → l.getD j false = true) → ∀ o, ops'[i]? = some o →
      ∃ w', (execOp (frameOf y.st.N T).eval o).run Tryz.prog wz = .ok .skip w' ∧ Kp L w.drew w' ∧ (∀ j u, F j u wz → F j u w') ∧ y.X i = false ∧ y.st.dst i = y.st.N ∧ E (y.st.pos i + 1) (updV (dnV y.st.m y.st.kind y.st.dst l T) i (T y.st.N)) w') cx)
    (hf : Each (fun i => ∀ T wz, RHere ops' y ρ L F w.drew i T wz → ∀ o, ops'[i]? = some o → ∃ u w', (execOp (frameOf y.st.N T).eval o).run Tryz.prog wz = .ok (.value u) w' ∧ F i u w' ∧ Kp [] wz w' ∧ NewU u wz) fr)
    (hE0 : E 0 (fun _ => undef) w.drew) (hEs : ∀ c v w1 w2, E c v w1 → Kp [] w1 w2 → E c v w2) (hEf : ∀ c v w0 w1 j u, E c v w0 → Kp [] w0 w1 → F j u w1 → NewU u w0 → v j = undef → E c (updV v j u) w1)
    (hFs : ∀ i u w1 w2, F i u w1 → Kp [] w1 w2 → F i u w2)
    (hQ : ∀ (T : Nat → Value) (w' : World), (∀ s, y.st.inv s = y.st.m → T s = T0 s) → (∀ j, j < y.st.m → y.st.kind j = 0 ∨ y.st.kind j = 1 ∧ y.X j = true → T (y.st.dst j) = (y.Sy j).den ρ) → Kp L w w' →
      (∀ j, j < y.st.m → y.st.kind j = 2 → F j (T (y.st.dst j)) w') → E y.st.K (fun j => if j < y.st.m ∧ y.st.kind j ≠ 0 then T (y.st.dst j) else undef) w' → Q .normal (frameOf y.st.N T) w') :
    (Code.region id ops true).wp Tryz.prog Q (frameOf y.st.N T0) w := by
  subst hops
  unfold reflOk at hok
  rw [Bool.and_eq_true, Bool.and_eq_true, List.all_eq_true] at hok
  obtain ⟨hF, hO, hA⟩ := hok
  have hA' : ∀ i, i < y.st.m → guardOk y i = true ∧ (if y.st.kind i = 0 then !y.st.act i || sp.contains i || readOk ops y i
     else if y.st.kind i = 1 then cx.contains i || (decide (y.st.dst i < y.st.N) && ca.any fun c => c.1 == i && decide (callOf ops y i = some (c.2.1, c.2.2)))
     else fr.contains i) = true := fun i hi => Bool.and_eq_true_iff.1 (hA i (List.mem_range.2 hi))
  refine reg_seqF (y.tabF ρ L F E) hm (fit_of hF) ⟨hO, ?_, ?_, ?_, ?_⟩ hE0 hEs hEf hFs (fun T w' h1 h2 h3 h4 h5 => hQ T w' h1 h2 h3 h5 h4)
  · intro i hi hg
    have h := (hA' i hi).1
    unfold guardOk at h
    have hg' : y.st.isg i = true := hg
    rw [hg'] at h
    simp only [Bool.not_true, Bool.false_or, Bool.or_eq_true, Bool.and_eq_true, decide_eq_true_eq, Bool.not_eq_true', beq_iff_eq] at h
    rcases h with ⟨h1, h2⟩ | ⟨⟨⟨h1, h2⟩, h3⟩, h4⟩
    · exact .inl ⟨h1, by show (y.Sy (y.st.gd i)).den ρ = _; rw [h2]; rfl⟩
    · exact .inr ⟨h1, by show (y.Sy (y.st.gd i)).den ρ = _; rw [h2]; rfl, h3, by show (y.Sy i).den ρ = _; rw [h4]; rfl⟩
  · intro i hi hk ha l T wz o c hr hcl hM0 ho
    have hM := forgetF hM0
    have h := (hA' i hi).2
    rw [if_pos (show y.st.kind i = 0 from hk), show y.st.act i = true from ha] at h
    simp only [Bool.not_true, Bool.false_or, Bool.or_eq_true, List.contains_iff_mem] at h
    rcases h with h | h
    · exact hs.mem i h T wz (here_of hT0 hr hcl hM) o ho
    · exact read_ev hT0 hr hcl hM ho h
  · intro i hi hk l T wz o hr hcl hM0 ho Q'
    have hM := forgetF hM0
    have h := (hA' i hi).2
    rw [if_neg (show ¬ y.st.kind i = 0 by have : y.st.kind i = 1 := hk; omega), if_pos (show y.st.kind i = 1 from hk)] at h
    simp only [Bool.or_eq_true, Bool.and_eq_true, decide_eq_true_eq, List.contains_iff_mem, List.any_eq_true, beq_iff_eq] at h
    have hdst : y.st.dst i < y.st.N → o.dst = some (y.st.dst i) := fun hN => by
      obtain ⟨_, he⟩ := each_of (t := y.st) hO
      obtain ⟨o', g1, g2, _⟩ := he i hi
      obtain rfl := Option.some.inj (ho.symm.trans g1)
      rw [if_neg (by omega)] at g2
      exact g2
    rcases h with h | ⟨hN, cc, hcm, rfl, hcall⟩
    · obtain ⟨w2, hrun, h2, h3, h4, h5, h6⟩ := hx.mem i h l T wz hM0 (here_of hT0 hr hcl hM) (fun j hd => dep_refl hr hd) o ho
      obtain ⟨_, he⟩ := each_of (t := y.st) hO
      obtain ⟨o', g1, g2, _⟩ := he i hi
      obtain rfl := Option.some.inj (ho.symm.trans g1)
      rw [if_pos h5] at g2
      unfold Oper.wp
      have hrun2 : (execOp (frameOf (y.tabF ρ L F E).N T).eval o).run Tryz.prog wz = .ok .skip w2 := hrun
      rw [hrun2, Oper.upon_skip, g2]
      exact ⟨T, rfl, fun _ _ => rfl, h2, h3, (fun e => by rw [show (y.tabF ρ L F E).X i = y.X i from rfl, h4] at e; cases e), by
        have e : (y.tabF ρ L F E).dst i = y.st.N := h5
        rw [e]; exact h6⟩
    · obtain ⟨hen, hcl2⟩ := hc.mem cc hcm
      unfold Oper.wp
      have hrun2 : (execOp (frameOf (y.tabF ρ L F E).N T).eval o).run Tryz.prog wz = _ := call_ev hT0 hr hcl hM ho hcall hen
      rw [hrun2]
      unfold Oper.upon
      refine Calls.mono (hcl2 wz hM.kp) ?_
      rintro x w2 ⟨v, rfl, hk, hx2, hj⟩
      simp only []
      rw [hdst hN, frame_put]
      exact ⟨_, rfl, fun s hs => updV_ne (hs.elim (fun h => h) (fun x => by have : (y.tabF ρ L F E).dst cc.1 = y.st.dst cc.1 := rfl; have : (y.tabF ρ L F E).N = y.st.N := rfl; omega)), hM0.kp.trans (hk.mono (fun _ hx => absurd hx List.not_mem_nil)), fun j u hf0 => hFs _ _ _ _ hf0 hk, fun h => by
        have e : (y.tabF ρ L F E).dst cc.1 = y.st.dst cc.1 := rfl
        rw [e, updV_same]; exact hx2 h, by
        have e : (y.tabF ρ L F E).dst cc.1 = y.st.dst cc.1 := rfl
        rw [e, updV_same]; exact hj _ hM0.ext⟩
  · intro i hi hk l T wz o c hr hcl hM0 ho
    have hM := forgetF hM0
    have h := (hA' i hi).2
    have hk' : y.st.kind i = 2 := hk
    rw [if_neg (by omega), if_neg (by omega), List.contains_iff_mem] at h
    exact hf.mem i h T wz (here_of hT0 hr hcl hM) o ho
end Go.Proofs.YtabepobcmpmkdaaGreat
