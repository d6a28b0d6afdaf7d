/- Texts RegF, PairE, Vturn: each says in its own first comment what it proves. -/
import Derived.Test.YtcgilcmhandgfaaGreatDoorM35
import Derived.Test.YtcgilcmhandgfaaGreatDoorM55
import Derived.Test.YtcgilcmhandgfaaGreatDoorM61
import Derived.Test.YtcgilcmhandgfaaGreatDoorM64
import Derived.Test.YtcgilcmhandgfaaGreatDoorM63
import Derived.Deep.RegionHeld3
/- reg_seq and reg_refl once more: a property of the world that the chain hands on, which may speak of the values of the operations that are done; a chain with stores into new blocks. -/
namespace Go.Proofs.YtcgilcmhandgfaaGreatDoor
open Go.RowKit

/-- the values of the operations that are no reads and are done -/
def dnV (m : Nat) (kind dst : Nat → Nat) (l : Array Bool) (T : Nat → Value) : Nat → Value := fun j => if j < m ∧ kind j ≠ 0 ∧ l.getD j false = true then T (dst j) else undef
/-- what is new is no old block -/
def NewU (u : Value) (w : World) : Prop := ∀ b o p, u = .pointer (some ⟨b, o, p⟩) → w.heap.size ≤ b
theorem dn_none {m n : Nat} {kind dst : Nat → Nat} {T : Nat → Value} : dnV m kind dst (Array.replicate n false) T = fun _ => undef := by
  funext j
  unfold dnV
  refine if_neg fun h => ?_
  have := h.2.2
  rw [Array.getD_eq_getD_getElem?, Array.getElem?_replicate] at this
  split at this <;> simp at this
theorem dn_all {m : Nat} {kind dst : Nat → Nat} {l : Array Bool} {T : Nat → Value} (h : ∀ j, j < m → l.getD j false = true) : dnV m kind dst l T = fun j => if j < m ∧ kind j ≠ 0 then T (dst j) else undef := by
  funext j
  unfold dnV
  by_cases hj : j < m ∧ kind j ≠ 0
  · rw [if_pos ⟨hj.1, hj.2, h j hj.1⟩, if_pos hj]
  · rw [if_neg (fun e => hj ⟨e.1, e.2.1⟩), if_neg hj]
theorem dn_read {m i : Nat} {kind dst : Nat → Nat} {l : Array Bool} {T T' : Nat → Value} (hk : kind i = 0) (_hi : i < m) (hs : i < l.size) (keep : ∀ j, j < m → j ≠ i → T' (dst j) = T (dst j)) : dnV m kind dst (l.setIfInBounds i true) T' = dnV m kind dst l T := by
  funext j
  unfold dnV
  by_cases e : j = i
  · subst e
    rw [if_neg (fun x => x.2.1 hk), if_neg (fun x => x.2.1 hk)]
  · rw [get_set (fun x => e x.symm)]
    by_cases hj : j < m ∧ kind j ≠ 0 ∧ l.getD j false = true
    · rw [if_pos hj, if_pos hj, keep j hj.1 e]
    · rw [if_neg hj, if_neg hj]
theorem dn_free {m i : Nat} {kind dst : Nat → Nat} {l : Array Bool} {T T' : Nat → Value} {v : Value} (hk : kind i ≠ 0) (hi : i < m) (hs : i < l.size) (_hn : l.getD i false = false) (keep : ∀ j, j < m → j ≠ i → T' (dst j) = T (dst j)) (hv : T' (dst i) = v) : dnV m kind dst (l.setIfInBounds i true) T' = updV (dnV m kind dst l T) i v := by
  funext j
  by_cases e : j = i
  · subst e
    rw [updV_same]
    unfold dnV
    rw [if_pos ⟨hi, hk, get_self hs _⟩, hv]
  · rw [updV_ne e]
    unfold dnV
    rw [get_set (fun x => e x.symm)]
    by_cases hj : j < m ∧ kind j ≠ 0 ∧ l.getD j false = true
    · rw [if_pos hj, if_pos hj, keep j hj.1 e]
    · rw [if_neg hj, if_neg hj]
structure SMidF (t : RTab) (w0 : World) (T0 : Nat → Value) (c : Nat) (l : Array Bool) (T : Nat → Value) (w : World) : Prop where
  out : ∀ s, t.inv s = t.m → T s = T0 s
  val : ∀ j, j < t.m → t.kind j = 0 → l.getD j false = true → T (t.dst j) = t.V j
  cval : ∀ j, j < t.m → t.kind j = 1 → t.X j = true → l.getD j false = true → T (t.dst j) = t.V j
  free : ∀ j, j < t.m → t.kind j = 2 → l.getD j false = true → t.F j (T (t.dst j)) w
  come : Come t.toRSt c l
  kp : Kp t.L w0 w
  ext : t.E c (dnV t.m t.kind t.dst l T) w
  old : ∀ s, t.inv s < t.m → l.getD (t.inv s) false = false → T s = T0 s
/-- where an operation of the chain leaves off -/
def AfterF (t : RTab) (w0 : World) (l : Array Bool) (i : Nat) (T : Nat → Value) (w : World) (a' : Act) (w' : World) : Prop :=
  ∃ T', a' = frameOf t.N T' ∧ (∀ s, s ≠ t.dst i ∨ t.dst i = t.N → T' s = T s) ∧ Kp t.L w0 w' ∧ (∀ j u, t.F j u w → t.F j u w') ∧ (t.X i = true → T' (t.dst i) = t.V i) ∧ t.E (t.pos i + 1) (updV (dnV t.m t.kind t.dst l T) i (T' (t.dst i))) w'
structure ROpsF (ops : Array Oper) (t : RTab) (w0 : World) (T0 : Nat → Value) : Prop where
  ok : regOk ops t.toRSt = true
  gv : ∀ i, i < t.m → t.isg i = true → t.act i = true ∧ t.V (t.gd i) = .bool (t.gb i) ∨ t.act i = false ∧ t.V (t.gd i) = .bool (!t.gb i) ∧ t.kind i = 0 ∧ t.V i = undef
  read : ∀ i, i < t.m → t.kind i = 0 → t.act i = true → ∀ l T w o c, i ∈ Region.ready .any ops l → Closed ops l → SMidF t w0 T0 c l T w → ops[i]? = some o →
    (execOp (frameOf t.N T).eval o).run Tryz.prog w = .ok (.value (t.V i)) w
  chain : ∀ i, i < t.m → t.kind i = 1 → ∀ l T w o, i ∈ Region.ready .any ops l → Closed ops l → SMidF t w0 T0 (t.pos i) l T w → ops[i]? = some o →
    ∀ Q, o.wp Tryz.prog (frameOf t.N T) w (AfterF t w0 l i T w) Q
  free : ∀ i, i < t.m → t.kind i = 2 → ∀ l T w o c, i ∈ Region.ready .any ops l → Closed ops l → SMidF t w0 T0 c l T w → ops[i]? = some o →
    ∃ u w', (execOp (frameOf t.N T).eval o).run Tryz.prog w = .ok (.value u) w' ∧ t.F i u w' ∧ Kp [] w w' ∧ NewU u w

theorem reg_seqF {ops : Array Oper} {id : Nat} {w : World} {T0 : Nat → Value} (t : RTab) {Q : Exit → Act → World → Prop}
    (hm : Tryz.prog.follows .mixedOrders = true) (hF : RFit t.toRSt) (hR : ROpsF ops t w.drew T0) (hE0 : t.E 0 (fun _ => undef) w.drew) (hEs : ∀ c v w1 w2, t.E c v w1 → Kp [] w1 w2 → t.E c v w2) (hEf : ∀ c v w0 w1 j u, t.E c v w0 → Kp [] w0 w1 → t.F j u w1 → NewU u w0 → v j = undef → t.E c (updV v j u) w1) (hFs : ∀ i u w1 w2, t.F i u w1 → Kp [] w1 w2 → t.F i u w2)
    (hQ : ∀ (T : Nat → Value) (w' : World), (∀ s, t.inv s = t.m → T s = T0 s) → (∀ j, j < t.m → t.kind j = 0 ∨ t.kind j = 1 ∧ t.X j = true → T (t.dst j) = t.V j) → Kp t.L w w' → t.E t.K (fun j => if j < t.m ∧ t.kind j ≠ 0 then T (t.dst j) else undef) w' → (∀ j, j < t.m → t.kind j = 2 → t.F j (T (t.dst j)) w') → Q .normal (frameOf t.N T) w') :
    (Code.region id ops true).wp Tryz.prog Q (frameOf t.N T0) w := by
  obtain ⟨hsize, heach⟩ := each_of hR.ok
  have rdst : ∀ i, i < t.m → t.kind i ≠ 1 → t.dst i < t.N ∧ t.inv (t.dst i) = i := fun i hi hk => by
    rcases hF.dsts i hi with h | h
    · exact h
    · exact absurd h.2 hk
  have inj : ∀ i, i < t.m → ∀ j, j < t.m → t.dst i < t.N → t.dst i = t.dst j → i = j := fun i hi j hj hN e => by
    rcases hF.dsts i hi with ⟨_, h⟩ | ⟨h, _⟩
    · rcases hF.dsts j hj with ⟨_, h2⟩ | ⟨h2, _⟩
      · rw [← h, ← h2, e]
      · omega
    · omega
  refine wp_region_any hm (wpAny_inv (fun l a w' => ∃ T c, c ≤ t.K ∧ a = frameOf t.N T ∧ Closed ops l ∧ SMidF t w.drew T0 c l T w') ?_ ?_ ops.size (Array.replicate ops.size false) _ _ (by simp) ?_ ?_)
  · rintro l a w' hs ⟨T, c, hc, rfl, hcl, h⟩ hr
    have hsz : l.size = t.m := by rw [hs, hsize]
    have la := jfin_of hsize (fun i hi => by obtain ⟨o, a1, _, a2, _⟩ := heach i hi; exact ⟨o, a1, a2⟩) l hsz hr
    have hck : c = t.K := by
      by_cases e : c < t.K
      · obtain ⟨hi, hk, hp⟩ := hF.chis c e
        have := h.come _ hi hk
        rw [la _ hi] at this
        have := of_decide_eq_true this.symm
        omega
      · omega
    subst hck
    have hkp := h.kp
    exact hQ T w' h.out (fun j hj hk => hk.elim (fun hk => h.val j hj hk (la j hj)) (fun hk => h.cval j hj hk.1 hk.2 (la j hj))) ⟨hkp.os, hkp.tape, hkp.output, hkp.size, hkp.block⟩ (by have e := h.ext; rwa [dn_all (fun j hj => la j hj)] at e) (fun j hj hk => h.free j hj hk (la j hj))
  · rintro l a w' i hs ⟨T, c, hc, rfl, hcl, h⟩ hr
    have hsz : l.size = t.m := by rw [hs, hsize]
    obtain ⟨hil, hun⟩ := ready_lt hr
    rw [hsize] at hil
    have hnl := false_of_true (l := l) (by omega) hun
    obtain ⟨o, h1, h2, _, hgd, hbf⟩ := heach i hil
    have hk1 := hF.kinds i hil
    have ri : ∀ e, e ∈ o.after → Region.binds .any e = true → l.getD e.on false = true := by
      obtain ⟨_, o', ho', h9⟩ := mem_ready.1 hr
      obtain rfl := Option.some.inj (h1.symm.trans ho')
      exact h9
    have hcl2 : Closed ops (l.setIfInBounds i true) := by
      intro j o2 ho2 hd e he hb
      have hset : ∀ k, l.getD k false = true → (l.setIfInBounds i true).getD k false = true := fun k hk => by
        by_cases e : i = k
        · subst e; exact get_self (by omega) _
        · rw [get_set e]; exact hk
      by_cases e2 : j = i
      · subst e2
        obtain rfl := Option.some.inj (h1.symm.trans ho2)
        exact hset _ (ri e he hb)
      · rw [get_set (fun x => e2 x.symm)] at hd
        exact hset _ (hcl j o2 ho2 hd e he hb)
    -- a value that goes into the slot of a read or a free operation
    have step : t.kind i ≠ 1 → ∀ v w2, Kp [] w' w2 → (t.kind i = 0 → v = t.V i) → (t.kind i = 2 → t.F i v w2) → (t.kind i = 2 → NewU v w') → SMidF t w.drew T0 c (l.setIfInBounds i true) (updV T (t.dst i) v) w2 := fun k0 v w2 hk2 hv hf hnew => by
      obtain ⟨hdN, hdi⟩ := rdst i hil k0
      have keep : ∀ j, j < t.m → j ≠ i → updV T (t.dst i) v (t.dst j) = T (t.dst j) := fun j hj hne => updV_ne (fun x => hne (inj i hil j hj hdN x.symm).symm)
      refine ⟨fun s hsn => ?_, fun j hj hkj hl => ?_, fun j hj hkj hX hl => ?_, fun j hj hkj hl => ?_, fun j hj hkj => ?_, h.kp.trans (hk2.mono (fun _ hx => absurd hx List.not_mem_nil)), ?_, fun s hs1 hs2 => ?_⟩
      · rw [updV_ne (fun e => by rw [e, hdi] at hsn; omega)]; exact h.out s hsn
      · by_cases e : j = i
        · subst e; rw [updV_same]; exact hv hkj
        · rw [get_set (fun x => e x.symm)] at hl
          rw [keep j hj e]
          exact h.val j hj hkj hl
      · have e : j ≠ i := fun x => by subst x; exact k0 hkj
        rw [get_set (fun x => e x.symm)] at hl
        rw [keep j hj e]
        exact h.cval j hj hkj hX hl
      · by_cases e : j = i
        · subst e; rw [updV_same]; exact hf hkj
        · rw [get_set (fun x => e x.symm)] at hl
          rw [keep j hj e]
          exact hFs _ _ _ _ (h.free j hj hkj hl) hk2
      · rw [get_set (fun x => by subst x; exact k0 hkj)]; exact h.come j hj hkj
      · by_cases kz : t.kind i = 0
        · rw [dn_read kz hil (by omega) keep]
          exact hEs _ _ _ _ h.ext hk2
        · have hk2' : t.kind i = 2 := by omega
          rw [dn_free kz hil (by omega) hnl keep (updV_same _ _ _)]
          exact hEf _ _ _ _ _ _ h.ext hk2 (hf hk2') (hnew hk2') (by unfold dnV; rw [if_neg (by rw [hnl]; simp)])
      · by_cases e3 : t.inv s = i
        · rw [e3, get_self (by omega)] at hs2; cases hs2
        · rw [get_set (fun x => e3 x.symm)] at hs2
          rw [updV_ne (fun x => e3 (by rw [x, hdi]))]
          exact h.old s hs1 hs2
    have wants : t.act i = true → Region.wanted o (yielded ops (frameOf t.N T).tmps) = true := fun ha => by
      rcases hgd with ⟨h3, _⟩ | ⟨b, h3, h6, h7, h4, h5, h8⟩
      · simp [Region.wanted, h3]
      · obtain ⟨o2, g1, g2, _⟩ := heach (t.gd i) h4
        obtain ⟨hdg, _⟩ := rdst _ h4 (by omega)
        rw [if_neg (by omega)] at g2
        rcases hR.gv i hil h7 with ⟨_, h9⟩ | ⟨h9, _⟩
        · have := yielded_frame (ops := ops) (T := T) g1 g2 hdg ((h.val _ h4 h5 (dep_of hr h1 h8)).trans h9)
          simp [Region.wanted, h3, this, h6]
        · rw [ha] at h9; cases h9
    by_cases k0 : t.kind i = 0
    · obtain ⟨hdN, _⟩ := rdst i hil (by omega)
      rw [if_neg (by omega)] at h2
      by_cases ha : t.act i = true
      · refine wpOp_want h1 (wants ha) ?_
        unfold Oper.wp
        rw [hR.read i hil k0 ha l T w' o c hr hcl h h1, Oper.upon_value, h2, frame_put]
        exact ⟨_, c, hc, rfl, hcl2, step (by omega) _ _ (Kp.refl _ _) (fun _ => rfl) (fun x => by omega) (fun x => by omega)⟩
      · rcases hgd with ⟨_, h3⟩ | ⟨b, h3, h6, h7, h4, h5, h8⟩
        · exact absurd h3 ha
        · rcases hR.gv i hil h7 with ⟨h9, _⟩ | ⟨_, h9, _, hv⟩
          · exact absurd h9 ha
          · obtain ⟨o2, g1, g2, _⟩ := heach (t.gd i) h4
            obtain ⟨hdg, _⟩ := rdst _ h4 (by omega)
            rw [if_neg (by omega)] at g2
            have hy := yielded_frame (ops := ops) (T := T) g1 g2 hdg ((h.val _ h4 h5 (dep_of hr h1 h8)).trans h9)
            refine wpOp_shun h1 (by simp [Region.wanted, h3, hy, h6]) ?_
            rw [h2, frame_put]
            exact ⟨_, c, hc, rfl, hcl2, step (by omega) _ _ (Kp.refl _ _) (fun _ => hv.symm) (fun x => by omega) (fun x => by omega)⟩
    have ha : t.act i = true := by
      rcases hgd with ⟨_, h3⟩ | ⟨b, h3, h6, h7, h4, h5, h8⟩
      · exact h3
      · rcases hR.gv i hil h7 with ⟨h9, _⟩ | ⟨_, _, h9, _⟩
        · exact h9
        · exact absurd h9 k0
    refine wpOp_want h1 (wants ha) ?_
    by_cases k2 : t.kind i = 2
    · obtain ⟨hdN, _⟩ := rdst i hil (by omega)
      rw [if_neg (by omega)] at h2
      obtain ⟨u, w2, hrun, hFi, hk2, hnu⟩ := hR.free i hil k2 l T w' o c hr hcl h h1
      unfold Oper.wp
      rw [hrun, Oper.upon_value, h2, frame_put]
      exact ⟨_, c, hc, rfl, hcl2, step (by omega) _ _ hk2 (fun x => absurd x k0) (fun _ => hFi) (fun _ => hnu)⟩
    · have k1 : t.kind i = 1 := by omega
      obtain ⟨hpK, hchi⟩ := hF.poss i hil k1
      have hcq : c = t.pos i := by
        have a1 : ¬ t.pos i < c := by
          have := h.come i hil k1
          rw [hnl] at this
          exact of_decide_eq_false this.symm
        have a2 : ¬ c < t.pos i := fun hlt => by
          rcases hbf with h0 | h0 | hb
          · exact h0 k1
          · omega
          · obtain ⟨hq, hkq, hpq⟩ := hF.chis (t.pos i - 1) (by omega)
            have := h.come _ hq hkq
            obtain ⟨q, hq, h10⟩ := Array.any_eq_true.1 hb
            rw [Bool.and_eq_true] at h10
            rw [reach_done hcl h10.2 (ri _ (Array.getElem_mem hq) h10.1)] at this
            have := of_decide_eq_true this.symm
            omega
        omega
      subst hcq
      refine Oper.wp_mono (fun a2 w2 h9 => ?_) (hR.chain i hil k1 l T w' o hr hcl h h1 Q)
      obtain ⟨T2, rfl, hT2, hk2, hF2, hX2, hE2⟩ := h9
      have keep : ∀ j, j < t.m → j ≠ i → T2 (t.dst j) = T (t.dst j) := fun j hj hne => by
        refine hT2 _ ?_
        rcases hF.dsts i hil with ⟨h3, _⟩ | ⟨h3, _⟩
        · exact .inl (fun y => hne (inj i hil j hj h3 y.symm).symm)
        · exact .inr h3
      refine ⟨T2, t.pos i + 1, by omega, rfl, hcl2, fun s hsn => ?_, fun j hj hkj hl => ?_, fun j hj hkj hX hl => ?_, fun j hj hkj hl => ?_, fun j hj hkj => ?_, hk2, ?_, fun s hs1 hs2 => ?_⟩
      · rw [hT2 s (by
          rcases hF.dsts i hil with ⟨_, h3⟩ | ⟨h3, _⟩
          · left; intro e; rw [e, h3] at hsn; omega
          · exact .inr h3)]
        exact h.out s hsn
      · have e : j ≠ i := fun x => by subst x; omega
        rw [get_set (fun x => e x.symm)] at hl
        rw [keep j hj e]
        exact h.val j hj hkj hl
      · by_cases e : j = i
        · subst e; exact hX2 hX
        · rw [get_set (fun x => e x.symm)] at hl
          rw [keep j hj e]
          exact h.cval j hj hkj hX hl
      · have e : j ≠ i := fun x => by subst x; omega
        rw [get_set (fun x => e x.symm)] at hl
        rw [keep j hj e]
        exact hF2 _ _ (h.free j hj hkj hl)
      · by_cases e : j = i
        · subst e; rw [get_self (by omega)]; exact (decide_eq_true (by omega)).symm
        · rw [get_set (fun x => e x.symm), h.come j hj hkj]
          have : t.pos j ≠ t.pos i := fun x => e (by rw [← (hF.poss j hj hkj).2, x, hchi])
          by_cases e2 : t.pos j < t.pos i
          · rw [decide_eq_true e2, decide_eq_true (by omega)]
          · rw [decide_eq_false e2, decide_eq_false (by omega)]
      · rw [dn_free (by omega) hil (by omega) hnl keep rfl]; exact hE2
      · by_cases e3 : t.inv s = i
        · rw [e3, get_self (by omega)] at hs2; cases hs2
        · rw [get_set (fun x => e3 x.symm)] at hs2
          rw [hT2 s (by
            rcases hF.dsts i hil with ⟨_, h3⟩ | ⟨h3, _⟩
            · left; intro x; exact e3 (by rw [x, h3])
            · exact .inr h3)]
          exact h.old s hs1 hs2
  · have : ∀ q, unl (Array.replicate ops.size false) q ≤ q := by
      intro q
      induction q with
      | zero => exact Nat.le_refl _
      | succ q ih => unfold unl; split <;> omega
    exact this _
  · have hf : ∀ i, (Array.replicate ops.size false).getD i false = false := by
      intro i
      simp only [Array.getD]
      split
      · simp
      · rfl
    refine ⟨T0, 0, Nat.zero_le _, rfl, (fun j o _ h => by rw [hf] at h; cases h), fun _ _ => rfl, ?_, ?_, ?_, ?_, Kp.refl _ _, (by rw [dn_none]; exact hE0), fun _ _ _ => rfl⟩
    · intro i _ _ h; rw [hf] at h; cases h
    · intro i _ _ _ h; rw [hf] at h; cases h
    · intro i _ _ h; rw [hf] at h; cases h
    · intro i _ _; rw [hf]; exact (decide_eq_false (by omega)).symm

def RSy.tabF (y : RSy) (ρ : Nat → Value) (L : List Nat) (F : Nat → Value → World → Prop) (E : Nat → (Nat → Value) → World → Prop) : RTab := { y.st with V := fun i => (y.Sy i).den ρ, X := y.X, L := L, E := E, F := F }
theorem forgetF {y : RSy} {ρ : Nat → Value} {L : List Nat} {F : Nat → Value → World → Prop} {E : Nat → (Nat → Value) → World → Prop} {w0 w : World} {T0 T : Nat → Value} {c : Nat} {l : Array Bool} (h : SMidF (y.tabF ρ L F E) w0 T0 c l T w) : SMid (y.tab ρ L F) w0 T0 c l T w :=
  ⟨h.out, h.val, h.cval, h.free, h.come, h.kp, trivial, h.old⟩
theorem reg_reflF {ops : Array Oper} {id : Nat} {w : World} {T0 : Nat → Value} (y : RSy) (ρ : Nat → Value) (L : List Nat) (F : Nat → Value → World → Prop) (E : Nat → (Nat → Value) → World → Prop) (ops' : Array Oper) (sp : List Nat) (ca : List (Nat × Nat × List SV)) (cx fr : List Nat)
    {Q : Exit → Act → World → Prop} (hm : Tryz.prog.follows .mixedOrders = true) (hops : ops = ops') (hok : reflOk ops' y sp ca cx fr = true) (hT0 : Each (fun p => T0 p.1 = p.2.den ρ) y.outs)
    (hs : Each (fun i => ∀ T wz, RHere ops' y ρ L F w.drew i T wz → ∀ o, ops'[i]? = some o → (execOp (frameOf y.st.N T).eval o).run Tryz.prog wz = .ok (.value ((y.Sy i).den ρ)) wz) sp)
    (hc : Each (fun p => (∀ args w, (callFunc p.2.1 args).run Tryz.prog w = .ok (.enter p.2.1 args) w) ∧ ∀ wz, Kp L w.drew wz → Calls Tryz.prog p.2.1 (p.2.2.map (SV.den ρ)).toArray wz fun x w' => ∃ v, x = .returned v ∧ Kp [] wz w' ∧ (y.X p.1 = true → v = (y.Sy p.1).den ρ) ∧ ∀ V, E (y.st.pos p.1) V wz → E (y.st.pos p.1 + 1) (updV V p.1 v) w') ca)
    (hx : Each (fun i => ∀ l T wz, SMidF (y.tabF ρ L F E) w.drew T0 (y.st.pos i) l T wz → RHere ops' y ρ L F w.drew i T wz → (∀ j, depB ops' i j = true → l.getD j false = true) → ∀ o, ops'[i]? = some o →
      ∃ w', (execOp (frameOf y.st.N T).eval o).run Tryz.prog wz = .ok .skip w' ∧ Kp L w.drew w' ∧ (∀ j u, F j u wz → F j u w') ∧ y.X i = false ∧ y.st.dst i = y.st.N ∧ E (y.st.pos i + 1) (updV (dnV y.st.m y.st.kind y.st.dst l T) i (T y.st.N)) w') cx)
    (hf : Each (fun i => ∀ T wz, RHere ops' y ρ L F w.drew i T wz → ∀ o, ops'[i]? = some o → ∃ u w', (execOp (frameOf y.st.N T).eval o).run Tryz.prog wz = .ok (.value u) w' ∧ F i u w' ∧ Kp [] wz w' ∧ NewU u wz) fr)
    (hE0 : E 0 (fun _ => undef) w.drew) (hEs : ∀ c v w1 w2, E c v w1 → Kp [] w1 w2 → E c v w2) (hEf : ∀ c v w0 w1 j u, E c v w0 → Kp [] w0 w1 → F j u w1 → NewU u w0 → v j = undef → E c (updV v j u) w1)
    (hFs : ∀ i u w1 w2, F i u w1 → Kp [] w1 w2 → F i u w2)
    (hQ : ∀ (T : Nat → Value) (w' : World), (∀ s, y.st.inv s = y.st.m → T s = T0 s) → (∀ j, j < y.st.m → y.st.kind j = 0 ∨ y.st.kind j = 1 ∧ y.X j = true → T (y.st.dst j) = (y.Sy j).den ρ) → Kp L w w' →
      (∀ j, j < y.st.m → y.st.kind j = 2 → F j (T (y.st.dst j)) w') → E y.st.K (fun j => if j < y.st.m ∧ y.st.kind j ≠ 0 then T (y.st.dst j) else undef) w' → Q .normal (frameOf y.st.N T) w') :
    (Code.region id ops true).wp Tryz.prog Q (frameOf y.st.N T0) w := by
  subst hops
  unfold reflOk at hok
  rw [Bool.and_eq_true, Bool.and_eq_true, List.all_eq_true] at hok
  obtain ⟨hF, hO, hA⟩ := hok
  have hA' : ∀ i, i < y.st.m → guardOk y i = true ∧ (if y.st.kind i = 0 then !y.st.act i || sp.contains i || readOk ops y i
     else if y.st.kind i = 1 then cx.contains i || (decide (y.st.dst i < y.st.N) && ca.any fun c => c.1 == i && decide (callOf ops y i = some (c.2.1, c.2.2)))
     else fr.contains i) = true := fun i hi => Bool.and_eq_true_iff.1 (hA i (List.mem_range.2 hi))
  refine reg_seqF (y.tabF ρ L F E) hm (fit_of hF) ⟨hO, ?_, ?_, ?_, ?_⟩ hE0 hEs hEf hFs (fun T w' h1 h2 h3 h4 h5 => hQ T w' h1 h2 h3 h5 h4)
  · intro i hi hg
    have h := (hA' i hi).1
    unfold guardOk at h
    have hg' : y.st.isg i = true := hg
    rw [hg'] at h
    simp only [Bool.not_true, Bool.false_or, Bool.or_eq_true, Bool.and_eq_true, decide_eq_true_eq, Bool.not_eq_true', beq_iff_eq] at h
    rcases h with ⟨h1, h2⟩ | ⟨⟨⟨h1, h2⟩, h3⟩, h4⟩
    · exact .inl ⟨h1, by show (y.Sy (y.st.gd i)).den ρ = _; rw [h2]; rfl⟩
    · exact .inr ⟨h1, by show (y.Sy (y.st.gd i)).den ρ = _; rw [h2]; rfl, h3, by show (y.Sy i).den ρ = _; rw [h4]; rfl⟩
  · intro i hi hk ha l T wz o c hr hcl hM0 ho
    have hM := forgetF hM0
    have h := (hA' i hi).2
    rw [if_pos (show y.st.kind i = 0 from hk), show y.st.act i = true from ha] at h
    simp only [Bool.not_true, Bool.false_or, Bool.or_eq_true, List.contains_iff_mem] at h
    rcases h with h | h
    · exact hs.mem i h T wz (here_of hT0 hr hcl hM) o ho
    · exact read_ev hT0 hr hcl hM ho h
  · intro i hi hk l T wz o hr hcl hM0 ho Q'
    have hM := forgetF hM0
    have h := (hA' i hi).2
    rw [if_neg (show ¬ y.st.kind i = 0 by have : y.st.kind i = 1 := hk; omega), if_pos (show y.st.kind i = 1 from hk)] at h
    simp only [Bool.or_eq_true, Bool.and_eq_true, decide_eq_true_eq, List.contains_iff_mem, List.any_eq_true, beq_iff_eq] at h
    have hdst : y.st.dst i < y.st.N → o.dst = some (y.st.dst i) := fun hN => by
      obtain ⟨_, he⟩ := each_of (t := y.st) hO
      obtain ⟨o', g1, g2, _⟩ := he i hi
      obtain rfl := Option.some.inj (ho.symm.trans g1)
      rw [if_neg (by omega)] at g2
      exact g2
    rcases h with h | ⟨hN, cc, hcm, rfl, hcall⟩
    · obtain ⟨w2, hrun, h2, h3, h4, h5, h6⟩ := hx.mem i h l T wz hM0 (here_of hT0 hr hcl hM) (fun j hd => dep_refl hr hd) o ho
      obtain ⟨_, he⟩ := each_of (t := y.st) hO
      obtain ⟨o', g1, g2, _⟩ := he i hi
      obtain rfl := Option.some.inj (ho.symm.trans g1)
      rw [if_pos h5] at g2
      unfold Oper.wp
      have hrun2 : (execOp (frameOf (y.tabF ρ L F E).N T).eval o).run Tryz.prog wz = .ok .skip w2 := hrun
      rw [hrun2, Oper.upon_skip, g2]
      exact ⟨T, rfl, fun _ _ => rfl, h2, h3, (fun e => by rw [show (y.tabF ρ L F E).X i = y.X i from rfl, h4] at e; cases e), by
        have e : (y.tabF ρ L F E).dst i = y.st.N := h5
        rw [e]; exact h6⟩
    · obtain ⟨hen, hcl2⟩ := hc.mem cc hcm
      unfold Oper.wp
      have hrun2 : (execOp (frameOf (y.tabF ρ L F E).N T).eval o).run Tryz.prog wz = _ := call_ev hT0 hr hcl hM ho hcall hen
      rw [hrun2]
      unfold Oper.upon
      refine Calls.mono (hcl2 wz hM.kp) ?_
      rintro x w2 ⟨v, rfl, hk, hx2, hj⟩
      simp only []
      rw [hdst hN, frame_put]
      exact ⟨_, rfl, fun s hs => updV_ne (hs.elim (fun h => h) (fun x => by have : (y.tabF ρ L F E).dst cc.1 = y.st.dst cc.1 := rfl; have : (y.tabF ρ L F E).N = y.st.N := rfl; omega)), hM0.kp.trans (hk.mono (fun _ hx => absurd hx List.not_mem_nil)), fun j u hf0 => hFs _ _ _ _ hf0 hk, fun h => by
        have e : (y.tabF ρ L F E).dst cc.1 = y.st.dst cc.1 := rfl
        rw [e, updV_same]; exact hx2 h, by
        have e : (y.tabF ρ L F E).dst cc.1 = y.st.dst cc.1 := rfl
        rw [e, updV_same]; exact hj _ hM0.ext⟩
  · intro i hi hk l T wz o c hr hcl hM0 ho
    have hM := forgetF hM0
    have h := (hA' i hi).2
    have hk' : y.st.kind i = 2 := hk
    rw [if_neg (by omega), if_neg (by omega), List.contains_iff_mem] at h
    exact hf.mem i h T wz (here_of hT0 hr hcl hM) o ho
end Go.Proofs.YtcgilcmhandgfaaGreatDoor

/- 'u, v := f(..), g(..)' of points that lie in cells: what the chain of the region hands on. -/
namespace Go.Proofs.YtcgilcmhandgfaaGreatDoor
open Go.RowKit

def PE (i j : Nat) (ux uy vx vy : Int) (c : Nat) (V : Nat → Value) (w : World) : Prop :=
  (∀ h, V i = .pointer (some ⟨h, 0, none⟩) → h < w.heap.size) ∧ (∀ h, V j = .pointer (some ⟨h, 0, none⟩) → h < w.heap.size) ∧
  (∀ h h', V i = .pointer (some ⟨h, 0, none⟩) → V j = .pointer (some ⟨h', 0, none⟩) → h ≠ h') ∧
  (3 ≤ c → ∃ h, V i = .pointer (some ⟨h, 0, none⟩) ∧ PtB w h ux uy) ∧ (4 ≤ c → ∃ h, V j = .pointer (some ⟨h, 0, none⟩) ∧ PtB w h vx vy)
/-- what a new block of a point is -/
def PF (i j base : Nat) (k : Nat) (u : Value) (w : World) : Prop := (k = i ∨ k = j) → ∃ h, u = .pointer (some ⟨h, 0, none⟩) ∧ base ≤ h ∧ ∃ x y, PtB w h x y
section
variable {i j k c base : Nat} {ux uy vx vy : Int} {V : Nat → Value} {w w' : World} {u : Value}
theorem PF.kept (h : PF i j base k u w) (hk : Kp [] w w') : PF i j base k u w' := fun e => by
  obtain ⟨h1, e1, e2, x, y, h2⟩ := h e
  exact ⟨h1, e1, e2, x, y, h2.kept hk (by simp)⟩
theorem PF.set (h : PF i j base k u w) (b : Nat) (x y z t : Int) (hb : PtB w b z t) : PF i j base k u ((w.setCell ⟨b, 0, none⟩ (.int .i64 x)).setCell ⟨b, 1, none⟩ (.int .i64 y)) := fun e => by
  obtain ⟨h1, e1, e2, x1, y1, h2⟩ := h e
  by_cases eb : h1 = b
  · subst eb
    exact ⟨h1, e1, e2, x, y, h2.set2 x y⟩
  · refine ⟨h1, e1, e2, x1, y1, ?_⟩
    unfold PtB at *; simp [World.setCell, Array.getElem?_modify, Ne.symm eb, h2]
theorem PE.zero (w : World) : PE i j ux uy vx vy 0 (fun _ => undef) w :=
  ⟨fun _ h => (by simp [undef] at h), fun _ h => (by simp [undef] at h), fun _ _ h => (by simp [undef] at h), fun h => absurd h (by omega), fun h => absurd h (by omega)⟩
theorem PE.kept (h : PE i j ux uy vx vy c V w) (hk : Kp [] w w') : PE i j ux uy vx vy c V w' := by
  obtain ⟨h1, h2, h3, h4, h5⟩ := h
  refine ⟨fun b e => Nat.lt_of_lt_of_le (h1 b e) hk.size, fun b e => Nat.lt_of_lt_of_le (h2 b e) hk.size, h3, fun e => ?_, fun e => ?_⟩
  · obtain ⟨b, e1, e2⟩ := h4 e; exact ⟨b, e1, e2.kept hk (by simp)⟩
  · obtain ⟨b, e1, e2⟩ := h5 e; exact ⟨b, e1, e2.kept hk (by simp)⟩
theorem PE.free (hij : i ≠ j) (h : PE i j ux uy vx vy c V w) (hk : Kp [] w w') (hf : PF i j base k u w') (hn : NewU u w) (hu : V k = undef) : PE i j ux uy vx vy c (updV V k u) w' := by
  have h' := h.kept hk
  obtain ⟨g1, g2, g3, g4, g5⟩ := h'
  by_cases ki : k = i
  · subst ki
    obtain ⟨b, rfl, _, x, y, hb⟩ := hf (.inl rfl)
    have hnb := hn b 0 none rfl
    refine ⟨fun b2 e => ?_, fun b2 e => ?_, fun b2 b3 e e2 => ?_, fun e => ?_, fun e => ?_⟩
    · rw [updV_same] at e; cases e; exact hb.lt
    · rw [updV_ne (fun x => hij x.symm)] at e; exact g2 b2 e
    · rw [updV_same] at e; rw [updV_ne (fun x => hij x.symm)] at e2; cases e; have := h.2.1 b3 e2; omega
    · obtain ⟨b2, e1, _⟩ := g4 e; rw [hu] at e1; simp [undef] at e1
    · obtain ⟨b2, e1, e2⟩ := g5 e; exact ⟨b2, by rw [updV_ne (fun x => hij x.symm)]; exact e1, e2⟩
  · by_cases kj : k = j
    · subst kj
      obtain ⟨b, rfl, _, x, y, hb⟩ := hf (.inr rfl)
      have hnb := hn b 0 none rfl
      refine ⟨fun b2 e => ?_, fun b2 e => ?_, fun b2 b3 e e2 => ?_, fun e => ?_, fun e => ?_⟩
      · rw [updV_ne hij] at e; exact g1 b2 e
      · rw [updV_same] at e; cases e; exact hb.lt
      · rw [updV_same] at e2; rw [updV_ne hij] at e; cases e2; have := h.1 b2 e; omega
      · obtain ⟨b2, e1, e2⟩ := g4 e; exact ⟨b2, by rw [updV_ne hij]; exact e1, e2⟩
      · obtain ⟨b2, e1, _⟩ := g5 e; rw [hu] at e1; simp [undef] at e1
    · refine ⟨fun b2 e => ?_, fun b2 e => ?_, fun b2 b3 e e2 => ?_, fun e => ?_, fun e => ?_⟩
      · rw [updV_ne (Ne.symm ki)] at e; exact g1 b2 e
      · rw [updV_ne (Ne.symm kj)] at e; exact g2 b2 e
      · rw [updV_ne (Ne.symm ki)] at e; rw [updV_ne (Ne.symm kj)] at e2; exact g3 b2 b3 e e2
      · obtain ⟨b2, e1, e2⟩ := g4 e; exact ⟨b2, by rw [updV_ne (Ne.symm ki)]; exact e1, e2⟩
      · obtain ⟨b2, e1, e2⟩ := g5 e; exact ⟨b2, by rw [updV_ne (Ne.symm kj)]; exact e1, e2⟩
theorem PE.call (h : PE i j ux uy vx vy c V w) (hk : Kp [] w w') (hc : c + 1 ≤ 2) (ki : k ≠ i) (kj : k ≠ j) (v : Value) : PE i j ux uy vx vy (c + 1) (updV V k v) w' := by
  obtain ⟨g1, g2, g3, g4, g5⟩ := h.kept hk
  refine ⟨fun b2 e => ?_, fun b2 e => ?_, fun b2 b3 e e2 => ?_, fun e => by omega, fun e => by omega⟩
  · rw [updV_ne (Ne.symm ki)] at e; exact g1 b2 e
  · rw [updV_ne (Ne.symm kj)] at e; exact g2 b2 e
  · rw [updV_ne (Ne.symm ki)] at e; rw [updV_ne (Ne.symm kj)] at e2; exact g3 b2 b3 e e2
theorem PE.store1 {b : Nat} {x y : Int} (h : PE i j ux uy vx vy 2 V w) (hb : V i = .pointer (some ⟨b, 0, none⟩)) (hp : PtB w b x y) (ki : k ≠ i) (kj : k ≠ j) (v : Value) : PE i j ux uy vx vy 3 (updV V k v) ((w.setCell ⟨b, 0, none⟩ (.int .i64 ux)).setCell ⟨b, 1, none⟩ (.int .i64 uy)) := by
  obtain ⟨g1, g2, g3, g4, g5⟩ := h
  refine ⟨fun b2 e => ?_, fun b2 e => ?_, fun b2 b3 e e2 => ?_, fun e => ⟨b, by rw [updV_ne (Ne.symm ki)]; exact hb, hp.set2 ux uy⟩, fun e => by omega⟩
  · rw [updV_ne (Ne.symm ki)] at e; simpa [World.setCell] using g1 b2 e
  · rw [updV_ne (Ne.symm kj)] at e; simpa [World.setCell] using g2 b2 e
  · rw [updV_ne (Ne.symm ki)] at e; rw [updV_ne (Ne.symm kj)] at e2; exact g3 b2 b3 e e2
theorem PE.store2 {b : Nat} {x y : Int} (h : PE i j ux uy vx vy 3 V w) (hb : V j = .pointer (some ⟨b, 0, none⟩)) (hp : PtB w b x y) (ki : k ≠ i) (kj : k ≠ j) (v : Value) : PE i j ux uy vx vy 4 (updV V k v) ((w.setCell ⟨b, 0, none⟩ (.int .i64 vx)).setCell ⟨b, 1, none⟩ (.int .i64 vy)) := by
  obtain ⟨g1, g2, g3, g4, g5⟩ := h
  obtain ⟨b1, e1, p1⟩ := g4 (by omega)
  have hne := g3 b1 b e1 hb
  refine ⟨fun b2 e => ?_, fun b2 e => ?_, fun b2 b3 e e2 => ?_, fun e => ⟨b1, by rw [updV_ne (Ne.symm ki)]; exact e1, ?_⟩, fun e => ⟨b, by rw [updV_ne (Ne.symm kj)]; exact hb, hp.set2 vx vy⟩⟩
  · rw [updV_ne (Ne.symm ki)] at e; simpa [World.setCell] using g1 b2 e
  · rw [updV_ne (Ne.symm kj)] at e; simpa [World.setCell] using g2 b2 e
  · rw [updV_ne (Ne.symm ki)] at e; rw [updV_ne (Ne.symm kj)] at e2; exact g3 b2 b3 e e2
  · unfold PtB at *; simp [World.setCell, Array.getElem?_modify, Ne.symm hne, p1]
theorem PE.fin (h : PE i j ux uy vx vy 4 V w) : ∃ h1 h2, V i = .pointer (some ⟨h1, 0, none⟩) ∧ V j = .pointer (some ⟨h2, 0, none⟩) ∧ PtB w h1 ux uy ∧ PtB w h2 vx vy := by
  obtain ⟨g1, g2, g3, g4, g5⟩ := h
  obtain ⟨b1, e1, p1⟩ := g4 (by omega)
  obtain ⟨b2, e2, p2⟩ := g5 (by omega)
  exact ⟨b1, b2, e1, e2, p1, p2⟩
end
section
variable {a : Act} {w : World} {o : Oper} {x y : Operand} {b f : Nat} {u v : Int}
theorem op_alP (h : o.op = .alloc 49) : (execOp a.eval o).run Tryz.prog w = .ok (.value (.pointer (some ⟨w.heap.size, 0, none⟩))) (w.alloc (.cells #[.int .i64 0, .int .i64 0] 49 (0, 0))) := by
  generalize a.eval = r at *
  simp [execOp, h, go_sem]
theorem op_stP {s t : Int} (h : o.op = .store 49 x y) (hx : a.eval x = .pointer (some ⟨b, 0, none⟩)) (hy : a.eval y = .agg #[.int .i64 u, .int .i64 v]) (hb : PtB w b s t) :
    (execOp a.eval o).run Tryz.prog w = .ok .skip ((w.setCell ⟨b, 0, none⟩ (.int .i64 u)).setCell ⟨b, 1, none⟩ (.int .i64 v)) := by
  have c0 := hb.c0
  have c1 := hb.c1
  have f0 := hb.f 0
  have f1 := hb.f 1
  have l := hb.lt
  generalize a.eval = r at *
  simp [execOp, h, hx, hy, go_sem, c0, c1, f0, f1]
theorem op_faP0 (h : o.op = .fieldAddr 49 x 0) (hx : a.eval x = .pointer (some ⟨b, f, none⟩)) : (execOp a.eval o).run Tryz.prog w = .ok (.value (.pointer (some ⟨b, f, none⟩))) w := by
  generalize a.eval = r at *
  simp [execOp, h, hx, go_sem]
theorem op_faP1 (h : o.op = .fieldAddr 49 x 1) (hx : a.eval x = .pointer (some ⟨b, f, none⟩)) : (execOp a.eval o).run Tryz.prog w = .ok (.value (.pointer (some ⟨b, f + 1, none⟩))) w := by
  generalize a.eval = r at *
  simp [execOp, h, hx, go_sem]
theorem op_iaP0 (h : o.op = .indexAddr 75 x (.const (.int .i64 0))) (hx : a.eval x = .pointer (some ⟨b, 0, none⟩)) : (execOp a.eval o).run Tryz.prog w = .ok (.value (.pointer (some ⟨b, 0, none⟩))) w := by
  have hc : a.eval (.const (.int .i64 0)) = .int .i64 0 := rfl
  generalize a.eval = r at *
  simp [execOp, h, hx, hc, go_sem]
theorem op_iaP1 (h : o.op = .indexAddr 75 x (.const (.int .i64 1))) (hx : a.eval x = .pointer (some ⟨b, 0, none⟩)) : (execOp a.eval o).run Tryz.prog w = .ok (.value (.pointer (some ⟨b, 2, none⟩))) w := by
  have hc : a.eval (.const (.int .i64 1)) = .int .i64 1 := rfl
  generalize a.eval = r at *
  simp [execOp, h, hx, hc, go_sem]
theorem op_iaP2 (h : o.op = .indexAddr 75 x (.const (.int .i64 2))) (hx : a.eval x = .pointer (some ⟨b, 0, none⟩)) : (execOp a.eval o).run Tryz.prog w = .ok (.value (.pointer (some ⟨b, 4, none⟩))) w := by
  have hc : a.eval (.const (.int .i64 2)) = .int .i64 2 := rfl
  generalize a.eval = r at *
  simp [execOp, h, hx, hc, go_sem]
theorem op_ldI (h : o.op = .load 3 x) (hx : a.eval x = .pointer (some ⟨b, f, none⟩)) (hc : w.cell? ⟨b, f, none⟩ = some (.int .i64 v)) : (execOp a.eval o).run Tryz.prog w = .ok (.value (.int .i64 v)) w := by
  generalize a.eval = r at *
  simp [execOp, h, hx, hc, go_sem]
theorem op_subI (h : o.op = .binOp .sub 3 x y 3) (hx : a.eval x = .int .i64 u) (hy : a.eval y = .int .i64 v) (hw : -9223372036854775808 ≤ u - v ∧ u - v ≤ 9223372036854775807) : (execOp a.eval o).run Tryz.prog w = .ok (.value (.int .i64 (u - v))) w := by
  have e : IntKind.i64.wrap (u - v) = u - v := IntWalk.i64_in _ hw
  generalize a.eval = r at *
  simp [execOp, h, hx, hy, go_sem, e]
end
end Go.Proofs.YtcgilcmhandgfaaGreatDoor

/- VectorTurns returns true for every input. -/
namespace Go.Proofs.YtcgilcmhandgfaaGreatDoor
open Go.RowKit
open Go.Lib (nDigits itoa decDigits)

theorem ArB.set2 {T : TypeId} {w : World} {b : Nat} {l : List Int} (h : ArB T w b l) (i : Nat) (u v : Int) : ArB T ((w.setCell ⟨b, i, none⟩ (.int .i64 u)).setCell ⟨b, i + 1, none⟩ (.int .i64 v)) b ((l.set i u).set (i + 1) v) := by
  unfold ArB at *
  simp [World.setCell, Array.getElem?_modify, h, List.map_set]
theorem op_bsP4 {a : Act} {w : World} {o : Oper} {x y z t : Operand} {u0 u1 v0 v1 s0 s1 t0 t1 : Int} (h : o.op = .buildSlice 22 4 #[(0, x), (1, y), (2, z), (3, t)]) (hx : a.eval x = .agg #[.int .i64 u0, .int .i64 u1]) (hy : a.eval y = .agg #[.int .i64 v0, .int .i64 v1]) (hz : a.eval z = .agg #[.int .i64 s0, .int .i64 s1]) (ht : a.eval t = .agg #[.int .i64 t0, .int .i64 t1]) :
    (execOp a.eval o).run Tryz.prog w = .ok (.value (.slice (some ⟨w.heap.size, 0, none⟩) 4 4)) (w.alloc (.cells #[.int .i64 u0, .int .i64 u1, .int .i64 v0, .int .i64 v1, .int .i64 s0, .int .i64 s1, .int .i64 t0, .int .i64 t1] 49 (0, 0))) := by
  generalize a.eval = r at *
  simp [execOp, h, hx, hy, hz, ht, go_sem]

set_option maxRecDepth 100000 in
set_option maxHeartbeats 4000000 in
theorem turns_far (ax ay bx yb cx yc dx dy : Int) (w : World) (hfar : (![(ax, ay), (bx, yb), (cx, yc), (dx, dy)].any farP) = false) (aw : Hid (Gw w 13 #[] (.bool true))) :
    Calls Tryz.prog 8 #[.agg #[.int .i64 ax, .int .i64 ay, .int .i64 bx, .int .i64 yb, .int .i64 cx, .int .i64 yc], .agg #[.int .i64 dx, .int .i64 dy]] w fun e w' => e = .returned (.bool true) ∧ Kp [] w w' := by
  have s := (ArB.made 75 w [ax, ay, bx, yb, cx, yc]).alloc (.cells #[.int .i64 dx, .int .i64 dy] 49 (0, 0))
  have d := PtB.made (w.alloc (.cells #[.int .i64 ax, .int .i64 ay, .int .i64 bx, .int .i64 yb, .int .i64 cx, .int .i64 yc] 75 (0, 0))) dx dy
  rw [World.size_alloc] at d
  have kk : Kp [] w ((w.alloc (.cells #[.int .i64 ax, .int .i64 ay, .int .i64 bx, .int .i64 yb, .int .i64 cx, .int .i64 yc] 75 (0, 0))).alloc (.cells #[.int .i64 dx, .int .i64 dy] 49 (0, 0))) := ((Kp.refl _ _).alloc _).alloc _
  have x0 := s.c (i := 0) rfl
  have x1 := s.c (i := 1) rfl
  have x2 := s.c (i := 2) rfl
  have x3 := s.c (i := 3) rfl
  have x4 := s.c (i := 4) rfl
  have x5 := s.c (i := 5) rfl
  have y0 := d.c0
  have y1 := d.c1
  have hN := heap_alloc_new ((w.alloc (.cells #[.int .i64 ax, .int .i64 ay, .int .i64 bx, .int .i64 yb, .int .i64 cx, .int .i64 yc] 75 (0, 0))).alloc (.cells #[.int .i64 dx, .int .i64 dy] 49 (0, 0))) (.cells #[.int .i64 ax, .int .i64 ay, .int .i64 bx, .int .i64 yb, .int .i64 cx, .int .i64 yc, .int .i64 dx, .int .i64 dy] 49 (0, 0))
  have hz0 : ((w.alloc (.cells #[.int .i64 ax, .int .i64 ay, .int .i64 bx, .int .i64 yb, .int .i64 cx, .int .i64 yc] 75 (0, 0))).alloc (.cells #[.int .i64 dx, .int .i64 dy] 49 (0, 0))).heap.size = w.heap.size + 1 + 1 := by simp
  have qn := Lib.hid (vnear ((w.alloc (.cells #[.int .i64 ax, .int .i64 ay, .int .i64 bx, .int .i64 yb, .int .i64 cx, .int .i64 yc] 75 (0, 0))).alloc (.cells #[.int .i64 dx, .int .i64 dy] 49 (0, 0))).heap.size 0 4 (some ⟨((w.alloc (.cells #[.int .i64 ax, .int .i64 ay, .int .i64 bx, .int .i64 yb, .int .i64 cx, .int .i64 yc] 75 (0, 0))).alloc (.cells #[.int .i64 dx, .int .i64 dy] 49 (0, 0))).heap.size, 0, none⟩) [(ax, ay), (bx, yb), (cx, yc), (dx, dy)] (((w.alloc (.cells #[.int .i64 ax, .int .i64 ay, .int .i64 bx, .int .i64 yb, .int .i64 cx, .int .i64 yc] 75 (0, 0))).alloc (.cells #[.int .i64 dx, .int .i64 dy] 49 (0, 0))).alloc (.cells #[.int .i64 ax, .int .i64 ay, .int .i64 bx, .int .i64 yb, .int .i64 cx, .int .i64 yc, .int .i64 dx, .int .i64 dy] 49 (0, 0))) (fun i hi => by
    rcases i with _ | _ | _ | _ | i
    · exact ⟨(new_cell hN _).trans rfl, (new_cell hN _).trans rfl⟩
    · exact ⟨(new_cell hN _).trans rfl, (new_cell hN _).trans rfl⟩
    · exact ⟨(new_cell hN _).trans rfl, (new_cell hN _).trans rfl⟩
    · exact ⟨(new_cell hN _).trans rfl, (new_cell hN _).trans rfl⟩
    · exact absurd hi (by simp)) (fun _ => ⟨rfl, by simp⟩) (by simp))
  simp only [List.length_cons, List.length_nil, Nat.zero_add, Nat.reduceAdd, hz0] at qn
  rw [hfar] at qn
  clear hN hz0
  replace kk := kk.alloc (.cells #[.int .i64 ax, .int .i64 ay, .int .i64 bx, .int .i64 yb, .int .i64 cx, .int .i64 yc, .int .i64 dx, .int .i64 dy] 49 (0, 0))
  replace s := s.alloc (.cells #[.int .i64 ax, .int .i64 ay, .int .i64 bx, .int .i64 yb, .int .i64 cx, .int .i64 yc, .int .i64 dx, .int .i64 dy] 49 (0, 0))
  replace d := d.alloc (.cells #[.int .i64 ax, .int .i64 ay, .int .i64 bx, .int .i64 yb, .int .i64 cx, .int .i64 yc, .int .i64 dx, .int .i64 dy] 49 (0, 0))
  unfold Gw at aw
  go_enter Tryz.func8, Tryz.ntmps8
  go_wp2_with (refine wpList_stepN rfl (op_bsP4 rfl rfl rfl rfl rfl) (by simp only [Act.put, World.size_alloc, List.setIfInBounds_toArray, List.set_cons_succ, List.set_cons_zero]; rfl) ?_)
  with_reducible refine qn.out.mono ?_
  rintro e w1 ⟨rfl, k⟩
  replace kk := kk.trans k
  replace s := s.kept k (by simp)
  replace d := d.kept k (by simp)
  clear x0 x1 x2 x3 x4 x5 y0 y1
  clear k qn
  have x0 := s.c (i := 0) rfl
  have x1 := s.c (i := 1) rfl
  have x2 := s.c (i := 2) rfl
  have x3 := s.c (i := 3) rfl
  have x4 := s.c (i := 4) rfl
  have x5 := s.c (i := 5) rfl
  have y0 := d.c0
  have y1 := d.c1
  go_wp2_with fail
  with_reducible refine (aw.out _ kk).mono ?_
  rintro e w2 ⟨rfl, k⟩
  replace kk := kk.trans k
  clear s d x0 x1 x2 x3 x4 x5 y0 y1
  go_wp2
  go_ret
  exact ⟨rfl, kk⟩

theorem ixA0 (x0 x1 x2 x3 x4 x5 : Int) (w : World) : (Instr.index 75 (.agg #[.int .i64 x0, .int .i64 x1, .int .i64 x2, .int .i64 x3, .int .i64 x4, .int .i64 x5]) (.int .i64 0)).run Tryz.prog w = .ok (.agg #[.int .i64 x0, .int .i64 x1]) w := by
  kernel_rfl
theorem ixA1 (x0 x1 x2 x3 x4 x5 : Int) (w : World) : (Instr.index 75 (.agg #[.int .i64 x0, .int .i64 x1, .int .i64 x2, .int .i64 x3, .int .i64 x4, .int .i64 x5]) (.int .i64 1)).run Tryz.prog w = .ok (.agg #[.int .i64 x2, .int .i64 x3]) w := by
  kernel_rfl
theorem ixA2 (x0 x1 x2 x3 x4 x5 : Int) (w : World) : (Instr.index 75 (.agg #[.int .i64 x0, .int .i64 x1, .int .i64 x2, .int .i64 x3, .int .i64 x4, .int .i64 x5]) (.int .i64 2)).run Tryz.prog w = .ok (.agg #[.int .i64 x4, .int .i64 x5]) w := by
  kernel_rfl
def vtn_s : RSt := ⟨34, 231, 4, fun i => ([125, 126, 127, 128, 129, 130, 131, 132, 133, 134, 135, 136, 137, 138, 139, 140, 141, 142, 143, 144, 145, 146, 147, 148, 149, 150, 151, 152, 153, 154, 18, 19, 231, 231] : List Nat).getD i 0, fun i => ([0, 0, 0, 0, 0, 0, 0, 0, 0, 0, 0, 0, 0, 0, 1, 0, 0, 0, 0, 0, 0, 0, 0, 0, 0, 0, 0, 0, 0, 1, 2, 2, 1, 1] : List Nat).getD i 0, fun i => ([0, 0, 0, 0, 0, 0, 0, 0, 0, 0, 0, 0, 0, 0, 0, 0, 0, 0, 0, 0, 0, 0, 0, 0, 0, 0, 0, 0, 0, 1, 0, 0, 2, 3] : List Nat).getD i 0, fun i => ([34, 34, 34, 34, 34, 34, 34, 34, 34, 34, 34, 34, 34, 34, 34, 34, 34, 34, 30, 31, 34, 34, 34, 34, 34, 34, 34, 34, 34, 34, 34, 34, 34, 34, 34, 34, 34, 34, 34, 34, 34, 34, 34, 34, 34, 34, 34, 34, 34, 34, 34, 34, 34, 34, 34, 34, 34, 34, 34, 34, 34, 34, 34, 34, 34, 34, 34, 34, 34, 34, 34, 34, 34, 34, 34, 34, 34, 34, 34, 34, 34, 34, 34, 34, 34, 34, 34, 34, 34, 34, 34, 34, 34, 34, 34, 34, 34, 34, 34, 34, 34, 34, 34, 34, 34, 34, 34, 34, 34, 34, 34, 34, 34, 34, 34, 34, 34, 34, 34, 34, 34, 34, 34, 34, 34, 0, 1, 2, 3, 4, 5, 6, 7, 8, 9, 10, 11, 12, 13, 14, 15, 16, 17, 18, 19, 20, 21, 22, 23, 24, 25, 26, 27, 28, 29, 34, 34, 34, 34, 34, 34, 34, 34, 34, 34, 34, 34, 34, 34, 34, 34, 34, 34, 34, 34, 34, 34, 34, 34, 34, 34, 34, 34, 34, 34, 34, 34, 34, 34, 34, 34, 34, 34, 34, 34, 34, 34, 34, 34, 34, 34, 34, 34, 34, 34, 34, 34, 34, 34, 34, 34, 34, 34, 34, 34, 34, 34, 34, 34, 34, 34, 34, 34, 34, 34, 34, 34, 34, 34, 34, 34, 34] : List Nat).getD i 34, fun i => ([14, 29, 32, 33] : List Nat).getD i 0, fun _ => false, fun _ => true, fun _ => 0, fun _ => false⟩
def vtn_y : RSy := ⟨vtn_s, fun i => ([.at 1, .at 1, .at 2, .at 0, .at 0, .at 3, .at 14, .at 1, .at 4, .at 6, .at 0, .at 5, .at 7, .at 15, .at 12, .at 8, .at 8, .at 9, .at 0, .at 0, .at 3, .at 16, .at 8, .at 10, .at 11, .at 0, .at 5, .at 7, .at 17, .at 13, .un, .un, .un, .un] : List SV).getD i .un, [(2, .at 0)], fun i => ([false, false, false, false, false, false, false, false, false, false, false, false, false, false, true, false, false, false, false, false, false, false, false, false, false, false, false, false, false, true, false, false, false, false] : List Bool).getD i false⟩
def vtn_ca : List (Nat × Nat × List SV) := [(14, 49, [.at 14, .at 15]), (29, 49, [.at 16, .at 17])]
theorem vtn_ok : reflOk (opsOf 19 Tryz.f8) vtn_y [0, 1, 2, 3, 4, 5, 6, 7, 8, 9, 10, 11, 12, 13, 15, 16, 17, 18, 19, 20, 21, 22, 23, 24, 25, 26, 27, 28] vtn_ca [32, 33] [30, 31] = true := by kernel_rfl

theorem ArB.far2 {T : TypeId} {w : World} {b b' : Nat} {l : List Int} (h : ArB T w b l) (hb : b ≠ b') (i j : Nat) (u v : Value) : ArB T ((w.setCell ⟨b', i, none⟩ u).setCell ⟨b', j, none⟩ v) b l := by
  unfold ArB at *; simp [World.setCell, Array.getElem?_modify, hb.symm, h]
theorem PtB.farN {w : World} {b b' : Nat} {x y : Int} (h : PtB w b x y) (hb : b ≠ b') (i j : Nat) (u v : Value) : PtB ((w.setCell ⟨b', i, none⟩ u).setCell ⟨b', j, none⟩ v) b x y := by
  unfold PtB at *; simp [World.setCell, Array.getElem?_modify, hb.symm, h]
theorem kp_at2 {w w' : World} {L : List Nat} {b : Nat} (k : Kp L w w') (hb : w.heap.size ≤ b) (i j : Nat) (x y : Value) : Kp L w ((w'.setCell ⟨b, i, none⟩ x).setCell ⟨b, j, none⟩ y) :=
  (k.setCell (p := ⟨b, i, none⟩) (.inr hb) x).setCell (p := ⟨b, j, none⟩) (.inr hb) y
theorem op_bsA3 {a : Act} {w : World} {o : Oper} {x y z : Operand} {a0 a1 a2 a3 a4 a5 b0 b1 b2 b3 b4 b5 c0 c1 c2 c3 c4 c5 : Int} (h : o.op = .buildSlice 78 3 #[(0, x), (1, y), (2, z)]) (hx : a.eval x = .agg #[.int .i64 a0, .int .i64 a1, .int .i64 a2, .int .i64 a3, .int .i64 a4, .int .i64 a5]) (hy : a.eval y = .agg #[.int .i64 b0, .int .i64 b1, .int .i64 b2, .int .i64 b3, .int .i64 b4, .int .i64 b5]) (hz : a.eval z = .agg #[.int .i64 c0, .int .i64 c1, .int .i64 c2, .int .i64 c3, .int .i64 c4, .int .i64 c5]) :
    (execOp a.eval o).run Tryz.prog w = .ok (.value (.slice (some ⟨w.heap.size, 0, none⟩) 3 3)) (w.alloc (.cells #[.int .i64 a0, .int .i64 a1, .int .i64 a2, .int .i64 a3, .int .i64 a4, .int .i64 a5, .int .i64 b0, .int .i64 b1, .int .i64 b2, .int .i64 b3, .int .i64 b4, .int .i64 b5, .int .i64 c0, .int .i64 c1, .int .i64 c2, .int .i64 c3, .int .i64 c4, .int .i64 c5] 75 (0, 0))) := by
  generalize a.eval = r at *
  simp [execOp, h, hx, hy, hz, go_sem]

set_option maxRecDepth 100000 in
set_option maxHeartbeats 4000000 in
theorem turns_core (ax ay bx yb cx yc dx dy x sg dd mm nn : Int) (w : World)
    (hfar : (![(ax, ay), (bx, yb), (cx, yc), (dx, dy)].any farP) = true)
    (lax : -9000 ≤ ax) (uax : ax ≤ 9000)
    (lay : -9000 ≤ ay) (uay : ay ≤ 9000)
    (lbx : -9000 ≤ bx) (ubx : bx ≤ 9000)
    (lyb : -9000 ≤ yb) (uyb : yb ≤ 9000)
    (lcx : -9000 ≤ cx) (ucx : cx ≤ 9000)
    (lyc : -9000 ≤ yc) (uyc : yc ≤ 9000)
    (ldx : -9000 ≤ dx) (udx : dx ≤ 9000)
    (ldy : -9000 ≤ dy) (udy : dy ≤ 9000)
    (qa1 : Hid (Gw w 49 #[.int .i64 (ax + dx), .int .i64 (ay + dy)] (.agg #[.int .i64 (ax + dx), .int .i64 (ay + dy)])))
    (qa2 : Hid (Gw w 49 #[.int .i64 (bx + dx), .int .i64 (yb + dy)] (.agg #[.int .i64 (bx + dx), .int .i64 (yb + dy)])))
    (qa3 : Hid (Gw w 49 #[.int .i64 (cx + dx), .int .i64 (yc + dy)] (.agg #[.int .i64 (cx + dx), .int .i64 (yc + dy)])))
    (h1 : wrap64 (-x) = -x) (h2 : wrap64 (sg * sg) = sg * sg) (h3 : wrap64 (x * x) = x * x) (h4 : wrap64 (dd * dd) = dd * dd) (h5 : wrap64 (x * x + dd * dd) = x * x + dd * dd) (h6 : wrap64 (mm * nn) = mm * nn)
    (t1 : decide (sg * sg ≤ 1) = true) (t2 : (decide (0 < sg) == decide (0 < x)) = true) (t3 : (decide (sg < 0) == decide (x < 0)) = true) (t4 : (x * x + dd * dd == mm * nn) = true)
    (q1 : Hid (Gw w 30 #[.agg #[.int .i64 ax, .int .i64 ay], .agg #[.int .i64 bx, .int .i64 yb], .agg #[.int .i64 cx, .int .i64 yc]] (.tuple #[.int .i64 x, .int .i64 0])))
    (q2 : Hid (Gw w 30 #[.agg #[.int .i64 (ax + dx), .int .i64 (ay + dy)], .agg #[.int .i64 (bx + dx), .int .i64 (yb + dy)], .agg #[.int .i64 (cx + dx), .int .i64 (yc + dy)]] (.tuple #[.int .i64 x, .int .i64 0])))
    (q3 : Hid (Gw w 30 #[.agg #[.int .i64 bx, .int .i64 yb], .agg #[.int .i64 cx, .int .i64 yc], .agg #[.int .i64 ax, .int .i64 ay]] (.tuple #[.int .i64 x, .int .i64 0])))
    (q4 : Hid (Gw w 30 #[.agg #[.int .i64 cx, .int .i64 yc], .agg #[.int .i64 ax, .int .i64 ay], .agg #[.int .i64 bx, .int .i64 yb]] (.tuple #[.int .i64 x, .int .i64 0])))
    (q5 : Hid (Gw w 30 #[.agg #[.int .i64 bx, .int .i64 yb], .agg #[.int .i64 ax, .int .i64 ay], .agg #[.int .i64 cx, .int .i64 yc]] (.tuple #[.int .i64 (-x), .int .i64 0])))
    (q6 : Hid (Gw w 32 #[.agg #[.int .i64 ax, .int .i64 ay], .agg #[.int .i64 bx, .int .i64 yb], .agg #[.int .i64 cx, .int .i64 yc]] (.tuple #[.int .i64 sg, .int .i64 0])))
    (qu : Hid (Gw w 49 #[.int .i64 (bx - ax), .int .i64 (yb - ay)] (.agg #[.int .i64 (bx - ax), .int .i64 (yb - ay)])))
    (qv : Hid (Gw w 49 #[.int .i64 (cx - ax), .int .i64 (yc - ay)] (.agg #[.int .i64 (cx - ax), .int .i64 (yc - ay)])))
    (q7 : Hid (Gw w 28 #[.agg #[.int .i64 (bx - ax), .int .i64 (yb - ay)], .agg #[.int .i64 (cx - ax), .int .i64 (yc - ay)]] (.tuple #[.int .i64 dd, .int .i64 0])))
    (q8 : Hid (Gw w 34 #[.agg #[.int .i64 ax, .int .i64 ay], .agg #[.int .i64 bx, .int .i64 yb]] (.tuple #[.int .i64 mm, .int .i64 0])))
    (q9 : Hid (Gw w 34 #[.agg #[.int .i64 ax, .int .i64 ay], .agg #[.int .i64 cx, .int .i64 yc]] (.tuple #[.int .i64 nn, .int .i64 0])))
    (aw : Hid (Gw w 13 #[] (.bool true))) :
    Calls Tryz.prog 8 #[.agg #[.int .i64 ax, .int .i64 ay, .int .i64 bx, .int .i64 yb, .int .i64 cx, .int .i64 yc], .agg #[.int .i64 dx, .int .i64 dy]] w fun e w' => e = .returned (.bool true) ∧ Kp [] w w' := by
  have s := (ArB.made 75 w [ax, ay, bx, yb, cx, yc]).alloc (.cells #[.int .i64 dx, .int .i64 dy] 49 (0, 0))
  have d := PtB.made (w.alloc (.cells #[.int .i64 ax, .int .i64 ay, .int .i64 bx, .int .i64 yb, .int .i64 cx, .int .i64 yc] 75 (0, 0))) dx dy
  rw [World.size_alloc] at d
  have kk : Kp [] w ((w.alloc (.cells #[.int .i64 ax, .int .i64 ay, .int .i64 bx, .int .i64 yb, .int .i64 cx, .int .i64 yc] 75 (0, 0))).alloc (.cells #[.int .i64 dx, .int .i64 dy] 49 (0, 0))) := ((Kp.refl _ _).alloc _).alloc _
  have x0 := s.c (i := 0) rfl
  have x1 := s.c (i := 1) rfl
  have x2 := s.c (i := 2) rfl
  have x3 := s.c (i := 3) rfl
  have x4 := s.c (i := 4) rfl
  have x5 := s.c (i := 5) rfl
  have y0 := d.c0
  have y1 := d.c1
  have hN := heap_alloc_new ((w.alloc (.cells #[.int .i64 ax, .int .i64 ay, .int .i64 bx, .int .i64 yb, .int .i64 cx, .int .i64 yc] 75 (0, 0))).alloc (.cells #[.int .i64 dx, .int .i64 dy] 49 (0, 0))) (.cells #[.int .i64 ax, .int .i64 ay, .int .i64 bx, .int .i64 yb, .int .i64 cx, .int .i64 yc, .int .i64 dx, .int .i64 dy] 49 (0, 0))
  have hz0 : ((w.alloc (.cells #[.int .i64 ax, .int .i64 ay, .int .i64 bx, .int .i64 yb, .int .i64 cx, .int .i64 yc] 75 (0, 0))).alloc (.cells #[.int .i64 dx, .int .i64 dy] 49 (0, 0))).heap.size = w.heap.size + 1 + 1 := by simp
  have qn := Lib.hid (vnear ((w.alloc (.cells #[.int .i64 ax, .int .i64 ay, .int .i64 bx, .int .i64 yb, .int .i64 cx, .int .i64 yc] 75 (0, 0))).alloc (.cells #[.int .i64 dx, .int .i64 dy] 49 (0, 0))).heap.size 0 4 (some ⟨((w.alloc (.cells #[.int .i64 ax, .int .i64 ay, .int .i64 bx, .int .i64 yb, .int .i64 cx, .int .i64 yc] 75 (0, 0))).alloc (.cells #[.int .i64 dx, .int .i64 dy] 49 (0, 0))).heap.size, 0, none⟩) [(ax, ay), (bx, yb), (cx, yc), (dx, dy)] (((w.alloc (.cells #[.int .i64 ax, .int .i64 ay, .int .i64 bx, .int .i64 yb, .int .i64 cx, .int .i64 yc] 75 (0, 0))).alloc (.cells #[.int .i64 dx, .int .i64 dy] 49 (0, 0))).alloc (.cells #[.int .i64 ax, .int .i64 ay, .int .i64 bx, .int .i64 yb, .int .i64 cx, .int .i64 yc, .int .i64 dx, .int .i64 dy] 49 (0, 0))) (fun i hi => by
    rcases i with _ | _ | _ | _ | i
    · exact ⟨(new_cell hN _).trans rfl, (new_cell hN _).trans rfl⟩
    · exact ⟨(new_cell hN _).trans rfl, (new_cell hN _).trans rfl⟩
    · exact ⟨(new_cell hN _).trans rfl, (new_cell hN _).trans rfl⟩
    · exact ⟨(new_cell hN _).trans rfl, (new_cell hN _).trans rfl⟩
    · exact absurd hi (by simp)) (fun _ => ⟨rfl, by simp⟩) (by simp))
  simp only [List.length_cons, List.length_nil, Nat.zero_add, Nat.reduceAdd, hz0] at qn
  rw [hfar] at qn
  clear hN hz0
  replace kk := kk.alloc (.cells #[.int .i64 ax, .int .i64 ay, .int .i64 bx, .int .i64 yb, .int .i64 cx, .int .i64 yc, .int .i64 dx, .int .i64 dy] 49 (0, 0))
  replace s := s.alloc (.cells #[.int .i64 ax, .int .i64 ay, .int .i64 bx, .int .i64 yb, .int .i64 cx, .int .i64 yc, .int .i64 dx, .int .i64 dy] 49 (0, 0))
  replace d := d.alloc (.cells #[.int .i64 ax, .int .i64 ay, .int .i64 bx, .int .i64 yb, .int .i64 cx, .int .i64 yc, .int .i64 dx, .int .i64 dy] 49 (0, 0))
  unfold Gw at qa1 qa2 qa3 q1 q2 q3 q4 q5 q6 q7 q8 q9 qu qv aw
  go_enter Tryz.func8, Tryz.ntmps8
  go_wp2_with (refine wpList_stepN rfl (op_bsP4 rfl rfl rfl rfl rfl) (by simp only [Act.put, World.size_alloc, List.setIfInBounds_toArray, List.set_cons_succ, List.set_cons_zero]; rfl) ?_)
  with_reducible refine qn.out.mono ?_
  rintro e w1 ⟨rfl, k⟩
  replace kk := kk.trans k
  replace s := s.kept k (by simp)
  replace d := d.kept k (by simp)
  clear x0 x1 x2 x3 x4 x5 y0 y1
  clear k qn
  have x0 := s.c (i := 0) rfl
  have x1 := s.c (i := 1) rfl
  have x2 := s.c (i := 2) rfl
  have x3 := s.c (i := 3) rfl
  have x4 := s.c (i := 4) rfl
  have x5 := s.c (i := 5) rfl
  have y0 := d.c0
  have y1 := d.c1
  have d0 := d
  have m := ArB.made 75 w1 [0, 0, 0, 0, 0, 0]
  replace s := s.alloc (.cells #[.int .i64 0, .int .i64 0, .int .i64 0, .int .i64 0, .int .i64 0, .int .i64 0] 75 (0, 0))
  replace d := d.alloc (.cells #[.int .i64 0, .int .i64 0, .int .i64 0, .int .i64 0, .int .i64 0, .int .i64 0] 75 (0, 0))
  replace kk := kk.alloc (.cells #[.int .i64 0, .int .i64 0, .int .i64 0, .int .i64 0, .int .i64 0, .int .i64 0] 75 (0, 0))
  have hm : w.heap.size ≤ w1.heap.size := by have := d0.lt; omega
  have hne1 : w.heap.size ≠ w1.heap.size := by have := d0.lt; omega
  have hne2 : w.heap.size + 1 ≠ w1.heap.size := by have := d0.lt; omega
  clear d0
  clear x0 x1 x2 x3 x4 x5 y0 y1
  have x0 := s.c (i := 0) rfl
  have x1 := s.c (i := 1) rfl
  have x2 := s.c (i := 2) rfl
  have x3 := s.c (i := 3) rfl
  have x4 := s.c (i := 4) rfl
  have x5 := s.c (i := 5) rfl
  have y0 := d.c0
  have y1 := d.c1
  generalize hmb : w1.heap.size = mb at *
  go_wp2_with fail
  go_loopw [38] (fun s38 wr => ∃ k : Nat, k ≤ 3 ∧ s38 = .int .i64 k ∧ ArB 75 wr w.heap.size [ax, ay, bx, yb, cx, yc] ∧ PtB wr (w.heap.size + 1) dx dy ∧ ArB 75 wr mb (([[0, 0, 0, 0, 0, 0], [(ax + dx), (ay + dy), 0, 0, 0, 0], [(ax + dx), (ay + dy), (bx + dx), (yb + dy), 0, 0], [(ax + dx), (ay + dy), (bx + dx), (yb + dy), (cx + dx), (yc + dy)]] : List (List Int)).getD k []) ∧ Kp [] w wr)
    (fun s38 _ => 3 - (intOf s38).toNat)
  case atStart => exact ⟨0, by omega, rfl, s, d, m, kk⟩
  case round =>
    obtain ⟨k, hk1, rfl, s, d, m, kk⟩ := hrel
    have x0 := s.c (i := 0) rfl
    have x1 := s.c (i := 1) rfl
    have x2 := s.c (i := 2) rfl
    have x3 := s.c (i := 3) rfl
    have x4 := s.c (i := 4) rfl
    have x5 := s.c (i := 5) rfl
    have y0 := d.c0
    have y1 := d.c1
    rcases k with _ | k
    · replace m : ArB 75 wr mb [0, 0, 0, 0, 0, 0] := m
      replace s := s.alloc (.cells #[.int .i64 ax, .int .i64 ay] 49 (0, 0))
      replace d := d.alloc (.cells #[.int .i64 ax, .int .i64 ay] 49 (0, 0))
      replace m := m.alloc (.cells #[.int .i64 ax, .int .i64 ay] 49 (0, 0))
      replace kk := kk.alloc (.cells #[.int .i64 ax, .int .i64 ay] 49 (0, 0))
      have p := PtB.made wr ax ay
      have p0 := p.c0
      have p1 := p.c1
      clear x0 x1 x2 x3 x4 x5 y0 y1
      have y0 := d.c0
      have y1 := d.c1
      clear p
      have ix := ixA0 ax ay bx yb cx yc
      go_wp2_with fail
      with_reducible refine (qa1.out _ kk).mono ?_
      rintro e w2 ⟨rfl, k⟩
      replace s := s.kept k (by simp)
      replace d := d.kept k (by simp)
      replace m := m.kept k (by simp)
      replace kk := kk.trans k
      clear k y0 y1 p0 p1 ix
      have f0 := m.f 0
      have f1 := m.f 1
      have c0 := m.c (i := 0) rfl
      have c1 := m.c (i := 1) rfl
      replace m : ArB 75 _ mb [(ax + dx), (ay + dy), 0, 0, 0, 0] := m.set2 0 (ax + dx) (ay + dy)
      replace s := s.far2 hne1 0 1 (.int .i64 (ax + dx)) (.int .i64 (ay + dy))
      replace d := d.farN hne2 0 1 (.int .i64 (ax + dx)) (.int .i64 (ay + dy))
      replace kk := kp_at2 kk hm 0 1 (.int .i64 (ax + dx)) (.int .i64 (ay + dy))
      go_wp2
      go_roundw
      case rel => exact ⟨1, by omega, rfl, s, d, m, kk⟩
      case measure => simp [intOf]
    rcases k with _ | k
    · replace m : ArB 75 wr mb [(ax + dx), (ay + dy), 0, 0, 0, 0] := m
      replace s := s.alloc (.cells #[.int .i64 bx, .int .i64 yb] 49 (0, 0))
      replace d := d.alloc (.cells #[.int .i64 bx, .int .i64 yb] 49 (0, 0))
      replace m := m.alloc (.cells #[.int .i64 bx, .int .i64 yb] 49 (0, 0))
      replace kk := kk.alloc (.cells #[.int .i64 bx, .int .i64 yb] 49 (0, 0))
      have p := PtB.made wr bx yb
      have p0 := p.c0
      have p1 := p.c1
      clear x0 x1 x2 x3 x4 x5 y0 y1
      have y0 := d.c0
      have y1 := d.c1
      clear p
      have ix := ixA1 ax ay bx yb cx yc
      go_wp2_with fail
      with_reducible refine (qa2.out _ kk).mono ?_
      rintro e w2 ⟨rfl, k⟩
      replace s := s.kept k (by simp)
      replace d := d.kept k (by simp)
      replace m := m.kept k (by simp)
      replace kk := kk.trans k
      clear k y0 y1 p0 p1 ix
      have f0 := m.f 2
      have f1 := m.f 3
      have c0 := m.c (i := 2) rfl
      have c1 := m.c (i := 3) rfl
      replace m : ArB 75 _ mb [(ax + dx), (ay + dy), (bx + dx), (yb + dy), 0, 0] := m.set2 2 (bx + dx) (yb + dy)
      replace s := s.far2 hne1 2 3 (.int .i64 (bx + dx)) (.int .i64 (yb + dy))
      replace d := d.farN hne2 2 3 (.int .i64 (bx + dx)) (.int .i64 (yb + dy))
      replace kk := kp_at2 kk hm 2 3 (.int .i64 (bx + dx)) (.int .i64 (yb + dy))
      go_wp2
      go_roundw
      case rel => exact ⟨2, by omega, rfl, s, d, m, kk⟩
      case measure => simp [intOf]
    rcases k with _ | k
    · replace m : ArB 75 wr mb [(ax + dx), (ay + dy), (bx + dx), (yb + dy), 0, 0] := m
      replace s := s.alloc (.cells #[.int .i64 cx, .int .i64 yc] 49 (0, 0))
      replace d := d.alloc (.cells #[.int .i64 cx, .int .i64 yc] 49 (0, 0))
      replace m := m.alloc (.cells #[.int .i64 cx, .int .i64 yc] 49 (0, 0))
      replace kk := kk.alloc (.cells #[.int .i64 cx, .int .i64 yc] 49 (0, 0))
      have p := PtB.made wr cx yc
      have p0 := p.c0
      have p1 := p.c1
      clear x0 x1 x2 x3 x4 x5 y0 y1
      have y0 := d.c0
      have y1 := d.c1
      clear p
      have ix := ixA2 ax ay bx yb cx yc
      go_wp2_with fail
      with_reducible refine (qa3.out _ kk).mono ?_
      rintro e w2 ⟨rfl, k⟩
      replace s := s.kept k (by simp)
      replace d := d.kept k (by simp)
      replace m := m.kept k (by simp)
      replace kk := kk.trans k
      clear k y0 y1 p0 p1 ix
      have f0 := m.f 4
      have f1 := m.f 5
      have c0 := m.c (i := 4) rfl
      have c1 := m.c (i := 5) rfl
      replace m : ArB 75 _ mb [(ax + dx), (ay + dy), (bx + dx), (yb + dy), (cx + dx), (yc + dy)] := m.set2 4 (cx + dx) (yc + dy)
      replace s := s.far2 hne1 4 5 (.int .i64 (cx + dx)) (.int .i64 (yc + dy))
      replace d := d.farN hne2 4 5 (.int .i64 (cx + dx)) (.int .i64 (yc + dy))
      replace kk := kp_at2 kk hm 4 5 (.int .i64 (cx + dx)) (.int .i64 (yc + dy))
      go_wp2
      go_roundw
      case rel => exact ⟨3, by omega, rfl, s, d, m, kk⟩
      case measure => simp [intOf]
    rcases k with _ | k
    · replace m : ArB 75 wr mb [(ax + dx), (ay + dy), (bx + dx), (yb + dy), (cx + dx), (yc + dy)] := m
      clear d y0 y1
      have m0 := m.c (i := 0) rfl
      have m1 := m.c (i := 1) rfl
      have m2 := m.c (i := 2) rfl
      have m3 := m.c (i := 3) rfl
      have m4 := m.c (i := 4) rfl
      have m5 := m.c (i := 5) rfl
      go_wp2_with fail
      with_reducible refine (q1.out _ kk).mono ?_
      rintro e v1 ⟨rfl, k⟩
      replace s := s.kept k (by simp)
      replace kk := kk.trans k
      replace m := m.kept k (by simp)
      clear x0 x1 x2 x3 x4 x5
      clear m0 m1 m2 m3 m4 m5
      clear k
      have x0 := s.c (i := 0) rfl
      have x1 := s.c (i := 1) rfl
      have x2 := s.c (i := 2) rfl
      have x3 := s.c (i := 3) rfl
      have x4 := s.c (i := 4) rfl
      have x5 := s.c (i := 5) rfl
      have m0 := m.c (i := 0) rfl
      have m1 := m.c (i := 1) rfl
      have m2 := m.c (i := 2) rfl
      have m3 := m.c (i := 3) rfl
      have m4 := m.c (i := 4) rfl
      have m5 := m.c (i := 5) rfl
      have g := ArB.made 75 v1 [(ax + dx), (ay + dy), (bx + dx), (yb + dy), (cx + dx), (yc + dy), bx, yb, cx, yc, ax, ay, cx, yc, ax, ay, bx, yb]
      replace s := s.alloc (.cells #[.int .i64 (ax + dx), .int .i64 (ay + dy), .int .i64 (bx + dx), .int .i64 (yb + dy), .int .i64 (cx + dx), .int .i64 (yc + dy), .int .i64 bx, .int .i64 yb, .int .i64 cx, .int .i64 yc, .int .i64 ax, .int .i64 ay, .int .i64 cx, .int .i64 yc, .int .i64 ax, .int .i64 ay, .int .i64 bx, .int .i64 yb] 75 (0, 0))
      replace kk := kk.alloc (.cells #[.int .i64 (ax + dx), .int .i64 (ay + dy), .int .i64 (bx + dx), .int .i64 (yb + dy), .int .i64 (cx + dx), .int .i64 (yc + dy), .int .i64 bx, .int .i64 yb, .int .i64 cx, .int .i64 yc, .int .i64 ax, .int .i64 ay, .int .i64 cx, .int .i64 yc, .int .i64 ax, .int .i64 ay, .int .i64 bx, .int .i64 yb] 75 (0, 0))
      generalize hgb : v1.heap.size = gb at *
      go_wp2_with (refine wpList_stepN rfl (op_bsA3 rfl rfl rfl rfl) (by simp only [Act.put, World.size_alloc, hgb, List.setIfInBounds_toArray, List.set_cons_succ, List.set_cons_zero]; rfl) ?_)
      go_loopw [83] (fun s83 wr => ∃ k : Nat, k ≤ 3 ∧ s83 = .int .i64 k ∧ ArB 75 wr w.heap.size [ax, ay, bx, yb, cx, yc] ∧ ArB 75 wr gb [(ax + dx), (ay + dy), (bx + dx), (yb + dy), (cx + dx), (yc + dy), bx, yb, cx, yc, ax, ay, cx, yc, ax, ay, bx, yb] ∧ Kp [] w wr)
        (fun s83 _ => 3 - (intOf s83).toNat)
      case atStart => exact ⟨0, by omega, rfl, s, g, kk⟩
      case round =>
        obtain ⟨k, hk1, rfl, s, g, kk⟩ := hrel
        rcases k with _ | k
        · skip
          have g0 := g.c (i := 0) rfl
          have g1 := g.c (i := 1) rfl
          have g2 := g.c (i := 2) rfl
          have g3 := g.c (i := 3) rfl
          have g4 := g.c (i := 4) rfl
          have g5 := g.c (i := 5) rfl
          replace s := s.alloc (.cells #[.int .i64 (ax + dx), .int .i64 (ay + dy), .int .i64 (bx + dx), .int .i64 (yb + dy), .int .i64 (cx + dx), .int .i64 (yc + dy)] 75 (0, 0))
          replace g := g.alloc (.cells #[.int .i64 (ax + dx), .int .i64 (ay + dy), .int .i64 (bx + dx), .int .i64 (yb + dy), .int .i64 (cx + dx), .int .i64 (yc + dy)] 75 (0, 0))
          replace kk := kk.alloc (.cells #[.int .i64 (ax + dx), .int .i64 (ay + dy), .int .i64 (bx + dx), .int .i64 (yb + dy), .int .i64 (cx + dx), .int .i64 (yc + dy)] 75 (0, 0))
          have p := ArB.made 75 wr [(ax + dx), (ay + dy), (bx + dx), (yb + dy), (cx + dx), (yc + dy)]
          have p0 := p.c (i := 0) rfl
          have p1 := p.c (i := 1) rfl
          have p2 := p.c (i := 2) rfl
          have p3 := p.c (i := 3) rfl
          have p4 := p.c (i := 4) rfl
          have p5 := p.c (i := 5) rfl
          clear p
          go_wp2_with fail
          with_reducible refine (q2.out _ kk).mono ?_
          rintro e w9 ⟨rfl, k⟩
          replace s := s.kept k (by simp)
          replace g := g.kept k (by simp)
          replace kk := kk.trans k
          clear k g0 g1 g2 g3 g4 g5 p0 p1 p2 p3 p4 p5
          go_wp2
          go_roundw
          case rel => exact ⟨1, by omega, rfl, s, g, kk⟩
          case measure => simp [intOf]
        rcases k with _ | k
        · skip
          have g0 := g.c (i := 6) rfl
          have g1 := g.c (i := 7) rfl
          have g2 := g.c (i := 8) rfl
          have g3 := g.c (i := 9) rfl
          have g4 := g.c (i := 10) rfl
          have g5 := g.c (i := 11) rfl
          replace s := s.alloc (.cells #[.int .i64 bx, .int .i64 yb, .int .i64 cx, .int .i64 yc, .int .i64 ax, .int .i64 ay] 75 (0, 0))
          replace g := g.alloc (.cells #[.int .i64 bx, .int .i64 yb, .int .i64 cx, .int .i64 yc, .int .i64 ax, .int .i64 ay] 75 (0, 0))
          replace kk := kk.alloc (.cells #[.int .i64 bx, .int .i64 yb, .int .i64 cx, .int .i64 yc, .int .i64 ax, .int .i64 ay] 75 (0, 0))
          have p := ArB.made 75 wr [bx, yb, cx, yc, ax, ay]
          have p0 := p.c (i := 0) rfl
          have p1 := p.c (i := 1) rfl
          have p2 := p.c (i := 2) rfl
          have p3 := p.c (i := 3) rfl
          have p4 := p.c (i := 4) rfl
          have p5 := p.c (i := 5) rfl
          clear p
          go_wp2_with fail
          with_reducible refine (q3.out _ kk).mono ?_
          rintro e w9 ⟨rfl, k⟩
          replace s := s.kept k (by simp)
          replace g := g.kept k (by simp)
          replace kk := kk.trans k
          clear k g0 g1 g2 g3 g4 g5 p0 p1 p2 p3 p4 p5
          go_wp2
          go_roundw
          case rel => exact ⟨2, by omega, rfl, s, g, kk⟩
          case measure => simp [intOf]
        rcases k with _ | k
        · skip
          have g0 := g.c (i := 12) rfl
          have g1 := g.c (i := 13) rfl
          have g2 := g.c (i := 14) rfl
          have g3 := g.c (i := 15) rfl
          have g4 := g.c (i := 16) rfl
          have g5 := g.c (i := 17) rfl
          replace s := s.alloc (.cells #[.int .i64 cx, .int .i64 yc, .int .i64 ax, .int .i64 ay, .int .i64 bx, .int .i64 yb] 75 (0, 0))
          replace g := g.alloc (.cells #[.int .i64 cx, .int .i64 yc, .int .i64 ax, .int .i64 ay, .int .i64 bx, .int .i64 yb] 75 (0, 0))
          replace kk := kk.alloc (.cells #[.int .i64 cx, .int .i64 yc, .int .i64 ax, .int .i64 ay, .int .i64 bx, .int .i64 yb] 75 (0, 0))
          have p := ArB.made 75 wr [cx, yc, ax, ay, bx, yb]
          have p0 := p.c (i := 0) rfl
          have p1 := p.c (i := 1) rfl
          have p2 := p.c (i := 2) rfl
          have p3 := p.c (i := 3) rfl
          have p4 := p.c (i := 4) rfl
          have p5 := p.c (i := 5) rfl
          clear p
          go_wp2_with fail
          with_reducible refine (q4.out _ kk).mono ?_
          rintro e w9 ⟨rfl, k⟩
          replace s := s.kept k (by simp)
          replace g := g.kept k (by simp)
          replace kk := kk.trans k
          clear k g0 g1 g2 g3 g4 g5 p0 p1 p2 p3 p4 p5
          go_wp2
          go_roundw
          case rel => exact ⟨3, by omega, rfl, s, g, kk⟩
          case measure => simp [intOf]
        rcases k with _ | k
        · clear g
          have x0 := s.c (i := 0) rfl
          have x1 := s.c (i := 1) rfl
          have x2 := s.c (i := 2) rfl
          have x3 := s.c (i := 3) rfl
          have x4 := s.c (i := 4) rfl
          have x5 := s.c (i := 5) rfl
          go_wp2_with fail
          with_reducible refine (q5.out _ kk).mono ?_
          rintro e w5 ⟨rfl, k⟩
          replace s := s.kept k (by simp)
          clear x0 x1 x2 x3 x4 x5
          replace kk := kk.trans k
          clear k
          have x0 := s.c (i := 0) rfl
          have x1 := s.c (i := 1) rfl
          have x2 := s.c (i := 2) rfl
          have x3 := s.c (i := 3) rfl
          have x4 := s.c (i := 4) rfl
          have x5 := s.c (i := 5) rfl
          go_wp2_with fail
          with_reducible refine (q6.out _ kk).mono ?_
          rintro e w6 ⟨rfl, k⟩
          replace s := s.kept k (by simp)
          clear x0 x1 x2 x3 x4 x5
          replace kk := kk.trans k
          clear k
          have x0 := s.c (i := 0) rfl
          have x1 := s.c (i := 1) rfl
          have x2 := s.c (i := 2) rfl
          have x3 := s.c (i := 3) rfl
          have x4 := s.c (i := 4) rfl
          have x5 := s.c (i := 5) rfl
          go_wp2_with fail
          rw [frame_lit]
          refine reg_reflF vtn_y (fun k => ([.pointer (some ⟨w.heap.size, 0, none⟩), .pointer (some ⟨w.heap.size, 2, none⟩), .int .i64 bx, .int .i64 ax, .pointer (some ⟨w.heap.size, 3, none⟩), .pointer (some ⟨w.heap.size, 1, none⟩), .int .i64 yb, .int .i64 ay, .pointer (some ⟨w.heap.size, 4, none⟩), .int .i64 cx, .pointer (some ⟨w.heap.size, 5, none⟩), .int .i64 yc, .agg #[.int .i64 (bx - ax), .int .i64 (yb - ay)], .agg #[.int .i64 (cx - ax), .int .i64 (yc - ay)], .int .i64 (bx - ax), .int .i64 (yb - ay), .int .i64 (cx - ax), .int .i64 (yc - ay)] : List Value).getD k undef) [] (PF 30 31 w6.heap.size) (PE 30 31 (bx - ax) (yb - ay) (cx - ax) (yc - ay)) (opsOf 19 Tryz.f8) [0, 1, 2, 3, 4, 5, 6, 7, 8, 9, 10, 11, 12, 13, 15, 16, 17, 18, 19, 20, 21, 22, 23, 24, 25, 26, 27, 28] vtn_ca [32, 33] [30, 31] (by kernel_rfl) (by kernel_rfl) vtn_ok ⟨rfl, trivial⟩ ?sp ?ca ?cx ?fr (PE.zero _) (fun c v w1 w2 h k => h.kept k) (fun c v w0 w1 j u h k hf hn hu => h.free (by decide) k hf hn hu) (fun i u w1 w2 h k => h.kept k) ?rest
          case sp =>
            refine ⟨?_, ?_, ?_, ?_, ?_, ?_, ?_, ?_, ?_, ?_, ?_, ?_, ?_, ?_, ?_, ?_, ?_, ?_, ?_, ?_, ?_, ?_, ?_, ?_, ?_, ?_, ?_, ?_, trivial⟩
            · intro T wz H o ho; have he : o.op = .indexAddr 75 (.tmp 2) (.const (.int .i64 1)) := Option.some.inj ((congrArg (fun z => z.map Oper.op) ho).symm.trans (show ((opsOf 19 Tryz.f8)[0]?).map Oper.op = some (.indexAddr 75 (.tmp 2) (.const (.int .i64 1))) by kernel_rfl)); exact op_iaP1 he (H.ev (.tmp 2) (.at 0) (by kernel_rfl))
            · intro T wz H o ho; have he : o.op = .fieldAddr 49 (.tmp 125) 0 := Option.some.inj ((congrArg (fun z => z.map Oper.op) ho).symm.trans (show ((opsOf 19 Tryz.f8)[1]?).map Oper.op = some (.fieldAddr 49 (.tmp 125) 0) by kernel_rfl)); exact op_faP0 he (H.ev (.tmp 125) (.at 1) (by kernel_rfl))
            · intro T wz H o ho; have he : o.op = .load 3 (.tmp 126) := Option.some.inj ((congrArg (fun z => z.map Oper.op) ho).symm.trans (show ((opsOf 19 Tryz.f8)[2]?).map Oper.op = some (.load 3 (.tmp 126)) by kernel_rfl)); exact op_ldI he (H.ev (.tmp 126) (.at 1) (by kernel_rfl)) ((ArB.kept (L := []) (show ArB 75 (World.drew w6) w.heap.size [ax, ay, bx, yb, cx, yc] from s) H.kp (by simp)).c (i := 2) rfl)
            · intro T wz H o ho; have he : o.op = .indexAddr 75 (.tmp 2) (.const (.int .i64 0)) := Option.some.inj ((congrArg (fun z => z.map Oper.op) ho).symm.trans (show ((opsOf 19 Tryz.f8)[3]?).map Oper.op = some (.indexAddr 75 (.tmp 2) (.const (.int .i64 0))) by kernel_rfl)); exact op_iaP0 he (H.ev (.tmp 2) (.at 0) (by kernel_rfl))
            · intro T wz H o ho; have he : o.op = .fieldAddr 49 (.tmp 128) 0 := Option.some.inj ((congrArg (fun z => z.map Oper.op) ho).symm.trans (show ((opsOf 19 Tryz.f8)[4]?).map Oper.op = some (.fieldAddr 49 (.tmp 128) 0) by kernel_rfl)); exact op_faP0 he (H.ev (.tmp 128) (.at 0) (by kernel_rfl))
            · intro T wz H o ho; have he : o.op = .load 3 (.tmp 129) := Option.some.inj ((congrArg (fun z => z.map Oper.op) ho).symm.trans (show ((opsOf 19 Tryz.f8)[5]?).map Oper.op = some (.load 3 (.tmp 129)) by kernel_rfl)); exact op_ldI he (H.ev (.tmp 129) (.at 0) (by kernel_rfl)) ((ArB.kept (L := []) (show ArB 75 (World.drew w6) w.heap.size [ax, ay, bx, yb, cx, yc] from s) H.kp (by simp)).c (i := 0) rfl)
            · intro T wz H o ho; have he : o.op = .binOp .sub 3 (.tmp 127) (.tmp 130) 3 := Option.some.inj ((congrArg (fun z => z.map Oper.op) ho).symm.trans (show ((opsOf 19 Tryz.f8)[6]?).map Oper.op = some (.binOp .sub 3 (.tmp 127) (.tmp 130) 3) by kernel_rfl)); exact op_subI he (H.ev (.tmp 127) (.at 2) (by kernel_rfl)) (H.ev (.tmp 130) (.at 3) (by kernel_rfl)) (by omega)
            · intro T wz H o ho; have he : o.op = .indexAddr 75 (.tmp 2) (.const (.int .i64 1)) := Option.some.inj ((congrArg (fun z => z.map Oper.op) ho).symm.trans (show ((opsOf 19 Tryz.f8)[7]?).map Oper.op = some (.indexAddr 75 (.tmp 2) (.const (.int .i64 1))) by kernel_rfl)); exact op_iaP1 he (H.ev (.tmp 2) (.at 0) (by kernel_rfl))
            · intro T wz H o ho; have he : o.op = .fieldAddr 49 (.tmp 132) 1 := Option.some.inj ((congrArg (fun z => z.map Oper.op) ho).symm.trans (show ((opsOf 19 Tryz.f8)[8]?).map Oper.op = some (.fieldAddr 49 (.tmp 132) 1) by kernel_rfl)); exact op_faP1 he (H.ev (.tmp 132) (.at 1) (by kernel_rfl))
            · intro T wz H o ho; have he : o.op = .load 3 (.tmp 133) := Option.some.inj ((congrArg (fun z => z.map Oper.op) ho).symm.trans (show ((opsOf 19 Tryz.f8)[9]?).map Oper.op = some (.load 3 (.tmp 133)) by kernel_rfl)); exact op_ldI he (H.ev (.tmp 133) (.at 4) (by kernel_rfl)) ((ArB.kept (L := []) (show ArB 75 (World.drew w6) w.heap.size [ax, ay, bx, yb, cx, yc] from s) H.kp (by simp)).c (i := 3) rfl)
            · intro T wz H o ho; have he : o.op = .indexAddr 75 (.tmp 2) (.const (.int .i64 0)) := Option.some.inj ((congrArg (fun z => z.map Oper.op) ho).symm.trans (show ((opsOf 19 Tryz.f8)[10]?).map Oper.op = some (.indexAddr 75 (.tmp 2) (.const (.int .i64 0))) by kernel_rfl)); exact op_iaP0 he (H.ev (.tmp 2) (.at 0) (by kernel_rfl))
            · intro T wz H o ho; have he : o.op = .fieldAddr 49 (.tmp 135) 1 := Option.some.inj ((congrArg (fun z => z.map Oper.op) ho).symm.trans (show ((opsOf 19 Tryz.f8)[11]?).map Oper.op = some (.fieldAddr 49 (.tmp 135) 1) by kernel_rfl)); exact op_faP1 he (H.ev (.tmp 135) (.at 0) (by kernel_rfl))
            · intro T wz H o ho; have he : o.op = .load 3 (.tmp 136) := Option.some.inj ((congrArg (fun z => z.map Oper.op) ho).symm.trans (show ((opsOf 19 Tryz.f8)[12]?).map Oper.op = some (.load 3 (.tmp 136)) by kernel_rfl)); exact op_ldI he (H.ev (.tmp 136) (.at 5) (by kernel_rfl)) ((ArB.kept (L := []) (show ArB 75 (World.drew w6) w.heap.size [ax, ay, bx, yb, cx, yc] from s) H.kp (by simp)).c (i := 1) rfl)
            · intro T wz H o ho; have he : o.op = .binOp .sub 3 (.tmp 134) (.tmp 137) 3 := Option.some.inj ((congrArg (fun z => z.map Oper.op) ho).symm.trans (show ((opsOf 19 Tryz.f8)[13]?).map Oper.op = some (.binOp .sub 3 (.tmp 134) (.tmp 137) 3) by kernel_rfl)); exact op_subI he (H.ev (.tmp 134) (.at 6) (by kernel_rfl)) (H.ev (.tmp 137) (.at 7) (by kernel_rfl)) (by omega)
            · intro T wz H o ho; have he : o.op = .indexAddr 75 (.tmp 2) (.const (.int .i64 2)) := Option.some.inj ((congrArg (fun z => z.map Oper.op) ho).symm.trans (show ((opsOf 19 Tryz.f8)[15]?).map Oper.op = some (.indexAddr 75 (.tmp 2) (.const (.int .i64 2))) by kernel_rfl)); exact op_iaP2 he (H.ev (.tmp 2) (.at 0) (by kernel_rfl))
            · intro T wz H o ho; have he : o.op = .fieldAddr 49 (.tmp 140) 0 := Option.some.inj ((congrArg (fun z => z.map Oper.op) ho).symm.trans (show ((opsOf 19 Tryz.f8)[16]?).map Oper.op = some (.fieldAddr 49 (.tmp 140) 0) by kernel_rfl)); exact op_faP0 he (H.ev (.tmp 140) (.at 8) (by kernel_rfl))
            · intro T wz H o ho; have he : o.op = .load 3 (.tmp 141) := Option.some.inj ((congrArg (fun z => z.map Oper.op) ho).symm.trans (show ((opsOf 19 Tryz.f8)[17]?).map Oper.op = some (.load 3 (.tmp 141)) by kernel_rfl)); exact op_ldI he (H.ev (.tmp 141) (.at 8) (by kernel_rfl)) ((ArB.kept (L := []) (show ArB 75 (World.drew w6) w.heap.size [ax, ay, bx, yb, cx, yc] from s) H.kp (by simp)).c (i := 4) rfl)
            · intro T wz H o ho; have he : o.op = .indexAddr 75 (.tmp 2) (.const (.int .i64 0)) := Option.some.inj ((congrArg (fun z => z.map Oper.op) ho).symm.trans (show ((opsOf 19 Tryz.f8)[18]?).map Oper.op = some (.indexAddr 75 (.tmp 2) (.const (.int .i64 0))) by kernel_rfl)); exact op_iaP0 he (H.ev (.tmp 2) (.at 0) (by kernel_rfl))
            · intro T wz H o ho; have he : o.op = .fieldAddr 49 (.tmp 143) 0 := Option.some.inj ((congrArg (fun z => z.map Oper.op) ho).symm.trans (show ((opsOf 19 Tryz.f8)[19]?).map Oper.op = some (.fieldAddr 49 (.tmp 143) 0) by kernel_rfl)); exact op_faP0 he (H.ev (.tmp 143) (.at 0) (by kernel_rfl))
            · intro T wz H o ho; have he : o.op = .load 3 (.tmp 144) := Option.some.inj ((congrArg (fun z => z.map Oper.op) ho).symm.trans (show ((opsOf 19 Tryz.f8)[20]?).map Oper.op = some (.load 3 (.tmp 144)) by kernel_rfl)); exact op_ldI he (H.ev (.tmp 144) (.at 0) (by kernel_rfl)) ((ArB.kept (L := []) (show ArB 75 (World.drew w6) w.heap.size [ax, ay, bx, yb, cx, yc] from s) H.kp (by simp)).c (i := 0) rfl)
            · intro T wz H o ho; have he : o.op = .binOp .sub 3 (.tmp 142) (.tmp 145) 3 := Option.some.inj ((congrArg (fun z => z.map Oper.op) ho).symm.trans (show ((opsOf 19 Tryz.f8)[21]?).map Oper.op = some (.binOp .sub 3 (.tmp 142) (.tmp 145) 3) by kernel_rfl)); exact op_subI he (H.ev (.tmp 142) (.at 9) (by kernel_rfl)) (H.ev (.tmp 145) (.at 3) (by kernel_rfl)) (by omega)
            · intro T wz H o ho; have he : o.op = .indexAddr 75 (.tmp 2) (.const (.int .i64 2)) := Option.some.inj ((congrArg (fun z => z.map Oper.op) ho).symm.trans (show ((opsOf 19 Tryz.f8)[22]?).map Oper.op = some (.indexAddr 75 (.tmp 2) (.const (.int .i64 2))) by kernel_rfl)); exact op_iaP2 he (H.ev (.tmp 2) (.at 0) (by kernel_rfl))
            · intro T wz H o ho; have he : o.op = .fieldAddr 49 (.tmp 147) 1 := Option.some.inj ((congrArg (fun z => z.map Oper.op) ho).symm.trans (show ((opsOf 19 Tryz.f8)[23]?).map Oper.op = some (.fieldAddr 49 (.tmp 147) 1) by kernel_rfl)); exact op_faP1 he (H.ev (.tmp 147) (.at 8) (by kernel_rfl))
            · intro T wz H o ho; have he : o.op = .load 3 (.tmp 148) := Option.some.inj ((congrArg (fun z => z.map Oper.op) ho).symm.trans (show ((opsOf 19 Tryz.f8)[24]?).map Oper.op = some (.load 3 (.tmp 148)) by kernel_rfl)); exact op_ldI he (H.ev (.tmp 148) (.at 10) (by kernel_rfl)) ((ArB.kept (L := []) (show ArB 75 (World.drew w6) w.heap.size [ax, ay, bx, yb, cx, yc] from s) H.kp (by simp)).c (i := 5) rfl)
            · intro T wz H o ho; have he : o.op = .indexAddr 75 (.tmp 2) (.const (.int .i64 0)) := Option.some.inj ((congrArg (fun z => z.map Oper.op) ho).symm.trans (show ((opsOf 19 Tryz.f8)[25]?).map Oper.op = some (.indexAddr 75 (.tmp 2) (.const (.int .i64 0))) by kernel_rfl)); exact op_iaP0 he (H.ev (.tmp 2) (.at 0) (by kernel_rfl))
            · intro T wz H o ho; have he : o.op = .fieldAddr 49 (.tmp 150) 1 := Option.some.inj ((congrArg (fun z => z.map Oper.op) ho).symm.trans (show ((opsOf 19 Tryz.f8)[26]?).map Oper.op = some (.fieldAddr 49 (.tmp 150) 1) by kernel_rfl)); exact op_faP1 he (H.ev (.tmp 150) (.at 0) (by kernel_rfl))
            · intro T wz H o ho; have he : o.op = .load 3 (.tmp 151) := Option.some.inj ((congrArg (fun z => z.map Oper.op) ho).symm.trans (show ((opsOf 19 Tryz.f8)[27]?).map Oper.op = some (.load 3 (.tmp 151)) by kernel_rfl)); exact op_ldI he (H.ev (.tmp 151) (.at 5) (by kernel_rfl)) ((ArB.kept (L := []) (show ArB 75 (World.drew w6) w.heap.size [ax, ay, bx, yb, cx, yc] from s) H.kp (by simp)).c (i := 1) rfl)
            · intro T wz H o ho; have he : o.op = .binOp .sub 3 (.tmp 149) (.tmp 152) 3 := Option.some.inj ((congrArg (fun z => z.map Oper.op) ho).symm.trans (show ((opsOf 19 Tryz.f8)[28]?).map Oper.op = some (.binOp .sub 3 (.tmp 149) (.tmp 152) 3) by kernel_rfl)); exact op_subI he (H.ev (.tmp 149) (.at 11) (by kernel_rfl)) (H.ev (.tmp 152) (.at 7) (by kernel_rfl)) (by omega)
          case ca =>
            refine ⟨?_, ?_, trivial⟩
            · exact ⟨(enters_of Tryz.func49 (by kernel_rfl) rfl), fun wz hk => (qu.out wz (kk.drew.trans hk)).mono fun x w2 ⟨h1, h2⟩ => ⟨_, h1, h2, fun _ => rfl, fun V hE => hE.call h2 (by decide) (by decide) (by decide) _⟩⟩
            · exact ⟨(enters_of Tryz.func49 (by kernel_rfl) rfl), fun wz hk => (qv.out wz (kk.drew.trans hk)).mono fun x w2 ⟨h1, h2⟩ => ⟨_, h1, h2, fun _ => rfl, fun V hE => hE.call h2 (by decide) (by decide) (by decide) _⟩⟩
          case cx =>
            refine ⟨?_, ?_, trivial⟩
            · intro l T wz hM H hdn o ho; obtain ⟨h, e1, e2, x1, y1, hp⟩ := (H.fr 30 (by decide : 30 < 34) rfl (by kernel_rfl)) (by decide); have he : o.op = .store 49 (.tmp 18) (.tmp 139) := Option.some.inj ((congrArg (fun z => z.map Oper.op) ho).symm.trans (show ((opsOf 19 Tryz.f8)[32]?).map Oper.op = some (.store 49 (.tmp 18) (.tmp 139)) by kernel_rfl)); refine ⟨_, op_stP he ((frame_eval (N := 231) (d := 18) (by decide)).trans e1) (H.ev (.tmp 139) (.at 12) (by kernel_rfl)) hp, kp_pt2 H.kp e2 _ _, fun j u hf => hf.set h _ _ _ _ hp, rfl, rfl, ?_⟩; exact PE.store1 (show PE 30 31 _ _ _ _ 2 _ wz from hM.ext) ((if_pos (show 30 < vtn_y.st.m ∧ vtn_y.st.kind 30 ≠ 0 ∧ l.getD 30 false = true from ⟨by decide, by decide, hdn 30 (by kernel_rfl)⟩)).trans e1) hp (by decide) (by decide) _
            · intro l T wz hM H hdn o ho; obtain ⟨h, e1, e2, x1, y1, hp⟩ := (H.fr 31 (by decide : 31 < 34) rfl (by kernel_rfl)) (by decide); have he : o.op = .store 49 (.tmp 19) (.tmp 154) := Option.some.inj ((congrArg (fun z => z.map Oper.op) ho).symm.trans (show ((opsOf 19 Tryz.f8)[33]?).map Oper.op = some (.store 49 (.tmp 19) (.tmp 154)) by kernel_rfl)); refine ⟨_, op_stP he ((frame_eval (N := 231) (d := 19) (by decide)).trans e1) (H.ev (.tmp 154) (.at 13) (by kernel_rfl)) hp, kp_pt2 H.kp e2 _ _, fun j u hf => hf.set h _ _ _ _ hp, rfl, rfl, ?_⟩; exact PE.store2 (show PE 30 31 _ _ _ _ 3 _ wz from hM.ext) ((if_pos (show 31 < vtn_y.st.m ∧ vtn_y.st.kind 31 ≠ 0 ∧ l.getD 31 false = true from ⟨by decide, by decide, hdn 31 (by kernel_rfl)⟩)).trans e1) hp (by decide) (by decide) _
          case fr =>
            refine ⟨?_, ?_, trivial⟩
            · intro T wz H o ho; have he : o.op = .alloc 49 := Option.some.inj ((congrArg (fun z => z.map Oper.op) ho).symm.trans (show ((opsOf 19 Tryz.f8)[30]?).map Oper.op = some (.alloc 49) by kernel_rfl)); exact ⟨_, _, op_alP he, fun _ => ⟨_, rfl, Nat.le_trans (show w6.heap.size ≤ (World.drew w6).heap.size from Nat.le_refl _) H.kp.size, 0, 0, PtB.made wz 0 0⟩, (Kp.refl _ _).alloc _, fun b o p e => by cases e; exact Nat.le_refl _⟩
            · intro T wz H o ho; have he : o.op = .alloc 49 := Option.some.inj ((congrArg (fun z => z.map Oper.op) ho).symm.trans (show ((opsOf 19 Tryz.f8)[31]?).map Oper.op = some (.alloc 49) by kernel_rfl)); exact ⟨_, _, op_alP he, fun _ => ⟨_, rfl, Nat.le_trans (show w6.heap.size ≤ (World.drew w6).heap.size from Nat.le_refl _) H.kp.size, 0, 0, PtB.made wz 0 0⟩, (Kp.refl _ _).alloc _, fun b o p e => by cases e; exact Nat.le_refl _⟩
          case rest =>
            intro T w7 hout hval k hF hE
            rw [show frameOf vtn_y.st.N T = (⟨#[T 0, T 1, T 2, T 3, T 4, T 5, T 6, T 7, T 8, T 9, T 10, T 11, T 12, T 13, T 14, T 15, T 16, T 17, T 18, T 19, T 20, T 21, T 22, T 23, T 24, T 25, T 26, T 27, T 28, T 29, T 30, T 31, T 32, T 33, T 34, T 35, T 36, T 37, T 38, T 39, T 40, T 41, T 42, T 43, T 44, T 45, T 46, T 47, T 48, T 49, T 50, T 51, T 52, T 53, T 54, T 55, T 56, T 57, T 58, T 59, T 60, T 61, T 62, T 63, T 64, T 65, T 66, T 67, T 68, T 69, T 70, T 71, T 72, T 73, T 74, T 75, T 76, T 77, T 78, T 79, T 80, T 81, T 82, T 83, T 84, T 85, T 86, T 87, T 88, T 89, T 90, T 91, T 92, T 93, T 94, T 95, T 96, T 97, T 98, T 99, T 100, T 101, T 102, T 103, T 104, T 105, T 106, T 107, T 108, T 109, T 110, T 111, T 112, T 113, T 114, T 115, T 116, T 117, T 118, T 119, T 120, T 121, T 122, T 123, T 124, T 125, T 126, T 127, T 128, T 129, T 130, T 131, T 132, T 133, T 134, T 135, T 136, T 137, T 138, T 139, T 140, T 141, T 142, T 143, T 144, T 145, T 146, T 147, T 148, T 149, T 150, T 151, T 152, T 153, T 154, T 155, T 156, T 157, T 158, T 159, T 160, T 161, T 162, T 163, T 164, T 165, T 166, T 167, T 168, T 169, T 170, T 171, T 172, T 173, T 174, T 175, T 176, T 177, T 178, T 179, T 180, T 181, T 182, T 183, T 184, T 185, T 186, T 187, T 188, T 189, T 190, T 191, T 192, T 193, T 194, T 195, T 196, T 197, T 198, T 199, T 200, T 201, T 202, T 203, T 204, T 205, T 206, T 207, T 208, T 209, T 210, T 211, T 212, T 213, T 214, T 215, T 216, T 217, T 218, T 219, T 220, T 221, T 222, T 223, T 224, T 225, T 226, T 227, T 228, T 229, T 230], []⟩ : Act) from frame_list 231 T]
            obtain ⟨g1, g2, e1, e2, pu, pv⟩ := PE.fin (show PE 30 31 _ _ _ _ 4 _ w7 from hE)
            replace e1 : T 18 = .pointer (some ⟨g1, 0, none⟩) := e1
            replace e2 : T 19 = .pointer (some ⟨g2, 0, none⟩) := e2
            rw [e1, e2, show T 2 = .pointer (some ⟨w.heap.size, 0, none⟩) from hout 2 rfl, show T 8 = .int .i64 x from hout 8 rfl, show T 9 = .int .i64 0 from hout 9 rfl, show T 14 = .int .i64 (-x) from hout 14 rfl, show T 15 = .int .i64 0 from hout 15 rfl, show T 16 = .int .i64 sg from hout 16 rfl, show T 17 = .int .i64 0 from hout 17 rfl]
            replace s := s.kept k (by simp)
            replace kk := kk.trans k
            clear hout hval k hF hE e1 e2
            clear x0 x1 x2 x3 x4 x5
            have x0 := s.c (i := 0) rfl
            have x1 := s.c (i := 1) rfl
            have x2 := s.c (i := 2) rfl
            have x3 := s.c (i := 3) rfl
            have x4 := s.c (i := 4) rfl
            have x5 := s.c (i := 5) rfl
            have pu0 := pu.c0
            have pu1 := pu.c1
            have pv0 := pv.c0
            have pv1 := pv.c1
            go_wp2_with fail
            with_reducible refine (q7.out _ kk).mono ?_
            rintro e w8 ⟨rfl, k⟩
            replace s := s.kept k (by simp)
            clear x0 x1 x2 x3 x4 x5
            clear pu pv pu0 pu1 pv0 pv1
            replace kk := kk.trans k
            clear k
            have x0 := s.c (i := 0) rfl
            have x1 := s.c (i := 1) rfl
            have x2 := s.c (i := 2) rfl
            have x3 := s.c (i := 3) rfl
            have x4 := s.c (i := 4) rfl
            have x5 := s.c (i := 5) rfl
            go_wp2_with fail
            with_reducible refine (q8.out _ kk).mono ?_
            rintro e w9 ⟨rfl, k⟩
            replace s := s.kept k (by simp)
            clear x0 x1 x2 x3 x4 x5
            replace kk := kk.trans k
            clear k
            have x0 := s.c (i := 0) rfl
            have x1 := s.c (i := 1) rfl
            have x2 := s.c (i := 2) rfl
            have x3 := s.c (i := 3) rfl
            have x4 := s.c (i := 4) rfl
            have x5 := s.c (i := 5) rfl
            go_wp2_with fail
            with_reducible refine (q9.out _ kk).mono ?_
            rintro e w9 ⟨rfl, k⟩
            replace s := s.kept k (by simp)
            clear x0 x1 x2 x3 x4 x5
            replace kk := kk.trans k
            clear k
            have x0 := s.c (i := 0) rfl
            have x1 := s.c (i := 1) rfl
            have x2 := s.c (i := 2) rfl
            have x3 := s.c (i := 3) rfl
            have x4 := s.c (i := 4) rfl
            have x5 := s.c (i := 5) rfl
            clear x0 x1 x2 x3 x4 x5 s
            clear lax uax lay uay lbx ubx lyb uyb lcx ucx lyc uyc ldx udx ldy udy
            clear qa1 qa2 qa3 q1 q2 q3 q4 q5 q6 q7 q8 q9 qu qv
            go_wp2_with fail
            with_reducible refine (aw.out _ kk).mono ?_
            rintro e w99 ⟨rfl, k⟩
            replace kk := kk.trans k
            go_wp2
            go_ret
            exact ⟨rfl, kk⟩
        · exact absurd hk1 (by omega)
    · exact absurd hk1 (by omega)

theorem inP_of {x y : Int} (h1 : -100000 ≤ x ∧ x ≤ 100000) (h2 : -100000 ≤ y ∧ y ≤ 100000) : inP (x, y) = true := by
  unfold inP
  rw [(inB_iff x).2 h1, (inB_iff y).2 h2]
  rfl
theorem w64 {z : Int} (h : -9223372036854775808 ≤ z ∧ z ≤ 9223372036854775807) : wrap64 z = z := by unfold wrap64; omega
theorem cmI_sq (x : Int) : cmI x 0 * cmI x 0 = (if x = 0 then 0 else 1) ∧ decide (cmI x 0 * cmI x 0 ≤ 1) = true ∧ (decide (0 < cmI x 0) == decide (0 < x)) = true ∧ (decide (cmI x 0 < 0) == decide (x < 0)) = true := by
  unfold cmI
  by_cases h1 : x < 0
  · rw [if_pos h1]
    have h2 : ¬ x = 0 := by omega
    have h3 : ¬ 0 < x := by omega
    simp [h1, h2, h3]
  · by_cases h3 : 0 < x
    · rw [if_neg h1, if_pos h3]
      have h2 : ¬ x = 0 := by omega
      simp [h1, h2, h3]
    · have h2 : x = 0 := by omega
      subst h2
      simp

theorem Turns_any (ax ay bx yb cx yc dx dy : Int) (w : World) (hT : Tab w) :
    Calls Tryz.prog 8 #[.agg #[.int .i64 ax, .int .i64 ay, .int .i64 bx, .int .i64 yb, .int .i64 cx, .int .i64 yc], .agg #[.int .i64 dx, .int .i64 dy]] w fun e w' => e = .returned (.bool true) ∧ Kp [] w w' := by
  have aw : Hid (Gw w 13 #[] (.bool true)) := fun W k => vawake W (tab_kp hT k)
  cases hfar : (![(ax, ay), (bx, yb), (cx, yc), (dx, dy)].any farP) with
  | false => exact turns_far ax ay bx yb cx yc dx dy w hfar aw
  | true =>
    have hf : farP (ax, ay) = false ∧ farP (bx, yb) = false ∧ farP (cx, yc) = false ∧ farP (dx, dy) = false := by simpa using hfar
    obtain ⟨lax, uax, lay, uay⟩ := farP_no hf.1
    obtain ⟨lbx, ubx, lyb, uyb⟩ := farP_no hf.2.1
    obtain ⟨lcx, ucx, lyc, uyc⟩ := farP_no hf.2.2.1
    obtain ⟨ldx, udx, ldy, udy⟩ := farP_no hf.2.2.2
    obtain ⟨x, hx⟩ : ∃ x, x = crV ax ay bx yb cx yc := ⟨_, rfl⟩
    obtain ⟨dd, hd⟩ : ∃ d, d = (bx - ax) * (cx - ax) + (yb - ay) * (yc - ay) := ⟨_, rfl⟩
    obtain ⟨mm, hm⟩ : ∃ m, m = (bx - ax) * (bx - ax) + (yb - ay) * (yb - ay) := ⟨_, rfl⟩
    obtain ⟨nn, hn⟩ : ∃ n, n = (cx - ax) * (cx - ax) + (yc - ay) * (yc - ay) := ⟨_, rfl⟩
    have n1 : (bx - ax).natAbs ≤ 18000 := by omega
    have n2 : (yb - ay).natAbs ≤ 18000 := by omega
    have n3 : (cx - ax).natAbs ≤ 18000 := by omega
    have n4 : (yc - ay).natAbs ≤ 18000 := by omega
    have bx1 : x.natAbs ≤ 648000000 := by rw [hx]; unfold crV; have m1 := mul_bd n1 n4; have m2 := mul_bd n2 n3; omega
    have bd1 : dd.natAbs ≤ 648000000 := by rw [hd]; have m1 := mul_bd n1 n3; have m2 := mul_bd n2 n4; omega
    have bm1 : mm.natAbs ≤ 648000000 := by rw [hm]; have m1 := mul_bd n1 n1; have m2 := mul_bd n2 n2; omega
    have bn1 : nn.natAbs ≤ 648000000 := by rw [hn]; have m1 := mul_bd n3 n3; have m2 := mul_bd n4 n4; omega
    have pq : x * x + dd * dd = mm * nn := by rw [hx, hd, hm, hn]; unfold crV; grind
    have c2 : crV (ax + dx) (ay + dy) (bx + dx) (yb + dy) (cx + dx) (yc + dy) = x := by rw [hx]; unfold crV; grind
    have c3 : crV bx yb cx yc ax ay = x := by rw [hx]; unfold crV; grind
    have c4 : crV cx yc ax ay bx yb = x := by rw [hx]; unfold crV; grind
    have c5 : crV bx yb ax ay cx yc = -x := by rw [hx]; unfold crV; grind
    have k1 : ckP [(ax, ay), (bx, yb), (cx, yc)] = 0 := by rw [ck3_eq]; rw [inP_of (x := ax) (y := ay) (by omega) (by omega), inP_of (x := bx) (y := yb) (by omega) (by omega), inP_of (x := cx) (y := yc) (by omega) (by omega)]; rfl
    have k2 : ckP [((ax + dx), (ay + dy)), ((bx + dx), (yb + dy)), ((cx + dx), (yc + dy))] = 0 := by rw [ck3_eq]; rw [inP_of (x := (ax + dx)) (y := (ay + dy)) (by omega) (by omega), inP_of (x := (bx + dx)) (y := (yb + dy)) (by omega) (by omega), inP_of (x := (cx + dx)) (y := (yc + dy)) (by omega) (by omega)]; rfl
    have k3 : ckP [(bx, yb), (cx, yc), (ax, ay)] = 0 := by rw [ck3_eq]; rw [inP_of (x := bx) (y := yb) (by omega) (by omega), inP_of (x := cx) (y := yc) (by omega) (by omega), inP_of (x := ax) (y := ay) (by omega) (by omega)]; rfl
    have k4 : ckP [(cx, yc), (ax, ay), (bx, yb)] = 0 := by rw [ck3_eq]; rw [inP_of (x := cx) (y := yc) (by omega) (by omega), inP_of (x := ax) (y := ay) (by omega) (by omega), inP_of (x := bx) (y := yb) (by omega) (by omega)]; rfl
    have k5 : ckP [(bx, yb), (ax, ay), (cx, yc)] = 0 := by rw [ck3_eq]; rw [inP_of (x := bx) (y := yb) (by omega) (by omega), inP_of (x := ax) (y := ay) (by omega) (by omega), inP_of (x := cx) (y := yc) (by omega) (by omega)]; rfl
    have k7 : ckP [(bx - ax, yb - ay), (cx - ax, yc - ay)] = 0 := by rw [ck2_eq]; rw [inP_of (x := bx - ax) (y := yb - ay) (by omega) (by omega), inP_of (x := cx - ax) (y := yc - ay) (by omega) (by omega)]; rfl
    have k8 : ckP [(ax, ay), (bx, yb)] = 0 := by rw [ck2_eq]; rw [inP_of (x := ax) (y := ay) (by omega) (by omega), inP_of (x := bx) (y := yb) (by omega) (by omega)]; rfl
    have k9 : ckP [(ax, ay), (cx, yc)] = 0 := by rw [ck2_eq]; rw [inP_of (x := ax) (y := ay) (by omega) (by omega), inP_of (x := cx) (y := yc) (by omega) (by omega)]; rfl
    have q1 : Hid (Gw w 30 #[.agg #[.int .i64 ax, .int .i64 ay], .agg #[.int .i64 bx, .int .i64 yb], .agg #[.int .i64 cx, .int .i64 yc]] (.tuple #[.int .i64 x, .int .i64 0])) := gw_of fun W => by
      have q := cross_c ax ay bx yb cx yc W k1
      rwa [← hx] at q
    have q2 : Hid (Gw w 30 #[.agg #[.int .i64 (ax + dx), .int .i64 (ay + dy)], .agg #[.int .i64 (bx + dx), .int .i64 (yb + dy)], .agg #[.int .i64 (cx + dx), .int .i64 (yc + dy)]] (.tuple #[.int .i64 x, .int .i64 0])) := gw_of fun W => by
      have q := cross_c (ax + dx) (ay + dy) (bx + dx) (yb + dy) (cx + dx) (yc + dy) W k2
      rwa [c2] at q
    have q3 : Hid (Gw w 30 #[.agg #[.int .i64 bx, .int .i64 yb], .agg #[.int .i64 cx, .int .i64 yc], .agg #[.int .i64 ax, .int .i64 ay]] (.tuple #[.int .i64 x, .int .i64 0])) := gw_of fun W => by
      have q := cross_c bx yb cx yc ax ay W k3
      rwa [c3] at q
    have q4 : Hid (Gw w 30 #[.agg #[.int .i64 cx, .int .i64 yc], .agg #[.int .i64 ax, .int .i64 ay], .agg #[.int .i64 bx, .int .i64 yb]] (.tuple #[.int .i64 x, .int .i64 0])) := gw_of fun W => by
      have q := cross_c cx yc ax ay bx yb W k4
      rwa [c4] at q
    have q5 : Hid (Gw w 30 #[.agg #[.int .i64 bx, .int .i64 yb], .agg #[.int .i64 ax, .int .i64 ay], .agg #[.int .i64 cx, .int .i64 yc]] (.tuple #[.int .i64 (-x), .int .i64 0])) := gw_of fun W => by
      have q := cross_c bx yb ax ay cx yc W k5
      rwa [c5] at q
    have q6 : Hid (Gw w 32 #[.agg #[.int .i64 ax, .int .i64 ay], .agg #[.int .i64 bx, .int .i64 yb], .agg #[.int .i64 cx, .int .i64 yc]] (.tuple #[.int .i64 (cmI x 0), .int .i64 0])) := gw_of fun W => vSide ax ay bx yb cx yc x 0 W (Lib.hid fun W => by have q := cross_c ax ay bx yb cx yc W k1; rwa [← hx] at q)
    have q7 : Hid (Gw w 28 #[.agg #[.int .i64 (bx - ax), .int .i64 (yb - ay)], .agg #[.int .i64 (cx - ax), .int .i64 (yc - ay)]] (.tuple #[.int .i64 dd, .int .i64 0])) := gw_of fun W => by
      have q := dot_p (bx - ax) (yb - ay) (cx - ax) (yc - ay) W
      rw [k7, ← hd] at q
      exact q
    have q8 : Hid (Gw w 34 #[.agg #[.int .i64 ax, .int .i64 ay], .agg #[.int .i64 bx, .int .i64 yb]] (.tuple #[.int .i64 mm, .int .i64 0])) := gw_of fun W => by
      have q := square_p ax ay bx yb W
      rw [k8, ← hm] at q
      exact q
    have q9 : Hid (Gw w 34 #[.agg #[.int .i64 ax, .int .i64 ay], .agg #[.int .i64 cx, .int .i64 yc]] (.tuple #[.int .i64 nn, .int .i64 0])) := gw_of fun W => by
      have q := square_p ax ay cx yc W
      rw [k9, ← hn] at q
      exact q
    have s1 := mul_bd bx1 bx1
    have s2 := mul_bd bd1 bd1
    have s3 := mul_bd bm1 bn1
    obtain ⟨g1, g2, g3, g4⟩ := cmI_sq x
    exact turns_core ax ay bx yb cx yc dx dy x (cmI x 0) dd mm nn w hfar lax uax lay uay lbx ubx lyb uyb lcx ucx lyc uyc ldx udx ldy udy (gw_of fun W => vat _ _ W) (gw_of fun W => vat _ _ W) (gw_of fun W => vat _ _ W) (w64 (by omega)) (w64 (by rw [g1]; split <;> omega)) (w64 (by omega)) (w64 (by omega)) (w64 (by omega)) (w64 (by omega)) g2 g3 g4 (by rw [pq]; simp) q1 q2 q3 q4 q5 q6 (gw_of fun W => vat _ _ W) (gw_of fun W => vat _ _ W) q7 q8 q9 aw

end Go.Proofs.YtcgilcmhandgfaaGreatDoor
