/- Texts RegE, Vec7z, Vref5, Vref6, Vec16: each says in its own first comment what it proves. -/
import Derived.Test.YtcgilcmhandgfaaGreatDoorM35
import Derived.Test.YtcgilcmhandgfaaGreatDoorM57
import Derived.Test.YtcgilcmhandgfaaGreatDoorM61
import Derived.Laws.StructEq
import Derived.Test.YtcgilcmhandgfaaGreatDoorM47
import Derived.Test.YtcgilcmhandgfaaGreatDoorM45
/- reg_seq and reg_refl once more, with a property of the world that the chain hands on: a call may change the blocks of L. -/
namespace Go.Proofs.YtcgilcmhandgfaaGreatDoor
open Go.RowKit

structure ROpsE (ops : Array Oper) (t : RTab) (w0 : World) (T0 : Nat → Value) : Prop where
  ok : regOk ops t.toRSt = true
  gv : ∀ i, i < t.m → t.isg i = true → t.act i = true ∧ t.V (t.gd i) = .bool (t.gb i) ∨ t.act i = false ∧ t.V (t.gd i) = .bool (!t.gb i) ∧ t.kind i = 0 ∧ t.V i = undef
  read : ∀ i, i < t.m → t.kind i = 0 → t.act i = true → ∀ l T w o c, i ∈ Region.ready .any ops l → Closed ops l → SMid t w0 T0 c l T w → ops[i]? = some o →
    (execOp (frameOf t.N T).eval o).run Tryz.prog w = .ok (.value (t.V i)) w
  chain : ∀ i, i < t.m → t.kind i = 1 → ∀ l T w o, i ∈ Region.ready .any ops l → Closed ops l → SMid t w0 T0 (t.pos i) l T w → (t.dst i < t.N → ∀ v, chV t.m t.kind t.dst (updV T (t.dst i) v) = updV (chV t.m t.kind t.dst T) i v) → ops[i]? = some o →
    ∀ Q, o.wp Tryz.prog (frameOf t.N T) w (After t i T w) Q
  free : ∀ i, i < t.m → t.kind i = 2 → ∀ l T w o c, i ∈ Region.ready .any ops l → Closed ops l → SMid t w0 T0 c l T w → ops[i]? = some o →
    ∃ u w', (execOp (frameOf t.N T).eval o).run Tryz.prog w = .ok (.value u) w' ∧ t.F i u w' ∧ Kp t.L w w' ∧ Kp [] w w'

theorem reg_seqE {ops : Array Oper} {id : Nat} {w : World} {T0 : Nat → Value} (t : RTab) {Q : Exit → Act → World → Prop}
    (hm : Tryz.prog.follows .mixedOrders = true) (hF : RFit t.toRSt) (hR : ROpsE ops t w.drew T0) (hE0 : ∀ v, t.E 0 v w.drew) (hEs : ∀ c v w1 w2, t.E c v w1 → Kp [] w1 w2 → t.E c v w2) (hFs : ∀ i u w1 w2, t.F i u w1 → Kp t.L w1 w2 → t.F i u w2)
    (hQ : ∀ (T : Nat → Value) (w' : World), (∀ s, t.inv s = t.m → T s = T0 s) → (∀ j, j < t.m → t.kind j = 0 ∨ t.kind j = 1 ∧ t.X j = true → T (t.dst j) = t.V j) → Kp t.L w w' → t.E t.K (chV t.m t.kind t.dst T) w' → (∀ j, j < t.m → t.kind j = 2 → t.F j (T (t.dst j)) w') → Q .normal (frameOf t.N T) w') :
    (Code.region id ops true).wp Tryz.prog Q (frameOf t.N T0) w := by
  obtain ⟨hsize, heach⟩ := each_of hR.ok
  have rdst : ∀ i, i < t.m → t.kind i ≠ 1 → t.dst i < t.N ∧ t.inv (t.dst i) = i := fun i hi hk => by
    rcases hF.dsts i hi with h | h
    · exact h
    · exact absurd h.2 hk
  have inj : ∀ i, i < t.m → ∀ j, j < t.m → t.dst i < t.N → t.dst i = t.dst j → i = j := fun i hi j hj hN e => by
    rcases hF.dsts i hi with ⟨_, h⟩ | ⟨h, _⟩
    · rcases hF.dsts j hj with ⟨_, h2⟩ | ⟨h2, _⟩
      · rw [← h, ← h2, e]
      · omega
    · omega
  refine wp_region_any hm (wpAny_inv (fun l a w' => ∃ T c, c ≤ t.K ∧ a = frameOf t.N T ∧ Closed ops l ∧ SMid t w.drew T0 c l T w') ?_ ?_ ops.size (Array.replicate ops.size false) _ _ (by simp) ?_ ?_)
  · rintro l a w' hs ⟨T, c, hc, rfl, hcl, h⟩ hr
    have hsz : l.size = t.m := by rw [hs, hsize]
    have la := jfin_of hsize (fun i hi => by obtain ⟨o, a1, _, a2, _⟩ := heach i hi; exact ⟨o, a1, a2⟩) l hsz hr
    have hck : c = t.K := by
      by_cases e : c < t.K
      · obtain ⟨hi, hk, hp⟩ := hF.chis c e
        have := h.come _ hi hk
        rw [la _ hi] at this
        have := of_decide_eq_true this.symm
        omega
      · omega
    subst hck
    have hkp := h.kp
    exact hQ T w' h.out (fun j hj hk => hk.elim (fun hk => h.val j hj hk (la j hj)) (fun hk => h.cval j hj hk.1 hk.2 (la j hj))) ⟨hkp.os, hkp.tape, hkp.output, hkp.size, hkp.block⟩ h.ext (fun j hj hk => h.free j hj hk (la j hj))
  · rintro l a w' i hs ⟨T, c, hc, rfl, hcl, h⟩ hr
    have hsz : l.size = t.m := by rw [hs, hsize]
    obtain ⟨hil, hun⟩ := ready_lt hr
    rw [hsize] at hil
    have hnl := false_of_true (l := l) (by omega) hun
    obtain ⟨o, h1, h2, _, hgd, hbf⟩ := heach i hil
    have hk1 := hF.kinds i hil
    have ri : ∀ e, e ∈ o.after → Region.binds .any e = true → l.getD e.on false = true := by
      obtain ⟨_, o', ho', h9⟩ := mem_ready.1 hr
      obtain rfl := Option.some.inj (h1.symm.trans ho')
      exact h9
    have hcl2 : Closed ops (l.setIfInBounds i true) := by
      intro j o2 ho2 hd e he hb
      have hset : ∀ k, l.getD k false = true → (l.setIfInBounds i true).getD k false = true := fun k hk => by
        by_cases e : i = k
        · subst e; exact get_self (by omega) _
        · rw [get_set e]; exact hk
      by_cases e2 : j = i
      · subst e2
        obtain rfl := Option.some.inj (h1.symm.trans ho2)
        exact hset _ (ri e he hb)
      · rw [get_set (fun x => e2 x.symm)] at hd
        exact hset _ (hcl j o2 ho2 hd e he hb)
    -- a value that goes into the slot of a read or a free operation
    have step : t.kind i ≠ 1 → ∀ v w2, Kp t.L w' w2 → Kp [] w' w2 → (t.kind i = 0 → v = t.V i) → (t.kind i = 2 → t.F i v w2) → SMid t w.drew T0 c (l.setIfInBounds i true) (updV T (t.dst i) v) w2 := fun k0 v w2 hk2 hk0 hv hf => by
      obtain ⟨hdN, hdi⟩ := rdst i hil k0
      have keep : ∀ j, j < t.m → j ≠ i → updV T (t.dst i) v (t.dst j) = T (t.dst j) := fun j hj hne => updV_ne (fun x => hne (inj i hil j hj hdN x.symm).symm)
      have e : chV t.m t.kind t.dst (updV T (t.dst i) v) = chV t.m t.kind t.dst T := by
        funext j
        unfold chV
        by_cases hj : j < t.m ∧ t.kind j = 1
        · rw [if_pos hj, if_pos hj]
          exact keep j hj.1 (fun x => by subst x; exact k0 hj.2)
        · rw [if_neg hj, if_neg hj]
      refine ⟨fun s hsn => ?_, fun j hj hkj hl => ?_, fun j hj hkj hX hl => ?_, fun j hj hkj hl => ?_, fun j hj hkj => ?_, h.kp.trans hk2, ?_, fun s hs1 hs2 => ?_⟩
      · rw [updV_ne (fun e => by rw [e, hdi] at hsn; omega)]; exact h.out s hsn
      · by_cases e : j = i
        · subst e; rw [updV_same]; exact hv hkj
        · rw [get_set (fun x => e x.symm)] at hl
          rw [keep j hj e]
          exact h.val j hj hkj hl
      · have e : j ≠ i := fun x => by subst x; exact k0 hkj
        rw [get_set (fun x => e x.symm)] at hl
        rw [keep j hj e]
        exact h.cval j hj hkj hX hl
      · by_cases e : j = i
        · subst e; rw [updV_same]; exact hf hkj
        · rw [get_set (fun x => e x.symm)] at hl
          rw [keep j hj e]
          exact hFs _ _ _ _ (h.free j hj hkj hl) hk2
      · rw [get_set (fun x => by subst x; exact k0 hkj)]; exact h.come j hj hkj
      · rw [e]; exact hEs _ _ _ _ h.ext hk0
      · by_cases e3 : t.inv s = i
        · rw [e3, get_self (by omega)] at hs2; cases hs2
        · rw [get_set (fun x => e3 x.symm)] at hs2
          rw [updV_ne (fun x => e3 (by rw [x, hdi]))]
          exact h.old s hs1 hs2
    have wants : t.act i = true → Region.wanted o (yielded ops (frameOf t.N T).tmps) = true := fun ha => by
      rcases hgd with ⟨h3, _⟩ | ⟨b, h3, h6, h7, h4, h5, h8⟩
      · simp [Region.wanted, h3]
      · obtain ⟨o2, g1, g2, _⟩ := heach (t.gd i) h4
        obtain ⟨hdg, _⟩ := rdst _ h4 (by omega)
        rw [if_neg (by omega)] at g2
        rcases hR.gv i hil h7 with ⟨_, h9⟩ | ⟨h9, _⟩
        · have := yielded_frame (ops := ops) (T := T) g1 g2 hdg ((h.val _ h4 h5 (dep_of hr h1 h8)).trans h9)
          simp [Region.wanted, h3, this, h6]
        · rw [ha] at h9; cases h9
    by_cases k0 : t.kind i = 0
    · obtain ⟨hdN, _⟩ := rdst i hil (by omega)
      rw [if_neg (by omega)] at h2
      by_cases ha : t.act i = true
      · refine wpOp_want h1 (wants ha) ?_
        unfold Oper.wp
        rw [hR.read i hil k0 ha l T w' o c hr hcl h h1, Oper.upon_value, h2, frame_put]
        exact ⟨_, c, hc, rfl, hcl2, step (by omega) _ _ (Kp.refl _ _) (Kp.refl _ _) (fun _ => rfl) (fun x => by omega)⟩
      · rcases hgd with ⟨_, h3⟩ | ⟨b, h3, h6, h7, h4, h5, h8⟩
        · exact absurd h3 ha
        · rcases hR.gv i hil h7 with ⟨h9, _⟩ | ⟨_, h9, _, hv⟩
          · exact absurd h9 ha
          · obtain ⟨o2, g1, g2, _⟩ := heach (t.gd i) h4
            obtain ⟨hdg, _⟩ := rdst _ h4 (by omega)
            rw [if_neg (by omega)] at g2
            have hy := yielded_frame (ops := ops) (T := T) g1 g2 hdg ((h.val _ h4 h5 (dep_of hr h1 h8)).trans h9)
            refine wpOp_shun h1 (by simp [Region.wanted, h3, hy, h6]) ?_
            rw [h2, frame_put]
            exact ⟨_, c, hc, rfl, hcl2, step (by omega) _ _ (Kp.refl _ _) (Kp.refl _ _) (fun _ => hv.symm) (fun x => by omega)⟩
    have ha : t.act i = true := by
      rcases hgd with ⟨_, h3⟩ | ⟨b, h3, h6, h7, h4, h5, h8⟩
      · exact h3
      · rcases hR.gv i hil h7 with ⟨h9, _⟩ | ⟨_, _, h9, _⟩
        · exact h9
        · exact absurd h9 k0
    refine wpOp_want h1 (wants ha) ?_
    by_cases k2 : t.kind i = 2
    · obtain ⟨hdN, _⟩ := rdst i hil (by omega)
      rw [if_neg (by omega)] at h2
      obtain ⟨u, w2, hrun, hFi, hk2, hk0⟩ := hR.free i hil k2 l T w' o c hr hcl h h1
      unfold Oper.wp
      rw [hrun, Oper.upon_value, h2, frame_put]
      exact ⟨_, c, hc, rfl, hcl2, step (by omega) _ _ hk2 hk0 (fun x => absurd x k0) (fun _ => hFi)⟩
    · have k1 : t.kind i = 1 := by omega
      obtain ⟨hpK, hchi⟩ := hF.poss i hil k1
      have hcq : c = t.pos i := by
        have a1 : ¬ t.pos i < c := by
          have := h.come i hil k1
          rw [hnl] at this
          exact of_decide_eq_false this.symm
        have a2 : ¬ c < t.pos i := fun hlt => by
          rcases hbf with h0 | h0 | hb
          · exact h0 k1
          · omega
          · obtain ⟨hq, hkq, hpq⟩ := hF.chis (t.pos i - 1) (by omega)
            have := h.come _ hq hkq
            obtain ⟨q, hq, h10⟩ := Array.any_eq_true.1 hb
            rw [Bool.and_eq_true] at h10
            rw [reach_done hcl h10.2 (ri _ (Array.getElem_mem hq) h10.1)] at this
            have := of_decide_eq_true this.symm
            omega
        omega
      subst hcq
      have hu : t.dst i < t.N → ∀ v, chV t.m t.kind t.dst (updV T (t.dst i) v) = updV (chV t.m t.kind t.dst T) i v := fun hN v => by
        funext j
        by_cases e : j = i
        · subst e
          rw [updV_same]
          unfold chV
          rw [if_pos ⟨hil, k1⟩, updV_same]
        · rw [updV_ne e]
          unfold chV
          by_cases hj : j < t.m ∧ t.kind j = 1
          · rw [if_pos hj, if_pos hj]
            exact updV_ne (fun x => e (inj i hil j hj.1 hN x.symm).symm)
          · rw [if_neg hj, if_neg hj]
      refine Oper.wp_mono (fun a2 w2 h9 => ?_) (hR.chain i hil k1 l T w' o hr hcl h hu h1 Q)
      obtain ⟨T2, rfl, hT2, hk2, hX2, hE2⟩ := h9
      have keep : ∀ j, j < t.m → j ≠ i → T2 (t.dst j) = T (t.dst j) := fun j hj hne => by
        refine hT2 _ ?_
        rcases hF.dsts i hil with ⟨h3, _⟩ | ⟨h3, _⟩
        · exact .inl (fun y => hne (inj i hil j hj h3 y.symm).symm)
        · exact .inr h3
      refine ⟨T2, t.pos i + 1, by omega, rfl, hcl2, fun s hsn => ?_, fun j hj hkj hl => ?_, fun j hj hkj hX hl => ?_, fun j hj hkj hl => ?_, fun j hj hkj => ?_, h.kp.trans hk2, hE2, fun s hs1 hs2 => ?_⟩
      · rw [hT2 s (by
          rcases hF.dsts i hil with ⟨_, h3⟩ | ⟨h3, _⟩
          · left; intro e; rw [e, h3] at hsn; omega
          · exact .inr h3)]
        exact h.out s hsn
      · have e : j ≠ i := fun x => by subst x; omega
        rw [get_set (fun x => e x.symm)] at hl
        rw [keep j hj e]
        exact h.val j hj hkj hl
      · by_cases e : j = i
        · subst e; exact hX2 hX
        · rw [get_set (fun x => e x.symm)] at hl
          rw [keep j hj e]
          exact h.cval j hj hkj hX hl
      · have e : j ≠ i := fun x => by subst x; omega
        rw [get_set (fun x => e x.symm)] at hl
        rw [keep j hj e]
        exact hFs _ _ _ _ (h.free j hj hkj hl) hk2
      · by_cases e : j = i
        · subst e; rw [get_self (by omega)]; exact (decide_eq_true (by omega)).symm
        · rw [get_set (fun x => e x.symm), h.come j hj hkj]
          have : t.pos j ≠ t.pos i := fun x => e (by rw [← (hF.poss j hj hkj).2, x, hchi])
          by_cases e2 : t.pos j < t.pos i
          · rw [decide_eq_true e2, decide_eq_true (by omega)]
          · rw [decide_eq_false e2, decide_eq_false (by omega)]
      · by_cases e3 : t.inv s = i
        · rw [e3, get_self (by omega)] at hs2; cases hs2
        · rw [get_set (fun x => e3 x.symm)] at hs2
          rw [hT2 s (by
            rcases hF.dsts i hil with ⟨_, h3⟩ | ⟨h3, _⟩
            · left; intro x; exact e3 (by rw [x, h3])
            · exact .inr h3)]
          exact h.old s hs1 hs2
  · have : ∀ q, unl (Array.replicate ops.size false) q ≤ q := by
      intro q
      induction q with
      | zero => exact Nat.le_refl _
      | succ q ih => unfold unl; split <;> omega
    exact this _
  · have hf : ∀ i, (Array.replicate ops.size false).getD i false = false := by
      intro i
      simp only [Array.getD]
      split
      · simp
      · rfl
    refine ⟨T0, 0, Nat.zero_le _, rfl, (fun j o _ h => by rw [hf] at h; cases h), fun _ _ => rfl, ?_, ?_, ?_, ?_, Kp.refl _ _, hE0 _, fun _ _ _ => rfl⟩
    · intro i _ _ h; rw [hf] at h; cases h
    · intro i _ _ _ h; rw [hf] at h; cases h
    · intro i _ _ h; rw [hf] at h; cases h
    · intro i _ _; rw [hf]; exact (decide_eq_false (by omega)).symm

def RSy.tabE (y : RSy) (ρ : Nat → Value) (L : List Nat) (F : Nat → Value → World → Prop) (E : Nat → World → Prop) : RTab := { y.st with V := fun i => (y.Sy i).den ρ, X := y.X, L := L, E := fun c _ w => E c w, F := F }
theorem forget {y : RSy} {ρ : Nat → Value} {L : List Nat} {F : Nat → Value → World → Prop} {E : Nat → World → Prop} {w0 w : World} {T0 T : Nat → Value} {c : Nat} {l : Array Bool} (h : SMid (y.tabE ρ L F E) w0 T0 c l T w) : SMid (y.tab ρ L F) w0 T0 c l T w :=
  ⟨h.out, h.val, h.cval, h.free, h.come, h.kp, trivial, h.old⟩
theorem reg_reflE {ops : Array Oper} {id : Nat} {w : World} {T0 : Nat → Value} (y : RSy) (ρ : Nat → Value) (L : List Nat) (F : Nat → Value → World → Prop) (E : Nat → World → Prop) (ops' : Array Oper) (sp : List Nat) (ca : List (Nat × Nat × List SV)) (cx fr : List Nat)
    {Q : Exit → Act → World → Prop} (hm : Tryz.prog.follows .mixedOrders = true) (hops : ops = ops') (hok : reflOk ops' y sp ca cx fr = true) (hT0 : Each (fun p => T0 p.1 = p.2.den ρ) y.outs)
    (hs : Each (fun i => ∀ T wz, RHere ops' y ρ L F w.drew i T wz → ∀ o, ops'[i]? = some o → (execOp (frameOf y.st.N T).eval o).run Tryz.prog wz = .ok (.value ((y.Sy i).den ρ)) wz) sp)
    (hc : Each (fun p => (∀ args w, (callFunc p.2.1 args).run Tryz.prog w = .ok (.enter p.2.1 args) w) ∧ ∀ wz, Kp L w.drew wz → E (y.st.pos p.1) wz → Calls Tryz.prog p.2.1 (p.2.2.map (SV.den ρ)).toArray wz fun x w' => ∃ v, x = .returned v ∧ Kp L wz w' ∧ (y.X p.1 = true → v = (y.Sy p.1).den ρ) ∧ E (y.st.pos p.1 + 1) w') ca)
    (hx : Each (fun i => ∀ T wz, RHere ops' y ρ L F w.drew i T wz → ∀ o, ops'[i]? = some o →
      ∃ G args, (execOp (frameOf y.st.N T).eval o).run Tryz.prog wz = .ok (.enter G args) wz ∧ (E (y.st.pos i) wz → Calls Tryz.prog G args wz fun x w' => ∃ v, x = .returned v ∧ Kp L wz w' ∧ (y.X i = true → v = (y.Sy i).den ρ) ∧ E (y.st.pos i + 1) w')) cx)
    (hdx : ∀ i ∈ cx, y.st.dst i < y.st.N)
    (hf : Each (fun i => ∀ T wz, RHere ops' y ρ L F w.drew i T wz → ∀ o, ops'[i]? = some o → ∃ u w', (execOp (frameOf y.st.N T).eval o).run Tryz.prog wz = .ok (.value u) w' ∧ F i u w' ∧ Kp L wz w' ∧ Kp [] wz w') fr)
    (hE0 : E 0 w.drew) (hEs : ∀ c w1 w2, E c w1 → Kp [] w1 w2 → E c w2)
    (hFs : ∀ i u w1 w2, F i u w1 → Kp L w1 w2 → F i u w2)
    (hQ : ∀ (T : Nat → Value) (w' : World), (∀ s, y.st.inv s = y.st.m → T s = T0 s) → (∀ j, j < y.st.m → y.st.kind j = 0 ∨ y.st.kind j = 1 ∧ y.X j = true → T (y.st.dst j) = (y.Sy j).den ρ) → Kp L w w' →
      (∀ j, j < y.st.m → y.st.kind j = 2 → F j (T (y.st.dst j)) w') → E y.st.K w' → Q .normal (frameOf y.st.N T) w') :
    (Code.region id ops true).wp Tryz.prog Q (frameOf y.st.N T0) w := by
  subst hops
  unfold reflOk at hok
  rw [Bool.and_eq_true, Bool.and_eq_true, List.all_eq_true] at hok
  obtain ⟨hF, hO, hA⟩ := hok
  have hA' : ∀ i, i < y.st.m → guardOk y i = true ∧ (if y.st.kind i = 0 then !y.st.act i || sp.contains i || readOk ops y i
     else if y.st.kind i = 1 then cx.contains i || (decide (y.st.dst i < y.st.N) && ca.any fun c => c.1 == i && decide (callOf ops y i = some (c.2.1, c.2.2)))
     else fr.contains i) = true := fun i hi => Bool.and_eq_true_iff.1 (hA i (List.mem_range.2 hi))
  refine reg_seqE (y.tabE ρ L F E) hm (fit_of hF) ⟨hO, ?_, ?_, ?_, ?_⟩ (fun _ => hE0) (fun c _ w1 w2 h k => hEs c w1 w2 h k) hFs (fun T w' h1 h2 h3 h4 h5 => hQ T w' h1 h2 h3 h5 h4)
  · intro i hi hg
    have h := (hA' i hi).1
    unfold guardOk at h
    have hg' : y.st.isg i = true := hg
    rw [hg'] at h
    simp only [Bool.not_true, Bool.false_or, Bool.or_eq_true, Bool.and_eq_true, decide_eq_true_eq, Bool.not_eq_true', beq_iff_eq] at h
    rcases h with ⟨h1, h2⟩ | ⟨⟨⟨h1, h2⟩, h3⟩, h4⟩
    · exact .inl ⟨h1, by show (y.Sy (y.st.gd i)).den ρ = _; rw [h2]; rfl⟩
    · exact .inr ⟨h1, by show (y.Sy (y.st.gd i)).den ρ = _; rw [h2]; rfl, h3, by show (y.Sy i).den ρ = _; rw [h4]; rfl⟩
  · intro i hi hk ha l T wz o c hr hcl hM0 ho
    have hM := forget hM0
    have h := (hA' i hi).2
    rw [if_pos (show y.st.kind i = 0 from hk), show y.st.act i = true from ha] at h
    simp only [Bool.not_true, Bool.false_or, Bool.or_eq_true, List.contains_iff_mem] at h
    rcases h with h | h
    · exact hs.mem i h T wz (here_of hT0 hr hcl hM) o ho
    · exact read_ev hT0 hr hcl hM ho h
  · intro i hi hk l T wz o hr hcl hM0 hu ho Q'
    have hM := forget hM0
    have h := (hA' i hi).2
    rw [if_neg (show ¬ y.st.kind i = 0 by have : y.st.kind i = 1 := hk; omega), if_pos (show y.st.kind i = 1 from hk)] at h
    simp only [Bool.or_eq_true, Bool.and_eq_true, decide_eq_true_eq, List.contains_iff_mem, List.any_eq_true, beq_iff_eq] at h
    have hdst : y.st.dst i < y.st.N → o.dst = some (y.st.dst i) := fun hN => by
      obtain ⟨_, he⟩ := each_of (t := y.st) hO
      obtain ⟨o', g1, g2, _⟩ := he i hi
      obtain rfl := Option.some.inj (ho.symm.trans g1)
      rw [if_neg (by omega)] at g2
      exact g2
    rcases h with h | ⟨hN, cc, hcm, rfl, hcall⟩
    · obtain ⟨G, args, hrun, hcl2⟩ := hx.mem i h T wz (here_of hT0 hr hcl hM) o ho
      have hN := hdx i h
      exact after_call hrun (hdst hN) hN (hu hN) ((hcl2 hM0.ext).mono fun x w2 ⟨v, h1, h2, h3, h4⟩ => ⟨v, h1, h2, h3, h4⟩)
    · obtain ⟨hen, hcl2⟩ := hc.mem cc hcm
      exact after_call (call_ev hT0 hr hcl hM ho hcall hen) (hdst hN) hN (hu hN) ((hcl2 wz hM.kp hM0.ext).mono fun x w2 ⟨v, h1, h2, h3, h4⟩ => ⟨v, h1, h2, h3, h4⟩)
  · intro i hi hk l T wz o c hr hcl hM0 ho
    have hM := forget hM0
    have h := (hA' i hi).2
    have hk' : y.st.kind i = 2 := hk
    rw [if_neg (by omega), if_neg (by omega), List.contains_iff_mem] at h
    exact hf.mem i h T wz (here_of hT0 hr hcl hM) o ho
end Go.Proofs.YtcgilcmhandgfaaGreatDoor

/- Where the keeper of package reckon has an error: distance of package vector from what is no line. -/
namespace Go.Proofs.YtcgilcmhandgfaaGreatDoor
open Go.RowKit
open Go.Lib (nDigits itoa decDigits)

/-- the keeper g has no error before the step K of a chain, and the error e behind it -/
def ERE (g : Nat) (w0 : World) (K : Nat) (e : Int) (c : Nat) (wz : World) : Prop := if c < K then RE wz g 0 ∧ Kp [] w0 wz else RE wz g e
section
variable {g K c : Nat} {w0 wz w' : World} {e : Int}
theorem ERE.kp (h : ERE g w0 K e c wz) (hc : c < K) : Kp [] w0 wz := by unfold ERE at h; rw [if_pos hc] at h; exact h.2
theorem ERE.re (h : ERE g w0 K e c wz) (hc : c < K) : RE wz g 0 := by unfold ERE at h; rw [if_pos hc] at h; exact h.1
theorem ERE.kept (h : ERE g w0 K e c wz) (k : Kp [] wz w') : ERE g w0 K e c w' := by
  unfold ERE at *
  split at h
  · rename_i hc
    rw [if_pos hc]
    exact ⟨h.1.kept k (by simp), h.2.trans k⟩
  · rename_i hc
    rw [if_neg hc]
    exact RE.kept h k (by simp)
theorem ERE.next (h : ERE g w0 K e c wz) (hc : c < K) (hc2 : c + 1 < K) (k : Kp [] wz w') : ERE g w0 K e (c + 1) w' := by
  have h1 := h.re hc
  have h2 := h.kp hc
  unfold ERE
  rw [if_pos hc2]
  exact ⟨h1.kept k (by simp), h2.trans k⟩
theorem ERE.last (h : RE w' g e) (hc : ¬ c < K) : ERE g w0 K e c w' := by unfold ERE; rw [if_neg hc]; exact h
theorem ERE.fin (h : ERE g w0 K e c wz) (hc : ¬ c < K) : RE wz g e := by unfold ERE at h; rw [if_neg hc] at h; exact h
end
set_option maxRecDepth 100000 in
set_option maxHeartbeats 1000000 in
theorem rkeep_e (g : Nat) (e : Int) (w : World) (h : RE w g 0) :
    Calls Tryz.prog 152 #[.pointer (some ⟨g, 0, none⟩), .int .i64 e] w fun r w' => r = .returned (.tuple #[]) ∧ Kp [g] w w' ∧ RE w' g e := by
  have hc := h.cell
  have hf := h.free
  have hl := h.lt
  have hk : Kp [g] w (w.setCell ⟨g, 0, none⟩ (.int .i64 e)) := (Kp.refl _ _).setCell (.inl (by simp)) _
  have hr := h.set e
  clear h
  go_enter Tryz.func152, Tryz.ntmps152
  go_wp2
  go_end0
  exact ⟨rfl, hk, hr⟩
set_option maxRecDepth 100000 in
set_option maxHeartbeats 1000000 in
theorem rof_e (F g : Nat) (a b c : ByteArray) (e : Int) (w : World) (_he : e ≠ 0) (h : RE w g 0) (q : Hid (∀ W : World, Calls Tryz.prog F #[.string a, .string b] W fun r w' => r = .returned (.tuple #[.string c, .int .i64 e]) ∧ Kp [] W w')) (he : ∀ args w, (callFunc F args).run Tryz.prog w = .ok (.enter F args) w) :
    Calls Tryz.prog 127 #[.pointer (some ⟨g, 0, none⟩), .func (.func F) #[] #[], .string a, .string b] w fun r w' => r = .returned (.string c) ∧ Kp [g] w w' ∧ RE w' g e := by
  go_enter Tryz.func127, Tryz.ntmps127
  go_wp2_with (go_at_fn F; refine (q.out _).mono ?_; rintro x w1 ⟨rfl, k⟩)
  have h1 := Lib.hid (rkeep_e g e w1 (h.kept k (by simp)))
  clear h q
  go_wp2_with fail
  with_reducible refine h1.out.mono ?_
  rintro e w2 ⟨rfl, k2, k3⟩
  go_wp2
  go_ret
  exact ⟨rfl, (k.mono (fun _ h => absurd h List.not_mem_nil)).trans k2, k3⟩
/-- a calculation that fails -/
def Fails (c : Nat) (caps : Array Value) (w : World) (e : Int) : Prop := Hid (∀ (W : World) (g : Nat), RE W g 0 → Kp [] w W → w.heap.size ≤ g → ∃ v : ByteArray, Calls Tryz.prog c (#[.pointer (some ⟨g, 0, none⟩)] ++ caps) W fun x w' => x = .returned (.string v) ∧ Kp [g] W w' ∧ RE w' g e)

set_option maxRecDepth 100000 in
set_option maxHeartbeats 1000000 in
theorem rresult_rat_e (c : Nat) (caps : Array Value) (e : Int) (hne : (e != 0) = true) (w : World) (he : ∀ args w, (callFunc c args).run Tryz.prog w = .ok (.enter c args) w) (q : Fails c caps w e) :
    Calls Tryz.prog 125 #[.func (.func c) #[] caps] w fun x w' => x = .returned (.tuple #[.string ⟨#[]⟩, .int .i64 e]) ∧ Kp [] w w' := by
  have h0 : RE (w.alloc (.cells #[.int .i64 0] 170 (0, 0))) w.heap.size 0 := heap_alloc_new w _
  have k0 : Kp [] w (w.alloc (.cells #[.int .i64 0] 170 (0, 0))) := (Kp.refl _ _).alloc _
  obtain ⟨v, q1⟩ := q.out _ _ h0 k0 (Nat.le_refl _)
  replace q1 := Lib.hid q1
  clear q h0
  go_enter Tryz.func125, Tryz.ntmps125
  go_wp2_with (go_at_fn c; refine q1.out.mono ?_; rintro x w1 ⟨rfl, k1, k2⟩; have hc := k2.cell; have kk : Kp [] w w1 := k0.step k1 (fun x hx => .inr (by simp at hx; omega)); have kd : Kp [] w (World.drew (w1.alloc (.cells #[.string ⟨#[]⟩] 67 (0, 0)))) := (kk.alloc _).drew; have hc2 := (k2.alloc (.cells #[.string ⟨#[]⟩] 67 (0, 0))).cell; clear k1 k2 q1 kk)
  go_region
  all_goals go_wp2
  all_goals go_ret2
  all_goals exact ⟨rfl, kd⟩

set_option maxRecDepth 100000 in
set_option maxHeartbeats 4000000 in
theorem vdist_in_z (g p1 p2 gn n c : Nat) (v : Int) (A1 A2 R : ByteArray) (w : World) (hn1 : p1 ≠ g) (hn2 : p2 ≠ g) (hR : RE w.drew g 0) (h1 : w.drew.heap[p1]? = some (.cells #[.int .i64 v] 3 (0, 0))) (h2 : w.drew.heap[p2]? = some (.cells #[.slice (some ⟨gn, 0, none⟩) n c] 34 (0, 0)))
    (q1 : Hid (∀ (W : World) (gl : Nat), Kp [] w.drew W → W.heap[gl]? = some (.cells #[.int .i64 v] 3 (0, 0)) → Calls Tryz.prog 129 #[.pointer (some ⟨g, 0, none⟩), .slice (some ⟨gl, 0, none⟩) 1 1] W fun e w' => e = .returned (.string A1) ∧ Kp [] W w'))
    (q2 : Hid (∀ W : World, Kp [] w.drew W → Calls Tryz.prog 129 #[.pointer (some ⟨g, 0, none⟩), .slice (some ⟨gn, 0, none⟩) n c] W fun e w' => e = .returned (.string A2) ∧ Kp [] W w'))
    (q3 : Hid (∀ W : World, Kp [] w.drew W → RE W g 0 → Calls Tryz.prog 127 #[.pointer (some ⟨g, 0, none⟩), .func (.func 128) #[] #[], .string A1, .string A2] W fun e w' => e = .returned (.string R) ∧ Kp [g] W w' ∧ RE w' g 10)) :
    Calls Tryz.prog 126 #[.pointer (some ⟨g, 0, none⟩), .pointer (some ⟨p1, 0, none⟩), .pointer (some ⟨p2, 0, none⟩)] w fun e w' => e = .returned (.string R) ∧ Kp [g] w w' ∧ RE w' g 10 := by
  go_enter Tryz.func126, Tryz.ntmps126
  go_wp2_with fail
  rw [frame_lit]
  refine reg_reflE vdi1_y (fun k => ([.pointer (some ⟨p1, 0, none⟩), .pointer (some ⟨p2, 0, none⟩), .int .i64 v, .pointer (some ⟨g, 0, none⟩), .string A1, .slice (some ⟨gn, 0, none⟩) n c, .string A2, .string R] : List Value).getD k undef) [g] (fun i u wz => i = 3 → ∃ h, u = .slice (some ⟨h, 0, none⟩) 1 1 ∧ wz.heap[h]? = some (.cells #[.int .i64 v] 3 (0, 0)) ∧ h ≠ g) (ERE g w.drew 3 10) (opsOf 1 Tryz.f126) [2, 6] vdi1_ca [4] [3] (by kernel_rfl) (by kernel_rfl) vdi1_ok ⟨rfl, rfl, rfl, trivial⟩ ?sp ?ca ?cx (by decide) ?fr ?e0 (fun c w1 w2 h k => h.kept k) (fun i u y z h k => fun e => by obtain ⟨h1, a1, a2, a3⟩ := h e; exact ⟨h1, a1, (k.block h1 (Array.getElem?_eq_some_iff.1 a2).1 (by simp [a3])).trans a2, a3⟩) ?rest
  case sp =>
    refine ⟨?_, ?_, trivial⟩
    · intro T wz H o ho; have he : o.op = .load 3 (.tmp 1) := Option.some.inj ((congrArg (fun z => z.map Oper.op) ho).symm.trans (show ((opsOf 1 Tryz.f126)[2]?).map Oper.op = some (.load 3 (.tmp 1)) by kernel_rfl)); exact op_ld1 he (H.ev (.tmp 1) (.at 0) (by kernel_rfl)) ((H.kp.block p1 (Array.getElem?_eq_some_iff.1 h1).1 (by simp [hn1])).trans h1)
    · intro T wz H o ho; have he : o.op = .load 34 (.tmp 2) := Option.some.inj ((congrArg (fun z => z.map Oper.op) ho).symm.trans (show ((opsOf 1 Tryz.f126)[6]?).map Oper.op = some (.load 34 (.tmp 2)) by kernel_rfl)); exact op_ldS he (H.ev (.tmp 2) (.at 1) (by kernel_rfl)) ((H.kp.block p2 (Array.getElem?_eq_some_iff.1 h2).1 (by simp [hn2])).trans h2)
  case ca =>
    refine ⟨?_, ?_, trivial⟩
    · exact ⟨(enters_of Tryz.func129 (by kernel_rfl) rfl), fun wz hk hE => (q2.out wz (ERE.kp hE (by decide))).mono fun x w2 ⟨h1, h2⟩ => ⟨_, h1, h2.mono (fun _ h => absurd h List.not_mem_nil), fun _ => rfl, ERE.next hE (by decide) (by decide) h2⟩⟩
    · exact ⟨(enters_of Tryz.func127 (by kernel_rfl) rfl), fun wz hk hE => (q3.out wz (ERE.kp hE (by decide)) (ERE.re hE (by decide))).mono fun x w2 ⟨h1, h2, h3⟩ => ⟨_, h1, h2, fun _ => rfl, ERE.last h3 (by decide)⟩⟩
  case cx =>
    refine ⟨?_, trivial⟩
    · intro T wz H o ho; obtain ⟨h, hg1, hg2, hg3⟩ := (H.fr 3 (by decide : 3 < 10) rfl (by kernel_rfl)) rfl; have he : o.op = .call { callee := .value (.func 129), args := #[.tmp 6, .tmp 8], argTypes := #[139, 34] } := Option.some.inj ((congrArg (fun z => z.map Oper.op) ho).symm.trans (show ((opsOf 1 Tryz.f126)[4]?).map Oper.op = some (.call { callee := .value (.func 129), args := #[.tmp 6, .tmp 8], argTypes := #[139, 34] }) by kernel_rfl)); exact ⟨_, _, op_call2 (enters_of Tryz.func129 (by kernel_rfl) rfl) he (H.ev (.tmp 6) (.at 3) (by kernel_rfl)) ((frame_eval (N := 14) (d := 8) (by decide)).trans hg1), fun hE => (q1.out wz h (ERE.kp hE (by decide)) hg2).mono fun x w2 ⟨h1, h2⟩ => ⟨_, h1, h2.mono (fun _ h => absurd h List.not_mem_nil), fun _ => rfl, ERE.next hE (by decide) (by decide) h2⟩⟩
  case fr =>
    refine ⟨?_, trivial⟩
    · intro T wz H o ho; have he : o.op = .buildSlice 34 1 #[(0, .tmp 7)] := Option.some.inj ((congrArg (fun z => z.map Oper.op) ho).symm.trans (show ((opsOf 1 Tryz.f126)[3]?).map Oper.op = some (.buildSlice 34 1 #[(0, .tmp 7)]) by kernel_rfl)); exact ⟨_, _, op_bsN1 he (H.ev (.tmp 7) (.at 2) (by kernel_rfl)), fun _ => ⟨_, rfl, heap_alloc_new _ _, fun e => by have := (Array.getElem?_eq_some_iff.1 hR).1; have := H.kp.size; omega⟩, (Kp.refl _ _).alloc _, (Kp.refl _ _).alloc _⟩
  case e0 => exact ⟨hR, Kp.refl _ _⟩
  case rest =>
    intro T w3 hout hval k hF hE
    rw [show frameOf vdi1_y.st.N T = (⟨#[T 0, T 1, T 2, T 3, T 4, T 5, T 6, T 7, T 8, T 9, T 10, T 11, T 12, T 13], []⟩ : Act) from frame_list 14 T]
    rw [show T 4 = .string R from hval 9 (by decide : 9 < 10) (.inl rfl)]
    have hE := ERE.fin hE (by decide)
    clear hout hval hF h1 h2 q1 q2 q3 hR
    go_wp2
    go_ret
    exact ⟨rfl, k, hE⟩

set_option maxRecDepth 100000 in
set_option maxHeartbeats 4000000 in
theorem vdistance_z (v : Int) (gn c : Nat) (ns : List Int) (w : World) (hv : v.natAbs ≤ 1000000000000000000) (hs : Nums w gn 0 ns) (hg : gn < w.heap.size) (hb : ∀ n ∈ ns, n.natAbs ≤ 1000000000000000000) (hn0 : 0 < ns.length) (hn : ns.length ≤ 64) (h0 : sqs ns = 0) (hT : Tab w) :
    Calls Tryz.prog 100 #[.int .i64 v, .slice (some ⟨gn, 0, none⟩) ns.length c] w fun e w' => e = .returned (.tuple #[.string ⟨#[]⟩, .int .i64 10]) ∧ Kp [] w w' := by
  have kq : Kp [] w ((w.alloc (.cells #[.int .i64 v] 3 (0, 0))).alloc (.cells #[.slice (some ⟨gn, 0, none⟩) ns.length c] 34 (0, 0))) := ((Kp.refl _ _).alloc _).alloc _
  have e1 : ((w.alloc (.cells #[.int .i64 v] 3 (0, 0))).alloc (.cells #[.slice (some ⟨gn, 0, none⟩) ns.length c] 34 (0, 0))).heap[w.heap.size]? = some (.cells #[.int .i64 v] 3 (0, 0)) := (Below.heap_alloc _ _ _ (by simp)).trans (heap_alloc_new _ _)
  have e2 : ((w.alloc (.cells #[.int .i64 v] 3 (0, 0))).alloc (.cells #[.slice (some ⟨gn, 0, none⟩) ns.length c] 34 (0, 0))).heap[w.heap.size + 1]? = some (.cells #[.slice (some ⟨gn, 0, none⟩) ns.length c] 34 (0, 0)) := by
    have := heap_alloc_new (w.alloc (.cells #[.int .i64 v] 3 (0, 0))) (.cells #[.slice (some ⟨gn, 0, none⟩) ns.length c] 34 (0, 0))
    rwa [World.size_alloc] at this
  generalize hW : (w.alloc (.cells #[.int .i64 v] 3 (0, 0))).alloc (.cells #[.slice (some ⟨gn, 0, none⟩) ns.length c] 34 (0, 0)) = W0 at *
  have hq : Fails 126 #[.pointer (some ⟨w.heap.size, 0, none⟩), .pointer (some ⟨w.heap.size + 1, 0, none⟩)] W0 10 := by
    intro W g h k hgn
    have kd : Kp [] W0 W.drew := k.drew
    have hd : RE W.drew g 0 := h
    have kw : Kp [] w W.drew := kq.trans kd
    have f1 := (kd.block _ (Array.getElem?_eq_some_iff.1 e1).1 (by exact List.not_mem_nil)).trans e1
    have f2 := (kd.block _ (Array.getElem?_eq_some_iff.1 e2).1 (by exact List.not_mem_nil)).trans e2
    have hz1 := (Array.getElem?_eq_some_iff.1 e1).1
    have hz2 := (Array.getElem?_eq_some_iff.1 e2).1
    have hsq : (sqs ns).natAbs < 10 ^ 40 := by
      have := sqs_le ns 1000000000000000000 hb ns.length (Nat.le_refl _)
      rw [List.take_length] at this
      have h64 := Nat.mul_le_mul_right (1000000000000000000 * 1000000000000000000) hn
      omega
    have hvv : (v * v).natAbs < 10 ^ 40 := by have := mul_bd hv hv; omega
    refine ⟨_, vdist_in_z g w.heap.size (w.heap.size + 1) gn ns.length c v (S (v * v)) (S (sqs ns)) ⟨#[]⟩ W (fun e => by omega) (fun e => by omega) hd f1 f2
      (fun W' gl kk hgl => by
        have q := vsquares g gl 1 [v] W' (hd.kept kk (by simp)) (fun i hi => by
          have : i = 0 := by simpa using hi
          subst this
          simp [World.cell?, hgl]) (Array.getElem?_eq_some_iff.1 hgl).1 (by simpa using hv) (by simp) (by simp) (tab_kp hT (kw.trans kk))
        rwa [show sqs [v] = v * v from Int.zero_add _] at q)
      (fun W' kk => vsquares g gn c ns W' (hd.kept kk (by simp)) (fun i hi => by
          have e : W'.cell? ⟨gn, 0 + i, none⟩ = w.cell? ⟨gn, 0 + i, none⟩ := by unfold World.cell?; simp only [(kw.trans kk).block gn hg (by simp)]
          rw [e]; exact hs i hi) (Nat.lt_of_lt_of_le hg (kw.trans kk).size) hb hn0 hn (tab_kp hT (kw.trans kk)))
      (fun W' kk hR' => rof_e 128 g _ _ _ 10 W' (by decide) hR' (fun W2 => by
        rw [h0]
        have q := div_z (vsm_int hvv (by omega)) (by omega) W2
        rwa [vRS_int, show RS (0 : Rat) = S 0 from vRS_int 0] at q) (enters_of Tryz.func128 (by kernel_rfl) rfl))⟩
  have qr := Lib.hid (rresult_rat_e 126 _ 10 (by decide) W0 (enters_of Tryz.func126 (by kernel_rfl) rfl) hq)
  subst hW
  clear hs hg hb hn0 hn h0 hT hq e1 e2 hv
  generalize ns.length = n at *
  go_enter Tryz.func100, Tryz.ntmps100
  go_wp2_with fail
  with_reducible refine qr.out.mono ?_
  rintro e w1 ⟨rfl, k⟩
  go_wp2
  go_ret2
  exact ⟨rfl, kq.trans k⟩

end Go.Proofs.YtcgilcmhandgfaaGreatDoor

/- The reference of layer 7: Ratio, FromLine, ToLine. -/
namespace Go.Proofs.YtcgilcmhandgfaaGreatDoor
open Go.RowKit
open Go.Lib (nDigits itoa decDigits)

theorem op_geq {a : Act} {w : World} {o : Oper} {x : Operand} {v : Int} {b : Bool} (h : o.op = .binOp .geq 3 x (.const (.int .i64 0)) 3) (hx : a.eval x = .int .i64 v) (hb : decide (0 ≤ v) = b) :
    (execOp a.eval o).run Tryz.prog w = .ok (.value (.bool b)) w := by
  have hc : a.eval (.const (.int .i64 0)) = .int .i64 0 := rfl
  subst hb
  generalize a.eval = r at *
  simp [execOp, h, hx, hc, go_sem]
theorem eqP (ax ay bx yb : Int) (W : World) : (Op.equalIn 10000 49 (.agg #[.int .i64 ax, .int .i64 ay]) (.agg #[.int .i64 bx, .int .i64 yb])).run Tryz.prog W = .ok (ax == bx && ay == yb) W := by
  have u3 := Tryz.underlying3
  have a3 := Tryz.isAgg3
  have z3 := Tryz.sizeOf3
  have hS : Tryz.prog.underlying 49 = some (.struct (Tryz.prog.fieldsOf 49)) := by kernel_rfl
  rw [show (10000 : Nat) = 9999 + 1 from rfl, run_equalIn_agg W 9999 49 _ _ hS (by kernel_rfl)]
  simp only [Program.fieldsOf, Tryz.underlying49]
  go_simp
  by_cases h1 : ax = bx <;> by_cases h2 : ay = yb <;> simp [h1, h2]

set_option maxRecDepth 100000 in
set_option maxHeartbeats 4000000 in
theorem rRatio7 (n d : Int) (x xx y r : ByteArray) (w : World)
    (q1 : Hid (Gw w 112 #[.int .i64 n] (.string x)))
    (q2 : Hid (Gw w 131 #[.string x, .string x] (.string xx)))
    (q3 : Hid (Gw w 112 #[.int .i64 d] (.string y)))
    (q4 : Hid (Gw w 130 #[.string xx, .string y] (.string r))) :
    Calls Tryz.prog 133 #[.int .i64 n, .int .i64 d] w fun e w' => e = .returned (.string r) ∧ Kp [] w w' := by
  unfold Gw at q1 q2 q3 q4
  have kk : Kp [] w w := Kp.refl _ _
  go_enter Tryz.func133, Tryz.ntmps133
  go_wp2_with fail
  with_reducible refine (q1.out _ kk).mono ?_
  rintro e w1 ⟨rfl, k⟩
  replace kk := kk.trans k
  clear k
  go_wp2_with fail
  with_reducible refine (q2.out _ kk).mono ?_
  rintro e w2 ⟨rfl, k⟩
  replace kk := kk.trans k
  clear k
  go_wp2_with fail
  with_reducible refine (q3.out _ kk).mono ?_
  rintro e w3 ⟨rfl, k⟩
  replace kk := kk.trans k
  clear k
  go_wp2_with fail
  with_reducible refine (q4.out _ kk).mono ?_
  rintro e w4 ⟨rfl, k⟩
  replace kk := kk.trans k
  clear k
  go_wp2
  go_ret
  exact ⟨rfl, kk⟩

def vrfl_s : RSt := ⟨9, 15, 3, fun i => ([7, 8, 9, 10, 11, 12, 13, 14, 6] : List Nat).getD i 0, fun i => ([0, 0, 0, 1, 0, 0, 1, 1, 0] : List Nat).getD i 0, fun i => ([0, 0, 0, 0, 0, 0, 1, 2, 0] : List Nat).getD i 0, fun i => ([9, 9, 9, 9, 9, 9, 8, 0, 1, 2, 3, 4, 5, 6, 7, 9] : List Nat).getD i 9, fun i => ([3, 6, 7] : List Nat).getD i 0, fun _ => false, fun _ => true, fun _ => 0, fun _ => false⟩
def vrfl_y : RSy := ⟨vrfl_s, fun i => ([.at 3, .at 4, .at 5, .at 6, .at 3, .at 4, .at 7, .at 8, .at 8] : List SV).getD i .un, [(3, .at 2), (4, .at 0), (5, .at 1)], fun i => ([false, false, false, true, false, false, true, true, false] : List Bool).getD i false⟩
def vrfl_ca : List (Nat × Nat × List SV) := [(3, 87, [.at 3, .at 4, .at 5]), (6, 92, [.at 3, .at 4]), (7, 133, [.at 6, .at 7])]
theorem vrfl_ok : reflOk (opsOf 1 Tryz.f102) vrfl_y [0, 1, 2, 4, 5] vrfl_ca [] [] = true := by kernel_rfl
set_option maxRecDepth 100000 in
set_option maxHeartbeats 4000000 in
theorem rFromLine7 (px py ax ay bx yb u f : Int) (r : ByteArray) (w : World)
    (q1 : Hid (Gw w 87 #[.agg #[.int .i64 ax, .int .i64 ay], .agg #[.int .i64 bx, .int .i64 yb], .agg #[.int .i64 px, .int .i64 py]] (.int .i64 u)))
    (q2 : Hid (Gw w 92 #[.agg #[.int .i64 ax, .int .i64 ay], .agg #[.int .i64 bx, .int .i64 yb]] (.int .i64 f)))
    (q3 : Hid (Gw w 133 #[.int .i64 u, .int .i64 f] (.string r))) :
    Calls Tryz.prog 102 #[.agg #[.int .i64 px, .int .i64 py], .agg #[.int .i64 ax, .int .i64 ay], .agg #[.int .i64 bx, .int .i64 yb]] w fun e w' => e = .returned (.string r) ∧ Kp [] w w' := by
  unfold Gw at q1 q2 q3
  have sp := PtB.made w px py
  replace sp := sp.alloc (.cells #[.int .i64 ax, .int .i64 ay] 49 (0, 0))
  replace sp := sp.alloc (.cells #[.int .i64 bx, .int .i64 yb] 49 (0, 0))
  have sa := PtB.made (w.alloc (.cells #[.int .i64 px, .int .i64 py] 49 (0, 0))) ax ay
  replace sa := sa.alloc (.cells #[.int .i64 bx, .int .i64 yb] 49 (0, 0))
  have sb := PtB.made ((w.alloc (.cells #[.int .i64 px, .int .i64 py] 49 (0, 0))).alloc (.cells #[.int .i64 ax, .int .i64 ay] 49 (0, 0))) bx yb
  simp only [World.size_alloc] at *
  have kk : Kp [] w (((w.alloc (.cells #[.int .i64 px, .int .i64 py] 49 (0, 0))).alloc (.cells #[.int .i64 ax, .int .i64 ay] 49 (0, 0))).alloc (.cells #[.int .i64 bx, .int .i64 yb] 49 (0, 0))) := (((Kp.refl _ _).alloc _).alloc _).alloc _
  have xp0 := sp.c0
  have xp1 := sp.c1
  have xa0 := sa.c0
  have xa1 := sa.c1
  have xb0 := sb.c0
  have xb1 := sb.c1
  go_enter Tryz.func102, Tryz.ntmps102
  go_wp2_with fail
  rw [frame_lit]
  refine reg_refl vrfl_y (fun k => ([.pointer (some ⟨w.heap.size + 1, 0, none⟩), .pointer (some ⟨w.heap.size + 1 + 1, 0, none⟩), .pointer (some ⟨w.heap.size, 0, none⟩), .agg #[.int .i64 ax, .int .i64 ay], .agg #[.int .i64 bx, .int .i64 yb], .agg #[.int .i64 px, .int .i64 py], .int .i64 u, .int .i64 f, .string r] : List Value).getD k undef) [] (fun _ _ _ => True) (opsOf 1 Tryz.f102) [0, 1, 2, 4, 5] vrfl_ca [] [] (by kernel_rfl) (by kernel_rfl) vrfl_ok ⟨rfl, rfl, rfl, trivial⟩ ?sp ?ca ?cx (by decide) ?fr (fun _ _ _ _ h _ => h) ?rest
  case sp =>
    refine ⟨?_, ?_, ?_, ?_, ?_, trivial⟩
    · intro T wz H o ho; have he : o.op = .load 49 (.tmp 4) := Option.some.inj ((congrArg (fun z => z.map Oper.op) ho).symm.trans (show ((opsOf 1 Tryz.f102)[0]?).map Oper.op = some (.load 49 (.tmp 4)) by kernel_rfl)); exact op_ldP he (H.ev (.tmp 4) (.at 0) (by kernel_rfl)) (PtB.kept (L := []) (show PtB (World.drew (((w.alloc (.cells #[.int .i64 px, .int .i64 py] 49 (0, 0))).alloc (.cells #[.int .i64 ax, .int .i64 ay] 49 (0, 0))).alloc (.cells #[.int .i64 bx, .int .i64 yb] 49 (0, 0)))) _ _ _ from sa) H.kp (by simp))
    · intro T wz H o ho; have he : o.op = .load 49 (.tmp 5) := Option.some.inj ((congrArg (fun z => z.map Oper.op) ho).symm.trans (show ((opsOf 1 Tryz.f102)[1]?).map Oper.op = some (.load 49 (.tmp 5)) by kernel_rfl)); exact op_ldP he (H.ev (.tmp 5) (.at 1) (by kernel_rfl)) (PtB.kept (L := []) (show PtB (World.drew (((w.alloc (.cells #[.int .i64 px, .int .i64 py] 49 (0, 0))).alloc (.cells #[.int .i64 ax, .int .i64 ay] 49 (0, 0))).alloc (.cells #[.int .i64 bx, .int .i64 yb] 49 (0, 0)))) _ _ _ from sb) H.kp (by simp))
    · intro T wz H o ho; have he : o.op = .load 49 (.tmp 3) := Option.some.inj ((congrArg (fun z => z.map Oper.op) ho).symm.trans (show ((opsOf 1 Tryz.f102)[2]?).map Oper.op = some (.load 49 (.tmp 3)) by kernel_rfl)); exact op_ldP he (H.ev (.tmp 3) (.at 2) (by kernel_rfl)) (PtB.kept (L := []) (show PtB (World.drew (((w.alloc (.cells #[.int .i64 px, .int .i64 py] 49 (0, 0))).alloc (.cells #[.int .i64 ax, .int .i64 ay] 49 (0, 0))).alloc (.cells #[.int .i64 bx, .int .i64 yb] 49 (0, 0)))) _ _ _ from sp) H.kp (by simp))
    · intro T wz H o ho; have he : o.op = .load 49 (.tmp 4) := Option.some.inj ((congrArg (fun z => z.map Oper.op) ho).symm.trans (show ((opsOf 1 Tryz.f102)[4]?).map Oper.op = some (.load 49 (.tmp 4)) by kernel_rfl)); exact op_ldP he (H.ev (.tmp 4) (.at 0) (by kernel_rfl)) (PtB.kept (L := []) (show PtB (World.drew (((w.alloc (.cells #[.int .i64 px, .int .i64 py] 49 (0, 0))).alloc (.cells #[.int .i64 ax, .int .i64 ay] 49 (0, 0))).alloc (.cells #[.int .i64 bx, .int .i64 yb] 49 (0, 0)))) _ _ _ from sa) H.kp (by simp))
    · intro T wz H o ho; have he : o.op = .load 49 (.tmp 5) := Option.some.inj ((congrArg (fun z => z.map Oper.op) ho).symm.trans (show ((opsOf 1 Tryz.f102)[5]?).map Oper.op = some (.load 49 (.tmp 5)) by kernel_rfl)); exact op_ldP he (H.ev (.tmp 5) (.at 1) (by kernel_rfl)) (PtB.kept (L := []) (show PtB (World.drew (((w.alloc (.cells #[.int .i64 px, .int .i64 py] 49 (0, 0))).alloc (.cells #[.int .i64 ax, .int .i64 ay] 49 (0, 0))).alloc (.cells #[.int .i64 bx, .int .i64 yb] 49 (0, 0)))) _ _ _ from sb) H.kp (by simp))
  case ca =>
    refine ⟨?_, ?_, ?_, trivial⟩
    · exact ⟨(enters_of Tryz.func87 (by kernel_rfl) rfl), fun wz hk => (q1.out wz (kk.drew.trans hk)).mono fun x w2 ⟨h1, h2⟩ => ⟨_, h1, h2, fun _ => rfl⟩⟩
    · exact ⟨(enters_of Tryz.func92 (by kernel_rfl) rfl), fun wz hk => (q2.out wz (kk.drew.trans hk)).mono fun x w2 ⟨h1, h2⟩ => ⟨_, h1, h2, fun _ => rfl⟩⟩
    · exact ⟨(enters_of Tryz.func133 (by kernel_rfl) rfl), fun wz hk => (q3.out wz (kk.drew.trans hk)).mono fun x w2 ⟨h1, h2⟩ => ⟨_, h1, h2, fun _ => rfl⟩⟩
  case cx =>
    exact trivial
  case fr =>
    exact trivial
  case rest =>
    intro T w1 hout hval k hF
    rw [show frameOf vrfl_y.st.N T = (⟨#[T 0, T 1, T 2, T 3, T 4, T 5, T 6, T 7, T 8, T 9, T 10, T 11, T 12, T 13, T 14], []⟩ : Act) from frame_list 15 T]
    rw [show T 6 = .string r from hval 8 (by decide : 8 < 9) (.inl rfl)]
    replace sp := sp.kept k (by simp)
    replace sa := sa.kept k (by simp)
    replace sb := sb.kept k (by simp)
    clear xp0 xp1 xa0 xa1 xb0 xb1
    have xp0 := sp.c0
    have xp1 := sp.c1
    have xa0 := sa.c0
    have xa1 := sa.c1
    have xb0 := sb.c0
    have xb1 := sb.c1
    replace kk := kk.trans k
    clear k hout hval hF
    clear sp sa sb xp0 xp1 xa0 xa1 xb0 xb1
    go_wp2
    go_ret
    exact ⟨rfl, kk⟩

set_option maxRecDepth 100000 in
set_option maxHeartbeats 4000000 in
theorem rToLine7_e (px py ax ay bx yb E : Int) (w : World)
    (he : (E != 0) = true)
    (q1 : Hid (Gw w 86 #[.agg #[.int .i64 px, .int .i64 py], .agg #[.int .i64 ax, .int .i64 ay], .agg #[.int .i64 bx, .int .i64 yb]] (.int .i64 E))) :
    Calls Tryz.prog 45 #[.agg #[.int .i64 px, .int .i64 py], .agg #[.int .i64 ax, .int .i64 ay], .agg #[.int .i64 bx, .int .i64 yb]] w fun e w' => e = .returned (.tuple #[.string ⟨#[]⟩, .int .i64 E]) ∧ Kp [] w w' := by
  unfold Gw at q1
  have sp := PtB.made w px py
  replace sp := sp.alloc (.cells #[.int .i64 ax, .int .i64 ay] 49 (0, 0))
  replace sp := sp.alloc (.cells #[.int .i64 bx, .int .i64 yb] 49 (0, 0))
  have sa := PtB.made (w.alloc (.cells #[.int .i64 px, .int .i64 py] 49 (0, 0))) ax ay
  replace sa := sa.alloc (.cells #[.int .i64 bx, .int .i64 yb] 49 (0, 0))
  have sb := PtB.made ((w.alloc (.cells #[.int .i64 px, .int .i64 py] 49 (0, 0))).alloc (.cells #[.int .i64 ax, .int .i64 ay] 49 (0, 0))) bx yb
  simp only [World.size_alloc] at *
  have kk : Kp [] w (((w.alloc (.cells #[.int .i64 px, .int .i64 py] 49 (0, 0))).alloc (.cells #[.int .i64 ax, .int .i64 ay] 49 (0, 0))).alloc (.cells #[.int .i64 bx, .int .i64 yb] 49 (0, 0))) := (((Kp.refl _ _).alloc _).alloc _).alloc _
  have xp0 := sp.c0
  have xp1 := sp.c1
  have xa0 := sa.c0
  have xa1 := sa.c1
  have xb0 := sb.c0
  have xb1 := sb.c1
  go_enter Tryz.func45, Tryz.ntmps45
  go_wp2_with fail
  with_reducible refine (q1.out _ kk).mono ?_
  rintro e w1 ⟨rfl, k⟩
  replace sp := sp.kept k (by simp)
  replace sa := sa.kept k (by simp)
  replace sb := sb.kept k (by simp)
  clear xp0 xp1 xa0 xa1 xb0 xb1
  have xp0 := sp.c0
  have xp1 := sp.c1
  have xa0 := sa.c0
  have xa1 := sa.c1
  have xb0 := sb.c0
  have xb1 := sb.c1
  replace kk := kk.trans k
  clear k
  clear sp sa sb xp0 xp1 xa0 xa1 xb0 xb1
  go_wp2
  go_ret2
  exact ⟨rfl, kk⟩

set_option maxRecDepth 100000 in
set_option maxHeartbeats 4000000 in
theorem rToLine7_z (px py ax ay bx yb : Int) (w : World)
    (hab : (ax == bx && ay == yb) = true)
    (q1 : Hid (Gw w 86 #[.agg #[.int .i64 px, .int .i64 py], .agg #[.int .i64 ax, .int .i64 ay], .agg #[.int .i64 bx, .int .i64 yb]] (.int .i64 0))) :
    Calls Tryz.prog 45 #[.agg #[.int .i64 px, .int .i64 py], .agg #[.int .i64 ax, .int .i64 ay], .agg #[.int .i64 bx, .int .i64 yb]] w fun e w' => e = .returned (.tuple #[.string ⟨#[]⟩, .int .i64 10]) ∧ Kp [] w w' := by
  unfold Gw at q1
  have sp := PtB.made w px py
  replace sp := sp.alloc (.cells #[.int .i64 ax, .int .i64 ay] 49 (0, 0))
  replace sp := sp.alloc (.cells #[.int .i64 bx, .int .i64 yb] 49 (0, 0))
  have sa := PtB.made (w.alloc (.cells #[.int .i64 px, .int .i64 py] 49 (0, 0))) ax ay
  replace sa := sa.alloc (.cells #[.int .i64 bx, .int .i64 yb] 49 (0, 0))
  have sb := PtB.made ((w.alloc (.cells #[.int .i64 px, .int .i64 py] 49 (0, 0))).alloc (.cells #[.int .i64 ax, .int .i64 ay] 49 (0, 0))) bx yb
  simp only [World.size_alloc] at *
  have kk : Kp [] w (((w.alloc (.cells #[.int .i64 px, .int .i64 py] 49 (0, 0))).alloc (.cells #[.int .i64 ax, .int .i64 ay] 49 (0, 0))).alloc (.cells #[.int .i64 bx, .int .i64 yb] 49 (0, 0))) := (((Kp.refl _ _).alloc _).alloc _).alloc _
  have xp0 := sp.c0
  have xp1 := sp.c1
  have xa0 := sa.c0
  have xa1 := sa.c1
  have xb0 := sb.c0
  have xb1 := sb.c1
  have hA : ∀ W : World, (Op.equalIn 10000 49 (.agg #[.int .i64 ax, .int .i64 ay]) (.agg #[.int .i64 bx, .int .i64 yb])).run Tryz.prog W = .ok true W := fun W => by rw [eqP, hab]
  go_enter Tryz.func45, Tryz.ntmps45
  go_wp2_with fail
  with_reducible refine (q1.out _ kk).mono ?_
  rintro e w1 ⟨rfl, k⟩
  replace sp := sp.kept k (by simp)
  replace sa := sa.kept k (by simp)
  replace sb := sb.kept k (by simp)
  clear xp0 xp1 xa0 xa1 xb0 xb1
  have xp0 := sp.c0
  have xp1 := sp.c1
  have xa0 := sa.c0
  have xa1 := sa.c1
  have xb0 := sb.c0
  have xb1 := sb.c1
  replace kk := kk.trans k
  clear k
  clear sp sa sb
  go_wp2
  go_ret2
  exact ⟨rfl, kk⟩

set_option maxRecDepth 100000 in
set_option maxHeartbeats 4000000 in
theorem rToLine7_0 (px py ax ay bx yb : Int) (r : ByteArray) (w : World)
    (hab : (ax == bx && ay == yb) = false)
    (q1 : Hid (Gw w 86 #[.agg #[.int .i64 px, .int .i64 py], .agg #[.int .i64 ax, .int .i64 ay], .agg #[.int .i64 bx, .int .i64 yb]] (.int .i64 0)))
    (q2 : Hid (Gw w 102 #[.agg #[.int .i64 px, .int .i64 py], .agg #[.int .i64 ax, .int .i64 ay], .agg #[.int .i64 bx, .int .i64 yb]] (.string r))) :
    Calls Tryz.prog 45 #[.agg #[.int .i64 px, .int .i64 py], .agg #[.int .i64 ax, .int .i64 ay], .agg #[.int .i64 bx, .int .i64 yb]] w fun e w' => e = .returned (.tuple #[.string r, .int .i64 0]) ∧ Kp [] w w' := by
  unfold Gw at q1 q2
  have sp := PtB.made w px py
  replace sp := sp.alloc (.cells #[.int .i64 ax, .int .i64 ay] 49 (0, 0))
  replace sp := sp.alloc (.cells #[.int .i64 bx, .int .i64 yb] 49 (0, 0))
  have sa := PtB.made (w.alloc (.cells #[.int .i64 px, .int .i64 py] 49 (0, 0))) ax ay
  replace sa := sa.alloc (.cells #[.int .i64 bx, .int .i64 yb] 49 (0, 0))
  have sb := PtB.made ((w.alloc (.cells #[.int .i64 px, .int .i64 py] 49 (0, 0))).alloc (.cells #[.int .i64 ax, .int .i64 ay] 49 (0, 0))) bx yb
  simp only [World.size_alloc] at *
  have kk : Kp [] w (((w.alloc (.cells #[.int .i64 px, .int .i64 py] 49 (0, 0))).alloc (.cells #[.int .i64 ax, .int .i64 ay] 49 (0, 0))).alloc (.cells #[.int .i64 bx, .int .i64 yb] 49 (0, 0))) := (((Kp.refl _ _).alloc _).alloc _).alloc _
  have xp0 := sp.c0
  have xp1 := sp.c1
  have xa0 := sa.c0
  have xa1 := sa.c1
  have xb0 := sb.c0
  have xb1 := sb.c1
  have hA : ∀ W : World, (Op.equalIn 10000 49 (.agg #[.int .i64 ax, .int .i64 ay]) (.agg #[.int .i64 bx, .int .i64 yb])).run Tryz.prog W = .ok false W := fun W => by rw [eqP, hab]
  go_enter Tryz.func45, Tryz.ntmps45
  go_wp2_with fail
  with_reducible refine (q1.out _ kk).mono ?_
  rintro e w1 ⟨rfl, k⟩
  replace sp := sp.kept k (by simp)
  replace sa := sa.kept k (by simp)
  replace sb := sb.kept k (by simp)
  clear xp0 xp1 xa0 xa1 xb0 xb1
  have xp0 := sp.c0
  have xp1 := sp.c1
  have xa0 := sa.c0
  have xa1 := sa.c1
  have xb0 := sb.c0
  have xb1 := sb.c1
  replace kk := kk.trans k
  clear k
  go_wp2_with fail
  with_reducible refine (q2.out _ kk).mono ?_
  rintro e w2 ⟨rfl, k⟩
  replace sp := sp.kept k (by simp)
  replace sa := sa.kept k (by simp)
  replace sb := sb.kept k (by simp)
  clear xp0 xp1 xa0 xa1 xb0 xb1
  have xp0 := sp.c0
  have xp1 := sp.c1
  have xa0 := sa.c0
  have xa1 := sa.c1
  have xb0 := sb.c0
  have xb1 := sb.c1
  replace kk := kk.trans k
  clear k
  clear sp sa sb xp0 xp1 xa0 xa1 xb0 xb1
  go_wp2
  go_ret2
  exact ⟨rfl, kk⟩

end Go.Proofs.YtcgilcmhandgfaaGreatDoor

/- The reference of layer 7: FromSegment, ToSegment. -/
namespace Go.Proofs.YtcgilcmhandgfaaGreatDoor
open Go.RowKit
open Go.Lib (nDigits itoa decDigits)

def vrs1a_s : RSt := ⟨6, 35, 2, fun i => ([11, 12, 13, 14, 15, 16] : List Nat).getD i 0, fun i => ([0, 0, 0, 1, 1, 0] : List Nat).getD i 0, fun i => ([0, 0, 0, 0, 1, 0] : List Nat).getD i 0, fun i => ([6, 6, 6, 6, 6, 6, 6, 6, 6, 6, 6, 0, 1, 2, 3, 4, 5, 6, 6, 6, 6, 6, 6, 6, 6, 6, 6, 6, 6, 6, 6, 6, 6, 6, 6, 6] : List Nat).getD i 6, fun i => ([3, 4] : List Nat).getD i 0, fun _ => false, fun _ => true, fun _ => 0, fun _ => false⟩
def vrs1a_y : RSy := ⟨vrs1a_s, fun i => ([.at 4, .at 5, .at 6, .at 7, .at 3, .bool true] : List SV).getD i .un, [(3, .at 1), (4, .at 2), (7, .at 0)], fun i => ([false, false, false, true, true, false] : List Bool).getD i false⟩
def vrs1a_ca : List (Nat × Nat × List SV) := [(3, 120, [.at 5, .at 6]), (4, 84, [.at 4, .at 7])]
theorem vrs1a_ok : reflOk (opsOf 2 Tryz.f104) vrs1a_y [0, 1, 2, 5] vrs1a_ca [] [] = true := by kernel_rfl
set_option maxRecDepth 100000 in
set_option maxHeartbeats 4000000 in
theorem rFromSegment7_1 (px py ax ay bx yb dx dy ux uy t1 f : Int) (r : ByteArray) (w : World)
    (qd : Hid (Gw w 120 #[.agg #[.int .i64 bx, .int .i64 yb], .agg #[.int .i64 ax, .int .i64 ay]] (.agg #[.int .i64 dx, .int .i64 dy])))
    (q1 : Hid (Gw w 120 #[.agg #[.int .i64 px, .int .i64 py], .agg #[.int .i64 ax, .int .i64 ay]] (.agg #[.int .i64 ux, .int .i64 uy])))
    (q2 : Hid (Gw w 84 #[.agg #[.int .i64 dx, .int .i64 dy], .agg #[.int .i64 ux, .int .i64 uy]] (.int .i64 t1)))
    (h1 : decide (t1 ≤ 0) = true)
    (qf : Hid (Gw w 92 #[.agg #[.int .i64 px, .int .i64 py], .agg #[.int .i64 ax, .int .i64 ay]] (.int .i64 f)))
    (qw : Hid (Gw w 53 #[.int .i64 f] (.string r))) :
    Calls Tryz.prog 104 #[.agg #[.int .i64 px, .int .i64 py], .agg #[.int .i64 ax, .int .i64 ay], .agg #[.int .i64 bx, .int .i64 yb]] w fun e w' => e = .returned (.string r) ∧ Kp [] w w' := by
  unfold Gw at qd q1 q2 qf qw
  have sp := PtB.made w px py
  replace sp := sp.alloc (.cells #[.int .i64 ax, .int .i64 ay] 49 (0, 0))
  replace sp := sp.alloc (.cells #[.int .i64 bx, .int .i64 yb] 49 (0, 0))
  have sa := PtB.made (w.alloc (.cells #[.int .i64 px, .int .i64 py] 49 (0, 0))) ax ay
  replace sa := sa.alloc (.cells #[.int .i64 bx, .int .i64 yb] 49 (0, 0))
  have sb := PtB.made ((w.alloc (.cells #[.int .i64 px, .int .i64 py] 49 (0, 0))).alloc (.cells #[.int .i64 ax, .int .i64 ay] 49 (0, 0))) bx yb
  simp only [World.size_alloc] at *
  have kk : Kp [] w (((w.alloc (.cells #[.int .i64 px, .int .i64 py] 49 (0, 0))).alloc (.cells #[.int .i64 ax, .int .i64 ay] 49 (0, 0))).alloc (.cells #[.int .i64 bx, .int .i64 yb] 49 (0, 0))) := (((Kp.refl _ _).alloc _).alloc _).alloc _
  have xp0 := sp.c0
  have xp1 := sp.c1
  have xa0 := sa.c0
  have xa1 := sa.c1
  have xb0 := sb.c0
  have xb1 := sb.c1
  go_enter Tryz.func104, Tryz.ntmps104
  go_wp2_with fail
  with_reducible refine (qd.out _ kk).mono ?_
  rintro e w1 ⟨rfl, k⟩
  replace sp := sp.kept k (by simp)
  replace sa := sa.kept k (by simp)
  replace sb := sb.kept k (by simp)
  clear xp0 xp1 xa0 xa1 xb0 xb1
  have xp0 := sp.c0
  have xp1 := sp.c1
  have xa0 := sa.c0
  have xa1 := sa.c1
  have xb0 := sb.c0
  have xb1 := sb.c1
  replace kk := kk.trans k
  clear k
  clear xp0 xp1 xa0 xa1 xb0 xb1
  replace sp := sp.alloc (.cells #[.int .i64 dx, .int .i64 dy] 49 (0, 0))
  replace sa := sa.alloc (.cells #[.int .i64 dx, .int .i64 dy] 49 (0, 0))
  replace sb := sb.alloc (.cells #[.int .i64 dx, .int .i64 dy] 49 (0, 0))
  have sd := PtB.made w1 dx dy
  replace kk := kk.alloc (.cells #[.int .i64 dx, .int .i64 dy] 49 (0, 0))
  have xp0 := sp.c0
  have xp1 := sp.c1
  have xa0 := sa.c0
  have xa1 := sa.c1
  have xb0 := sb.c0
  have xb1 := sb.c1
  have xd0 := sd.c0
  have xd1 := sd.c1
  go_wp2_with fail
  rw [frame_lit]
  refine reg_refl vrs1a_y (fun k => ([.pointer (some ⟨w1.heap.size, 0, none⟩), .pointer (some ⟨w.heap.size, 0, none⟩), .pointer (some ⟨w.heap.size + 1, 0, none⟩), .int .i64 t1, .agg #[.int .i64 dx, .int .i64 dy], .agg #[.int .i64 px, .int .i64 py], .agg #[.int .i64 ax, .int .i64 ay], .agg #[.int .i64 ux, .int .i64 uy]] : List Value).getD k undef) [] (fun _ _ _ => True) (opsOf 2 Tryz.f104) [0, 1, 2, 5] vrs1a_ca [] [] (by kernel_rfl) (by kernel_rfl) vrs1a_ok ⟨rfl, rfl, rfl, trivial⟩ ?sp ?ca ?cx (by decide) ?fr (fun _ _ _ _ h _ => h) ?rest
  case sp =>
    refine ⟨?_, ?_, ?_, ?_, trivial⟩
    · intro T wz H o ho; have he : o.op = .load 49 (.tmp 7) := Option.some.inj ((congrArg (fun z => z.map Oper.op) ho).symm.trans (show ((opsOf 2 Tryz.f104)[0]?).map Oper.op = some (.load 49 (.tmp 7)) by kernel_rfl)); exact op_ldP he (H.ev (.tmp 7) (.at 0) (by kernel_rfl)) (PtB.kept (L := []) (show PtB (World.drew (w1.alloc (.cells #[.int .i64 dx, .int .i64 dy] 49 (0, 0)))) _ _ _ from sd) H.kp (by simp))
    · intro T wz H o ho; have he : o.op = .load 49 (.tmp 3) := Option.some.inj ((congrArg (fun z => z.map Oper.op) ho).symm.trans (show ((opsOf 2 Tryz.f104)[1]?).map Oper.op = some (.load 49 (.tmp 3)) by kernel_rfl)); exact op_ldP he (H.ev (.tmp 3) (.at 1) (by kernel_rfl)) (PtB.kept (L := []) (show PtB (World.drew (w1.alloc (.cells #[.int .i64 dx, .int .i64 dy] 49 (0, 0)))) _ _ _ from sp) H.kp (by simp))
    · intro T wz H o ho; have he : o.op = .load 49 (.tmp 4) := Option.some.inj ((congrArg (fun z => z.map Oper.op) ho).symm.trans (show ((opsOf 2 Tryz.f104)[2]?).map Oper.op = some (.load 49 (.tmp 4)) by kernel_rfl)); exact op_ldP he (H.ev (.tmp 4) (.at 2) (by kernel_rfl)) (PtB.kept (L := []) (show PtB (World.drew (w1.alloc (.cells #[.int .i64 dx, .int .i64 dy] 49 (0, 0)))) _ _ _ from sa) H.kp (by simp))
    · intro T wz H o ho; have he : o.op = .binOp .leq 3 (.tmp 15) (.const (.int .i64 0)) 3 := Option.some.inj ((congrArg (fun z => z.map Oper.op) ho).symm.trans (show ((opsOf 2 Tryz.f104)[5]?).map Oper.op = some (.binOp .leq 3 (.tmp 15) (.const (.int .i64 0)) 3) by kernel_rfl)); exact op_leq he (H.ev (.tmp 15) (.at 3) (by kernel_rfl)) h1
  case ca =>
    refine ⟨?_, ?_, trivial⟩
    · exact ⟨(enters_of Tryz.func120 (by kernel_rfl) rfl), fun wz hk => (q1.out wz (kk.drew.trans hk)).mono fun x w2 ⟨h1, h2⟩ => ⟨_, h1, h2, fun _ => rfl⟩⟩
    · exact ⟨(enters_of Tryz.func84 (by kernel_rfl) rfl), fun wz hk => (q2.out wz (kk.drew.trans hk)).mono fun x w2 ⟨h1, h2⟩ => ⟨_, h1, h2, fun _ => rfl⟩⟩
  case cx =>
    exact trivial
  case fr =>
    exact trivial
  case rest =>
    intro T w2 hout hval k hF
    rw [show frameOf vrs1a_y.st.N T = (⟨#[T 0, T 1, T 2, T 3, T 4, T 5, T 6, T 7, T 8, T 9, T 10, T 11, T 12, T 13, T 14, T 15, T 16, T 17, T 18, T 19, T 20, T 21, T 22, T 23, T 24, T 25, T 26, T 27, T 28, T 29, T 30, T 31, T 32, T 33, T 34], []⟩ : Act) from frame_list 35 T]
    rw [show T 3 = .pointer (some ⟨w.heap.size, 0, none⟩) from hout 3 rfl]
    rw [show T 4 = .pointer (some ⟨w.heap.size + 1, 0, none⟩) from hout 4 rfl]
    rw [show T 5 = .pointer (some ⟨w.heap.size + 1 + 1, 0, none⟩) from hout 5 rfl]
    rw [show T 7 = .pointer (some ⟨w1.heap.size, 0, none⟩) from hout 7 rfl]
    rw [show T 16 = .bool true from hval 5 (by decide : 5 < 6) (.inl rfl)]
    replace sp := sp.kept k (by simp)
    replace sa := sa.kept k (by simp)
    replace sb := sb.kept k (by simp)
    replace sd := sd.kept k (by simp)
    clear xp0 xp1 xa0 xa1 xb0 xb1 xd0 xd1
    have xp0 := sp.c0
    have xp1 := sp.c1
    have xa0 := sa.c0
    have xa1 := sa.c1
    have xb0 := sb.c0
    have xb1 := sb.c1
    have xd0 := sd.c0
    have xd1 := sd.c1
    replace kk := kk.trans k
    clear k hout hval hF
    go_wp2_with fail
    with_reducible refine (qf.out _ kk).mono ?_
    rintro e w3 ⟨rfl, k⟩
    replace sp := sp.kept k (by simp)
    replace sa := sa.kept k (by simp)
    replace sb := sb.kept k (by simp)
    replace sd := sd.kept k (by simp)
    clear xp0 xp1 xa0 xa1 xb0 xb1 xd0 xd1
    have xp0 := sp.c0
    have xp1 := sp.c1
    have xa0 := sa.c0
    have xa1 := sa.c1
    have xb0 := sb.c0
    have xb1 := sb.c1
    have xd0 := sd.c0
    have xd1 := sd.c1
    replace kk := kk.trans k
    clear k
    go_wp2_with fail
    with_reducible refine (qw.out _ kk).mono ?_
    rintro e w4 ⟨rfl, k⟩
    replace sp := sp.kept k (by simp)
    replace sa := sa.kept k (by simp)
    replace sb := sb.kept k (by simp)
    replace sd := sd.kept k (by simp)
    clear xp0 xp1 xa0 xa1 xb0 xb1 xd0 xd1
    have xp0 := sp.c0
    have xp1 := sp.c1
    have xa0 := sa.c0
    have xa1 := sa.c1
    have xb0 := sb.c0
    have xb1 := sb.c1
    have xd0 := sd.c0
    have xd1 := sd.c1
    replace kk := kk.trans k
    clear k
    clear sp sa sb sd xp0 xp1 xa0 xa1 xb0 xb1 xd0 xd1
    go_wp2
    go_ret
    exact ⟨rfl, kk⟩

def vrs2a_s : RSt := ⟨6, 35, 2, fun i => ([11, 12, 13, 14, 15, 16] : List Nat).getD i 0, fun i => ([0, 0, 0, 1, 1, 0] : List Nat).getD i 0, fun i => ([0, 0, 0, 0, 1, 0] : List Nat).getD i 0, fun i => ([6, 6, 6, 6, 6, 6, 6, 6, 6, 6, 6, 0, 1, 2, 3, 4, 5, 6, 6, 6, 6, 6, 6, 6, 6, 6, 6, 6, 6, 6, 6, 6, 6, 6, 6, 6] : List Nat).getD i 6, fun i => ([3, 4] : List Nat).getD i 0, fun _ => false, fun _ => true, fun _ => 0, fun _ => false⟩
def vrs2a_y : RSy := ⟨vrs2a_s, fun i => ([.at 4, .at 5, .at 6, .at 7, .at 3, .bool false] : List SV).getD i .un, [(3, .at 1), (4, .at 2), (7, .at 0)], fun i => ([false, false, false, true, true, false] : List Bool).getD i false⟩
def vrs2a_ca : List (Nat × Nat × List SV) := [(3, 120, [.at 5, .at 6]), (4, 84, [.at 4, .at 7])]
theorem vrs2a_ok : reflOk (opsOf 2 Tryz.f104) vrs2a_y [0, 1, 2, 5] vrs2a_ca [] [] = true := by kernel_rfl
def vrs2b_s : RSt := ⟨6, 35, 2, fun i => ([21, 22, 23, 24, 25, 26] : List Nat).getD i 0, fun i => ([0, 0, 0, 1, 1, 0] : List Nat).getD i 0, fun i => ([0, 0, 0, 0, 1, 0] : List Nat).getD i 0, fun i => ([6, 6, 6, 6, 6, 6, 6, 6, 6, 6, 6, 6, 6, 6, 6, 6, 6, 6, 6, 6, 6, 0, 1, 2, 3, 4, 5, 6, 6, 6, 6, 6, 6, 6, 6, 6] : List Nat).getD i 6, fun i => ([3, 4] : List Nat).getD i 0, fun _ => false, fun _ => true, fun _ => 0, fun _ => false⟩
def vrs2b_y : RSy := ⟨vrs2b_s, fun i => ([.at 4, .at 5, .at 6, .at 7, .at 3, .bool true] : List SV).getD i .un, [(3, .at 1), (5, .at 2), (7, .at 0)], fun i => ([false, false, false, true, true, false] : List Bool).getD i false⟩
def vrs2b_ca : List (Nat × Nat × List SV) := [(3, 120, [.at 5, .at 6]), (4, 84, [.at 4, .at 7])]
theorem vrs2b_ok : reflOk (opsOf 4 Tryz.f104) vrs2b_y [0, 1, 2, 5] vrs2b_ca [] [] = true := by kernel_rfl
set_option maxRecDepth 100000 in
set_option maxHeartbeats 4000000 in
theorem rFromSegment7_2 (px py ax ay bx yb dx dy ux uy t1 vx vy t2 f : Int) (r : ByteArray) (w : World)
    (qd : Hid (Gw w 120 #[.agg #[.int .i64 bx, .int .i64 yb], .agg #[.int .i64 ax, .int .i64 ay]] (.agg #[.int .i64 dx, .int .i64 dy])))
    (q1 : Hid (Gw w 120 #[.agg #[.int .i64 px, .int .i64 py], .agg #[.int .i64 ax, .int .i64 ay]] (.agg #[.int .i64 ux, .int .i64 uy])))
    (q2 : Hid (Gw w 84 #[.agg #[.int .i64 dx, .int .i64 dy], .agg #[.int .i64 ux, .int .i64 uy]] (.int .i64 t1)))
    (h1 : decide (t1 ≤ 0) = false)
    (q3 : Hid (Gw w 120 #[.agg #[.int .i64 px, .int .i64 py], .agg #[.int .i64 bx, .int .i64 yb]] (.agg #[.int .i64 vx, .int .i64 vy])))
    (q4 : Hid (Gw w 84 #[.agg #[.int .i64 dx, .int .i64 dy], .agg #[.int .i64 vx, .int .i64 vy]] (.int .i64 t2)))
    (h2 : decide (0 ≤ t2) = true)
    (qf : Hid (Gw w 92 #[.agg #[.int .i64 px, .int .i64 py], .agg #[.int .i64 bx, .int .i64 yb]] (.int .i64 f)))
    (qw : Hid (Gw w 53 #[.int .i64 f] (.string r))) :
    Calls Tryz.prog 104 #[.agg #[.int .i64 px, .int .i64 py], .agg #[.int .i64 ax, .int .i64 ay], .agg #[.int .i64 bx, .int .i64 yb]] w fun e w' => e = .returned (.string r) ∧ Kp [] w w' := by
  unfold Gw at qd q1 q2 q3 q4 qf qw
  have sp := PtB.made w px py
  replace sp := sp.alloc (.cells #[.int .i64 ax, .int .i64 ay] 49 (0, 0))
  replace sp := sp.alloc (.cells #[.int .i64 bx, .int .i64 yb] 49 (0, 0))
  have sa := PtB.made (w.alloc (.cells #[.int .i64 px, .int .i64 py] 49 (0, 0))) ax ay
  replace sa := sa.alloc (.cells #[.int .i64 bx, .int .i64 yb] 49 (0, 0))
  have sb := PtB.made ((w.alloc (.cells #[.int .i64 px, .int .i64 py] 49 (0, 0))).alloc (.cells #[.int .i64 ax, .int .i64 ay] 49 (0, 0))) bx yb
  simp only [World.size_alloc] at *
  have kk : Kp [] w (((w.alloc (.cells #[.int .i64 px, .int .i64 py] 49 (0, 0))).alloc (.cells #[.int .i64 ax, .int .i64 ay] 49 (0, 0))).alloc (.cells #[.int .i64 bx, .int .i64 yb] 49 (0, 0))) := (((Kp.refl _ _).alloc _).alloc _).alloc _
  have xp0 := sp.c0
  have xp1 := sp.c1
  have xa0 := sa.c0
  have xa1 := sa.c1
  have xb0 := sb.c0
  have xb1 := sb.c1
  go_enter Tryz.func104, Tryz.ntmps104
  go_wp2_with fail
  with_reducible refine (qd.out _ kk).mono ?_
  rintro e w1 ⟨rfl, k⟩
  replace sp := sp.kept k (by simp)
  replace sa := sa.kept k (by simp)
  replace sb := sb.kept k (by simp)
  clear xp0 xp1 xa0 xa1 xb0 xb1
  have xp0 := sp.c0
  have xp1 := sp.c1
  have xa0 := sa.c0
  have xa1 := sa.c1
  have xb0 := sb.c0
  have xb1 := sb.c1
  replace kk := kk.trans k
  clear k
  clear xp0 xp1 xa0 xa1 xb0 xb1
  replace sp := sp.alloc (.cells #[.int .i64 dx, .int .i64 dy] 49 (0, 0))
  replace sa := sa.alloc (.cells #[.int .i64 dx, .int .i64 dy] 49 (0, 0))
  replace sb := sb.alloc (.cells #[.int .i64 dx, .int .i64 dy] 49 (0, 0))
  have sd := PtB.made w1 dx dy
  replace kk := kk.alloc (.cells #[.int .i64 dx, .int .i64 dy] 49 (0, 0))
  have xp0 := sp.c0
  have xp1 := sp.c1
  have xa0 := sa.c0
  have xa1 := sa.c1
  have xb0 := sb.c0
  have xb1 := sb.c1
  have xd0 := sd.c0
  have xd1 := sd.c1
  go_wp2_with fail
  rw [frame_lit]
  refine reg_refl vrs2a_y (fun k => ([.pointer (some ⟨w1.heap.size, 0, none⟩), .pointer (some ⟨w.heap.size, 0, none⟩), .pointer (some ⟨w.heap.size + 1, 0, none⟩), .int .i64 t1, .agg #[.int .i64 dx, .int .i64 dy], .agg #[.int .i64 px, .int .i64 py], .agg #[.int .i64 ax, .int .i64 ay], .agg #[.int .i64 ux, .int .i64 uy]] : List Value).getD k undef) [] (fun _ _ _ => True) (opsOf 2 Tryz.f104) [0, 1, 2, 5] vrs2a_ca [] [] (by kernel_rfl) (by kernel_rfl) vrs2a_ok ⟨rfl, rfl, rfl, trivial⟩ ?sp ?ca ?cx (by decide) ?fr (fun _ _ _ _ h _ => h) ?rest
  case sp =>
    refine ⟨?_, ?_, ?_, ?_, trivial⟩
    · intro T wz H o ho; have he : o.op = .load 49 (.tmp 7) := Option.some.inj ((congrArg (fun z => z.map Oper.op) ho).symm.trans (show ((opsOf 2 Tryz.f104)[0]?).map Oper.op = some (.load 49 (.tmp 7)) by kernel_rfl)); exact op_ldP he (H.ev (.tmp 7) (.at 0) (by kernel_rfl)) (PtB.kept (L := []) (show PtB (World.drew (w1.alloc (.cells #[.int .i64 dx, .int .i64 dy] 49 (0, 0)))) _ _ _ from sd) H.kp (by simp))
    · intro T wz H o ho; have he : o.op = .load 49 (.tmp 3) := Option.some.inj ((congrArg (fun z => z.map Oper.op) ho).symm.trans (show ((opsOf 2 Tryz.f104)[1]?).map Oper.op = some (.load 49 (.tmp 3)) by kernel_rfl)); exact op_ldP he (H.ev (.tmp 3) (.at 1) (by kernel_rfl)) (PtB.kept (L := []) (show PtB (World.drew (w1.alloc (.cells #[.int .i64 dx, .int .i64 dy] 49 (0, 0)))) _ _ _ from sp) H.kp (by simp))
    · intro T wz H o ho; have he : o.op = .load 49 (.tmp 4) := Option.some.inj ((congrArg (fun z => z.map Oper.op) ho).symm.trans (show ((opsOf 2 Tryz.f104)[2]?).map Oper.op = some (.load 49 (.tmp 4)) by kernel_rfl)); exact op_ldP he (H.ev (.tmp 4) (.at 2) (by kernel_rfl)) (PtB.kept (L := []) (show PtB (World.drew (w1.alloc (.cells #[.int .i64 dx, .int .i64 dy] 49 (0, 0)))) _ _ _ from sa) H.kp (by simp))
    · intro T wz H o ho; have he : o.op = .binOp .leq 3 (.tmp 15) (.const (.int .i64 0)) 3 := Option.some.inj ((congrArg (fun z => z.map Oper.op) ho).symm.trans (show ((opsOf 2 Tryz.f104)[5]?).map Oper.op = some (.binOp .leq 3 (.tmp 15) (.const (.int .i64 0)) 3) by kernel_rfl)); exact op_leq he (H.ev (.tmp 15) (.at 3) (by kernel_rfl)) h1
  case ca =>
    refine ⟨?_, ?_, trivial⟩
    · exact ⟨(enters_of Tryz.func120 (by kernel_rfl) rfl), fun wz hk => (q1.out wz (kk.drew.trans hk)).mono fun x w2 ⟨h1, h2⟩ => ⟨_, h1, h2, fun _ => rfl⟩⟩
    · exact ⟨(enters_of Tryz.func84 (by kernel_rfl) rfl), fun wz hk => (q2.out wz (kk.drew.trans hk)).mono fun x w2 ⟨h1, h2⟩ => ⟨_, h1, h2, fun _ => rfl⟩⟩
  case cx =>
    exact trivial
  case fr =>
    exact trivial
  case rest =>
    intro T w2 hout hval k hF
    rw [show frameOf vrs2a_y.st.N T = (⟨#[T 0, T 1, T 2, T 3, T 4, T 5, T 6, T 7, T 8, T 9, T 10, T 11, T 12, T 13, T 14, T 15, T 16, T 17, T 18, T 19, T 20, T 21, T 22, T 23, T 24, T 25, T 26, T 27, T 28, T 29, T 30, T 31, T 32, T 33, T 34], []⟩ : Act) from frame_list 35 T]
    rw [show T 3 = .pointer (some ⟨w.heap.size, 0, none⟩) from hout 3 rfl]
    rw [show T 4 = .pointer (some ⟨w.heap.size + 1, 0, none⟩) from hout 4 rfl]
    rw [show T 5 = .pointer (some ⟨w.heap.size + 1 + 1, 0, none⟩) from hout 5 rfl]
    rw [show T 7 = .pointer (some ⟨w1.heap.size, 0, none⟩) from hout 7 rfl]
    rw [show T 16 = .bool false from hval 5 (by decide : 5 < 6) (.inl rfl)]
    replace sp := sp.kept k (by simp)
    replace sa := sa.kept k (by simp)
    replace sb := sb.kept k (by simp)
    replace sd := sd.kept k (by simp)
    clear xp0 xp1 xa0 xa1 xb0 xb1 xd0 xd1
    have xp0 := sp.c0
    have xp1 := sp.c1
    have xa0 := sa.c0
    have xa1 := sa.c1
    have xb0 := sb.c0
    have xb1 := sb.c1
    have xd0 := sd.c0
    have xd1 := sd.c1
    replace kk := kk.trans k
    clear k hout hval hF
    go_wp2_with fail
    rw [frame_lit]
    refine reg_refl vrs2b_y (fun k => ([.pointer (some ⟨w1.heap.size, 0, none⟩), .pointer (some ⟨w.heap.size, 0, none⟩), .pointer (some ⟨w.heap.size + 1 + 1, 0, none⟩), .int .i64 t2, .agg #[.int .i64 dx, .int .i64 dy], .agg #[.int .i64 px, .int .i64 py], .agg #[.int .i64 bx, .int .i64 yb], .agg #[.int .i64 vx, .int .i64 vy]] : List Value).getD k undef) [] (fun _ _ _ => True) (opsOf 4 Tryz.f104) [0, 1, 2, 5] vrs2b_ca [] [] (by kernel_rfl) (by kernel_rfl) vrs2b_ok ⟨rfl, rfl, rfl, trivial⟩ ?sp ?ca ?cx (by decide) ?fr (fun _ _ _ _ h _ => h) ?rest
    case sp =>
      refine ⟨?_, ?_, ?_, ?_, trivial⟩
      · intro T wz H o ho; have he : o.op = .load 49 (.tmp 7) := Option.some.inj ((congrArg (fun z => z.map Oper.op) ho).symm.trans (show ((opsOf 4 Tryz.f104)[0]?).map Oper.op = some (.load 49 (.tmp 7)) by kernel_rfl)); exact op_ldP he (H.ev (.tmp 7) (.at 0) (by kernel_rfl)) (PtB.kept (L := []) (show PtB (World.drew w2) _ _ _ from sd) H.kp (by simp))
      · intro T wz H o ho; have he : o.op = .load 49 (.tmp 3) := Option.some.inj ((congrArg (fun z => z.map Oper.op) ho).symm.trans (show ((opsOf 4 Tryz.f104)[1]?).map Oper.op = some (.load 49 (.tmp 3)) by kernel_rfl)); exact op_ldP he (H.ev (.tmp 3) (.at 1) (by kernel_rfl)) (PtB.kept (L := []) (show PtB (World.drew w2) _ _ _ from sp) H.kp (by simp))
      · intro T wz H o ho; have he : o.op = .load 49 (.tmp 5) := Option.some.inj ((congrArg (fun z => z.map Oper.op) ho).symm.trans (show ((opsOf 4 Tryz.f104)[2]?).map Oper.op = some (.load 49 (.tmp 5)) by kernel_rfl)); exact op_ldP he (H.ev (.tmp 5) (.at 2) (by kernel_rfl)) (PtB.kept (L := []) (show PtB (World.drew w2) _ _ _ from sb) H.kp (by simp))
      · intro T wz H o ho; have he : o.op = .binOp .geq 3 (.tmp 25) (.const (.int .i64 0)) 3 := Option.some.inj ((congrArg (fun z => z.map Oper.op) ho).symm.trans (show ((opsOf 4 Tryz.f104)[5]?).map Oper.op = some (.binOp .geq 3 (.tmp 25) (.const (.int .i64 0)) 3) by kernel_rfl)); exact op_geq he (H.ev (.tmp 25) (.at 3) (by kernel_rfl)) h2
    case ca =>
      refine ⟨?_, ?_, trivial⟩
      · exact ⟨(enters_of Tryz.func120 (by kernel_rfl) rfl), fun wz hk => (q3.out wz (kk.drew.trans hk)).mono fun x w2 ⟨h1, h2⟩ => ⟨_, h1, h2, fun _ => rfl⟩⟩
      · exact ⟨(enters_of Tryz.func84 (by kernel_rfl) rfl), fun wz hk => (q4.out wz (kk.drew.trans hk)).mono fun x w2 ⟨h1, h2⟩ => ⟨_, h1, h2, fun _ => rfl⟩⟩
    case cx =>
      exact trivial
    case fr =>
      exact trivial
    case rest =>
      intro T w3 hout hval k hF
      rw [show frameOf vrs2b_y.st.N T = (⟨#[T 0, T 1, T 2, T 3, T 4, T 5, T 6, T 7, T 8, T 9, T 10, T 11, T 12, T 13, T 14, T 15, T 16, T 17, T 18, T 19, T 20, T 21, T 22, T 23, T 24, T 25, T 26, T 27, T 28, T 29, T 30, T 31, T 32, T 33, T 34], []⟩ : Act) from frame_list 35 T]
      rw [show T 3 = .pointer (some ⟨w.heap.size, 0, none⟩) from hout 3 rfl]
      rw [show T 4 = .pointer (some ⟨w.heap.size + 1, 0, none⟩) from hout 4 rfl]
      rw [show T 5 = .pointer (some ⟨w.heap.size + 1 + 1, 0, none⟩) from hout 5 rfl]
      rw [show T 7 = .pointer (some ⟨w1.heap.size, 0, none⟩) from hout 7 rfl]
      rw [show T 26 = .bool true from hval 5 (by decide : 5 < 6) (.inl rfl)]
      replace sp := sp.kept k (by simp)
      replace sa := sa.kept k (by simp)
      replace sb := sb.kept k (by simp)
      replace sd := sd.kept k (by simp)
      clear xp0 xp1 xa0 xa1 xb0 xb1 xd0 xd1
      have xp0 := sp.c0
      have xp1 := sp.c1
      have xa0 := sa.c0
      have xa1 := sa.c1
      have xb0 := sb.c0
      have xb1 := sb.c1
      have xd0 := sd.c0
      have xd1 := sd.c1
      replace kk := kk.trans k
      clear k hout hval hF
      go_wp2_with fail
      with_reducible refine (qf.out _ kk).mono ?_
      rintro e w4 ⟨rfl, k⟩
      replace sp := sp.kept k (by simp)
      replace sa := sa.kept k (by simp)
      replace sb := sb.kept k (by simp)
      replace sd := sd.kept k (by simp)
      clear xp0 xp1 xa0 xa1 xb0 xb1 xd0 xd1
      have xp0 := sp.c0
      have xp1 := sp.c1
      have xa0 := sa.c0
      have xa1 := sa.c1
      have xb0 := sb.c0
      have xb1 := sb.c1
      have xd0 := sd.c0
      have xd1 := sd.c1
      replace kk := kk.trans k
      clear k
      go_wp2_with fail
      with_reducible refine (qw.out _ kk).mono ?_
      rintro e w5 ⟨rfl, k⟩
      replace sp := sp.kept k (by simp)
      replace sa := sa.kept k (by simp)
      replace sb := sb.kept k (by simp)
      replace sd := sd.kept k (by simp)
      clear xp0 xp1 xa0 xa1 xb0 xb1 xd0 xd1
      have xp0 := sp.c0
      have xp1 := sp.c1
      have xa0 := sa.c0
      have xa1 := sa.c1
      have xb0 := sb.c0
      have xb1 := sb.c1
      have xd0 := sd.c0
      have xd1 := sd.c1
      replace kk := kk.trans k
      clear k
      clear sp sa sb sd xp0 xp1 xa0 xa1 xb0 xb1 xd0 xd1
      go_wp2
      go_ret
      exact ⟨rfl, kk⟩

def vrs3a_s : RSt := ⟨6, 35, 2, fun i => ([11, 12, 13, 14, 15, 16] : List Nat).getD i 0, fun i => ([0, 0, 0, 1, 1, 0] : List Nat).getD i 0, fun i => ([0, 0, 0, 0, 1, 0] : List Nat).getD i 0, fun i => ([6, 6, 6, 6, 6, 6, 6, 6, 6, 6, 6, 0, 1, 2, 3, 4, 5, 6, 6, 6, 6, 6, 6, 6, 6, 6, 6, 6, 6, 6, 6, 6, 6, 6, 6, 6] : List Nat).getD i 6, fun i => ([3, 4] : List Nat).getD i 0, fun _ => false, fun _ => true, fun _ => 0, fun _ => false⟩
def vrs3a_y : RSy := ⟨vrs3a_s, fun i => ([.at 4, .at 5, .at 6, .at 7, .at 3, .bool false] : List SV).getD i .un, [(3, .at 1), (4, .at 2), (7, .at 0)], fun i => ([false, false, false, true, true, false] : List Bool).getD i false⟩
def vrs3a_ca : List (Nat × Nat × List SV) := [(3, 120, [.at 5, .at 6]), (4, 84, [.at 4, .at 7])]
theorem vrs3a_ok : reflOk (opsOf 2 Tryz.f104) vrs3a_y [0, 1, 2, 5] vrs3a_ca [] [] = true := by kernel_rfl
def vrs3b_s : RSt := ⟨6, 35, 2, fun i => ([21, 22, 23, 24, 25, 26] : List Nat).getD i 0, fun i => ([0, 0, 0, 1, 1, 0] : List Nat).getD i 0, fun i => ([0, 0, 0, 0, 1, 0] : List Nat).getD i 0, fun i => ([6, 6, 6, 6, 6, 6, 6, 6, 6, 6, 6, 6, 6, 6, 6, 6, 6, 6, 6, 6, 6, 0, 1, 2, 3, 4, 5, 6, 6, 6, 6, 6, 6, 6, 6, 6] : List Nat).getD i 6, fun i => ([3, 4] : List Nat).getD i 0, fun _ => false, fun _ => true, fun _ => 0, fun _ => false⟩
def vrs3b_y : RSy := ⟨vrs3b_s, fun i => ([.at 4, .at 5, .at 6, .at 7, .at 3, .bool false] : List SV).getD i .un, [(3, .at 1), (5, .at 2), (7, .at 0)], fun i => ([false, false, false, true, true, false] : List Bool).getD i false⟩
def vrs3b_ca : List (Nat × Nat × List SV) := [(3, 120, [.at 5, .at 6]), (4, 84, [.at 4, .at 7])]
theorem vrs3b_ok : reflOk (opsOf 4 Tryz.f104) vrs3b_y [0, 1, 2, 5] vrs3b_ca [] [] = true := by kernel_rfl
set_option maxRecDepth 100000 in
set_option maxHeartbeats 4000000 in
theorem rFromSegment7_3 (px py ax ay bx yb dx dy ux uy t1 vx vy t2 : Int) (r : ByteArray) (w : World)
    (qd : Hid (Gw w 120 #[.agg #[.int .i64 bx, .int .i64 yb], .agg #[.int .i64 ax, .int .i64 ay]] (.agg #[.int .i64 dx, .int .i64 dy])))
    (q1 : Hid (Gw w 120 #[.agg #[.int .i64 px, .int .i64 py], .agg #[.int .i64 ax, .int .i64 ay]] (.agg #[.int .i64 ux, .int .i64 uy])))
    (q2 : Hid (Gw w 84 #[.agg #[.int .i64 dx, .int .i64 dy], .agg #[.int .i64 ux, .int .i64 uy]] (.int .i64 t1)))
    (h1 : decide (t1 ≤ 0) = false)
    (q3 : Hid (Gw w 120 #[.agg #[.int .i64 px, .int .i64 py], .agg #[.int .i64 bx, .int .i64 yb]] (.agg #[.int .i64 vx, .int .i64 vy])))
    (q4 : Hid (Gw w 84 #[.agg #[.int .i64 dx, .int .i64 dy], .agg #[.int .i64 vx, .int .i64 vy]] (.int .i64 t2)))
    (h2 : decide (0 ≤ t2) = false)
    (ql : Hid (Gw w 102 #[.agg #[.int .i64 px, .int .i64 py], .agg #[.int .i64 ax, .int .i64 ay], .agg #[.int .i64 bx, .int .i64 yb]] (.string r))) :
    Calls Tryz.prog 104 #[.agg #[.int .i64 px, .int .i64 py], .agg #[.int .i64 ax, .int .i64 ay], .agg #[.int .i64 bx, .int .i64 yb]] w fun e w' => e = .returned (.string r) ∧ Kp [] w w' := by
  unfold Gw at qd q1 q2 q3 q4 ql
  have sp := PtB.made w px py
  replace sp := sp.alloc (.cells #[.int .i64 ax, .int .i64 ay] 49 (0, 0))
  replace sp := sp.alloc (.cells #[.int .i64 bx, .int .i64 yb] 49 (0, 0))
  have sa := PtB.made (w.alloc (.cells #[.int .i64 px, .int .i64 py] 49 (0, 0))) ax ay
  replace sa := sa.alloc (.cells #[.int .i64 bx, .int .i64 yb] 49 (0, 0))
  have sb := PtB.made ((w.alloc (.cells #[.int .i64 px, .int .i64 py] 49 (0, 0))).alloc (.cells #[.int .i64 ax, .int .i64 ay] 49 (0, 0))) bx yb
  simp only [World.size_alloc] at *
  have kk : Kp [] w (((w.alloc (.cells #[.int .i64 px, .int .i64 py] 49 (0, 0))).alloc (.cells #[.int .i64 ax, .int .i64 ay] 49 (0, 0))).alloc (.cells #[.int .i64 bx, .int .i64 yb] 49 (0, 0))) := (((Kp.refl _ _).alloc _).alloc _).alloc _
  have xp0 := sp.c0
  have xp1 := sp.c1
  have xa0 := sa.c0
  have xa1 := sa.c1
  have xb0 := sb.c0
  have xb1 := sb.c1
  go_enter Tryz.func104, Tryz.ntmps104
  go_wp2_with fail
  with_reducible refine (qd.out _ kk).mono ?_
  rintro e w1 ⟨rfl, k⟩
  replace sp := sp.kept k (by simp)
  replace sa := sa.kept k (by simp)
  replace sb := sb.kept k (by simp)
  clear xp0 xp1 xa0 xa1 xb0 xb1
  have xp0 := sp.c0
  have xp1 := sp.c1
  have xa0 := sa.c0
  have xa1 := sa.c1
  have xb0 := sb.c0
  have xb1 := sb.c1
  replace kk := kk.trans k
  clear k
  clear xp0 xp1 xa0 xa1 xb0 xb1
  replace sp := sp.alloc (.cells #[.int .i64 dx, .int .i64 dy] 49 (0, 0))
  replace sa := sa.alloc (.cells #[.int .i64 dx, .int .i64 dy] 49 (0, 0))
  replace sb := sb.alloc (.cells #[.int .i64 dx, .int .i64 dy] 49 (0, 0))
  have sd := PtB.made w1 dx dy
  replace kk := kk.alloc (.cells #[.int .i64 dx, .int .i64 dy] 49 (0, 0))
  have xp0 := sp.c0
  have xp1 := sp.c1
  have xa0 := sa.c0
  have xa1 := sa.c1
  have xb0 := sb.c0
  have xb1 := sb.c1
  have xd0 := sd.c0
  have xd1 := sd.c1
  go_wp2_with fail
  rw [frame_lit]
  refine reg_refl vrs3a_y (fun k => ([.pointer (some ⟨w1.heap.size, 0, none⟩), .pointer (some ⟨w.heap.size, 0, none⟩), .pointer (some ⟨w.heap.size + 1, 0, none⟩), .int .i64 t1, .agg #[.int .i64 dx, .int .i64 dy], .agg #[.int .i64 px, .int .i64 py], .agg #[.int .i64 ax, .int .i64 ay], .agg #[.int .i64 ux, .int .i64 uy]] : List Value).getD k undef) [] (fun _ _ _ => True) (opsOf 2 Tryz.f104) [0, 1, 2, 5] vrs3a_ca [] [] (by kernel_rfl) (by kernel_rfl) vrs3a_ok ⟨rfl, rfl, rfl, trivial⟩ ?sp ?ca ?cx (by decide) ?fr (fun _ _ _ _ h _ => h) ?rest
  case sp =>
    refine ⟨?_, ?_, ?_, ?_, trivial⟩
    · intro T wz H o ho; have he : o.op = .load 49 (.tmp 7) := Option.some.inj ((congrArg (fun z => z.map Oper.op) ho).symm.trans (show ((opsOf 2 Tryz.f104)[0]?).map Oper.op = some (.load 49 (.tmp 7)) by kernel_rfl)); exact op_ldP he (H.ev (.tmp 7) (.at 0) (by kernel_rfl)) (PtB.kept (L := []) (show PtB (World.drew (w1.alloc (.cells #[.int .i64 dx, .int .i64 dy] 49 (0, 0)))) _ _ _ from sd) H.kp (by simp))
    · intro T wz H o ho; have he : o.op = .load 49 (.tmp 3) := Option.some.inj ((congrArg (fun z => z.map Oper.op) ho).symm.trans (show ((opsOf 2 Tryz.f104)[1]?).map Oper.op = some (.load 49 (.tmp 3)) by kernel_rfl)); exact op_ldP he (H.ev (.tmp 3) (.at 1) (by kernel_rfl)) (PtB.kept (L := []) (show PtB (World.drew (w1.alloc (.cells #[.int .i64 dx, .int .i64 dy] 49 (0, 0)))) _ _ _ from sp) H.kp (by simp))
    · intro T wz H o ho; have he : o.op = .load 49 (.tmp 4) := Option.some.inj ((congrArg (fun z => z.map Oper.op) ho).symm.trans (show ((opsOf 2 Tryz.f104)[2]?).map Oper.op = some (.load 49 (.tmp 4)) by kernel_rfl)); exact op_ldP he (H.ev (.tmp 4) (.at 2) (by kernel_rfl)) (PtB.kept (L := []) (show PtB (World.drew (w1.alloc (.cells #[.int .i64 dx, .int .i64 dy] 49 (0, 0)))) _ _ _ from sa) H.kp (by simp))
    · intro T wz H o ho; have he : o.op = .binOp .leq 3 (.tmp 15) (.const (.int .i64 0)) 3 := Option.some.inj ((congrArg (fun z => z.map Oper.op) ho).symm.trans (show ((opsOf 2 Tryz.f104)[5]?).map Oper.op = some (.binOp .leq 3 (.tmp 15) (.const (.int .i64 0)) 3) by kernel_rfl)); exact op_leq he (H.ev (.tmp 15) (.at 3) (by kernel_rfl)) h1
  case ca =>
    refine ⟨?_, ?_, trivial⟩
    · exact ⟨(enters_of Tryz.func120 (by kernel_rfl) rfl), fun wz hk => (q1.out wz (kk.drew.trans hk)).mono fun x w2 ⟨h1, h2⟩ => ⟨_, h1, h2, fun _ => rfl⟩⟩
    · exact ⟨(enters_of Tryz.func84 (by kernel_rfl) rfl), fun wz hk => (q2.out wz (kk.drew.trans hk)).mono fun x w2 ⟨h1, h2⟩ => ⟨_, h1, h2, fun _ => rfl⟩⟩
  case cx =>
    exact trivial
  case fr =>
    exact trivial
  case rest =>
    intro T w2 hout hval k hF
    rw [show frameOf vrs3a_y.st.N T = (⟨#[T 0, T 1, T 2, T 3, T 4, T 5, T 6, T 7, T 8, T 9, T 10, T 11, T 12, T 13, T 14, T 15, T 16, T 17, T 18, T 19, T 20, T 21, T 22, T 23, T 24, T 25, T 26, T 27, T 28, T 29, T 30, T 31, T 32, T 33, T 34], []⟩ : Act) from frame_list 35 T]
    rw [show T 3 = .pointer (some ⟨w.heap.size, 0, none⟩) from hout 3 rfl]
    rw [show T 4 = .pointer (some ⟨w.heap.size + 1, 0, none⟩) from hout 4 rfl]
    rw [show T 5 = .pointer (some ⟨w.heap.size + 1 + 1, 0, none⟩) from hout 5 rfl]
    rw [show T 7 = .pointer (some ⟨w1.heap.size, 0, none⟩) from hout 7 rfl]
    rw [show T 16 = .bool false from hval 5 (by decide : 5 < 6) (.inl rfl)]
    replace sp := sp.kept k (by simp)
    replace sa := sa.kept k (by simp)
    replace sb := sb.kept k (by simp)
    replace sd := sd.kept k (by simp)
    clear xp0 xp1 xa0 xa1 xb0 xb1 xd0 xd1
    have xp0 := sp.c0
    have xp1 := sp.c1
    have xa0 := sa.c0
    have xa1 := sa.c1
    have xb0 := sb.c0
    have xb1 := sb.c1
    have xd0 := sd.c0
    have xd1 := sd.c1
    replace kk := kk.trans k
    clear k hout hval hF
    go_wp2_with fail
    rw [frame_lit]
    refine reg_refl vrs3b_y (fun k => ([.pointer (some ⟨w1.heap.size, 0, none⟩), .pointer (some ⟨w.heap.size, 0, none⟩), .pointer (some ⟨w.heap.size + 1 + 1, 0, none⟩), .int .i64 t2, .agg #[.int .i64 dx, .int .i64 dy], .agg #[.int .i64 px, .int .i64 py], .agg #[.int .i64 bx, .int .i64 yb], .agg #[.int .i64 vx, .int .i64 vy]] : List Value).getD k undef) [] (fun _ _ _ => True) (opsOf 4 Tryz.f104) [0, 1, 2, 5] vrs3b_ca [] [] (by kernel_rfl) (by kernel_rfl) vrs3b_ok ⟨rfl, rfl, rfl, trivial⟩ ?sp ?ca ?cx (by decide) ?fr (fun _ _ _ _ h _ => h) ?rest
    case sp =>
      refine ⟨?_, ?_, ?_, ?_, trivial⟩
      · intro T wz H o ho; have he : o.op = .load 49 (.tmp 7) := Option.some.inj ((congrArg (fun z => z.map Oper.op) ho).symm.trans (show ((opsOf 4 Tryz.f104)[0]?).map Oper.op = some (.load 49 (.tmp 7)) by kernel_rfl)); exact op_ldP he (H.ev (.tmp 7) (.at 0) (by kernel_rfl)) (PtB.kept (L := []) (show PtB (World.drew w2) _ _ _ from sd) H.kp (by simp))
      · intro T wz H o ho; have he : o.op = .load 49 (.tmp 3) := Option.some.inj ((congrArg (fun z => z.map Oper.op) ho).symm.trans (show ((opsOf 4 Tryz.f104)[1]?).map Oper.op = some (.load 49 (.tmp 3)) by kernel_rfl)); exact op_ldP he (H.ev (.tmp 3) (.at 1) (by kernel_rfl)) (PtB.kept (L := []) (show PtB (World.drew w2) _ _ _ from sp) H.kp (by simp))
      · intro T wz H o ho; have he : o.op = .load 49 (.tmp 5) := Option.some.inj ((congrArg (fun z => z.map Oper.op) ho).symm.trans (show ((opsOf 4 Tryz.f104)[2]?).map Oper.op = some (.load 49 (.tmp 5)) by kernel_rfl)); exact op_ldP he (H.ev (.tmp 5) (.at 2) (by kernel_rfl)) (PtB.kept (L := []) (show PtB (World.drew w2) _ _ _ from sb) H.kp (by simp))
      · intro T wz H o ho; have he : o.op = .binOp .geq 3 (.tmp 25) (.const (.int .i64 0)) 3 := Option.some.inj ((congrArg (fun z => z.map Oper.op) ho).symm.trans (show ((opsOf 4 Tryz.f104)[5]?).map Oper.op = some (.binOp .geq 3 (.tmp 25) (.const (.int .i64 0)) 3) by kernel_rfl)); exact op_geq he (H.ev (.tmp 25) (.at 3) (by kernel_rfl)) h2
    case ca =>
      refine ⟨?_, ?_, trivial⟩
      · exact ⟨(enters_of Tryz.func120 (by kernel_rfl) rfl), fun wz hk => (q3.out wz (kk.drew.trans hk)).mono fun x w2 ⟨h1, h2⟩ => ⟨_, h1, h2, fun _ => rfl⟩⟩
      · exact ⟨(enters_of Tryz.func84 (by kernel_rfl) rfl), fun wz hk => (q4.out wz (kk.drew.trans hk)).mono fun x w2 ⟨h1, h2⟩ => ⟨_, h1, h2, fun _ => rfl⟩⟩
    case cx =>
      exact trivial
    case fr =>
      exact trivial
    case rest =>
      intro T w3 hout hval k hF
      rw [show frameOf vrs3b_y.st.N T = (⟨#[T 0, T 1, T 2, T 3, T 4, T 5, T 6, T 7, T 8, T 9, T 10, T 11, T 12, T 13, T 14, T 15, T 16, T 17, T 18, T 19, T 20, T 21, T 22, T 23, T 24, T 25, T 26, T 27, T 28, T 29, T 30, T 31, T 32, T 33, T 34], []⟩ : Act) from frame_list 35 T]
      rw [show T 3 = .pointer (some ⟨w.heap.size, 0, none⟩) from hout 3 rfl]
      rw [show T 4 = .pointer (some ⟨w.heap.size + 1, 0, none⟩) from hout 4 rfl]
      rw [show T 5 = .pointer (some ⟨w.heap.size + 1 + 1, 0, none⟩) from hout 5 rfl]
      rw [show T 7 = .pointer (some ⟨w1.heap.size, 0, none⟩) from hout 7 rfl]
      rw [show T 26 = .bool false from hval 5 (by decide : 5 < 6) (.inl rfl)]
      replace sp := sp.kept k (by simp)
      replace sa := sa.kept k (by simp)
      replace sb := sb.kept k (by simp)
      replace sd := sd.kept k (by simp)
      clear xp0 xp1 xa0 xa1 xb0 xb1 xd0 xd1
      have xp0 := sp.c0
      have xp1 := sp.c1
      have xa0 := sa.c0
      have xa1 := sa.c1
      have xb0 := sb.c0
      have xb1 := sb.c1
      have xd0 := sd.c0
      have xd1 := sd.c1
      replace kk := kk.trans k
      clear k hout hval hF
      go_wp2_with fail
      with_reducible refine (ql.out _ kk).mono ?_
      rintro e w4 ⟨rfl, k⟩
      replace sp := sp.kept k (by simp)
      replace sa := sa.kept k (by simp)
      replace sb := sb.kept k (by simp)
      replace sd := sd.kept k (by simp)
      clear xp0 xp1 xa0 xa1 xb0 xb1 xd0 xd1
      have xp0 := sp.c0
      have xp1 := sp.c1
      have xa0 := sa.c0
      have xa1 := sa.c1
      have xb0 := sb.c0
      have xb1 := sb.c1
      have xd0 := sd.c0
      have xd1 := sd.c1
      replace kk := kk.trans k
      clear k
      clear sp sa sb sd xp0 xp1 xa0 xa1 xb0 xb1 xd0 xd1
      go_wp2
      go_ret
      exact ⟨rfl, kk⟩

set_option maxRecDepth 100000 in
set_option maxHeartbeats 4000000 in
theorem rToSegment7_e (px py ax ay bx yb E : Int) (w : World)
    (he : (E != 0) = true)
    (q1 : Hid (Gw w 86 #[.agg #[.int .i64 px, .int .i64 py], .agg #[.int .i64 ax, .int .i64 ay], .agg #[.int .i64 bx, .int .i64 yb]] (.int .i64 E))) :
    Calls Tryz.prog 47 #[.agg #[.int .i64 px, .int .i64 py], .agg #[.int .i64 ax, .int .i64 ay], .agg #[.int .i64 bx, .int .i64 yb]] w fun e w' => e = .returned (.tuple #[.string ⟨#[]⟩, .int .i64 E]) ∧ Kp [] w w' := by
  unfold Gw at q1
  have sp := PtB.made w px py
  replace sp := sp.alloc (.cells #[.int .i64 ax, .int .i64 ay] 49 (0, 0))
  replace sp := sp.alloc (.cells #[.int .i64 bx, .int .i64 yb] 49 (0, 0))
  have sa := PtB.made (w.alloc (.cells #[.int .i64 px, .int .i64 py] 49 (0, 0))) ax ay
  replace sa := sa.alloc (.cells #[.int .i64 bx, .int .i64 yb] 49 (0, 0))
  have sb := PtB.made ((w.alloc (.cells #[.int .i64 px, .int .i64 py] 49 (0, 0))).alloc (.cells #[.int .i64 ax, .int .i64 ay] 49 (0, 0))) bx yb
  simp only [World.size_alloc] at *
  have kk : Kp [] w (((w.alloc (.cells #[.int .i64 px, .int .i64 py] 49 (0, 0))).alloc (.cells #[.int .i64 ax, .int .i64 ay] 49 (0, 0))).alloc (.cells #[.int .i64 bx, .int .i64 yb] 49 (0, 0))) := (((Kp.refl _ _).alloc _).alloc _).alloc _
  have xp0 := sp.c0
  have xp1 := sp.c1
  have xa0 := sa.c0
  have xa1 := sa.c1
  have xb0 := sb.c0
  have xb1 := sb.c1
  go_enter Tryz.func47, Tryz.ntmps47
  go_wp2_with fail
  with_reducible refine (q1.out _ kk).mono ?_
  rintro e w1 ⟨rfl, k⟩
  replace sp := sp.kept k (by simp)
  replace sa := sa.kept k (by simp)
  replace sb := sb.kept k (by simp)
  clear xp0 xp1 xa0 xa1 xb0 xb1
  have xp0 := sp.c0
  have xp1 := sp.c1
  have xa0 := sa.c0
  have xa1 := sa.c1
  have xb0 := sb.c0
  have xb1 := sb.c1
  replace kk := kk.trans k
  clear k
  clear sp sa sb xp0 xp1 xa0 xa1 xb0 xb1
  go_wp2
  go_ret2
  exact ⟨rfl, kk⟩

set_option maxRecDepth 100000 in
set_option maxHeartbeats 4000000 in
theorem rToSegment7_0 (px py ax ay bx yb : Int) (r : ByteArray) (w : World)
    (q1 : Hid (Gw w 86 #[.agg #[.int .i64 px, .int .i64 py], .agg #[.int .i64 ax, .int .i64 ay], .agg #[.int .i64 bx, .int .i64 yb]] (.int .i64 0)))
    (q2 : Hid (Gw w 104 #[.agg #[.int .i64 px, .int .i64 py], .agg #[.int .i64 ax, .int .i64 ay], .agg #[.int .i64 bx, .int .i64 yb]] (.string r))) :
    Calls Tryz.prog 47 #[.agg #[.int .i64 px, .int .i64 py], .agg #[.int .i64 ax, .int .i64 ay], .agg #[.int .i64 bx, .int .i64 yb]] w fun e w' => e = .returned (.tuple #[.string r, .int .i64 0]) ∧ Kp [] w w' := by
  unfold Gw at q1 q2
  have sp := PtB.made w px py
  replace sp := sp.alloc (.cells #[.int .i64 ax, .int .i64 ay] 49 (0, 0))
  replace sp := sp.alloc (.cells #[.int .i64 bx, .int .i64 yb] 49 (0, 0))
  have sa := PtB.made (w.alloc (.cells #[.int .i64 px, .int .i64 py] 49 (0, 0))) ax ay
  replace sa := sa.alloc (.cells #[.int .i64 bx, .int .i64 yb] 49 (0, 0))
  have sb := PtB.made ((w.alloc (.cells #[.int .i64 px, .int .i64 py] 49 (0, 0))).alloc (.cells #[.int .i64 ax, .int .i64 ay] 49 (0, 0))) bx yb
  simp only [World.size_alloc] at *
  have kk : Kp [] w (((w.alloc (.cells #[.int .i64 px, .int .i64 py] 49 (0, 0))).alloc (.cells #[.int .i64 ax, .int .i64 ay] 49 (0, 0))).alloc (.cells #[.int .i64 bx, .int .i64 yb] 49 (0, 0))) := (((Kp.refl _ _).alloc _).alloc _).alloc _
  have xp0 := sp.c0
  have xp1 := sp.c1
  have xa0 := sa.c0
  have xa1 := sa.c1
  have xb0 := sb.c0
  have xb1 := sb.c1
  go_enter Tryz.func47, Tryz.ntmps47
  go_wp2_with fail
  with_reducible refine (q1.out _ kk).mono ?_
  rintro e w1 ⟨rfl, k⟩
  replace sp := sp.kept k (by simp)
  replace sa := sa.kept k (by simp)
  replace sb := sb.kept k (by simp)
  clear xp0 xp1 xa0 xa1 xb0 xb1
  have xp0 := sp.c0
  have xp1 := sp.c1
  have xa0 := sa.c0
  have xa1 := sa.c1
  have xb0 := sb.c0
  have xb1 := sb.c1
  replace kk := kk.trans k
  clear k
  go_wp2_with fail
  with_reducible refine (q2.out _ kk).mono ?_
  rintro e w2 ⟨rfl, k⟩
  replace sp := sp.kept k (by simp)
  replace sa := sa.kept k (by simp)
  replace sb := sb.kept k (by simp)
  clear xp0 xp1 xa0 xa1 xb0 xb1
  have xp0 := sp.c0
  have xp1 := sp.c1
  have xa0 := sa.c0
  have xa1 := sa.c1
  have xb0 := sb.c0
  have xb1 := sb.c1
  replace kk := kk.trans k
  clear k
  clear sp sa sb xp0 xp1 xa0 xa1 xb0 xb1
  go_wp2
  go_ret2
  exact ⟨rfl, kk⟩

end Go.Proofs.YtcgilcmhandgfaaGreatDoor

/- ToLine and ToSegment of package vector and of the reference of layer 7 answer alike. -/
namespace Go.Proofs.YtcgilcmhandgfaaGreatDoor
open Go.RowKit
open Go.Lib (nDigits itoa decDigits)

theorem sq_nn (x : Int) : 0 ≤ x * x := by
  rcases Int.le_total 0 x with h | h
  · exact Int.mul_nonneg h h
  · exact Int.mul_nonneg_of_nonpos_of_nonpos h h
theorem sq_z {x : Int} (h : x * x = 0) : x = 0 := by rcases Int.mul_eq_zero.1 h with h | h <;> exact h
theorem sqs2_zero {x y : Int} : sqs [x, y] = 0 ↔ x = 0 ∧ y = 0 := by
  have e : sqs [x, y] = x * x + y * y := by unfold sqs; simp
  rw [e]
  constructor
  · intro h
    have h1 := sq_nn x
    have h2 := sq_nn y
    exact ⟨sq_z (by omega), sq_z (by omega)⟩
  · rintro ⟨rfl, rfl⟩; rfl
theorem sqs2_eq (x y : Int) : sqs [x, y] = x * x + y * y := by unfold sqs; simp
theorem div_ofInt (a b : Int) : Rat.divInt a b = ((a : Rat) / (b : Rat)) := by
  rw [Rat.divInt_eq_div]
theorem toLine_z (px py ax ay bx yb : Int) (w : World) (h : ckP [(px, py), (ax, ay), (bx, yb)] = 0) (h0 : sqs [bx - ax, yb - ay] = 0) (hT : Tab w) :
    Calls Tryz.prog 44 #[.agg #[.int .i64 px, .int .i64 py], .agg #[.int .i64 ax, .int .i64 ay], .agg #[.int .i64 bx, .int .i64 yb]] w fun e w' => e = .returned (.tuple #[.string ⟨#[]⟩, .int .i64 10]) ∧ Kp [] w w' := by
  have hv := vcr_le h
  have ha := ckP_in h (ax, ay) (by simp)
  have hb := ckP_in h (bx, yb) (by simp)
  have d1 := sub_bd hb.1 ha.1
  have d2 := sub_bd hb.2 ha.2
  dsimp only at d1 d2 ha hb
  refine vToLine_0 px py ax ay bx yb (crV px py ax ay bx yb) (bx - ax) (yb - ay) 10 _ w (Lib.hid fun W => cross_c px py ax ay bx yb W h)
    (Lib.hid fun W => vminus bx yb ax ay W (Nat.le_trans hb.1 (by decide)) (Nat.le_trans hb.2 (by decide)) (Nat.le_trans ha.1 (by decide)) (Nat.le_trans ha.2 (by decide))) (Lib.hid fun W kW => ?_)
  have hN := heap_alloc_new W (.cells #[.int .i64 (bx - ax), .int .i64 (yb - ay)] 3 (0, 0))
  have q := vdistance_z (crV px py ax ay bx yb) W.heap.size 2 [bx - ax, yb - ay] (W.alloc (.cells #[.int .i64 (bx - ax), .int .i64 (yb - ay)] 3 (0, 0))) hv
    (fun i hi => by
      rcases i with _ | _ | i
      · exact (new_cell hN _).trans rfl
      · exact (new_cell hN _).trans rfl
      · exact absurd hi (by simp)) (by simp)
    (fun n hn => by
      rcases List.mem_cons.1 hn with rfl | hn
      · exact Nat.le_trans d1 (by decide)
      · rw [List.mem_singleton.1 hn]; exact Nat.le_trans d2 (by decide)) (by simp) (by simp) h0 (tab_kp (tab_kp hT kW) ((Kp.refl _ _).alloc _))
  exact q
/-- the distance from a line: text and error -/
def lnT (px py ax ay bx yb : Int) : ByteArray := if sqs [bx - ax, yb - ay] = 0 then ⟨#[]⟩ else RS ((crV px py ax ay bx yb * crV px py ax ay bx yb : Int) / (sqs [bx - ax, yb - ay] : Int) : Rat)
def lnE (ax ay bx yb : Int) : Int := if sqs [bx - ax, yb - ay] = 0 then 10 else 0
def tkP (E : Int) (t : ByteArray) : ByteArray := if E = 0 then t else ⟨#[]⟩
def ekP (E e : Int) : Int := if E = 0 then e else E
theorem toLine_p (px py ax ay bx yb : Int) (w : World) (hT : Tab w) :
    Calls Tryz.prog 44 #[.agg #[.int .i64 px, .int .i64 py], .agg #[.int .i64 ax, .int .i64 ay], .agg #[.int .i64 bx, .int .i64 yb]] w fun e w' => e = .returned (.tuple #[.string (tkP (ckP [(px, py), (ax, ay), (bx, yb)]) (lnT px py ax ay bx yb)), .int .i64 (ekP (ckP [(px, py), (ax, ay), (bx, yb)]) (lnE ax ay bx yb))]) ∧ Kp [] w w' := by
  by_cases h : ckP [(px, py), (ax, ay), (bx, yb)] = 0
  · unfold tkP ekP
    rw [if_pos h, if_pos h]
    unfold lnT lnE
    by_cases h0 : sqs [bx - ax, yb - ay] = 0
    · rw [if_pos h0, if_pos h0]
      exact toLine_z px py ax ay bx yb w h h0 hT
    · rw [if_neg h0, if_neg h0]
      exact toLine_c px py ax ay bx yb w h h0 hT
  · unfold tkP ekP
    rw [if_neg h, if_neg h]
    exact vToLine_e px py ax ay bx yb _ _ w (by simp [h]) (Lib.hid fun W => cross_p px py ax ay bx yb W)
theorem vok_small {z : Int} (h : z.natAbs ≤ 1000000000000000000) : Ok z := ok_pow (k := 20) (by omega) (by omega)
theorem nd_small {z : Int} (h : z.natAbs ≤ 1000000000000000000) : nDigits z.natAbs ≤ 1200 := Nat.le_trans (vok_small h) (by omega)
theorem ratio_r (n d : Int) (hn : n.natAbs ≤ 1000000000000000000) (hd : d.natAbs ≤ 1000000000000000000) (h0 : d ≠ 0) (w : World) :
    Calls Tryz.prog 133 #[.int .i64 n, .int .i64 d] w fun e w' => e = .returned (.string (RS ((n * n : Int) / (d : Int) : Rat))) ∧ Kp [] w w' := by
  have hnn : Ok (n * n) := ok_pow (k := 40) (by have := mul_bd hn hn; omega) (by omega)
  have q4 : Hid (Gw w 130 #[.string (S (n * n)), .string (S d)] (.string (RS ((n * n : Int) / (d : Int) : Rat)))) := gw_of fun W => by
    have q := lowest_S hnn (vok_small hd) h0 W
    rwa [div_ofInt _ _] at q
  exact rRatio7 n d (S n) (S (n * n)) (S d) _ w (gw_of fun W => of_any n W (by omega) (by omega)) (gw_of fun W => times_ref n n W (nd_small hn) (nd_small hn)) (gw_of fun W => of_any d W (by omega) (by omega)) q4
theorem eq_points (ax ay bx yb : Int) : (ax == bx && ay == yb) = decide (sqs [bx - ax, yb - ay] = 0) := by
  by_cases h : sqs [bx - ax, yb - ay] = 0
  · have := sqs2_zero.1 h
    simp [h]
    omega
  · have h2 : ¬ (ax = bx ∧ ay = yb) := fun e => h (sqs2_zero.2 (by omega))
    simp [h]
    exact fun e e2 => h2 ⟨e, e2⟩
theorem fromLine_r (px py ax ay bx yb : Int) (w : World) (h : ckP [(px, py), (ax, ay), (bx, yb)] = 0) (h0 : sqs [bx - ax, yb - ay] ≠ 0) :
    Calls Tryz.prog 102 #[.agg #[.int .i64 px, .int .i64 py], .agg #[.int .i64 ax, .int .i64 ay], .agg #[.int .i64 bx, .int .i64 yb]] w fun e w' => e = .returned (.string (RS ((crV px py ax ay bx yb * crV px py ax ay bx yb : Int) / (sqs [bx - ax, yb - ay] : Int) : Rat))) ∧ Kp [] w w' := by
  obtain ⟨hp1, hp2⟩ := ckP_in h (px, py) (by simp)
  obtain ⟨ha1, ha2⟩ := ckP_in h (ax, ay) (by simp)
  obtain ⟨hb1, hb2⟩ := ckP_in h (bx, yb) (by simp)
  dsimp only at hp1 hp2 ha1 ha2 hb1 hb2
  have hv := vcr_le h
  have e : crV ax ay bx yb px py = crV px py ax ay bx yb := by unfold crV; grind
  have hd : (sqs [bx - ax, yb - ay]).natAbs ≤ 1000000000000000000 := by
    have m1 := mul_bd (sub_bd hb1 ha1) (sub_bd hb1 ha1)
    have m2 := mul_bd (sub_bd hb2 ha2) (sub_bd hb2 ha2)
    rw [sqs2_eq]
    omega
  refine rFromLine7 px py ax ay bx yb (crV px py ax ay bx yb) (sqs [bx - ax, yb - ay]) _ w (gw_of fun W => ?_) (gw_of fun W => ?_) (gw_of fun W => ratio_r _ _ hv hd h0 W)
  · have q := left_r ax ay bx yb px py W ha1 ha2 hb1 hb2 hp1 hp2
    rwa [e] at q
  · rw [sqs2_eq]
    exact far_r ax ay bx yb W ha1 ha2 hb1 hb2
theorem toLine_r (px py ax ay bx yb : Int) (w : World) :
    Calls Tryz.prog 45 #[.agg #[.int .i64 px, .int .i64 py], .agg #[.int .i64 ax, .int .i64 ay], .agg #[.int .i64 bx, .int .i64 yb]] w fun e w' => e = .returned (.tuple #[.string (tkP (ckP [(px, py), (ax, ay), (bx, yb)]) (lnT px py ax ay bx yb)), .int .i64 (ekP (ckP [(px, py), (ax, ay), (bx, yb)]) (lnE ax ay bx yb))]) ∧ Kp [] w w' := by
  have qp : Hid (Gw w 86 #[.agg #[.int .i64 px, .int .i64 py], .agg #[.int .i64 ax, .int .i64 ay], .agg #[.int .i64 bx, .int .i64 yb]] (.int .i64 (ckP [(px, py), (ax, ay), (bx, yb)]))) := gw_of fun W => rthree_c px py ax ay bx yb W
  by_cases h : ckP [(px, py), (ax, ay), (bx, yb)] = 0
  · unfold tkP ekP
    rw [if_pos h, if_pos h]
    rw [h] at qp
    unfold lnT lnE
    have he := eq_points ax ay bx yb
    by_cases h0 : sqs [bx - ax, yb - ay] = 0
    · rw [if_pos h0, if_pos h0]
      rw [decide_eq_true h0] at he
      exact rToLine7_z px py ax ay bx yb w he qp
    · rw [if_neg h0, if_neg h0]
      rw [decide_eq_false h0] at he
      exact rToLine7_0 px py ax ay bx yb _ w he qp (gw_of fun W => fromLine_r px py ax ay bx yb W h h0)
  · unfold tkP ekP
    rw [if_neg h, if_neg h]
    exact rToLine7_e px py ax ay bx yb _ w (by simp [h]) qp
/-- the distance from a segment -/
def sgT (px py ax ay bx yb : Int) : ByteArray :=
  if (bx - ax) * (px - ax) + (yb - ay) * (py - ay) ≤ 0 then S ((px - ax) * (px - ax) + (py - ay) * (py - ay))
  else if (ax - bx) * (px - bx) + (ay - yb) * (py - yb) ≤ 0 then S ((px - bx) * (px - bx) + (py - yb) * (py - yb))
  else RS ((crV px py ax ay bx yb * crV px py ax ay bx yb : Int) / (sqs [bx - ax, yb - ay] : Int) : Rat)
theorem sq_bd {x1 x2 y1 y2 : Int} (h1 : x1.natAbs ≤ 100000) (h2 : x2.natAbs ≤ 100000) (h3 : y1.natAbs ≤ 100000) (h4 : y2.natAbs ≤ 100000) : ((x1 - x2) * (x1 - x2) + (y1 - y2) * (y1 - y2)).natAbs ≤ 1000000000000000000 := by
  have m1 := mul_bd (sub_bd h1 h2) (sub_bd h1 h2)
  have m2 := mul_bd (sub_bd h3 h4) (sub_bd h3 h4)
  generalize (x1 - x2) * (x1 - x2) = u at *
  generalize (y1 - y2) * (y1 - y2) = v at *
  omega
theorem seg_not {px py ax ay bx yb : Int} (h1 : ¬ (bx - ax) * (px - ax) + (yb - ay) * (py - ay) ≤ 0) : sqs [bx - ax, yb - ay] ≠ 0 := fun h => by
  obtain ⟨e1, e2⟩ := sqs2_zero.1 h
  rw [e1, e2] at h1
  simp at h1
theorem toSegment_p (px py ax ay bx yb : Int) (w : World) (hT : Tab w) :
    Calls Tryz.prog 46 #[.agg #[.int .i64 px, .int .i64 py], .agg #[.int .i64 ax, .int .i64 ay], .agg #[.int .i64 bx, .int .i64 yb]] w fun e w' => e = .returned (.tuple #[.string (tkP (ckP [(px, py), (ax, ay), (bx, yb)]) (sgT px py ax ay bx yb)), .int .i64 (ckP [(px, py), (ax, ay), (bx, yb)])]) ∧ Kp [] w w' := by
  have qc : Hid (∀ W : World, Calls Tryz.prog 20 #[.slice (some ⟨W.heap.size, 0, none⟩) 3 3] (W.alloc (.cells #[.int .i64 px, .int .i64 py, .int .i64 ax, .int .i64 ay, .int .i64 bx, .int .i64 yb] 49 (0, 0))) fun e w' => e = .returned (.int .i64 (ckP [(px, py), (ax, ay), (bx, yb)])) ∧ Kp [] (W.alloc (.cells #[.int .i64 px, .int .i64 py, .int .i64 ax, .int .i64 ay, .int .i64 bx, .int .i64 yb] 49 (0, 0))) w') := fun W => by
    have hN := heap_alloc_new W (.cells #[.int .i64 px, .int .i64 py, .int .i64 ax, .int .i64 ay, .int .i64 bx, .int .i64 yb] 49 (0, 0))
    exact vCheck W.heap.size 0 3 (some ⟨W.heap.size, 0, none⟩) [(px, py), (ax, ay), (bx, yb)] (W.alloc (.cells #[.int .i64 px, .int .i64 py, .int .i64 ax, .int .i64 ay, .int .i64 bx, .int .i64 yb] 49 (0, 0))) (fun i hi => by
      rcases i with _ | _ | _ | i
      · exact ⟨(new_cell hN _).trans rfl, (new_cell hN _).trans rfl⟩
      · exact ⟨(new_cell hN _).trans rfl, (new_cell hN _).trans rfl⟩
      · exact ⟨(new_cell hN _).trans rfl, (new_cell hN _).trans rfl⟩
      · exact absurd hi (by simp)) (fun _ => ⟨rfl, by simp⟩) (by simp)
  by_cases h : ckP [(px, py), (ax, ay), (bx, yb)] = 0
  · obtain ⟨hp1, hp2⟩ := ckP_in h (px, py) (by simp)
    obtain ⟨ha1, ha2⟩ := ckP_in h (ax, ay) (by simp)
    obtain ⟨hb1, hb2⟩ := ckP_in h (bx, yb) (by simp)
    dsimp only at hp1 hp2 ha1 ha2 hb1 hb2
    unfold tkP
    rw [if_pos h]
    have q1 : Hid (∀ W : World, Calls Tryz.prog 62 #[.agg #[.int .i64 bx, .int .i64 yb], .agg #[.int .i64 ax, .int .i64 ay]] W fun e w' => e = .returned (.agg #[.int .i64 (bx - ax), .int .i64 (yb - ay)]) ∧ Kp [] W w') := Lib.hid fun W => vminus bx yb ax ay W (by omega) (by omega) (by omega) (by omega)
    have q2 : Hid (∀ W : World, Calls Tryz.prog 62 #[.agg #[.int .i64 px, .int .i64 py], .agg #[.int .i64 ax, .int .i64 ay]] W fun e w' => e = .returned (.agg #[.int .i64 (px - ax), .int .i64 (py - ay)]) ∧ Kp [] W w') := Lib.hid fun W => vminus px py ax ay W (by omega) (by omega) (by omega) (by omega)
    have q12 : Hid (∀ W : World, Calls Tryz.prog 82 #[.agg #[.int .i64 (bx - ax), .int .i64 (yb - ay)], .agg #[.int .i64 (px - ax), .int .i64 (py - ay)]] W fun e w' => e = .returned (.int .i64 ((bx - ax) * (px - ax) + (yb - ay) * (py - ay))) ∧ Kp [] W w') := Lib.hid fun W => vdot _ _ _ _ W (by omega) (by omega) (by omega) (by omega)
    have q3 : Hid (∀ W : World, Calls Tryz.prog 62 #[.agg #[.int .i64 ax, .int .i64 ay], .agg #[.int .i64 bx, .int .i64 yb]] W fun e w' => e = .returned (.agg #[.int .i64 (ax - bx), .int .i64 (ay - yb)]) ∧ Kp [] W w') := Lib.hid fun W => vminus ax ay bx yb W (by omega) (by omega) (by omega) (by omega)
    have q4 : Hid (∀ W : World, Calls Tryz.prog 62 #[.agg #[.int .i64 px, .int .i64 py], .agg #[.int .i64 bx, .int .i64 yb]] W fun e w' => e = .returned (.agg #[.int .i64 (px - bx), .int .i64 (py - yb)]) ∧ Kp [] W w') := Lib.hid fun W => vminus px py bx yb W (by omega) (by omega) (by omega) (by omega)
    have q34 : Hid (∀ W : World, Calls Tryz.prog 82 #[.agg #[.int .i64 (ax - bx), .int .i64 (ay - yb)], .agg #[.int .i64 (px - bx), .int .i64 (py - yb)]] W fun e w' => e = .returned (.int .i64 ((ax - bx) * (px - bx) + (ay - yb) * (py - yb))) ∧ Kp [] W w') := Lib.hid fun W => vdot _ _ _ _ W (by omega) (by omega) (by omega) (by omega)
    rw [h] at qc ⊢
    unfold sgT
    by_cases h1 : (bx - ax) * (px - ax) + (yb - ay) * (py - ay) ≤ 0
    · rw [if_pos h1]
      exact vToSegment_1 px py ax ay bx yb _ _ _ _ _ _ _ w qc q1 q2 q12 (decide_eq_true h1) (Lib.hid fun W => square_c ax ay px py W ha1 ha2 hp1 hp2) (Lib.hid fun W kW => vwhole (sq_bd hp1 ha1 hp2 ha2) W (tab_kp hT kW))
    · rw [if_neg h1]
      by_cases h2 : (ax - bx) * (px - bx) + (ay - yb) * (py - yb) ≤ 0
      · rw [if_pos h2]
        exact vToSegment_2 px py ax ay bx yb _ _ _ _ _ _ _ _ _ _ _ _ w qc q1 q2 q12 (decide_eq_false h1) q3 q4 q34 (decide_eq_true h2) (Lib.hid fun W => square_c bx yb px py W hb1 hb2 hp1 hp2) (Lib.hid fun W kW => vwhole (sq_bd hp1 hb1 hp2 hb2) W (tab_kp hT kW))
      · rw [if_neg h2]
        exact vToSegment_3 px py ax ay bx yb _ _ _ _ _ _ _ _ _ _ _ w qc q1 q2 q12 (decide_eq_false h1) q3 q4 q34 (decide_eq_false h2) (Lib.hid fun W kW => toLine_c px py ax ay bx yb W h (seg_not h1) (tab_kp hT kW))
  · unfold tkP
    rw [if_neg h]
    exact vToSegment_e px py ax ay bx yb _ w (by simp [h]) qc
theorem rtimes_c (ax ay bx yb : Int) (w : World) (h1 : ax.natAbs ≤ 1000000) (h2 : ay.natAbs ≤ 1000000) (h3 : bx.natAbs ≤ 1000000) (h4 : yb.natAbs ≤ 1000000) : Hid (Gw w 84 #[.agg #[.int .i64 ax, .int .i64 ay], .agg #[.int .i64 bx, .int .i64 yb]] (.int .i64 (ax * bx + ay * yb))) := gw_of fun W => rTimes7 ax ay bx yb W h1 h2 h3 h4
theorem rminus_c (ax ay bx yb : Int) (w : World) (h1 : ax.natAbs ≤ 100000) (h2 : ay.natAbs ≤ 100000) (h3 : bx.natAbs ≤ 100000) (h4 : yb.natAbs ≤ 100000) : Hid (Gw w 120 #[.agg #[.int .i64 ax, .int .i64 ay], .agg #[.int .i64 bx, .int .i64 yb]] (.agg #[.int .i64 (ax - bx), .int .i64 (ay - yb)])) := gw_of fun W => rMinus7 ax ay bx yb W (by omega) (by omega) (by omega) (by omega)
theorem dot_neg (ax ay bx yb px py : Int) : (ax - bx) * (px - bx) + (ay - yb) * (py - yb) = -((bx - ax) * (px - bx) + (yb - ay) * (py - yb)) := by grind
theorem fromSegment_r (px py ax ay bx yb : Int) (w : World) (h : ckP [(px, py), (ax, ay), (bx, yb)] = 0) :
    Calls Tryz.prog 104 #[.agg #[.int .i64 px, .int .i64 py], .agg #[.int .i64 ax, .int .i64 ay], .agg #[.int .i64 bx, .int .i64 yb]] w fun e w' => e = .returned (.string (sgT px py ax ay bx yb)) ∧ Kp [] w w' := by
  obtain ⟨hp1, hp2⟩ := ckP_in h (px, py) (by simp)
  obtain ⟨ha1, ha2⟩ := ckP_in h (ax, ay) (by simp)
  obtain ⟨hb1, hb2⟩ := ckP_in h (bx, yb) (by simp)
  dsimp only at hp1 hp2 ha1 ha2 hb1 hb2
  have qd := rminus_c bx yb ax ay w hb1 hb2 ha1 ha2
  have q1 := rminus_c px py ax ay w hp1 hp2 ha1 ha2
  have q2 := rtimes_c (bx - ax) (yb - ay) (px - ax) (py - ay) w (by omega) (by omega) (by omega) (by omega)
  have q3 := rminus_c px py bx yb w hp1 hp2 hb1 hb2
  have q4 := rtimes_c (bx - ax) (yb - ay) (px - bx) (py - yb) w (by omega) (by omega) (by omega) (by omega)
  have qf1 : Hid (Gw w 92 #[.agg #[.int .i64 px, .int .i64 py], .agg #[.int .i64 ax, .int .i64 ay]] (.int .i64 ((px - ax) * (px - ax) + (py - ay) * (py - ay)))) := gw_of fun W => by
    have q := far_r px py ax ay W hp1 hp2 ha1 ha2
    rwa [sq_swap ax px, sq_swap ay py] at q
  have qf2 : Hid (Gw w 92 #[.agg #[.int .i64 px, .int .i64 py], .agg #[.int .i64 bx, .int .i64 yb]] (.int .i64 ((px - bx) * (px - bx) + (py - yb) * (py - yb)))) := gw_of fun W => by
    have q := far_r px py bx yb W hp1 hp2 hb1 hb2
    rwa [sq_swap bx px, sq_swap yb py] at q
  have b1 := sq_bd hp1 ha1 hp2 ha2
  have b2 := sq_bd hp1 hb1 hp2 hb2
  unfold sgT
  by_cases h1 : (bx - ax) * (px - ax) + (yb - ay) * (py - ay) ≤ 0
  · rw [if_pos h1]
    exact rFromSegment7_1 px py ax ay bx yb _ _ _ _ _ _ _ w qd q1 q2 (decide_eq_true h1) qf1 (gw_of fun W => rwhole_any _ W ⟨by omega, by omega⟩)
  · rw [if_neg h1, dot_neg]
    by_cases h2 : 0 ≤ (bx - ax) * (px - bx) + (yb - ay) * (py - yb)
    · rw [if_pos (by omega)]
      exact rFromSegment7_2 px py ax ay bx yb _ _ _ _ _ _ _ _ _ _ w qd q1 q2 (decide_eq_false h1) q3 q4 (decide_eq_true h2) qf2 (gw_of fun W => rwhole_any _ W ⟨by omega, by omega⟩)
    · rw [if_neg (by omega)]
      exact rFromSegment7_3 px py ax ay bx yb _ _ _ _ _ _ _ _ _ w qd q1 q2 (decide_eq_false h1) q3 q4 (decide_eq_false h2) (gw_of fun W => fromLine_r px py ax ay bx yb W h (seg_not h1))
theorem toSegment_r (px py ax ay bx yb : Int) (w : World) :
    Calls Tryz.prog 47 #[.agg #[.int .i64 px, .int .i64 py], .agg #[.int .i64 ax, .int .i64 ay], .agg #[.int .i64 bx, .int .i64 yb]] w fun e w' => e = .returned (.tuple #[.string (tkP (ckP [(px, py), (ax, ay), (bx, yb)]) (sgT px py ax ay bx yb)), .int .i64 (ckP [(px, py), (ax, ay), (bx, yb)])]) ∧ Kp [] w w' := by
  have qp : Hid (Gw w 86 #[.agg #[.int .i64 px, .int .i64 py], .agg #[.int .i64 ax, .int .i64 ay], .agg #[.int .i64 bx, .int .i64 yb]] (.int .i64 (ckP [(px, py), (ax, ay), (bx, yb)]))) := gw_of fun W => rthree_c px py ax ay bx yb W
  by_cases h : ckP [(px, py), (ax, ay), (bx, yb)] = 0
  · unfold tkP
    rw [if_pos h]
    rw [h] at qp ⊢
    exact rToSegment7_0 px py ax ay bx yb _ w qp (gw_of fun W => fromSegment_r px py ax ay bx yb W h)
  · unfold tkP
    rw [if_neg h]
    exact rToSegment7_e px py ax ay bx yb _ w (by simp [h]) qp

end Go.Proofs.YtcgilcmhandgfaaGreatDoor
