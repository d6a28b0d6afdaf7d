/- Texts Region, Root4: each says in its own first comment what it proves. -/
import Derived.Test.YtminjcknmhgpiaaGreatDoorM33
import Derived.Test.YtminjcknmhgpiaaGreatDoorM37
/- A law for regions that draw their order: reads, calls in a chain that change the keeper alone, blocks for fractions, and stores into them. One obligation for each operation, not one for each order. -/
namespace Go.Proofs.YtminjcknmhgpiaaGreatDoor
open Go.RowKit
open Go.Lib (nDigits itoa decDigits)

/-- which slots the operations leave alone, and what those that have come up have left -/
structure RMid (m : Nat) (T0 : Nat → Value) (dst kind : Nat → Nat) (V : Nat → Value) (l : Array Bool) (T : Nat → Value) : Prop where
  out : ∀ s, (∀ j, j < m → kind j ≠ 3 → dst j ≠ s) → T s = T0 s
  val : ∀ j, j < m → kind j ≤ 1 → l.getD j false = true → T (dst j) = V j

/-- kind 0: a read; 1: a call; 2: a new block; 3: a store into one -/
structure RegOps (ops : Array Oper) (m N g K : Nat) (w0 : World) (T0 : Nat → Value) (dst kind pos mate : Nat → Nat) (V : Nat → Value) (E : Nat → Int) (nt dt : Nat → ByteArray) : Prop where
  size : ops.size = m
  kinds : ∀ i, i < m → kind i ≤ 3
  dstN : ∀ i, i < m → kind i ≠ 3 → dst i < N
  inj : ∀ i, i < m → ∀ j, j < m → kind i ≠ 3 → kind j ≠ 3 → dst i = dst j → i = j
  op : ∀ i, i < m → ∃ o, ops[i]? = some o ∧ o.guard = none ∧ o.dst = if kind i = 3 then none else some (dst i)
  read : ∀ i, i < m → kind i = 0 → ∀ l T w o, i ∈ Region.ready .any ops l → RMid m T0 dst kind V l T → Kp [g] w0 w → ops[i]? = some o → (execOp (frameOf N T).eval o).run Tryz.prog w = .ok (.value (V i)) w
  call : ∀ i, i < m → kind i = 1 → ∀ l T w o, i ∈ Region.ready .any ops l → RMid m T0 dst kind V l T → Kp [g] w0 w → ops[i]? = some o →
    ∃ F args, (execOp (frameOf N T).eval o).run Tryz.prog w = .ok (.enter F args) w ∧ (KE w g (E (pos i)) → Calls Tryz.prog F args w fun x w' => x = .returned (V i) ∧ KE w' g (E (pos i + 1)) ∧ Kp [g] w w')
  chain : ∀ i, i < m → kind i = 1 → pos i < K ∧ ∀ l, i ∈ Region.ready .any ops l → ∀ j, j < m → kind j = 1 → pos j + 1 = pos i → l.getD j false = true
  pinj : ∀ i, i < m → ∀ j, j < m → kind i = 1 → kind j = 1 → pos i = pos j → i = j
  psur : ∀ c, c < K → ∃ i, i < m ∧ kind i = 1 ∧ pos i = c
  alloc : ∀ i, i < m → kind i = 2 → (∀ o, ops[i]? = some o → o.op = .alloc 86) ∧ mate i < m ∧ kind (mate i) = 3 ∧ mate (mate i) = i
  store : ∀ i, i < m → kind i = 3 → mate i < m ∧ kind (mate i) = 2 ∧ mate (mate i) = i ∧ ∀ l T o, i ∈ Region.ready .any ops l → RMid m T0 dst kind V l T → ops[i]? = some o →
    l.getD (mate i) false = true ∧ ∃ y, o.op = .store 86 (.tmp (dst (mate i))) y ∧ (frameOf N T).eval y = .agg #[.string (nt (mate i)), .string (dt (mate i))]
  fin : ∀ l : Array Bool, l.size = m → Region.ready .any ops l = [] → ∀ i, i < m → l.getD i false = true

structure RInv (m g K : Nat) (w0 : World) (T0 : Nat → Value) (dst kind pos mate : Nat → Nat) (V : Nat → Value) (E : Nat → Int) (nt dt : Nat → ByteArray) (l : Array Bool) (T : Nat → Value) (w : World) : Prop where
  mid : RMid m T0 dst kind V l T
  ald : ∀ i, i < m → kind i = 2 → l.getD i false = true → ∃ b, T (dst i) = .pointer (some ⟨b, 0, none⟩) ∧ w0.heap.size ≤ b ∧
    FrB w b (if l.getD (mate i) false = true then nt i else ⟨#[]⟩) (if l.getD (mate i) false = true then dt i else ⟨#[]⟩)
  dis : ∀ i j, i < m → j < m → kind i = 2 → kind j = 2 → i ≠ j → l.getD i false = true → l.getD j false = true → T (dst i) ≠ T (dst j)
  cnt : ∃ c, c ≤ K ∧ (∀ i, i < m → kind i = 1 → l.getD i false = decide (pos i < c)) ∧ KE w g (E c)
  sal : ∀ i, i < m → kind i = 2 → l.getD (mate i) false = true → l.getD i false = true
  kpw : Kp [g] w0 w

/-- in regions whose edges lead back only, nothing is ready when all have come up, and not before -/
theorem fin_of {ops : Array Oper} {m : Nat} (_hm : ops.size = m) (hb : ∀ i, i < m → ∃ o, ops[i]? = some o ∧ (o.after.all fun e => !Region.binds .any e || decide (e.on < i)) = true) (l : Array Bool) (hs : l.size = m)
    (hr : Region.ready .any ops l = []) : ∀ i, i < m → l.getD i false = true := by
  intro i
  induction i using Nat.strongRecOn with
  | _ i ih =>
    intro hi
    refine true_of_not (by omega) (fun hf => ?_)
    obtain ⟨o, ho, ha⟩ := hb i hi
    have : i ∈ Region.ready .any ops l := ready_of (m := i) hf ho ha (fun j hj => ih j hj (by omega))
    rw [hr] at this
    cases this

theorem region_law {ops : Array Oper} {m N g K id : Nat} {w : World} {T0 : Nat → Value} {dst kind pos mate : Nat → Nat} {V : Nat → Value} {E : Nat → Int} {nt dt : Nat → ByteArray} {Q : Exit → Act → World → Prop}
    (hm : Tryz.prog.follows .mixedOrders = true) (hO : RegOps ops m N g K w.drew T0 dst kind pos mate V E nt dt) (hke : KE w.drew g (E 0))
    (hQ : ∀ (T : Nat → Value) (B : Nat → Nat) (w' : World), (∀ s, (∀ j, j < m → kind j ≠ 3 → dst j ≠ s) → T s = T0 s) → (∀ j, j < m → kind j ≤ 1 → T (dst j) = V j) →
      (∀ j, j < m → kind j = 2 → T (dst j) = .pointer (some ⟨B j, 0, none⟩) ∧ w.heap.size ≤ B j ∧ FrB w' (B j) (nt j) (dt j)) → KE w' g (E K) → Kp [g] w w' → Q .normal (frameOf N T) w') :
    (Code.region id ops true).wp Tryz.prog Q (frameOf N T0) w := by
  have hg : g < w.drew.heap.size := hke.lt
  refine wp_region_any hm (wpAny_inv (fun l a w' => ∃ T, a = frameOf N T ∧ RInv m g K w.drew T0 dst kind pos mate V E nt dt l T w') ?_ ?_ ops.size (Array.replicate ops.size false) _ _ (by simp) ?_ ?_)
  · -- all have come up
    rintro l a w' hs ⟨T, rfl, h⟩ hr
    have hsz : l.size = m := by rw [hs, hO.size]
    have la := hO.fin l hsz hr
    have hb2 : ∃ B : Nat → Nat, ∀ i, i < m → kind i = 2 → T (dst i) = .pointer (some ⟨B i, 0, none⟩) ∧ w.heap.size ≤ B i ∧ FrB w' (B i) (nt i) (dt i) := by
      have hb : ∀ i, i < m ∧ kind i = 2 → ∃ b, T (dst i) = .pointer (some ⟨b, 0, none⟩) ∧ w.heap.size ≤ b ∧ FrB w' b (nt i) (dt i) := by
        rintro i ⟨hi, hk⟩
        obtain ⟨b, h1, h2, h3⟩ := h.ald i hi hk (la i hi)
        have hst := la (mate i) (hO.alloc i hi hk).2.1
        rw [if_pos hst, if_pos hst] at h3
        exact ⟨b, h1, h2, h3⟩
      refine ⟨fun i => if hi : i < m ∧ kind i = 2 then (hb i hi).choose else 0, fun i hi hk => ?_⟩
      simp only [hi, hk, and_self, dif_pos]
      exact (hb i ⟨hi, hk⟩).choose_spec
    obtain ⟨B, hB⟩ := hb2
    obtain ⟨c, hc, hc1, hc2⟩ := h.cnt
    have hck : c = K := by
      by_cases e : c < K
      · obtain ⟨i, hi, hk, hp⟩ := hO.psur c e
        have := hc1 i hi hk
        rw [la i hi] at this
        have := of_decide_eq_true this.symm
        omega
      · omega
    subst hck
    exact hQ T B w' h.mid.out (fun j hj hk => h.mid.val j hj hk (la j hj)) hB hc2 ⟨h.kpw.os, h.kpw.tape, h.kpw.output, h.kpw.size, h.kpw.block⟩
  · -- one comes up
    rintro l a w' i hs ⟨T, rfl, h⟩ hr
    have hsz : l.size = m := by rw [hs, hO.size]
    obtain ⟨hil, hun⟩ := ready_lt hr
    rw [hO.size] at hil
    have hnl := false_of_true (l := l) (by omega) hun
    obtain ⟨o, h1, h5, h2⟩ := hO.op i hil
    have hk3 := hO.kinds i hil
    refine wpOp_of h1 h5 ?_
    unfold Oper.wp
    -- what a new value in slot 'dst i' keeps
    have keepOut : kind i ≠ 3 → ∀ v s, (∀ j, j < m → kind j ≠ 3 → dst j ≠ s) → updV T (dst i) v s = T0 s := fun hk v s hsn => by
      rw [updV_ne (fun e => hsn i hil hk e.symm)]; exact h.mid.out s hsn
    have keepAt : kind i ≠ 3 → ∀ v j, j < m → kind j ≠ 3 → j ≠ i → updV T (dst i) v (dst j) = T (dst j) := fun hk v j hj hkj hne =>
      updV_ne (fun e => hne (hO.inj j hj i hil hkj hk e))
    by_cases k0 : kind i = 0
    · rw [if_neg (by omega)] at h2
      rw [hO.read i hil k0 l T w' o hr h.mid h.kpw h1, Oper.upon_value, h2, frame_put]
      refine ⟨_, rfl, ⟨⟨keepOut (by omega) _, ?_⟩, ?_, ?_, ?_, ?_, h.kpw⟩⟩
      · intro j hj hkj hl
        by_cases e : j = i
        · subst e; exact updV_same _ _ _
        · rw [get_set (fun x => e x.symm)] at hl
          rw [keepAt (by omega) _ j hj (by omega) e]; exact h.mid.val j hj hkj hl
      · intro j hj hkj hl
        have e : j ≠ i := fun x => by subst x; omega
        have e2 : mate j ≠ i := fun x => by have := (hO.alloc j hj hkj).2.2.1; rw [x] at this; omega
        rw [get_set (fun x => e x.symm)] at hl
        rw [keepAt (by omega) _ j hj (by omega) e, get_set (fun x => e2 x.symm)]; exact h.ald j hj hkj hl
      · intro j q hj hq hkj hkq hne hl1 hl2
        have e : j ≠ i := fun x => by subst x; omega
        have e' : q ≠ i := fun x => by subst x; omega
        rw [get_set (fun x => e x.symm)] at hl1
        rw [get_set (fun x => e' x.symm)] at hl2
        rw [keepAt (by omega) _ j hj (by omega) e, keepAt (by omega) _ q hq (by omega) e']; exact h.dis j q hj hq hkj hkq hne hl1 hl2
      · obtain ⟨c, hc, hc1, hc2⟩ := h.cnt
        exact ⟨c, hc, fun j hj hkj => by rw [get_set (fun x => by subst x; omega)]; exact hc1 j hj hkj, hc2⟩
      · intro j hj hkj hl
        have e : j ≠ i := fun x => by subst x; omega
        have e2 : mate j ≠ i := fun x => by have := (hO.alloc j hj hkj).2.2.1; rw [x] at this; omega
        rw [get_set (fun x => e2 x.symm)] at hl
        rw [get_set (fun x => e x.symm)]; exact h.sal j hj hkj hl
    by_cases k1 : kind i = 1
    · rw [if_neg (by omega)] at h2
      obtain ⟨F, args, hrun, hcon⟩ := hO.call i hil k1 l T w' o hr h.mid h.kpw h1
      obtain ⟨hpK, hch⟩ := hO.chain i hil k1
      obtain ⟨c, hc, hc1, hc2⟩ := h.cnt
      have hcq : c = pos i := by
        have a1 : ¬ pos i < c := by
          have := hc1 i hil k1
          rw [hnl] at this
          exact of_decide_eq_false this.symm
        have a2 : ¬ c < pos i := fun hlt => by
          obtain ⟨q, hq, hkq, hpq⟩ := hO.psur (pos i - 1) (by omega)
          have := hc1 q hq hkq
          rw [hch l hr q hq hkq (by omega)] at this
          have := of_decide_eq_true this.symm
          omega
        omega
      rw [hrun]
      have hcon2 := hcon (hcq ▸ hc2)
      unfold Oper.upon
      refine Calls.mono hcon2 ?_
      rintro x w2 ⟨rfl, hE2, hk2⟩
      simp only []
      rw [h2, frame_put]
      refine ⟨_, rfl, ⟨⟨keepOut (by omega) _, ?_⟩, ?_, ?_, ⟨c + 1, by omega, ?_, by rw [hcq]; exact hE2⟩, ?_, h.kpw.trans hk2⟩⟩
      · intro j hj hkj hl
        by_cases e : j = i
        · subst e; exact updV_same _ _ _
        · rw [get_set (fun x => e x.symm)] at hl
          rw [keepAt (by omega) _ j hj (by omega) e]; exact h.mid.val j hj hkj hl
      · intro j hj hkj hl
        have e : j ≠ i := fun x => by subst x; omega
        have e2 : mate j ≠ i := fun x => by have := (hO.alloc j hj hkj).2.2.1; rw [x] at this; omega
        rw [get_set (fun x => e x.symm)] at hl
        rw [keepAt (by omega) _ j hj (by omega) e, get_set (fun x => e2 x.symm)]
        obtain ⟨b, h6, h7, h8⟩ := h.ald j hj hkj hl
        exact ⟨b, h6, h7, h8.kept hk2 (nmem_one (by omega))⟩
      · intro j q hj hq hkj hkq hne hl1 hl2
        have e : j ≠ i := fun x => by subst x; omega
        have e' : q ≠ i := fun x => by subst x; omega
        rw [get_set (fun x => e x.symm)] at hl1
        rw [get_set (fun x => e' x.symm)] at hl2
        rw [keepAt (by omega) _ j hj (by omega) e, keepAt (by omega) _ q hq (by omega) e']; exact h.dis j q hj hq hkj hkq hne hl1 hl2
      · intro j hj hkj
        by_cases e : j = i
        · subst e; rw [get_self (by omega)]; exact (decide_eq_true (by omega)).symm
        · rw [get_set (fun x => e x.symm), hc1 j hj hkj]
          have : pos j ≠ c := fun x => e (hO.pinj j hj i hil hkj k1 (by omega))
          by_cases e2 : pos j < c
          · rw [decide_eq_true e2, decide_eq_true (by omega)]
          · rw [decide_eq_false e2, decide_eq_false (by omega)]
      · intro j hj hkj hl
        have e : j ≠ i := fun x => by subst x; omega
        have e2 : mate j ≠ i := fun x => by have := (hO.alloc j hj hkj).2.2.1; rw [x] at this; omega
        rw [get_set (fun x => e2 x.symm)] at hl
        rw [get_set (fun x => e x.symm)]; exact h.sal j hj hkj hl
    by_cases k2 : kind i = 2
    · rw [if_neg (by omega)] at h2
      obtain ⟨hal, hm1, hm2, hm3⟩ := hO.alloc i hil k2
      rw [op_alloc (hal o h1), Oper.upon_value, h2, frame_put]
      refine ⟨_, rfl, ⟨⟨keepOut (by omega) _, ?_⟩, ?_, ?_, ?_, ?_, h.kpw.alloc _⟩⟩
      · intro j hj hkj hl
        have e : j ≠ i := fun x => by subst x; omega
        rw [get_set (fun x => e x.symm)] at hl
        rw [keepAt (by omega) _ j hj (by omega) e]; exact h.mid.val j hj hkj hl
      · intro j hj hkj hl
        have e2 : mate j ≠ i := fun x => by have := (hO.alloc j hj hkj).2.2.1; rw [x] at this; omega
        rw [get_set (fun x => e2 x.symm)]
        by_cases e : j = i
        · subst e
          have hst : ¬ l.getD (mate j) false = true := fun hl2 => by have := h.sal j hj hkj hl2; rw [hnl] at this; cases this
          rw [updV_same, if_neg hst, if_neg hst]
          exact ⟨_, rfl, h.kpw.size, FrB.made w' _ _⟩
        · rw [get_set (fun x => e x.symm)] at hl
          rw [keepAt (by omega) _ j hj (by omega) e]
          obtain ⟨b, h6, h7, h8⟩ := h.ald j hj hkj hl
          exact ⟨b, h6, h7, h8.alloc _⟩
      · intro j q hj hq hkj hkq hne hl1 hl2
        have newNe : ∀ x, x < m → kind x = 2 → l.getD x false = true → T (dst x) ≠ .pointer (some ⟨w'.heap.size, 0, none⟩) := by
          intro x hx hkx hlx
          obtain ⟨b, h6, h7, h8⟩ := h.ald x hx hkx hlx
          rw [h6]
          have := h8.lt
          intro he
          injection he with he
          injection he with he
          injection he with he1
          omega
        by_cases e : j = i
        · subst e
          rw [get_set hne] at hl2
          rw [updV_same, keepAt (by omega) _ q hq (by omega) (fun x => hne x.symm)]
          exact fun x => newNe q hq hkq hl2 x.symm
        · rw [get_set (fun x => e x.symm)] at hl1
          by_cases e' : q = i
          · subst e'
            rw [updV_same, keepAt (by omega) _ j hj (by omega) e]
            exact newNe j hj hkj hl1
          · rw [get_set (fun x => e' x.symm)] at hl2
            rw [keepAt (by omega) _ j hj (by omega) e, keepAt (by omega) _ q hq (by omega) e']; exact h.dis j q hj hq hkj hkq hne hl1 hl2
      · obtain ⟨c, hc, hc1, hc2⟩ := h.cnt
        exact ⟨c, hc, fun j hj hkj => by rw [get_set (fun x => by subst x; omega)]; exact hc1 j hj hkj, hc2.alloc _⟩
      · intro j hj hkj hl
        have e2 : mate j ≠ i := fun x => by have := (hO.alloc j hj hkj).2.2.1; rw [x] at this; omega
        rw [get_set (fun x => e2 x.symm)] at hl
        by_cases e : j = i
        · subst e; exact get_self (by omega) _
        · rw [get_set (fun x => e x.symm)]; exact h.sal j hj hkj hl
    · have k3 : kind i = 3 := by omega
      rw [if_pos k3] at h2
      obtain ⟨hm1, hm2, hm3, hst⟩ := hO.store i hil k3
      obtain ⟨hla, y, hop, hy⟩ := hst l T o hr h.mid h1
      obtain ⟨b, h6, h7, h8⟩ := h.ald (mate i) hm1 hm2 hla
      rw [op_store hop (by rw [frame_eval (hO.dstN _ hm1 (by omega))]; exact h6) hy h8, Oper.upon_skip, h2]
      refine ⟨T, rfl, ⟨⟨h.mid.out, ?_⟩, ?_, ?_, ?_, ?_, kp_set2 h.kpw h7 _ _⟩⟩
      · intro j hj hkj hl
        have e : j ≠ i := fun x => by subst x; omega
        rw [get_set (fun x => e x.symm)] at hl
        exact h.mid.val j hj hkj hl
      · intro j hj hkj hl
        have e : j ≠ i := fun x => by subst x; omega
        rw [get_set (fun x => e x.symm)] at hl
        by_cases e2 : j = mate i
        · subst e2
          rw [hm3, get_self (by omega), if_pos rfl, if_pos rfl]
          exact ⟨b, h6, h7, h8.set2⟩
        · have e3 : mate j ≠ i := fun x => e2 (by rw [← (hO.alloc j hj hkj).2.2.2, x])
          rw [get_set (fun x => e3 x.symm)]
          obtain ⟨b', h9, h10, h11⟩ := h.ald j hj hkj hl
          refine ⟨b', h9, h10, h11.far2 (fun he => ?_) _ _⟩
          subst he
          exact h.dis j (mate i) hj hm1 hkj hm2 e2 hl hla (h9.trans h6.symm)
      · intro j q hj hq hkj hkq hne hl1 hl2
        have e : j ≠ i := fun x => by subst x; omega
        have e' : q ≠ i := fun x => by subst x; omega
        rw [get_set (fun x => e x.symm)] at hl1
        rw [get_set (fun x => e' x.symm)] at hl2
        exact h.dis j q hj hq hkj hkq hne hl1 hl2
      · obtain ⟨c, hc, hc1, hc2⟩ := h.cnt
        exact ⟨c, hc, fun j hj hkj => by rw [get_set (fun x => by subst x; omega)]; exact hc1 j hj hkj, ke_set2 hc2 (by omega) _ _⟩
      · intro j hj hkj hl
        have e : j ≠ i := fun x => by subst x; omega
        rw [get_set (fun x => e x.symm)]
        by_cases e2 : mate j = i
        · have : j = mate i := by rw [← (hO.alloc j hj hkj).2.2.2, e2]
          rw [this]; exact hla
        · rw [get_set (fun x => e2 x.symm)] at hl; exact h.sal j hj hkj hl
  · -- the fuel
    have : ∀ q, unl (Array.replicate ops.size false) q ≤ q := by
      intro q
      induction q with
      | zero => exact Nat.le_refl _
      | succ q ih => unfold unl; split <;> omega
    exact this _
  · -- the start
    have hf : ∀ i, (Array.replicate ops.size false).getD i false = false := by
      intro i
      simp only [Array.getD]
      split
      · simp
      · rfl
    refine ⟨T0, rfl, ⟨⟨fun _ _ => rfl, ?_⟩, ?_, ?_, ⟨0, Nat.zero_le _, ?_, hke⟩, ?_, Kp.refl _ _⟩⟩
    · intro i _ _ h; rw [hf] at h; cases h
    · intro i _ _ h; rw [hf] at h; cases h
    · intro i j _ _ _ _ _ h; rw [hf] at h; cases h
    · intro i _ _; rw [hf]; exact (decide_eq_false (by omega)).symm
    · intro i _ _ h; rw [hf] at h; cases h
end Go.Proofs.YtminjcknmhgpiaaGreatDoor

/- The closures of signRoots, in package ratio. -/
namespace Go.Proofs.YtminjcknmhgpiaaGreatDoor
open Go.RowKit
open Go.Lib (nDigits itoa decDigits)

set_option maxRecDepth 100000 in
theorem frame_36 (T : Nat → Value) : frameOf 36 T = ⟨#[T 0, T 1, T 2, T 3, T 4, T 5, T 6, T 7, T 8, T 9, T 10, T 11, T 12, T 13, T 14, T 15, T 16, T 17, T 18, T 19, T 20, T 21, T 22, T 23, T 24, T 25, T 26, T 27, T 28, T 29, T 30, T 31, T 32, T 33, T 34, T 35], []⟩ := by
  unfold frameOf
  simp only [Act.mk.injEq, and_true]
  apply Array.ext
  · simp
  · intro i h1 h2
    rw [Array.getElem_ofFn]
    simp only [Array.size_ofFn] at h1
    obtain rfl | rfl | rfl | rfl | rfl | rfl | rfl | rfl | rfl | rfl | rfl | rfl | rfl | rfl | rfl | rfl | rfl | rfl | rfl | rfl | rfl | rfl | rfl | rfl | rfl | rfl | rfl | rfl | rfl | rfl | rfl | rfl | rfl | rfl | rfl | rfl : i = 0 ∨ i = 1 ∨ i = 2 ∨ i = 3 ∨ i = 4 ∨ i = 5 ∨ i = 6 ∨ i = 7 ∨ i = 8 ∨ i = 9 ∨ i = 10 ∨ i = 11 ∨ i = 12 ∨ i = 13 ∨ i = 14 ∨ i = 15 ∨ i = 16 ∨ i = 17 ∨ i = 18 ∨ i = 19 ∨ i = 20 ∨ i = 21 ∨ i = 22 ∨ i = 23 ∨ i = 24 ∨ i = 25 ∨ i = 26 ∨ i = 27 ∨ i = 28 ∨ i = 29 ∨ i = 30 ∨ i = 31 ∨ i = 32 ∨ i = 33 ∨ i = 34 ∨ i = 35 := by omega
    all_goals rfl

theorem op_load_fr {a : Act} {w : World} {o : Oper} {x : Operand} {b : Nat} {n d : ByteArray} (h : o.op = .load 86 x) (hx : a.eval x = .pointer (some ⟨b, 0, none⟩)) (hb : FrB w b n d) :
    (execOp a.eval o).run Tryz.prog w = .ok (.value (.agg #[.string n, .string d])) w := by
  have z0 := hb.c0
  have z1 := hb.c1
  generalize a.eval = r at *
  simp [execOp, h, hx, go_sem, z0, z1]
theorem op_load_pt {a : Act} {w : World} {o : Oper} {x : Operand} {b g : Nat} (h : o.op = .load 89 x) (hx : a.eval x = .pointer (some ⟨b, 0, none⟩)) (hb : PtB w b g) :
    (execOp a.eval o).run Tryz.prog w = .ok (.value (.pointer (some ⟨g, 0, none⟩))) w := by
  have z0 := hb.c
  generalize a.eval = r at *
  simp [execOp, h, hx, go_sem, z0]
theorem op_build_m2 {a : Act} {w : World} {o : Oper} (h : o.op = .build 86 #[(0, .const (.string ⟨#[45, 50]⟩)), (1, .const (.string ⟨#[49]⟩))]) :
    (execOp a.eval o).run Tryz.prog w = .ok (.value (.agg #[.string ⟨#[45, 50]⟩, .string ⟨#[49]⟩])) w := by
  have h1 : a.eval (.const (.string ⟨#[45, 50]⟩)) = .string ⟨#[45, 50]⟩ := rfl
  have h2 : a.eval (.const (.string ⟨#[49]⟩)) = .string ⟨#[49]⟩ := rfl
  generalize a.eval = r at *
  simp [execOp, h, h1, h2, go_sem]
theorem op_call_product {a : Act} {w : World} {o : Oper} {x y z : Operand} {ty : Array TypeId} {u v t : Value} (h : o.op = .call { callee := .value (.func 89), args := #[x, y, z], argTypes := ty }) (hx : a.eval x = u) (hy : a.eval y = v) (hz : a.eval z = t) :
    (execOp a.eval o).run Tryz.prog w = .ok (.enter 89 #[u, v, t]) w := by
  have hf : a.eval (.func 89) = .func (.func 89) #[] #[] := rfl
  generalize a.eval = r at *
  simp [execOp, h, hx, hy, hz, hf, go_sem]
theorem op_call_difference {a : Act} {w : World} {o : Oper} {x y z : Operand} {ty : Array TypeId} {u v t : Value} (h : o.op = .call { callee := .value (.func 86), args := #[x, y, z], argTypes := ty }) (hx : a.eval x = u) (hy : a.eval y = v) (hz : a.eval z = t) :
    (execOp a.eval o).run Tryz.prog w = .ok (.enter 86 #[u, v, t]) w := by
  have hf : a.eval (.func 86) = .func (.func 86) #[] #[] := rfl
  generalize a.eval = r at *
  simp [execOp, h, hx, hy, hz, hf, go_sem]
theorem op_assign {a : Act} {w : World} {o : Oper} {x : Operand} {v : Value} (h : o.op = .assign x) (hx : a.eval x = v) :
    (execOp a.eval o).run Tryz.prog w = .ok (.value v) w := by
  generalize a.eval = r at *
  simp [execOp, h, hx, go_sem]
theorem op_call_signRoot {a : Act} {w : World} {o : Oper} {x y z z2 : Operand} {ty : Array TypeId} {u v t t2 : Value} (h : o.op = .call { callee := .value (.func 100), args := #[x, y, z, z2], argTypes := ty }) (hx : a.eval x = u) (hy : a.eval y = v) (hz : a.eval z = t) (hz2 : a.eval z2 = t2) :
    (execOp a.eval o).run Tryz.prog w = .ok (.enter 100 #[u, v, t, t2]) w := by
  have hf : a.eval (.func 100) = .func (.func 100) #[] #[] := rfl
  generalize a.eval = r at *
  simp [execOp, h, hx, hy, hz, hz2, hf, go_sem]

/-- what signRoots asks for last: the sign of rest + mixed root (c e), and its error -/
structure Rts where
  rN : ByteArray
  rD : ByteArray
  mN : ByteArray
  mD : ByteArray
  qN : ByteArray
  qD : ByteArray
def rtsOf (n1 p1 n2 p2 n3 p3 n4 p4 n5 p5 n6 p6 n7 p7 : ByteArray) : Rts :=
  ⟨diN (diN (prN n1 p1 n1 p1) (prD n1 p1 n1 p1) n2 p2) (diD (prN n1 p1 n1 p1) (prD n1 p1 n1 p1) n2 p2) n3 p3, diD (diN (prN n1 p1 n1 p1) (prD n1 p1 n1 p1) n2 p2) (diD (prN n1 p1 n1 p1) (prD n1 p1 n1 p1) n2 p2) n3 p3,
   prN ⟨#[45, 50]⟩ ⟨#[49]⟩ (prN n4 p4 n5 p5) (prD n4 p4 n5 p5), prD ⟨#[45, 50]⟩ ⟨#[49]⟩ (prN n4 p4 n5 p5) (prD n4 p4 n5 p5), prN n6 p6 n7 p7, prD n6 p6 n7 p7⟩
def r2V (n1 p1 n2 p2 n3 p3 n4 p4 n5 p5 n6 p6 n7 p7 : ByteArray) : Int := let r := rtsOf n1 p1 n2 p2 n3 p3 n4 p4 n5 p5 n6 p6 n7 p7; sgV r.rN r.rD r.mN r.mD r.qN r.qD
def r2E (n1 p1 n2 p2 n3 p3 n4 p4 n5 p5 n6 p6 n7 p7 : ByteArray) : Int := let r := rtsOf n1 p1 n2 p2 n3 p3 n4 p4 n5 p5 n6 p6 n7 p7
  kp (prE n1 p1 n1 p1) (kp (diE (prN n1 p1 n1 p1) (prD n1 p1 n1 p1) n2 p2) (kp (diE (diN (prN n1 p1 n1 p1) (prD n1 p1 n1 p1) n2 p2) (diD (prN n1 p1 n1 p1) (prD n1 p1 n1 p1) n2 p2) n3 p3)
    (kp (prE n4 p4 n5 p5) (kp (prE ⟨#[45, 50]⟩ ⟨#[49]⟩ (prN n4 p4 n5 p5) (prD n4 p4 n5 p5)) (kp (prE n6 p6 n7 p7) (sgE r.rN r.rD r.mN r.mD r.qN r.qD))))))

set_option maxRecDepth 100000 in
set_option maxHeartbeats 8000000 in
theorem signRoots_cl2 (g bk b1 b2 b3 b4 b5 b6 b7 : Nat) (e : Int) (n1 p1 n2 p2 n3 p3 n4 p4 n5 p5 n6 p6 n7 p7 : ByteArray) (w : World) (h : KE w g e) (z1 : n1.size ≤ 9223372036854775807) (y1 : p1.size ≤ 9223372036854775807) (z2 : n2.size ≤ 9223372036854775807) (y2 : p2.size ≤ 9223372036854775807) (z3 : n3.size ≤ 9223372036854775807) (y3 : p3.size ≤ 9223372036854775807) (z4 : n4.size ≤ 9223372036854775807) (y4 : p4.size ≤ 9223372036854775807) (z5 : n5.size ≤ 9223372036854775807) (y5 : p5.size ≤ 9223372036854775807) (z6 : n6.size ≤ 9223372036854775807) (y6 : p6.size ≤ 9223372036854775807) (z7 : n7.size ≤ 9223372036854775807) (y7 : p7.size ≤ 9223372036854775807)
    (sk : PtB w.drew bk g) (s1 : FrB w.drew b1 n1 p1) (s2 : FrB w.drew b2 n2 p2) (s3 : FrB w.drew b3 n3 p3) (s4 : FrB w.drew b4 n4 p4) (s5 : FrB w.drew b5 n5 p5) (s6 : FrB w.drew b6 n6 p6) (s7 : FrB w.drew b7 n7 p7) (gk : bk ≠ g) (g1 : b1 ≠ g) (g2 : b2 ≠ g) (g3 : b3 ≠ g) (g4 : b4 ≠ g) (g5 : b5 ≠ g) (g6 : b6 ≠ g) (g7 : b7 ≠ g) :
    Calls Tryz.prog 137 #[.pointer (some ⟨bk, 0, none⟩), .pointer (some ⟨b1, 0, none⟩), .pointer (some ⟨b2, 0, none⟩), .pointer (some ⟨b3, 0, none⟩), .pointer (some ⟨b4, 0, none⟩), .pointer (some ⟨b5, 0, none⟩), .pointer (some ⟨b6, 0, none⟩), .pointer (some ⟨b7, 0, none⟩)] w fun x w' => x = .returned (.int .i64 (r2V n1 p1 n2 p2 n3 p3 n4 p4 n5 p5 n6 p6 n7 p7)) ∧ KE w' g (kp e (r2E n1 p1 n2 p2 n3 p3 n4 p4 n5 p5 n6 p6 n7 p7)) ∧ Kp [g] w w' := by
  have hl := h.lt
  have q1 := Lib.hid (fun W E hE => k_product g E n1 p1 n1 p1 W hE z1 y1 z1 y1)
  have q2 := Lib.hid (fun W E hE => k_difference g E (prN n1 p1 n1 p1) (prD n1 p1 n1 p1) n2 p2 W hE (le9 (prN_size _ _ _ _)) (le9 (prD_size _ _ _ _)) z2 y2)
  have q3 := Lib.hid (fun W E hE => k_difference g E (diN (prN n1 p1 n1 p1) (prD n1 p1 n1 p1) n2 p2) (diD (prN n1 p1 n1 p1) (prD n1 p1 n1 p1) n2 p2) n3 p3 W hE (le9 (diN_size _ _ _ _)) (le9 (diD_size _ _ _ _)) z3 y3)
  have q4 := Lib.hid (fun W E hE => k_product g E n4 p4 n5 p5 W hE z4 y4 z5 y5)
  have q5 := Lib.hid (fun W E hE => k_product g E ⟨#[45, 50]⟩ ⟨#[49]⟩ (prN n4 p4 n5 p5) (prD n4 p4 n5 p5) W hE (by decide) (by decide) (le9 (prN_size _ _ _ _)) (le9 (prD_size _ _ _ _)))
  have q6 := Lib.hid (fun W E hE => k_product g E n6 p6 n7 p7 W hE z6 y6 z7 y7)
  have hr : Hid (rtsOf n1 p1 n2 p2 n3 p3 n4 p4 n5 p5 n6 p6 n7 p7 = rtsOf n1 p1 n2 p2 n3 p3 n4 p4 n5 p5 n6 p6 n7 p7) := rfl
  have q7 := Lib.hid (fun W E hE => k_signRoot g E (rtsOf n1 p1 n2 p2 n3 p3 n4 p4 n5 p5 n6 p6 n7 p7).rN (rtsOf n1 p1 n2 p2 n3 p3 n4 p4 n5 p5 n6 p6 n7 p7).rD (rtsOf n1 p1 n2 p2 n3 p3 n4 p4 n5 p5 n6 p6 n7 p7).mN (rtsOf n1 p1 n2 p2 n3 p3 n4 p4 n5 p5 n6 p6 n7 p7).mD (rtsOf n1 p1 n2 p2 n3 p3 n4 p4 n5 p5 n6 p6 n7 p7).qN (rtsOf n1 p1 n2 p2 n3 p3 n4 p4 n5 p5 n6 p6 n7 p7).qD W hE (le9 (diN_size _ _ _ _)) (le9 (diD_size _ _ _ _)) (le9 (prN_size _ _ _ _)) (le9 (prD_size _ _ _ _)) (le9 (prN_size _ _ _ _)) (le9 (prD_size _ _ _ _)))
  have ev : Hid (r2V n1 p1 n2 p2 n3 p3 n4 p4 n5 p5 n6 p6 n7 p7 = sgV (rtsOf n1 p1 n2 p2 n3 p3 n4 p4 n5 p5 n6 p6 n7 p7).rN (rtsOf n1 p1 n2 p2 n3 p3 n4 p4 n5 p5 n6 p6 n7 p7).rD (rtsOf n1 p1 n2 p2 n3 p3 n4 p4 n5 p5 n6 p6 n7 p7).mN (rtsOf n1 p1 n2 p2 n3 p3 n4 p4 n5 p5 n6 p6 n7 p7).mD (rtsOf n1 p1 n2 p2 n3 p3 n4 p4 n5 p5 n6 p6 n7 p7).qN (rtsOf n1 p1 n2 p2 n3 p3 n4 p4 n5 p5 n6 p6 n7 p7).qD) := rfl
  have ee : Hid (r2E n1 p1 n2 p2 n3 p3 n4 p4 n5 p5 n6 p6 n7 p7 = kp (prE n1 p1 n1 p1) (kp (diE (prN n1 p1 n1 p1) (prD n1 p1 n1 p1) n2 p2) (kp (diE (diN (prN n1 p1 n1 p1) (prD n1 p1 n1 p1) n2 p2) (diD (prN n1 p1 n1 p1) (prD n1 p1 n1 p1) n2 p2) n3 p3)
    (kp (prE n4 p4 n5 p5) (kp (prE ⟨#[45, 50]⟩ ⟨#[49]⟩ (prN n4 p4 n5 p5) (prD n4 p4 n5 p5)) (kp (prE n6 p6 n7 p7) (sgE (rtsOf n1 p1 n2 p2 n3 p3 n4 p4 n5 p5 n6 p6 n7 p7).rN (rtsOf n1 p1 n2 p2 n3 p3 n4 p4 n5 p5 n6 p6 n7 p7).rD (rtsOf n1 p1 n2 p2 n3 p3 n4 p4 n5 p5 n6 p6 n7 p7).mN (rtsOf n1 p1 n2 p2 n3 p3 n4 p4 n5 p5 n6 p6 n7 p7).mD (rtsOf n1 p1 n2 p2 n3 p3 n4 p4 n5 p5 n6 p6 n7 p7).qN (rtsOf n1 p1 n2 p2 n3 p3 n4 p4 n5 p5 n6 p6 n7 p7).qD))))))) := rfl
  rw [← ev.out] at q7
  generalize sgE (rtsOf n1 p1 n2 p2 n3 p3 n4 p4 n5 p5 n6 p6 n7 p7).rN (rtsOf n1 p1 n2 p2 n3 p3 n4 p4 n5 p5 n6 p6 n7 p7).rD (rtsOf n1 p1 n2 p2 n3 p3 n4 p4 n5 p5 n6 p6 n7 p7).mN (rtsOf n1 p1 n2 p2 n3 p3 n4 p4 n5 p5 n6 p6 n7 p7).mD (rtsOf n1 p1 n2 p2 n3 p3 n4 p4 n5 p5 n6 p6 n7 p7).qN (rtsOf n1 p1 n2 p2 n3 p3 n4 p4 n5 p5 n6 p6 n7 p7).qD = X7 at *
  change Hid (∀ W E, KE W g E → Calls Tryz.prog 100 #[.pointer (some ⟨g, 0, none⟩), .agg #[.string (diN (diN (prN n1 p1 n1 p1) (prD n1 p1 n1 p1) n2 p2) (diD (prN n1 p1 n1 p1) (prD n1 p1 n1 p1) n2 p2) n3 p3), .string (diD (diN (prN n1 p1 n1 p1) (prD n1 p1 n1 p1) n2 p2) (diD (prN n1 p1 n1 p1) (prD n1 p1 n1 p1) n2 p2) n3 p3)], .agg #[.string (prN ⟨#[45, 50]⟩ ⟨#[49]⟩ (prN n4 p4 n5 p5) (prD n4 p4 n5 p5)), .string (prD ⟨#[45, 50]⟩ ⟨#[49]⟩ (prN n4 p4 n5 p5) (prD n4 p4 n5 p5))], .agg #[.string (prN n6 p6 n7 p7), .string (prD n6 p6 n7 p7)]] W fun x w' => x = .returned (.int .i64 (r2V n1 p1 n2 p2 n3 p3 n4 p4 n5 p5 n6 p6 n7 p7)) ∧ KE w' g (kp E X7) ∧ Kp [g] W w') at q7
  clear hr ev
  generalize r2V n1 p1 n2 p2 n3 p3 n4 p4 n5 p5 n6 p6 n7 p7 = VV at *
  generalize prE n6 p6 n7 p7 = X6 at *
  generalize prN n6 p6 n7 p7 = F0 at *
  generalize prD n6 p6 n7 p7 = F1 at *
  generalize prE ⟨#[45, 50]⟩ ⟨#[49]⟩ (prN n4 p4 n5 p5) (prD n4 p4 n5 p5) = X5 at *
  generalize prN ⟨#[45, 50]⟩ ⟨#[49]⟩ (prN n4 p4 n5 p5) (prD n4 p4 n5 p5) = G0 at *
  generalize prD ⟨#[45, 50]⟩ ⟨#[49]⟩ (prN n4 p4 n5 p5) (prD n4 p4 n5 p5) = G1 at *
  generalize prE n4 p4 n5 p5 = X4 at *
  generalize prN n4 p4 n5 p5 = D0 at *
  generalize prD n4 p4 n5 p5 = D1 at *
  generalize diE (diN (prN n1 p1 n1 p1) (prD n1 p1 n1 p1) n2 p2) (diD (prN n1 p1 n1 p1) (prD n1 p1 n1 p1) n2 p2) n3 p3 = X3 at *
  generalize diN (diN (prN n1 p1 n1 p1) (prD n1 p1 n1 p1) n2 p2) (diD (prN n1 p1 n1 p1) (prD n1 p1 n1 p1) n2 p2) n3 p3 = C0 at *
  generalize diD (diN (prN n1 p1 n1 p1) (prD n1 p1 n1 p1) n2 p2) (diD (prN n1 p1 n1 p1) (prD n1 p1 n1 p1) n2 p2) n3 p3 = C1 at *
  generalize diE (prN n1 p1 n1 p1) (prD n1 p1 n1 p1) n2 p2 = X2 at *
  generalize diN (prN n1 p1 n1 p1) (prD n1 p1 n1 p1) n2 p2 = B0 at *
  generalize diD (prN n1 p1 n1 p1) (prD n1 p1 n1 p1) n2 p2 = B1 at *
  generalize prE n1 p1 n1 p1 = X1 at *
  generalize prN n1 p1 n1 p1 = A0 at *
  generalize prD n1 p1 n1 p1 = A1 at *
  go_enter Tryz.func137, Tryz.ntmps137
  go_wp2_with fail
  rw [frame_lit]
  refine region_law (m := 12) (N := 36) (g := g) (K := 3) (dst := fun i => ([11, 12, 13, 14, 15, 16, 17, 18, 19, 20, 9, 0] : List Nat).getD i 0) (kind := fun i => ([0, 0, 0, 0, 0, 1, 0, 1, 0, 1, 2, 3] : List Nat).getD i 0) (pos := fun i => ([0, 0, 0, 0, 0, 0, 0, 1, 0, 2, 0, 0] : List Nat).getD i 0) (mate := fun i => ([0, 0, 0, 0, 0, 0, 0, 0, 0, 0, 11, 10] : List Nat).getD i 0)       (V := fun i => ([.pointer (some ⟨g, 0, none⟩), .pointer (some ⟨g, 0, none⟩), .pointer (some ⟨g, 0, none⟩), .agg #[.string n1, .string p1], .agg #[.string n1, .string p1], .agg #[.string A0, .string A1], .agg #[.string n2, .string p2], .agg #[.string B0, .string B1], .agg #[.string n3, .string p3], .agg #[.string C0, .string C1], undef, undef] : List Value).getD i undef) (E := fun i => ([e, kp e X1, kp (kp e X1) X2, kp (kp (kp e X1) X2) X3] : List Int).getD i 0) (nt := fun i => C0) (dt := fun i => C1) (by kernel_rfl) ?shape h ?rest
  case shape =>
    have lo : ∀ s, s ∈ ([0, 1, 2, 3] : List Nat) → ∀ j, j < 12 → ([0, 0, 0, 0, 0, 1, 0, 1, 0, 1, 2, 3] : List Nat).getD j 0 ≠ 3 → ([11, 12, 13, 14, 15, 16, 17, 18, 19, 20, 9, 0] : List Nat).getD j 0 ≠ s := by decide
    refine ⟨rfl, by decide, by decide, by decide, ?_, ?_, ?_, ?_, by decide, by decide, ?_, ?_, fun l hs hr => fin_of (m := 12) (by rfl) ?_ l hs hr⟩
    · intro i hi; obtain rfl | rfl | rfl | rfl | rfl | rfl | rfl | rfl | rfl | rfl | rfl | rfl : i = 0 ∨ i = 1 ∨ i = 2 ∨ i = 3 ∨ i = 4 ∨ i = 5 ∨ i = 6 ∨ i = 7 ∨ i = 8 ∨ i = 9 ∨ i = 10 ∨ i = 11 := by omega
      all_goals exact ⟨_, rfl, rfl, rfl⟩
    · intro i hi hk l T w1 o hr hM hkp ho; obtain rfl | rfl | rfl | rfl | rfl | rfl | rfl | rfl | rfl | rfl | rfl | rfl : i = 0 ∨ i = 1 ∨ i = 2 ∨ i = 3 ∨ i = 4 ∨ i = 5 ∨ i = 6 ∨ i = 7 ∨ i = 8 ∨ i = 9 ∨ i = 10 ∨ i = 11 := by omega
      · obtain rfl := Option.some.inj ho; exact op_load_pt rfl (by rw [frame_eval (by decide), hM.out 0 (lo 0 (by decide))]; rfl) (sk.kept hkp (nmem_one (by assumption)))
      · obtain rfl := Option.some.inj ho; exact op_load_pt rfl (by rw [frame_eval (by decide), hM.out 0 (lo 0 (by decide))]; rfl) (sk.kept hkp (nmem_one (by assumption)))
      · obtain rfl := Option.some.inj ho; exact op_load_pt rfl (by rw [frame_eval (by decide), hM.out 0 (lo 0 (by decide))]; rfl) (sk.kept hkp (nmem_one (by assumption)))
      · obtain rfl := Option.some.inj ho; exact op_load_fr rfl (by rw [frame_eval (by decide), hM.out 1 (lo 1 (by decide))]; rfl) (s1.kept hkp (nmem_one (by assumption)))
      · obtain rfl := Option.some.inj ho; exact op_load_fr rfl (by rw [frame_eval (by decide), hM.out 1 (lo 1 (by decide))]; rfl) (s1.kept hkp (nmem_one (by assumption)))
      · exact absurd hk (by decide)
      · obtain rfl := Option.some.inj ho; exact op_load_fr rfl (by rw [frame_eval (by decide), hM.out 2 (lo 2 (by decide))]; rfl) (s2.kept hkp (nmem_one (by assumption)))
      · exact absurd hk (by decide)
      · obtain rfl := Option.some.inj ho; exact op_load_fr rfl (by rw [frame_eval (by decide), hM.out 3 (lo 3 (by decide))]; rfl) (s3.kept hkp (nmem_one (by assumption)))
      · exact absurd hk (by decide)
      · exact absurd hk (by decide)
      · exact absurd hk (by decide)
    · intro i hi hk l T w1 o hr hM hkp ho; obtain rfl | rfl | rfl | rfl | rfl | rfl | rfl | rfl | rfl | rfl | rfl | rfl : i = 0 ∨ i = 1 ∨ i = 2 ∨ i = 3 ∨ i = 4 ∨ i = 5 ∨ i = 6 ∨ i = 7 ∨ i = 8 ∨ i = 9 ∨ i = 10 ∨ i = 11 := by omega
      · exact absurd hk (by decide)
      · exact absurd hk (by decide)
      · exact absurd hk (by decide)
      · exact absurd hk (by decide)
      · exact absurd hk (by decide)
      · obtain rfl := Option.some.inj ho
        exact ⟨_, _, op_call_product rfl (by rw [frame_eval (by decide)]; exact hM.val 2 (by decide) (by decide) (dep_of hr rfl (by kernel_rfl))) (by rw [frame_eval (by decide)]; exact hM.val 3 (by decide) (by decide) (dep_of hr rfl (by kernel_rfl))) (by rw [frame_eval (by decide)]; exact hM.val 4 (by decide) (by decide) (dep_of hr rfl (by kernel_rfl))), fun hE => q1.out _ _ hE⟩
      · exact absurd hk (by decide)
      · obtain rfl := Option.some.inj ho
        exact ⟨_, _, op_call_difference rfl (by rw [frame_eval (by decide)]; exact hM.val 1 (by decide) (by decide) (dep_of hr rfl (by kernel_rfl))) (by rw [frame_eval (by decide)]; exact hM.val 5 (by decide) (by decide) (dep_of hr rfl (by kernel_rfl))) (by rw [frame_eval (by decide)]; exact hM.val 6 (by decide) (by decide) (dep_of hr rfl (by kernel_rfl))), fun hE => q2.out _ _ hE⟩
      · exact absurd hk (by decide)
      · obtain rfl := Option.some.inj ho
        exact ⟨_, _, op_call_difference rfl (by rw [frame_eval (by decide)]; exact hM.val 0 (by decide) (by decide) (dep_of hr rfl (by kernel_rfl))) (by rw [frame_eval (by decide)]; exact hM.val 7 (by decide) (by decide) (dep_of hr rfl (by kernel_rfl))) (by rw [frame_eval (by decide)]; exact hM.val 8 (by decide) (by decide) (dep_of hr rfl (by kernel_rfl))), fun hE => q3.out _ _ hE⟩
      · exact absurd hk (by decide)
      · exact absurd hk (by decide)
    · intro i hi hk; obtain rfl | rfl | rfl | rfl | rfl | rfl | rfl | rfl | rfl | rfl | rfl | rfl : i = 0 ∨ i = 1 ∨ i = 2 ∨ i = 3 ∨ i = 4 ∨ i = 5 ∨ i = 6 ∨ i = 7 ∨ i = 8 ∨ i = 9 ∨ i = 10 ∨ i = 11 := by omega
      · exact absurd hk (by decide)
      · exact absurd hk (by decide)
      · exact absurd hk (by decide)
      · exact absurd hk (by decide)
      · exact absurd hk (by decide)
      · refine ⟨by decide, fun l hr j hj hkj hp => ?_⟩
        obtain rfl | rfl | rfl | rfl | rfl | rfl | rfl | rfl | rfl | rfl | rfl | rfl : j = 0 ∨ j = 1 ∨ j = 2 ∨ j = 3 ∨ j = 4 ∨ j = 5 ∨ j = 6 ∨ j = 7 ∨ j = 8 ∨ j = 9 ∨ j = 10 ∨ j = 11 := by omega
        · exact absurd hkj (by decide)
        · exact absurd hkj (by decide)
        · exact absurd hkj (by decide)
        · exact absurd hkj (by decide)
        · exact absurd hkj (by decide)
        · exact absurd hp (by decide)
        · exact absurd hkj (by decide)
        · exact absurd hp (by decide)
        · exact absurd hkj (by decide)
        · exact absurd hp (by decide)
        · exact absurd hkj (by decide)
        · exact absurd hkj (by decide)
      · exact absurd hk (by decide)
      · refine ⟨by decide, fun l hr j hj hkj hp => ?_⟩
        obtain rfl | rfl | rfl | rfl | rfl | rfl | rfl | rfl | rfl | rfl | rfl | rfl : j = 0 ∨ j = 1 ∨ j = 2 ∨ j = 3 ∨ j = 4 ∨ j = 5 ∨ j = 6 ∨ j = 7 ∨ j = 8 ∨ j = 9 ∨ j = 10 ∨ j = 11 := by omega
        · exact absurd hkj (by decide)
        · exact absurd hkj (by decide)
        · exact absurd hkj (by decide)
        · exact absurd hkj (by decide)
        · exact absurd hkj (by decide)
        · exact dep_of hr rfl (by kernel_rfl)
        · exact absurd hkj (by decide)
        · exact absurd hp (by decide)
        · exact absurd hkj (by decide)
        · exact absurd hp (by decide)
        · exact absurd hkj (by decide)
        · exact absurd hkj (by decide)
      · exact absurd hk (by decide)
      · refine ⟨by decide, fun l hr j hj hkj hp => ?_⟩
        obtain rfl | rfl | rfl | rfl | rfl | rfl | rfl | rfl | rfl | rfl | rfl | rfl : j = 0 ∨ j = 1 ∨ j = 2 ∨ j = 3 ∨ j = 4 ∨ j = 5 ∨ j = 6 ∨ j = 7 ∨ j = 8 ∨ j = 9 ∨ j = 10 ∨ j = 11 := by omega
        · exact absurd hkj (by decide)
        · exact absurd hkj (by decide)
        · exact absurd hkj (by decide)
        · exact absurd hkj (by decide)
        · exact absurd hkj (by decide)
        · exact absurd hp (by decide)
        · exact absurd hkj (by decide)
        · exact dep_of hr rfl (by kernel_rfl)
        · exact absurd hkj (by decide)
        · exact absurd hp (by decide)
        · exact absurd hkj (by decide)
        · exact absurd hkj (by decide)
      · exact absurd hk (by decide)
      · exact absurd hk (by decide)
    · intro i hi hk; obtain rfl | rfl | rfl | rfl | rfl | rfl | rfl | rfl | rfl | rfl | rfl | rfl : i = 0 ∨ i = 1 ∨ i = 2 ∨ i = 3 ∨ i = 4 ∨ i = 5 ∨ i = 6 ∨ i = 7 ∨ i = 8 ∨ i = 9 ∨ i = 10 ∨ i = 11 := by omega
      · exact absurd hk (by decide)
      · exact absurd hk (by decide)
      · exact absurd hk (by decide)
      · exact absurd hk (by decide)
      · exact absurd hk (by decide)
      · exact absurd hk (by decide)
      · exact absurd hk (by decide)
      · exact absurd hk (by decide)
      · exact absurd hk (by decide)
      · exact absurd hk (by decide)
      · exact ⟨fun o ho => by obtain rfl := Option.some.inj ho; rfl, by decide, by decide, by decide⟩
      · exact absurd hk (by decide)
    · intro i hi hk; obtain rfl | rfl | rfl | rfl | rfl | rfl | rfl | rfl | rfl | rfl | rfl | rfl : i = 0 ∨ i = 1 ∨ i = 2 ∨ i = 3 ∨ i = 4 ∨ i = 5 ∨ i = 6 ∨ i = 7 ∨ i = 8 ∨ i = 9 ∨ i = 10 ∨ i = 11 := by omega
      · exact absurd hk (by decide)
      · exact absurd hk (by decide)
      · exact absurd hk (by decide)
      · exact absurd hk (by decide)
      · exact absurd hk (by decide)
      · exact absurd hk (by decide)
      · exact absurd hk (by decide)
      · exact absurd hk (by decide)
      · exact absurd hk (by decide)
      · exact absurd hk (by decide)
      · exact absurd hk (by decide)
      · exact ⟨by decide, by decide, by decide, fun l T o hr hM ho => by
          obtain rfl := Option.some.inj ho
          exact ⟨dep_of hr rfl (by kernel_rfl), _, rfl, by rw [frame_eval (by decide)]; exact hM.val 9 (by decide) (by decide) (dep_of hr rfl (by kernel_rfl))⟩⟩
    · intro i hi; obtain rfl | rfl | rfl | rfl | rfl | rfl | rfl | rfl | rfl | rfl | rfl | rfl : i = 0 ∨ i = 1 ∨ i = 2 ∨ i = 3 ∨ i = 4 ∨ i = 5 ∨ i = 6 ∨ i = 7 ∨ i = 8 ∨ i = 9 ∨ i = 10 ∨ i = 11 := by omega
      all_goals exact ⟨_, rfl, by kernel_rfl⟩
  case rest =>
    intro T BB w1 hout hval hal hE1 k1
    have lo1 : ∀ s, s < 9 → ∀ j, j < 12 → ([0, 0, 0, 0, 0, 1, 0, 1, 0, 1, 2, 3] : List Nat).getD j 0 ≠ 3 → ([11, 12, 13, 14, 15, 16, 17, 18, 19, 20, 9, 0] : List Nat).getD j 0 ≠ s := by decide
    have e0 : T 0 = .pointer (some ⟨bk, 0, none⟩) := hout 0 (lo1 0 (by decide))
    have e1 : T 1 = .pointer (some ⟨b1, 0, none⟩) := hout 1 (lo1 1 (by decide))
    have e2 : T 2 = .pointer (some ⟨b2, 0, none⟩) := hout 2 (lo1 2 (by decide))
    have e3 : T 3 = .pointer (some ⟨b3, 0, none⟩) := hout 3 (lo1 3 (by decide))
    have e4 : T 4 = .pointer (some ⟨b4, 0, none⟩) := hout 4 (lo1 4 (by decide))
    have e5 : T 5 = .pointer (some ⟨b5, 0, none⟩) := hout 5 (lo1 5 (by decide))
    have e6 : T 6 = .pointer (some ⟨b6, 0, none⟩) := hout 6 (lo1 6 (by decide))
    have e7 : T 7 = .pointer (some ⟨b7, 0, none⟩) := hout 7 (lo1 7 (by decide))
    have e9 : T 9 = .pointer (some ⟨BB 10, 0, none⟩) := (hal 10 (by decide) (by decide)).1
    have L9 : w.heap.size ≤ BB 10 := (hal 10 (by decide) (by decide)).2.1
    have X9 : FrB w1 (BB 10) C0 C1 := (hal 10 (by decide) (by decide)).2.2
    have hE1' : KE w1 g (kp (kp (kp e X1) X2) X3) := hE1
    have tk : PtB w1.drew bk g := PtB.drew (PtB.kept (w := w) sk k1 (nmem_one gk))
    have u4 : FrB w1.drew b4 n4 p4 := FrB.drew (FrB.kept (w := w) s4 k1 (nmem_one g4))
    have u5 : FrB w1.drew b5 n5 p5 := FrB.drew (FrB.kept (w := w) s5 k1 (nmem_one g5))
    have u6 : FrB w1.drew b6 n6 p6 := FrB.drew (FrB.kept (w := w) s6 k1 (nmem_one g6))
    have u7 : FrB w1.drew b7 n7 p7 := FrB.drew (FrB.kept (w := w) s7 k1 (nmem_one g7))
    clear hout hval hal hE1 lo1 e1 e2 e3 s1 s2 s3 sk s4 s5 s6 s7
    generalize BB 10 = x9 at *
    have gx9 : x9 ≠ g := by omega
    go_wp2_with fail
    refine region_law (m := 9) (N := 36) (g := g) (K := 2) (dst := fun i => ([21, 22, 23, 24, 25, 26, 27, 10, 0] : List Nat).getD i 0) (kind := fun i => ([0, 0, 0, 0, 0, 1, 1, 2, 3] : List Nat).getD i 0) (pos := fun i => ([0, 0, 0, 0, 0, 0, 1, 0, 0] : List Nat).getD i 0) (mate := fun i => ([0, 0, 0, 0, 0, 0, 0, 8, 7] : List Nat).getD i 0)       (V := fun i => ([.pointer (some ⟨g, 0, none⟩), .agg #[.string ⟨#[45, 50]⟩, .string ⟨#[49]⟩], .pointer (some ⟨g, 0, none⟩), .agg #[.string n4, .string p4], .agg #[.string n5, .string p5], .agg #[.string D0, .string D1], .agg #[.string G0, .string G1], undef, undef] : List Value).getD i undef) (E := fun i => ([kp (kp (kp e X1) X2) X3, kp (kp (kp (kp e X1) X2) X3) X4, kp (kp (kp (kp (kp e X1) X2) X3) X4) X5] : List Int).getD i 0) (nt := fun i => G0) (dt := fun i => G1) (by kernel_rfl) ?shape hE1' ?rest
    case shape =>
      have lo : ∀ s, s ∈ ([0, 4, 5] : List Nat) → ∀ j, j < 9 → ([0, 0, 0, 0, 0, 1, 1, 2, 3] : List Nat).getD j 0 ≠ 3 → ([21, 22, 23, 24, 25, 26, 27, 10, 0] : List Nat).getD j 0 ≠ s := by decide
      refine ⟨rfl, by decide, by decide, by decide, ?_, ?_, ?_, ?_, by decide, by decide, ?_, ?_, fun l hs hr => fin_of (m := 9) (by rfl) ?_ l hs hr⟩
      · intro i hi; obtain rfl | rfl | rfl | rfl | rfl | rfl | rfl | rfl | rfl : i = 0 ∨ i = 1 ∨ i = 2 ∨ i = 3 ∨ i = 4 ∨ i = 5 ∨ i = 6 ∨ i = 7 ∨ i = 8 := by omega
        all_goals exact ⟨_, rfl, rfl, rfl⟩
      · intro i hi hk l T w1 o hr hM hkp ho; obtain rfl | rfl | rfl | rfl | rfl | rfl | rfl | rfl | rfl : i = 0 ∨ i = 1 ∨ i = 2 ∨ i = 3 ∨ i = 4 ∨ i = 5 ∨ i = 6 ∨ i = 7 ∨ i = 8 := by omega
        · obtain rfl := Option.some.inj ho; exact op_load_pt rfl (by rw [frame_eval (by decide), hM.out 0 (lo 0 (by decide))]; exact e0) (tk.kept hkp (nmem_one (by assumption)))
        · obtain rfl := Option.some.inj ho; exact op_build_m2 rfl
        · obtain rfl := Option.some.inj ho; exact op_load_pt rfl (by rw [frame_eval (by decide), hM.out 0 (lo 0 (by decide))]; exact e0) (tk.kept hkp (nmem_one (by assumption)))
        · obtain rfl := Option.some.inj ho; exact op_load_fr rfl (by rw [frame_eval (by decide), hM.out 4 (lo 4 (by decide))]; exact e4) (u4.kept hkp (nmem_one (by assumption)))
        · obtain rfl := Option.some.inj ho; exact op_load_fr rfl (by rw [frame_eval (by decide), hM.out 5 (lo 5 (by decide))]; exact e5) (u5.kept hkp (nmem_one (by assumption)))
        · exact absurd hk (by decide)
        · exact absurd hk (by decide)
        · exact absurd hk (by decide)
        · exact absurd hk (by decide)
      · intro i hi hk l T w1 o hr hM hkp ho; obtain rfl | rfl | rfl | rfl | rfl | rfl | rfl | rfl | rfl : i = 0 ∨ i = 1 ∨ i = 2 ∨ i = 3 ∨ i = 4 ∨ i = 5 ∨ i = 6 ∨ i = 7 ∨ i = 8 := by omega
        · exact absurd hk (by decide)
        · exact absurd hk (by decide)
        · exact absurd hk (by decide)
        · exact absurd hk (by decide)
        · exact absurd hk (by decide)
        · obtain rfl := Option.some.inj ho
          exact ⟨_, _, op_call_product rfl (by rw [frame_eval (by decide)]; exact hM.val 2 (by decide) (by decide) (dep_of hr rfl (by kernel_rfl))) (by rw [frame_eval (by decide)]; exact hM.val 3 (by decide) (by decide) (dep_of hr rfl (by kernel_rfl))) (by rw [frame_eval (by decide)]; exact hM.val 4 (by decide) (by decide) (dep_of hr rfl (by kernel_rfl))), fun hE => q4.out _ _ hE⟩
        · obtain rfl := Option.some.inj ho
          exact ⟨_, _, op_call_product rfl (by rw [frame_eval (by decide)]; exact hM.val 0 (by decide) (by decide) (dep_of hr rfl (by kernel_rfl))) (by rw [frame_eval (by decide)]; exact hM.val 1 (by decide) (by decide) (dep_of hr rfl (by kernel_rfl))) (by rw [frame_eval (by decide)]; exact hM.val 5 (by decide) (by decide) (dep_of hr rfl (by kernel_rfl))), fun hE => q5.out _ _ hE⟩
        · exact absurd hk (by decide)
        · exact absurd hk (by decide)
      · intro i hi hk; obtain rfl | rfl | rfl | rfl | rfl | rfl | rfl | rfl | rfl : i = 0 ∨ i = 1 ∨ i = 2 ∨ i = 3 ∨ i = 4 ∨ i = 5 ∨ i = 6 ∨ i = 7 ∨ i = 8 := by omega
        · exact absurd hk (by decide)
        · exact absurd hk (by decide)
        · exact absurd hk (by decide)
        · exact absurd hk (by decide)
        · exact absurd hk (by decide)
        · refine ⟨by decide, fun l hr j hj hkj hp => ?_⟩
          obtain rfl | rfl | rfl | rfl | rfl | rfl | rfl | rfl | rfl : j = 0 ∨ j = 1 ∨ j = 2 ∨ j = 3 ∨ j = 4 ∨ j = 5 ∨ j = 6 ∨ j = 7 ∨ j = 8 := by omega
          · exact absurd hkj (by decide)
          · exact absurd hkj (by decide)
          · exact absurd hkj (by decide)
          · exact absurd hkj (by decide)
          · exact absurd hkj (by decide)
          · exact absurd hp (by decide)
          · exact absurd hp (by decide)
          · exact absurd hkj (by decide)
          · exact absurd hkj (by decide)
        · refine ⟨by decide, fun l hr j hj hkj hp => ?_⟩
          obtain rfl | rfl | rfl | rfl | rfl | rfl | rfl | rfl | rfl : j = 0 ∨ j = 1 ∨ j = 2 ∨ j = 3 ∨ j = 4 ∨ j = 5 ∨ j = 6 ∨ j = 7 ∨ j = 8 := by omega
          · exact absurd hkj (by decide)
          · exact absurd hkj (by decide)
          · exact absurd hkj (by decide)
          · exact absurd hkj (by decide)
          · exact absurd hkj (by decide)
          · exact dep_of hr rfl (by kernel_rfl)
          · exact absurd hp (by decide)
          · exact absurd hkj (by decide)
          · exact absurd hkj (by decide)
        · exact absurd hk (by decide)
        · exact absurd hk (by decide)
      · intro i hi hk; obtain rfl | rfl | rfl | rfl | rfl | rfl | rfl | rfl | rfl : i = 0 ∨ i = 1 ∨ i = 2 ∨ i = 3 ∨ i = 4 ∨ i = 5 ∨ i = 6 ∨ i = 7 ∨ i = 8 := by omega
        · exact absurd hk (by decide)
        · exact absurd hk (by decide)
        · exact absurd hk (by decide)
        · exact absurd hk (by decide)
        · exact absurd hk (by decide)
        · exact absurd hk (by decide)
        · exact absurd hk (by decide)
        · exact ⟨fun o ho => by obtain rfl := Option.some.inj ho; rfl, by decide, by decide, by decide⟩
        · exact absurd hk (by decide)
      · intro i hi hk; obtain rfl | rfl | rfl | rfl | rfl | rfl | rfl | rfl | rfl : i = 0 ∨ i = 1 ∨ i = 2 ∨ i = 3 ∨ i = 4 ∨ i = 5 ∨ i = 6 ∨ i = 7 ∨ i = 8 := by omega
        · exact absurd hk (by decide)
        · exact absurd hk (by decide)
        · exact absurd hk (by decide)
        · exact absurd hk (by decide)
        · exact absurd hk (by decide)
        · exact absurd hk (by decide)
        · exact absurd hk (by decide)
        · exact absurd hk (by decide)
        · exact ⟨by decide, by decide, by decide, fun l T o hr hM ho => by
            obtain rfl := Option.some.inj ho
            exact ⟨dep_of hr rfl (by kernel_rfl), _, rfl, by rw [frame_eval (by decide)]; exact hM.val 6 (by decide) (by decide) (dep_of hr rfl (by kernel_rfl))⟩⟩
      · intro i hi; obtain rfl | rfl | rfl | rfl | rfl | rfl | rfl | rfl | rfl : i = 0 ∨ i = 1 ∨ i = 2 ∨ i = 3 ∨ i = 4 ∨ i = 5 ∨ i = 6 ∨ i = 7 ∨ i = 8 := by omega
        all_goals exact ⟨_, rfl, by kernel_rfl⟩
    case rest =>
      intro T2 B2 w2 hout2 hval2 hal2 hE2 k2
      have lo2 : ∀ s, s < 10 → ∀ j, j < 9 → ([0, 0, 0, 0, 0, 1, 1, 2, 3] : List Nat).getD j 0 ≠ 3 → ([21, 22, 23, 24, 25, 26, 27, 10, 0] : List Nat).getD j 0 ≠ s := by decide
      have f0 : T2 0 = .pointer (some ⟨bk, 0, none⟩) := (hout2 0 (lo2 0 (by decide))).trans e0
      have f6 : T2 6 = .pointer (some ⟨b6, 0, none⟩) := (hout2 6 (lo2 6 (by decide))).trans e6
      have f7 : T2 7 = .pointer (some ⟨b7, 0, none⟩) := (hout2 7 (lo2 7 (by decide))).trans e7
      have f9 : T2 9 = .pointer (some ⟨x9, 0, none⟩) := (hout2 9 (lo2 9 (by decide))).trans e9
      have f10 : T2 10 = .pointer (some ⟨B2 7, 0, none⟩) := (hal2 7 (by decide) (by decide)).1
      have L10 : w1.heap.size ≤ B2 7 := (hal2 7 (by decide) (by decide)).2.1
      have X10 : FrB w2 (B2 7) G0 G1 := (hal2 7 (by decide) (by decide)).2.2
      have hE2' : KE w2 g (kp (kp (kp (kp (kp e X1) X2) X3) X4) X5) := hE2
      have vk : PtB w2.drew bk g := PtB.drew (PtB.kept (w := w1) tk k2 (nmem_one gk))
      have v6 : FrB w2.drew b6 n6 p6 := FrB.drew (FrB.kept (w := w1) u6 k2 (nmem_one g6))
      have v7 : FrB w2.drew b7 n7 p7 := FrB.drew (FrB.kept (w := w1) u7 k2 (nmem_one g7))
      have v9 : FrB w2.drew x9 C0 C1 := FrB.drew (FrB.kept (w := w1) X9 k2 (nmem_one gx9))
      have v10 : FrB w2.drew (B2 7) G0 G1 := X10
      have := hE1'.lt
      clear hout2 hval2 hal2 hE2 lo2 X9 X10
      generalize B2 7 = x10 at *
      have gx10 : x10 ≠ g := by omega
      go_wp2_with fail
      refine region_law (m := 9) (N := 36) (g := g) (K := 2) (dst := fun i => ([28, 29, 30, 31, 32, 33, 34, 35, 8] : List Nat).getD i 0) (kind := fun i => ([0, 0, 0, 0, 0, 0, 1, 1, 0] : List Nat).getD i 0) (pos := fun i => ([0, 0, 0, 0, 0, 0, 0, 1, 0] : List Nat).getD i 0) (mate := fun i => ([0, 0, 0, 0, 0, 0, 0, 0, 0] : List Nat).getD i 0)       (V := fun i => ([.pointer (some ⟨g, 0, none⟩), .agg #[.string C0, .string C1], .agg #[.string G0, .string G1], .pointer (some ⟨g, 0, none⟩), .agg #[.string n6, .string p6], .agg #[.string n7, .string p7], .agg #[.string F0, .string F1], .int .i64 VV, .int .i64 VV] : List Value).getD i undef) (E := fun i => ([kp (kp (kp (kp (kp e X1) X2) X3) X4) X5, kp (kp (kp (kp (kp (kp e X1) X2) X3) X4) X5) X6, kp (kp (kp (kp (kp (kp (kp e X1) X2) X3) X4) X5) X6) X7] : List Int).getD i 0) (nt := fun i => C0) (dt := fun i => C1) (by kernel_rfl) ?shape hE2' ?rest
      case shape =>
        have lo : ∀ s, s ∈ ([0, 6, 7, 9, 10] : List Nat) → ∀ j, j < 9 → ([0, 0, 0, 0, 0, 0, 1, 1, 0] : List Nat).getD j 0 ≠ 3 → ([28, 29, 30, 31, 32, 33, 34, 35, 8] : List Nat).getD j 0 ≠ s := by decide
        refine ⟨rfl, by decide, by decide, by decide, ?_, ?_, ?_, ?_, by decide, by decide, ?_, ?_, fun l hs hr => fin_of (m := 9) (by rfl) ?_ l hs hr⟩
        · intro i hi; obtain rfl | rfl | rfl | rfl | rfl | rfl | rfl | rfl | rfl : i = 0 ∨ i = 1 ∨ i = 2 ∨ i = 3 ∨ i = 4 ∨ i = 5 ∨ i = 6 ∨ i = 7 ∨ i = 8 := by omega
          all_goals exact ⟨_, rfl, rfl, rfl⟩
        · intro i hi hk l T w1 o hr hM hkp ho; obtain rfl | rfl | rfl | rfl | rfl | rfl | rfl | rfl | rfl : i = 0 ∨ i = 1 ∨ i = 2 ∨ i = 3 ∨ i = 4 ∨ i = 5 ∨ i = 6 ∨ i = 7 ∨ i = 8 := by omega
          · obtain rfl := Option.some.inj ho; exact op_load_pt rfl (by rw [frame_eval (by decide), hM.out 0 (lo 0 (by decide))]; exact f0) (vk.kept hkp (nmem_one (by assumption)))
          · obtain rfl := Option.some.inj ho; exact op_load_fr rfl (by rw [frame_eval (by decide), hM.out 9 (lo 9 (by decide))]; exact f9) (v9.kept hkp (nmem_one (by assumption)))
          · obtain rfl := Option.some.inj ho; exact op_load_fr rfl (by rw [frame_eval (by decide), hM.out 10 (lo 10 (by decide))]; exact f10) (v10.kept hkp (nmem_one (by assumption)))
          · obtain rfl := Option.some.inj ho; exact op_load_pt rfl (by rw [frame_eval (by decide), hM.out 0 (lo 0 (by decide))]; exact f0) (vk.kept hkp (nmem_one (by assumption)))
          · obtain rfl := Option.some.inj ho; exact op_load_fr rfl (by rw [frame_eval (by decide), hM.out 6 (lo 6 (by decide))]; exact f6) (v6.kept hkp (nmem_one (by assumption)))
          · obtain rfl := Option.some.inj ho; exact op_load_fr rfl (by rw [frame_eval (by decide), hM.out 7 (lo 7 (by decide))]; exact f7) (v7.kept hkp (nmem_one (by assumption)))
          · exact absurd hk (by decide)
          · exact absurd hk (by decide)
          · obtain rfl := Option.some.inj ho; exact op_assign rfl (by rw [frame_eval (by decide)]; exact hM.val 7 (by decide) (by decide) (dep_of hr rfl (by kernel_rfl)))
        · intro i hi hk l T w1 o hr hM hkp ho; obtain rfl | rfl | rfl | rfl | rfl | rfl | rfl | rfl | rfl : i = 0 ∨ i = 1 ∨ i = 2 ∨ i = 3 ∨ i = 4 ∨ i = 5 ∨ i = 6 ∨ i = 7 ∨ i = 8 := by omega
          · exact absurd hk (by decide)
          · exact absurd hk (by decide)
          · exact absurd hk (by decide)
          · exact absurd hk (by decide)
          · exact absurd hk (by decide)
          · exact absurd hk (by decide)
          · obtain rfl := Option.some.inj ho
            exact ⟨_, _, op_call_product rfl (by rw [frame_eval (by decide)]; exact hM.val 3 (by decide) (by decide) (dep_of hr rfl (by kernel_rfl))) (by rw [frame_eval (by decide)]; exact hM.val 4 (by decide) (by decide) (dep_of hr rfl (by kernel_rfl))) (by rw [frame_eval (by decide)]; exact hM.val 5 (by decide) (by decide) (dep_of hr rfl (by kernel_rfl))), fun hE => q6.out _ _ hE⟩
          · obtain rfl := Option.some.inj ho
            exact ⟨_, _, op_call_signRoot rfl (by rw [frame_eval (by decide)]; exact hM.val 0 (by decide) (by decide) (dep_of hr rfl (by kernel_rfl))) (by rw [frame_eval (by decide)]; exact hM.val 1 (by decide) (by decide) (dep_of hr rfl (by kernel_rfl))) (by rw [frame_eval (by decide)]; exact hM.val 2 (by decide) (by decide) (dep_of hr rfl (by kernel_rfl))) (by rw [frame_eval (by decide)]; exact hM.val 6 (by decide) (by decide) (dep_of hr rfl (by kernel_rfl))), fun hE => q7.out _ _ hE⟩
          · exact absurd hk (by decide)
        · intro i hi hk; obtain rfl | rfl | rfl | rfl | rfl | rfl | rfl | rfl | rfl : i = 0 ∨ i = 1 ∨ i = 2 ∨ i = 3 ∨ i = 4 ∨ i = 5 ∨ i = 6 ∨ i = 7 ∨ i = 8 := by omega
          · exact absurd hk (by decide)
          · exact absurd hk (by decide)
          · exact absurd hk (by decide)
          · exact absurd hk (by decide)
          · exact absurd hk (by decide)
          · exact absurd hk (by decide)
          · refine ⟨by decide, fun l hr j hj hkj hp => ?_⟩
            obtain rfl | rfl | rfl | rfl | rfl | rfl | rfl | rfl | rfl : j = 0 ∨ j = 1 ∨ j = 2 ∨ j = 3 ∨ j = 4 ∨ j = 5 ∨ j = 6 ∨ j = 7 ∨ j = 8 := by omega
            · exact absurd hkj (by decide)
            · exact absurd hkj (by decide)
            · exact absurd hkj (by decide)
            · exact absurd hkj (by decide)
            · exact absurd hkj (by decide)
            · exact absurd hkj (by decide)
            · exact absurd hp (by decide)
            · exact absurd hp (by decide)
            · exact absurd hkj (by decide)
          · refine ⟨by decide, fun l hr j hj hkj hp => ?_⟩
            obtain rfl | rfl | rfl | rfl | rfl | rfl | rfl | rfl | rfl : j = 0 ∨ j = 1 ∨ j = 2 ∨ j = 3 ∨ j = 4 ∨ j = 5 ∨ j = 6 ∨ j = 7 ∨ j = 8 := by omega
            · exact absurd hkj (by decide)
            · exact absurd hkj (by decide)
            · exact absurd hkj (by decide)
            · exact absurd hkj (by decide)
            · exact absurd hkj (by decide)
            · exact absurd hkj (by decide)
            · exact dep_of hr rfl (by kernel_rfl)
            · exact absurd hp (by decide)
            · exact absurd hkj (by decide)
          · exact absurd hk (by decide)
        · intro i hi hk; obtain rfl | rfl | rfl | rfl | rfl | rfl | rfl | rfl | rfl : i = 0 ∨ i = 1 ∨ i = 2 ∨ i = 3 ∨ i = 4 ∨ i = 5 ∨ i = 6 ∨ i = 7 ∨ i = 8 := by omega
          · exact absurd hk (by decide)
          · exact absurd hk (by decide)
          · exact absurd hk (by decide)
          · exact absurd hk (by decide)
          · exact absurd hk (by decide)
          · exact absurd hk (by decide)
          · exact absurd hk (by decide)
          · exact absurd hk (by decide)
          · exact absurd hk (by decide)
        · intro i hi hk; obtain rfl | rfl | rfl | rfl | rfl | rfl | rfl | rfl | rfl : i = 0 ∨ i = 1 ∨ i = 2 ∨ i = 3 ∨ i = 4 ∨ i = 5 ∨ i = 6 ∨ i = 7 ∨ i = 8 := by omega
          · exact absurd hk (by decide)
          · exact absurd hk (by decide)
          · exact absurd hk (by decide)
          · exact absurd hk (by decide)
          · exact absurd hk (by decide)
          · exact absurd hk (by decide)
          · exact absurd hk (by decide)
          · exact absurd hk (by decide)
          · exact absurd hk (by decide)
        · intro i hi; obtain rfl | rfl | rfl | rfl | rfl | rfl | rfl | rfl | rfl : i = 0 ∨ i = 1 ∨ i = 2 ∨ i = 3 ∨ i = 4 ∨ i = 5 ∨ i = 6 ∨ i = 7 ∨ i = 8 := by omega
          all_goals exact ⟨_, rfl, by kernel_rfl⟩
      case rest =>
        intro T3 B3 w3 hout3 hval3 hal3 hE3 k3
        have d8 : T3 8 = .int .i64 VV := hval3 8 (by decide) (by decide)
        have hE3' : KE w3 g (kp (kp (kp (kp (kp (kp (kp e X1) X2) X3) X4) X5) X6) X7) := hE3
        have kk := (k1.trans k2).trans k3
        rw [frame_36, d8]
        clear hout3 hval3 hal3 hE3 d8
        go_wp2
        go_ret
        exact ⟨rfl, by rw [ee.out]; simpa only [kp_assoc] using hE3', kk⟩
end Go.Proofs.YtminjcknmhgpiaaGreatDoor
