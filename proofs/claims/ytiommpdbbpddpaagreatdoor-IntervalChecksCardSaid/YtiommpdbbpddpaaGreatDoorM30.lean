/- Texts Reg, RegS, RegOps, Refl: each says in its own first comment what it proves. -/
import Derived.Test.YtiommpdbbpddpaaGreatDoorM26
/- A general law for regions that draw their order, with one obligation for each operation: reads, calls and effects in a chain, new blocks and the stores that fill them. -/
namespace Go.Proofs.YtiommpdbbpddpaaGreatDoor
open Go.RowKit

/-- which slots the operations leave alone, and what those that have come up have left. Kinds: 0 a read, 1 a call, 2 a new block, 3 a store into one, 5 an effect without a slot -/
structure JMid (m : Nat) (T0 : Nat → Value) (dst kind : Nat → Nat) (V : Nat → Value) (l : Array Bool) (T : Nat → Value) : Prop where
  out : ∀ s, (∀ j, j < m → kind j ≤ 2 → dst j ≠ s) → T s = T0 s
  val : ∀ j, j < m → kind j ≤ 1 → l.getD j false = true → T (dst j) = V j

def isCh (k : Nat) : Prop := k = 1 ∨ k = 5
instance (k : Nat) : Decidable (isCh k) := inferInstanceAs (Decidable (_ ∨ _))

structure JOps (ops : Array Oper) (m N K : Nat) (L : List Nat) (J : Nat → World → Prop) (w0 : World) (T0 : Nat → Value) (dst kind pos mate : Nat → Nat) (V : Nat → Value) (Z C : Nat → Array Value) (Y : Nat → TypeId) : Prop where
  size : ops.size = m
  kinds : ∀ i, i < m → kind i ≤ 3 ∨ kind i = 5
  dstN : ∀ i, i < m → kind i ≤ 2 → dst i < N
  inj : ∀ i, i < m → ∀ j, j < m → kind i ≤ 2 → kind j ≤ 2 → dst i = dst j → i = j
  op : ∀ i, i < m → ∃ o, ops[i]? = some o ∧ o.guard = none ∧ o.dst = if kind i ≤ 2 then some (dst i) else none
  read : ∀ i, i < m → kind i = 0 → ∀ l T w o c, i ∈ Region.ready .any ops l → JMid m T0 dst kind V l T → Kp L w0 w → J c w → (∀ j, j < m → isCh (kind j) → l.getD j false = decide (pos j < c)) → ops[i]? = some o →
    (execOp (frameOf N T).eval o).run Tryz.prog w = .ok (.value (V i)) w
  call : ∀ i, i < m → kind i = 1 → ∀ l T w o, i ∈ Region.ready .any ops l → JMid m T0 dst kind V l T → Kp L w0 w → J (pos i) w → ops[i]? = some o →
    ∃ F args, (execOp (frameOf N T).eval o).run Tryz.prog w = .ok (.enter F args) w ∧ Calls Tryz.prog F args w fun x w' => x = .returned (V i) ∧ J (pos i + 1) w' ∧ Kp L w w'
  eff : ∀ i, i < m → kind i = 5 → ∀ l T w o, i ∈ Region.ready .any ops l → JMid m T0 dst kind V l T → Kp L w0 w → J (pos i) w → ops[i]? = some o →
    ∃ w', (execOp (frameOf N T).eval o).run Tryz.prog w = .ok .skip w' ∧ J (pos i + 1) w' ∧ Kp L w w'
  chain : ∀ i, i < m → isCh (kind i) → pos i < K ∧ ∀ l, i ∈ Region.ready .any ops l → ∀ j, j < m → isCh (kind j) → pos j + 1 = pos i → l.getD j false = true
  pinj : ∀ i, i < m → ∀ j, j < m → isCh (kind i) → isCh (kind j) → pos i = pos j → i = j
  psur : ∀ c, c < K → ∃ i, i < m ∧ isCh (kind i) ∧ pos i = c
  alloc : ∀ i, i < m → kind i = 2 → (∀ T w o, ops[i]? = some o → (execOp (frameOf N T).eval o).run Tryz.prog w = .ok (.value (.pointer (some ⟨w.heap.size, 0, none⟩))) (w.alloc (.cells (Z i) (Y i) (0, 0)))) ∧ mate i < m ∧ kind (mate i) = 3 ∧ mate (mate i) = i
  store : ∀ i, i < m → kind i = 3 → mate i < m ∧ kind (mate i) = 2 ∧ mate (mate i) = i ∧ ∀ l T w o b, i ∈ Region.ready .any ops l → JMid m T0 dst kind V l T → ops[i]? = some o →
    T (dst (mate i)) = .pointer (some ⟨b, 0, none⟩) → w.heap[b]? = some (.cells (Z (mate i)) (Y (mate i)) (0, 0)) →
    ∃ w', (execOp (frameOf N T).eval o).run Tryz.prog w = .ok .skip w' ∧ w'.heap[b]? = some (.cells (C (mate i)) (Y (mate i)) (0, 0)) ∧ Kp [b] w w'
  mated : ∀ i, i < m → kind i = 3 → ∀ l, i ∈ Region.ready .any ops l → l.getD (mate i) false = true
  fin : ∀ l : Array Bool, l.size = m → Region.ready .any ops l = [] → ∀ i, i < m → l.getD i false = true

structure JInv (m K : Nat) (L : List Nat) (J : Nat → World → Prop) (w0 : World) (T0 : Nat → Value) (dst kind pos mate : Nat → Nat) (V : Nat → Value) (Z C : Nat → Array Value) (Y : Nat → TypeId) (l : Array Bool) (T : Nat → Value) (w : World) : Prop where
  mid : JMid m T0 dst kind V l T
  ald : ∀ i, i < m → kind i = 2 → l.getD i false = true → ∃ b, T (dst i) = .pointer (some ⟨b, 0, none⟩) ∧ w0.heap.size ≤ b ∧
    w.heap[b]? = some (.cells (if l.getD (mate i) false = true then C i else Z i) (Y i) (0, 0))
  dis : ∀ i j, i < m → j < m → kind i = 2 → kind j = 2 → i ≠ j → l.getD i false = true → l.getD j false = true → T (dst i) ≠ T (dst j)
  cnt : ∃ c, c ≤ K ∧ (∀ i, i < m → isCh (kind i) → l.getD i false = decide (pos i < c)) ∧ J c w
  sal : ∀ i, i < m → kind i = 2 → l.getD (mate i) false = true → l.getD i false = true
  kpw : Kp L w0 w

/-- in regions whose edges lead back only, nothing is ready when all have come up, and not before -/
theorem jfin_of {ops : Array Oper} {m : Nat} (_hm : ops.size = m) (hb : ∀ i, i < m → ∃ o, ops[i]? = some o ∧ (o.after.all fun e => !Region.binds .any e || decide (e.on < i)) = true) (l : Array Bool) (hs : l.size = m)
    (hr : Region.ready .any ops l = []) : ∀ i, i < m → l.getD i false = true := by
  intro i
  induction i using Nat.strongRecOn with
  | _ i ih =>
    intro hi
    refine true_of_not (by omega) (fun hf => ?_)
    obtain ⟨o, ho, ha⟩ := hb i hi
    have : i ∈ Region.ready .any ops l := ready_of (m := i) hf ho ha (fun j hj => ih j hj (by omega))
    rw [hr] at this
    cases this

theorem blk_lt {w : World} {b : Nat} {o : Obj} (h : w.heap[b]? = some o) : b < w.heap.size := (Array.getElem?_eq_some_iff.1 h).1

theorem reg_law {ops : Array Oper} {m N K id : Nat} {L : List Nat} {J : Nat → World → Prop} {w : World} {T0 : Nat → Value} {dst kind pos mate : Nat → Nat} {V : Nat → Value} {Z C : Nat → Array Value} {Y : Nat → TypeId} {Q : Exit → Act → World → Prop}
    (hm : Tryz.prog.follows .mixedOrders = true) (hO : JOps ops m N K L J w.drew T0 dst kind pos mate V Z C Y) (hL : ∀ x ∈ L, x < w.heap.size)
    (hJ : ∀ c w1 w2, J c w1 → (∀ k, k < w.heap.size → w2.heap[k]? = w1.heap[k]?) → J c w2) (hj0 : J 0 w.drew)
    (hQ : ∀ (T : Nat → Value) (B : Nat → Nat) (w' : World), (∀ s, (∀ j, j < m → kind j ≤ 2 → dst j ≠ s) → T s = T0 s) → (∀ j, j < m → kind j ≤ 1 → T (dst j) = V j) →
      (∀ j, j < m → kind j = 2 → T (dst j) = .pointer (some ⟨B j, 0, none⟩) ∧ w.heap.size ≤ B j ∧ w'.heap[B j]? = some (.cells (C j) (Y j) (0, 0))) →
      (∀ j q, j < m → q < m → kind j = 2 → kind q = 2 → j ≠ q → B j ≠ B q) → J K w' → Kp L w w' → Q .normal (frameOf N T) w') :
    (Code.region id ops true).wp Tryz.prog Q (frameOf N T0) w := by
  have hL0 : ∀ x ∈ L, x < w.drew.heap.size := hL
  refine wp_region_any hm (wpAny_inv (fun l a w' => ∃ T, a = frameOf N T ∧ JInv m K L J w.drew T0 dst kind pos mate V Z C Y l T w') ?_ ?_ ops.size (Array.replicate ops.size false) _ _ (by simp) ?_ ?_)
  · -- all have come up
    rintro l a w' hs ⟨T, rfl, h⟩ hr
    have hsz : l.size = m := by rw [hs, hO.size]
    have la := hO.fin l hsz hr
    have hb2 : ∃ B : Nat → Nat, ∀ i, i < m → kind i = 2 → T (dst i) = .pointer (some ⟨B i, 0, none⟩) ∧ w.heap.size ≤ B i ∧ w'.heap[B i]? = some (.cells (C i) (Y i) (0, 0)) := by
      have hb : ∀ i, i < m ∧ kind i = 2 → ∃ b, T (dst i) = .pointer (some ⟨b, 0, none⟩) ∧ w.heap.size ≤ b ∧ w'.heap[b]? = some (.cells (C i) (Y i) (0, 0)) := by
        rintro i ⟨hi, hk⟩
        obtain ⟨b, h1, h2, h3⟩ := h.ald i hi hk (la i hi)
        have hst := la (mate i) (hO.alloc i hi hk).2.1
        rw [if_pos hst] at h3
        exact ⟨b, h1, h2, h3⟩
      refine ⟨fun i => if hi : i < m ∧ kind i = 2 then (hb i hi).choose else 0, fun i hi hk => ?_⟩
      simp only [hi, hk, and_self, dif_pos]
      exact (hb i ⟨hi, hk⟩).choose_spec
    obtain ⟨B, hB⟩ := hb2
    obtain ⟨c, hc, hc1, hc2⟩ := h.cnt
    have hck : c = K := by
      by_cases e : c < K
      · obtain ⟨i, hi, hk, hp⟩ := hO.psur c e
        have := hc1 i hi hk
        rw [la i hi] at this
        have := of_decide_eq_true this.symm
        omega
      · omega
    subst hck
    refine hQ T B w' h.mid.out (fun j hj hk => h.mid.val j hj hk (la j hj)) hB (fun j q hj hq hkj hkq hne e => ?_) hc2 h.kpw.undrew
    exact h.dis j q hj hq hkj hkq hne (la j hj) (la q hq) (by rw [(hB j hj hkj).1, (hB q hq hkq).1, e])
  · -- one comes up
    rintro l a w' i hs ⟨T, rfl, h⟩ hr
    have hsz : l.size = m := by rw [hs, hO.size]
    obtain ⟨hil, hun⟩ := ready_lt hr
    rw [hO.size] at hil
    have hnl := false_of_true (l := l) (by omega) hun
    obtain ⟨o, h1, h5, h2⟩ := hO.op i hil
    have hk3 := hO.kinds i hil
    refine wpOp_of h1 h5 ?_
    unfold Oper.wp
    -- what a new value in slot 'dst i' keeps
    have keepOut : kind i ≤ 2 → ∀ v s, (∀ j, j < m → kind j ≤ 2 → dst j ≠ s) → updV T (dst i) v s = T0 s := fun hk v s hsn => by
      rw [updV_ne (fun e => hsn i hil hk e.symm)]; exact h.mid.out s hsn
    have keepAt : kind i ≤ 2 → ∀ v j, j < m → kind j ≤ 2 → j ≠ i → updV T (dst i) v (dst j) = T (dst j) := fun hk v j hj hkj hne =>
      updV_ne (fun e => hne (hO.inj j hj i hil hkj hk e))
    -- a step that keeps the new blocks and does not touch kinds 2 and 3
    by_cases k0 : kind i = 0
    · rw [if_pos (by omega)] at h2
      obtain ⟨c, hc, hc1, hc2⟩ := h.cnt
      rw [hO.read i hil k0 l T w' o c hr h.mid h.kpw hc2 hc1 h1, Oper.upon_value, h2, frame_put]
      refine ⟨_, rfl, ⟨⟨keepOut (by omega) _, ?_⟩, ?_, ?_, ?_, ?_, h.kpw⟩⟩
      · intro j hj hkj hl
        by_cases e : j = i
        · subst e; exact updV_same _ _ _
        · rw [get_set (fun x => e x.symm)] at hl
          rw [keepAt (by omega) _ j hj (by omega) e]; exact h.mid.val j hj hkj hl
      · intro j hj hkj hl
        have e : j ≠ i := fun x => by subst x; omega
        have e2 : mate j ≠ i := fun x => by have := (hO.alloc j hj hkj).2.2.1; rw [x] at this; omega
        rw [get_set (fun x => e x.symm)] at hl
        rw [keepAt (by omega) _ j hj (by omega) e, get_set (fun x => e2 x.symm)]; exact h.ald j hj hkj hl
      · intro j q hj hq hkj hkq hne hl1 hl2
        have e : j ≠ i := fun x => by subst x; omega
        have e' : q ≠ i := fun x => by subst x; omega
        rw [get_set (fun x => e x.symm)] at hl1
        rw [get_set (fun x => e' x.symm)] at hl2
        rw [keepAt (by omega) _ j hj (by omega) e, keepAt (by omega) _ q hq (by omega) e']; exact h.dis j q hj hq hkj hkq hne hl1 hl2
      · exact ⟨c, hc, fun j hj hkj => by rw [get_set (fun x => by subst x; unfold isCh at hkj; omega)]; exact hc1 j hj hkj, hc2⟩
      · intro j hj hkj hl
        have e : j ≠ i := fun x => by subst x; omega
        have e2 : mate j ≠ i := fun x => by have := (hO.alloc j hj hkj).2.2.1; rw [x] at this; omega
        rw [get_set (fun x => e2 x.symm)] at hl
        rw [get_set (fun x => e x.symm)]; exact h.sal j hj hkj hl
    by_cases kc : isCh (kind i)
    · obtain ⟨hpK, hch⟩ := hO.chain i hil kc
      obtain ⟨c, hc, hc1, hc2⟩ := h.cnt
      have hcq : c = pos i := by
        have a1 : ¬ pos i < c := by
          have := hc1 i hil kc
          rw [hnl] at this
          exact of_decide_eq_false this.symm
        have a2 : ¬ c < pos i := fun hlt => by
          obtain ⟨q, hq, hkq, hpq⟩ := hO.psur (pos i - 1) (by omega)
          have := hc1 q hq hkq
          rw [hch l hr q hq hkq (by omega)] at this
          have := of_decide_eq_true this.symm
          omega
        omega
      subst hcq
      have alds : ∀ w2, Kp L w' w2 → ∀ j, j < m → kind j = 2 → l.getD j false = true → ∃ b, T (dst j) = .pointer (some ⟨b, 0, none⟩) ∧ w.drew.heap.size ≤ b ∧
          w2.heap[b]? = some (.cells (if l.getD (mate j) false = true then C j else Z j) (Y j) (0, 0)) := fun w2 hk2 j hj hkj hl => by
        obtain ⟨b, h6, h7, h8⟩ := h.ald j hj hkj hl
        exact ⟨b, h6, h7, (hk2.block b (blk_lt h8) (fun x => by have := hL0 b x; omega)).trans h8⟩
      have cnts : ∀ w2, J (pos i + 1) w2 → ∃ c, c ≤ K ∧ (∀ j, j < m → isCh (kind j) → (l.setIfInBounds i true).getD j false = decide (pos j < c)) ∧ J c w2 := fun w2 hj2 => by
        refine ⟨pos i + 1, by omega, fun j hj hkj => ?_, hj2⟩
        by_cases e : j = i
        · subst e; rw [get_self (by omega)]; exact (decide_eq_true (by omega)).symm
        · rw [get_set (fun x => e x.symm), hc1 j hj hkj]
          have : pos j ≠ pos i := fun x => e (hO.pinj j hj i hil hkj kc (by omega))
          by_cases e2 : pos j < pos i
          · rw [decide_eq_true e2, decide_eq_true (by omega)]
          · rw [decide_eq_false e2, decide_eq_false (by omega)]
      have sals : ∀ j, j < m → kind j = 2 → (l.setIfInBounds i true).getD (mate j) false = true → (l.setIfInBounds i true).getD j false = true := fun j hj hkj hl => by
        unfold isCh at kc
        have e : j ≠ i := fun x => by subst x; omega
        have e2 : mate j ≠ i := fun x => by have := (hO.alloc j hj hkj).2.2.1; rw [x] at this; omega
        rw [get_set (fun x => e2 x.symm)] at hl
        rw [get_set (fun x => e x.symm)]; exact h.sal j hj hkj hl
      rcases kc with k1 | k5
      · rw [if_pos (by omega)] at h2
        obtain ⟨F, args, hrun, hcon⟩ := hO.call i hil k1 l T w' o hr h.mid h.kpw hc2 h1
        rw [hrun]
        unfold Oper.upon
        refine Calls.mono hcon ?_
        rintro x w2 ⟨rfl, hE2, hk2⟩
        simp only []
        rw [h2, frame_put]
        refine ⟨_, rfl, ⟨⟨keepOut (by omega) _, ?_⟩, ?_, ?_, cnts w2 hE2, sals, h.kpw.trans hk2⟩⟩
        · intro j hj hkj hl
          by_cases e : j = i
          · subst e; exact updV_same _ _ _
          · rw [get_set (fun x => e x.symm)] at hl
            rw [keepAt (by omega) _ j hj (by omega) e]; exact h.mid.val j hj hkj hl
        · intro j hj hkj hl
          have e : j ≠ i := fun x => by subst x; omega
          have e2 : mate j ≠ i := fun x => by have := (hO.alloc j hj hkj).2.2.1; rw [x] at this; omega
          rw [get_set (fun x => e x.symm)] at hl
          rw [keepAt (by omega) _ j hj (by omega) e, get_set (fun x => e2 x.symm)]
          exact alds w2 hk2 j hj hkj hl
        · intro j q hj hq hkj hkq hne hl1 hl2
          have e : j ≠ i := fun x => by subst x; omega
          have e' : q ≠ i := fun x => by subst x; omega
          rw [get_set (fun x => e x.symm)] at hl1
          rw [get_set (fun x => e' x.symm)] at hl2
          rw [keepAt (by omega) _ j hj (by omega) e, keepAt (by omega) _ q hq (by omega) e']; exact h.dis j q hj hq hkj hkq hne hl1 hl2
      · rw [if_neg (by omega)] at h2
        obtain ⟨w2, hrun, hE2, hk2⟩ := hO.eff i hil k5 l T w' o hr h.mid h.kpw hc2 h1
        rw [hrun, Oper.upon_skip, h2]
        refine ⟨T, rfl, ⟨⟨h.mid.out, ?_⟩, ?_, ?_, cnts w2 hE2, sals, h.kpw.trans hk2⟩⟩
        · intro j hj hkj hl
          have e : j ≠ i := fun x => by subst x; omega
          rw [get_set (fun x => e x.symm)] at hl
          exact h.mid.val j hj hkj hl
        · intro j hj hkj hl
          have e : j ≠ i := fun x => by subst x; omega
          have e2 : mate j ≠ i := fun x => by have := (hO.alloc j hj hkj).2.2.1; rw [x] at this; omega
          rw [get_set (fun x => e x.symm)] at hl
          rw [get_set (fun x => e2 x.symm)]
          exact alds w2 hk2 j hj hkj hl
        · intro j q hj hq hkj hkq hne hl1 hl2
          have e : j ≠ i := fun x => by subst x; omega
          have e' : q ≠ i := fun x => by subst x; omega
          rw [get_set (fun x => e x.symm)] at hl1
          rw [get_set (fun x => e' x.symm)] at hl2
          exact h.dis j q hj hq hkj hkq hne hl1 hl2
    by_cases k2 : kind i = 2
    · rw [if_pos (by omega)] at h2
      obtain ⟨hal, hm1, hm2, hm3⟩ := hO.alloc i hil k2
      rw [hal T w' o h1, Oper.upon_value, h2, frame_put]
      refine ⟨_, rfl, ⟨⟨keepOut (by omega) _, ?_⟩, ?_, ?_, ?_, ?_, h.kpw.alloc _⟩⟩
      · intro j hj hkj hl
        have e : j ≠ i := fun x => by subst x; omega
        rw [get_set (fun x => e x.symm)] at hl
        rw [keepAt (by omega) _ j hj (by omega) e]; exact h.mid.val j hj hkj hl
      · intro j hj hkj hl
        have e2 : mate j ≠ i := fun x => by have := (hO.alloc j hj hkj).2.2.1; rw [x] at this; omega
        rw [get_set (fun x => e2 x.symm)]
        by_cases e : j = i
        · subst e
          have hst : ¬ l.getD (mate j) false = true := fun hl2 => by have := h.sal j hj hkj hl2; rw [hnl] at this; cases this
          rw [updV_same, if_neg hst]
          exact ⟨_, rfl, h.kpw.size, heap_alloc_new w' _⟩
        · rw [get_set (fun x => e x.symm)] at hl
          rw [keepAt (by omega) _ j hj (by omega) e]
          obtain ⟨b, h6, h7, h8⟩ := h.ald j hj hkj hl
          exact ⟨b, h6, h7, (Below.heap_alloc w' _ b (blk_lt h8)).trans h8⟩
      · intro j q hj hq hkj hkq hne hl1 hl2
        have newNe : ∀ x, x < m → kind x = 2 → l.getD x false = true → T (dst x) ≠ .pointer (some ⟨w'.heap.size, 0, none⟩) := by
          intro x hx hkx hlx
          obtain ⟨b, h6, h7, h8⟩ := h.ald x hx hkx hlx
          rw [h6]
          have := blk_lt h8
          intro he
          injection he with he
          injection he with he
          injection he with he1
          omega
        by_cases e : j = i
        · subst e
          rw [get_set hne] at hl2
          rw [updV_same, keepAt (by omega) _ q hq (by omega) (fun x => hne x.symm)]
          exact fun x => newNe q hq hkq hl2 x.symm
        · rw [get_set (fun x => e x.symm)] at hl1
          by_cases e' : q = i
          · subst e'
            rw [updV_same, keepAt (by omega) _ j hj (by omega) e]
            exact newNe j hj hkj hl1
          · rw [get_set (fun x => e' x.symm)] at hl2
            rw [keepAt (by omega) _ j hj (by omega) e, keepAt (by omega) _ q hq (by omega) e']; exact h.dis j q hj hq hkj hkq hne hl1 hl2
      · obtain ⟨c, hc, hc1, hc2⟩ := h.cnt
        have hsz' : w.heap.size ≤ w'.heap.size := h.kpw.size
        exact ⟨c, hc, fun j hj hkj => by rw [get_set (fun x => by subst x; unfold isCh at hkj; omega)]; exact hc1 j hj hkj, hJ c w' _ hc2 (fun k hk => Below.heap_alloc w' _ k (by omega))⟩
      · intro j hj hkj hl
        have e2 : mate j ≠ i := fun x => by have := (hO.alloc j hj hkj).2.2.1; rw [x] at this; omega
        rw [get_set (fun x => e2 x.symm)] at hl
        by_cases e : j = i
        · subst e; exact get_self (by omega) _
        · rw [get_set (fun x => e x.symm)]; exact h.sal j hj hkj hl
    · have k3 : kind i = 3 := by unfold isCh at kc; omega
      rw [if_neg (by omega)] at h2
      obtain ⟨hm1, hm2, hm3, hst⟩ := hO.store i hil k3
      have hla := hO.mated i hil k3 l hr
      obtain ⟨b, h6, h7, h8⟩ := h.ald (mate i) hm1 hm2 hla
      rw [hm3, if_neg (by rw [hnl]; decide)] at h8
      obtain ⟨w2, hrun, hb2, hk2⟩ := hst l T w' o b hr h.mid h1 h6 h8
      rw [hrun, Oper.upon_skip, h2]
      refine ⟨T, rfl, ⟨⟨h.mid.out, ?_⟩, ?_, ?_, ?_, ?_, h.kpw.step hk2 (fun x hx => .inr (by rw [List.mem_singleton] at hx; subst hx; exact h7))⟩⟩
      · intro j hj hkj hl
        have e : j ≠ i := fun x => by subst x; omega
        rw [get_set (fun x => e x.symm)] at hl
        exact h.mid.val j hj hkj hl
      · intro j hj hkj hl
        have e : j ≠ i := fun x => by subst x; omega
        rw [get_set (fun x => e x.symm)] at hl
        by_cases e2 : j = mate i
        · subst e2
          rw [hm3, get_self (by omega), if_pos rfl]
          exact ⟨b, h6, h7, hb2⟩
        · have e3 : mate j ≠ i := fun x => e2 (by rw [← (hO.alloc j hj hkj).2.2.2, x])
          rw [get_set (fun x => e3 x.symm)]
          obtain ⟨b', h9, h10, h11⟩ := h.ald j hj hkj hl
          refine ⟨b', h9, h10, (hk2.block b' (blk_lt h11) (fun he => ?_)).trans h11⟩
          rw [List.mem_singleton] at he
          subst he
          exact h.dis j (mate i) hj hm1 hkj hm2 e2 hl hla (h9.trans h6.symm)
      · intro j q hj hq hkj hkq hne hl1 hl2
        have e : j ≠ i := fun x => by subst x; omega
        have e' : q ≠ i := fun x => by subst x; omega
        rw [get_set (fun x => e x.symm)] at hl1
        rw [get_set (fun x => e' x.symm)] at hl2
        exact h.dis j q hj hq hkj hkq hne hl1 hl2
      · obtain ⟨c, hc, hc1, hc2⟩ := h.cnt
        have hsz' : w.heap.size ≤ w'.heap.size := h.kpw.size
        exact ⟨c, hc, fun j hj hkj => by rw [get_set (fun x => by subst x; unfold isCh at hkj; omega)]; exact hc1 j hj hkj, hJ c w' _ hc2 (fun k hk => hk2.block k (by omega) (fun hx => by rw [List.mem_singleton] at hx; subst hx; have : w.heap.size ≤ k := h7; omega))⟩
      · intro j hj hkj hl
        have e : j ≠ i := fun x => by subst x; omega
        rw [get_set (fun x => e x.symm)]
        by_cases e2 : mate j = i
        · have : j = mate i := by rw [← (hO.alloc j hj hkj).2.2.2, e2]
          rw [this]; exact hla
        · rw [get_set (fun x => e2 x.symm)] at hl; exact h.sal j hj hkj hl
  · -- the fuel
    have : ∀ q, unl (Array.replicate ops.size false) q ≤ q := by
      intro q
      induction q with
      | zero => exact Nat.le_refl _
      | succ q ih => unfold unl; split <;> omega
    exact this _
  · -- the start
    have hf : ∀ i, (Array.replicate ops.size false).getD i false = false := by
      intro i
      simp only [Array.getD]
      split
      · simp
      · rfl
    refine ⟨T0, rfl, ⟨⟨fun _ _ => rfl, ?_⟩, ?_, ?_, ⟨0, Nat.zero_le _, ?_, hj0⟩, ?_, Kp.refl _ _⟩⟩
    · intro i _ _ h; rw [hf] at h; cases h
    · intro i _ _ h; rw [hf] at h; cases h
    · intro i j _ _ _ _ _ h; rw [hf] at h; cases h
    · intro i _ _; rw [hf]; exact (decide_eq_false (by omega)).symm
    · intro i _ _ h; rw [hf] at h; cases h
end Go.Proofs.YtiommpdbbpddpaaGreatDoor

/- A law for regions that draw their order, with guards: reads whose values are known, and a chain of operations of any kind (calls, new blocks, stores), told by what has become of the world and of their own values. -/
namespace Go.Proofs.YtiommpdbbpddpaaGreatDoor
open Go.RowKit

/-- a property of the first n places, one by one -/
def AllTo (P : Nat → Prop) : Nat → Prop
  | 0 => True
  | n + 1 => AllTo P n ∧ P n
theorem AllTo.all {P : Nat → Prop} : ∀ {n : Nat}, AllTo P n → ∀ i, i < n → P i
  | 0, _, i, h => by omega
  | n + 1, ⟨h1, h2⟩, i, h => by
    by_cases e : i = n
    · subst e; exact h2
    · exact h1.all i (by omega)

/-- the values of the operations of the chain, by their places -/
def chV (m : Nat) (kind : Nat → Nat) (dst : Nat → Nat) (T : Nat → Value) : Nat → Value := fun i => if i < m ∧ kind i = 1 then T (dst i) else undef
/-- the tables of a region: m operations over a frame of N slots, a chain of K; dst: the slot (N: none); kind: 0 a read, 1 of the chain, 2 free (a new block at any time); pos: its place in the chain; inv: a slot's operation (m: none); chi: a place's operation; isg: is it guarded; act: is it wanted; gd, gb: its guard -/
structure RSt where
  m : Nat
  N : Nat
  K : Nat
  dst : Nat → Nat
  kind : Nat → Nat
  pos : Nat → Nat
  inv : Nat → Nat
  chi : Nat → Nat
  isg : Nat → Bool
  act : Nat → Bool
  gd : Nat → Nat
  gb : Nat → Bool
/-- and the values; X: is it known; L: the blocks that may change; E: what else the chain has left; F: what a free operation leaves -/
structure RTab extends RSt where
  V : Nat → Value
  X : Nat → Bool
  L : List Nat
  E : Nat → (Nat → Value) → World → Prop
  F : Nat → Value → World → Prop
/-- how far the chain has come -/
def Come (t : RSt) (c : Nat) (l : Array Bool) : Prop := ∀ j, j < t.m → t.kind j = 1 → l.getD j false = decide (t.pos j < c)
structure SMid (t : RTab) (w0 : World) (T0 : Nat → Value) (c : Nat) (l : Array Bool) (T : Nat → Value) (w : World) : Prop where
  out : ∀ s, t.inv s = t.m → T s = T0 s
  val : ∀ j, j < t.m → t.kind j = 0 → l.getD j false = true → T (t.dst j) = t.V j
  cval : ∀ j, j < t.m → t.kind j = 1 → t.X j = true → l.getD j false = true → T (t.dst j) = t.V j
  free : ∀ j, j < t.m → t.kind j = 2 → l.getD j false = true → t.F j (T (t.dst j)) w
  come : Come t.toRSt c l
  kp : Kp t.L w0 w
  ext : t.E c (chV t.m t.kind t.dst T) w
  old : ∀ s, t.inv s < t.m → l.getD (t.inv s) false = false → T s = T0 s
/-- where an operation of the chain leaves off -/
def After (t : RTab) (i : Nat) (T : Nat → Value) (w : World) (a' : Act) (w' : World) : Prop :=
  ∃ T', a' = frameOf t.N T' ∧ (∀ s, s ≠ t.dst i ∨ t.dst i = t.N → T' s = T s) ∧ Kp t.L w w' ∧ (t.X i = true → T' (t.dst i) = t.V i) ∧ t.E (t.pos i + 1) (chV t.m t.kind t.dst T') w'
/-- the tables fit each other, and the operations -/
def regFit (t : RSt) : Bool :=
  (List.range t.m).all (fun i => decide (t.kind i ≤ 2) && (decide (t.dst i < t.N) && t.inv (t.dst i) == i || t.dst i == t.N && t.kind i == 1) && (t.kind i != 1 || decide (t.pos i < t.K) && t.chi (t.pos i) == i)) &&
  (List.range t.K).all (fun c => decide (t.chi c < t.m) && t.kind (t.chi c) == 1 && t.pos (t.chi c) == c)
/-- k is tgt, or waits for it, over a few others at most -/
def reach (ops : Array Oper) (tgt : Nat) : Nat → Nat → Bool
  | 0, k => k == tgt
  | n + 1, k => k == tgt || (match ops[k]? with
    | none => false
    | some o => o.after.any fun e => Region.binds .any e && reach ops tgt n e.on)
def Closed (ops : Array Oper) (l : Array Bool) : Prop := ∀ j o, ops[j]? = some o → l.getD j false = true → ∀ e, e ∈ o.after → Region.binds .any e = true → l.getD e.on false = true
theorem reach_done {ops : Array Oper} {tgt : Nat} {l : Array Bool} (hc : Closed ops l) : ∀ {n k : Nat}, reach ops tgt n k = true → l.getD k false = true → l.getD tgt false = true
  | 0, k, h, hd => by
    have : k = tgt := by simpa [reach] using h
    subst this; exact hd
  | n + 1, k, h, hd => by
    unfold reach at h
    rw [Bool.or_eq_true] at h
    rcases h with h | h
    · have : k = tgt := by simpa using h
      subst this; exact hd
    · cases ho : ops[k]? with
      | none => rw [ho] at h; cases h
      | some o =>
        rw [ho] at h
        obtain ⟨q, hq, h2⟩ := Array.any_eq_true.1 h
        rw [Bool.and_eq_true] at h2
        exact reach_done hc h2.2 (hc k o ho hd _ (Array.getElem_mem hq) h2.1)
def regOk (ops : Array Oper) (t : RSt) : Bool :=
  ops.size == t.m && (List.range t.m).all fun i => match ops[i]? with
    | none => false
    | some o => (o.dst == (if t.dst i = t.N then none else some (t.dst i))) && o.after.all (fun e => !Region.binds .any e || decide (e.on < i)) &&
      (match o.guard with
        | none => t.act i && !t.isg i
        | some (g, b) => g == t.gd i && b == t.gb i && t.isg i && decide (g < t.m) && t.kind g == 0 && o.after.any (fun e => e.on == g && Region.binds .any e)) &&
      (t.kind i != 1 || t.pos i == 0 || o.after.any (fun e => Region.binds .any e && reach ops (t.chi (t.pos i - 1)) 2 e.on))
structure RFit (t : RSt) : Prop where
  kinds : ∀ i, i < t.m → t.kind i ≤ 2
  dsts : ∀ i, i < t.m → (t.dst i < t.N ∧ t.inv (t.dst i) = i) ∨ (t.dst i = t.N ∧ t.kind i = 1)
  poss : ∀ i, i < t.m → t.kind i = 1 → t.pos i < t.K ∧ t.chi (t.pos i) = i
  chis : ∀ c, c < t.K → t.chi c < t.m ∧ t.kind (t.chi c) = 1 ∧ t.pos (t.chi c) = c
theorem fit_of {t : RSt} (h : regFit t = true) : RFit t := by
  unfold regFit at h
  simp only [Bool.and_eq_true, List.all_eq_true, List.mem_range, Bool.or_eq_true, decide_eq_true_eq, beq_iff_eq, bne_iff_ne] at h
  obtain ⟨h1, h2⟩ := h
  refine ⟨fun i hi => (h1 i hi).1.1, fun i hi => (h1 i hi).1.2, fun i hi hk => ?_, fun c hc => ⟨(h2 c hc).1.1, (h2 c hc).1.2, (h2 c hc).2⟩⟩
  rcases (h1 i hi).2 with h | h
  · exact absurd hk h
  · exact h

/-- what is left to show of a region's operations, beside what is reckoned -/
structure ROps (ops : Array Oper) (t : RTab) (w0 : World) (T0 : Nat → Value) : Prop where
  ok : regOk ops t.toRSt = true
  gv : ∀ i, i < t.m → t.isg i = true → t.act i = true ∧ t.V (t.gd i) = .bool (t.gb i) ∨ t.act i = false ∧ t.V (t.gd i) = .bool (!t.gb i) ∧ t.kind i = 0 ∧ t.V i = undef
  read : ∀ i, i < t.m → t.kind i = 0 → t.act i = true → ∀ l T w o c, i ∈ Region.ready .any ops l → Closed ops l → SMid t w0 T0 c l T w → ops[i]? = some o →
    (execOp (frameOf t.N T).eval o).run Tryz.prog w = .ok (.value (t.V i)) w
  chain : ∀ i, i < t.m → t.kind i = 1 → ∀ l T w o, i ∈ Region.ready .any ops l → Closed ops l → SMid t w0 T0 (t.pos i) l T w → (t.dst i < t.N → ∀ v, chV t.m t.kind t.dst (updV T (t.dst i) v) = updV (chV t.m t.kind t.dst T) i v) → ops[i]? = some o →
    ∀ Q, o.wp Tryz.prog (frameOf t.N T) w (After t i T w) Q
  free : ∀ i, i < t.m → t.kind i = 2 → ∀ l T w o c, i ∈ Region.ready .any ops l → Closed ops l → SMid t w0 T0 c l T w → ops[i]? = some o →
    ∃ u w', (execOp (frameOf t.N T).eval o).run Tryz.prog w = .ok (.value u) w' ∧ t.F i u w' ∧ Kp t.L w w'

/-- what is reckoned of each operation -/
theorem each_of {ops : Array Oper} {t : RSt} (hk : regOk ops t = true) : ops.size = t.m ∧ ∀ i, i < t.m → ∃ o, ops[i]? = some o ∧ o.dst = (if t.dst i = t.N then none else some (t.dst i)) ∧ (o.after.all fun e => !Region.binds .any e || decide (e.on < i)) = true ∧
      (o.guard = none ∧ t.act i = true ∨ ∃ b, o.guard = some (t.gd i, b) ∧ b = t.gb i ∧ t.isg i = true ∧ t.gd i < t.m ∧ t.kind (t.gd i) = 0 ∧ (o.after.any fun e => e.on == t.gd i && Region.binds .any e) = true) ∧
      (t.kind i ≠ 1 ∨ t.pos i = 0 ∨ (o.after.any fun e => Region.binds .any e && reach ops (t.chi (t.pos i - 1)) 2 e.on) = true) := by
  unfold regOk at hk
  rw [Bool.and_eq_true, List.all_eq_true] at hk
  obtain ⟨h0, h1⟩ := hk
  refine ⟨by simpa using h0, fun i hi => ?_⟩
  have h2 := h1 i (List.mem_range.2 hi)
  cases ho : ops[i]? with
  | none => rw [ho] at h2; cases h2
  | some o =>
    rw [ho] at h2
    simp only [Bool.and_eq_true, Bool.or_eq_true, beq_iff_eq, bne_iff_ne] at h2
    obtain ⟨⟨⟨a1, a2⟩, a3⟩, a4⟩ := h2
    refine ⟨o, rfl, a1, a2, ?_, ?_⟩
    · cases hg : o.guard with
      | none => rw [hg] at a3; left; exact ⟨rfl, (Bool.and_eq_true_iff.1 a3).1⟩
      | some gb =>
        obtain ⟨g, b⟩ := gb
        rw [hg] at a3
        simp only [Bool.and_eq_true, beq_iff_eq, decide_eq_true_eq] at a3
        obtain ⟨⟨⟨⟨⟨b1, b2⟩, b3⟩, b4⟩, b5⟩, b6⟩ := a3
        subst b1
        exact .inr ⟨b, rfl, b2, b3, b4, b5, b6⟩
    · rcases a4 with (a4 | a4) | a4
      · exact .inl a4
      · exact .inr (.inl a4)
      · exact .inr (.inr a4)

theorem yielded_frame {ops : Array Oper} {N j d : Nat} {T : Nat → Value} {b : Bool} {o : Oper} (ho : ops[j]? = some o) (hd : o.dst = some d) (hN : d < N) (hv : T d = .bool b) : yielded ops (frameOf N T).tmps j = some b := by
  unfold yielded frameOf
  simp [ho, hd, hN, hv]
theorem wpOp_want {ops : Array Oper} {i : Nat} {o : Oper} {K : Act → World → Prop} {a : Act} {w : World} {Q : Exit → Act → World → Prop} (ho : ops[i]? = some o) (hw : Region.wanted o (yielded ops a.tmps) = true) (h : o.wp Tryz.prog a w K Q) : wpOp Tryz.prog ops Q i K a w := by
  unfold wpOp
  rw [ho]
  simp only [hw, if_true]
  exact .inl h
theorem wpOp_shun {ops : Array Oper} {i : Nat} {o : Oper} {K : Act → World → Prop} {a : Act} {w : World} {Q : Exit → Act → World → Prop} (ho : ops[i]? = some o) (hw : Region.wanted o (yielded ops a.tmps) = false) (h : K (a.put o.dst undef) w) : wpOp Tryz.prog ops Q i K a w := by
  unfold wpOp
  rw [ho]
  simp only [hw]
  exact h

/-! an operation of the chain: a call, a value, an effect -/
section
variable {t : RTab} {o : Oper} {i F : Nat} {T : Nat → Value} {w w' : World} {args : Array Value} {v : Value} {Q : Exit → Act → World → Prop}
theorem after_call (hrun : (execOp (frameOf t.N T).eval o).run Tryz.prog w = .ok (.enter F args) w) (hdst : o.dst = some (t.dst i)) (hN : t.dst i < t.N) (hu : ∀ v, chV t.m t.kind t.dst (updV T (t.dst i) v) = updV (chV t.m t.kind t.dst T) i v)
    (hc : Calls Tryz.prog F args w fun x w' => ∃ v, x = .returned v ∧ Kp t.L w w' ∧ (t.X i = true → v = t.V i) ∧ t.E (t.pos i + 1) (updV (chV t.m t.kind t.dst T) i v) w') : o.wp Tryz.prog (frameOf t.N T) w (After t i T w) Q := by
  unfold Oper.wp
  rw [hrun]
  unfold Oper.upon
  refine Calls.mono hc ?_
  rintro x w2 ⟨v, rfl, hk, hx, hj⟩
  simp only []
  rw [hdst, frame_put]
  exact ⟨_, rfl, fun s hs => updV_ne (hs.elim id (fun x => by omega)), hk, fun h => by rw [updV_same]; exact hx h, by rw [hu]; exact hj⟩
end
theorem reg_seq {ops : Array Oper} {id : Nat} {w : World} {T0 : Nat → Value} (t : RTab) {Q : Exit → Act → World → Prop}
    (hm : Tryz.prog.follows .mixedOrders = true) (hF : RFit t.toRSt) (hR : ROps ops t w.drew T0) (hE0 : ∀ v, t.E 0 v w.drew) (hEs : ∀ c v w1 w2, t.E c v w1 → Kp t.L w1 w2 → t.E c v w2) (hFs : ∀ i u w1 w2, t.F i u w1 → Kp t.L w1 w2 → t.F i u w2)
    (hQ : ∀ (T : Nat → Value) (w' : World), (∀ s, t.inv s = t.m → T s = T0 s) → (∀ j, j < t.m → t.kind j = 0 ∨ t.kind j = 1 ∧ t.X j = true → T (t.dst j) = t.V j) → Kp t.L w w' → t.E t.K (chV t.m t.kind t.dst T) w' → (∀ j, j < t.m → t.kind j = 2 → t.F j (T (t.dst j)) w') → Q .normal (frameOf t.N T) w') :
    (Code.region id ops true).wp Tryz.prog Q (frameOf t.N T0) w := by
  obtain ⟨hsize, heach⟩ := each_of hR.ok
  have rdst : ∀ i, i < t.m → t.kind i ≠ 1 → t.dst i < t.N ∧ t.inv (t.dst i) = i := fun i hi hk => by
    rcases hF.dsts i hi with h | h
    · exact h
    · exact absurd h.2 hk
  have inj : ∀ i, i < t.m → ∀ j, j < t.m → t.dst i < t.N → t.dst i = t.dst j → i = j := fun i hi j hj hN e => by
    rcases hF.dsts i hi with ⟨_, h⟩ | ⟨h, _⟩
    · rcases hF.dsts j hj with ⟨_, h2⟩ | ⟨h2, _⟩
      · rw [← h, ← h2, e]
      · omega
    · omega
  refine wp_region_any hm (wpAny_inv (fun l a w' => ∃ T c, c ≤ t.K ∧ a = frameOf t.N T ∧ Closed ops l ∧ SMid t w.drew T0 c l T w') ?_ ?_ ops.size (Array.replicate ops.size false) _ _ (by simp) ?_ ?_)
  · rintro l a w' hs ⟨T, c, hc, rfl, hcl, h⟩ hr
    have hsz : l.size = t.m := by rw [hs, hsize]
    have la := jfin_of hsize (fun i hi => by obtain ⟨o, a1, _, a2, _⟩ := heach i hi; exact ⟨o, a1, a2⟩) l hsz hr
    have hck : c = t.K := by
      by_cases e : c < t.K
      · obtain ⟨hi, hk, hp⟩ := hF.chis c e
        have := h.come _ hi hk
        rw [la _ hi] at this
        have := of_decide_eq_true this.symm
        omega
      · omega
    subst hck
    have hkp := h.kp
    exact hQ T w' h.out (fun j hj hk => hk.elim (fun hk => h.val j hj hk (la j hj)) (fun hk => h.cval j hj hk.1 hk.2 (la j hj))) hkp.undrew h.ext (fun j hj hk => h.free j hj hk (la j hj))
  · rintro l a w' i hs ⟨T, c, hc, rfl, hcl, h⟩ hr
    have hsz : l.size = t.m := by rw [hs, hsize]
    obtain ⟨hil, hun⟩ := ready_lt hr
    rw [hsize] at hil
    have hnl := false_of_true (l := l) (by omega) hun
    obtain ⟨o, h1, h2, _, hgd, hbf⟩ := heach i hil
    have hk1 := hF.kinds i hil
    have ri : ∀ e, e ∈ o.after → Region.binds .any e = true → l.getD e.on false = true := by
      obtain ⟨_, o', ho', h9⟩ := mem_ready.1 hr
      obtain rfl := Option.some.inj (h1.symm.trans ho')
      exact h9
    have hcl2 : Closed ops (l.setIfInBounds i true) := by
      intro j o2 ho2 hd e he hb
      have hset : ∀ k, l.getD k false = true → (l.setIfInBounds i true).getD k false = true := fun k hk => by
        by_cases e : i = k
        · subst e; exact get_self (by omega) _
        · rw [get_set e]; exact hk
      by_cases e2 : j = i
      · subst e2
        obtain rfl := Option.some.inj (h1.symm.trans ho2)
        exact hset _ (ri e he hb)
      · rw [get_set (fun x => e2 x.symm)] at hd
        exact hset _ (hcl j o2 ho2 hd e he hb)
    -- a value that goes into the slot of a read or a free operation
    have step : t.kind i ≠ 1 → ∀ v w2, Kp t.L w' w2 → (t.kind i = 0 → v = t.V i) → (t.kind i = 2 → t.F i v w2) → SMid t w.drew T0 c (l.setIfInBounds i true) (updV T (t.dst i) v) w2 := fun k0 v w2 hk2 hv hf => by
      obtain ⟨hdN, hdi⟩ := rdst i hil k0
      have keep : ∀ j, j < t.m → j ≠ i → updV T (t.dst i) v (t.dst j) = T (t.dst j) := fun j hj hne => updV_ne (fun x => hne (inj i hil j hj hdN x.symm).symm)
      have e : chV t.m t.kind t.dst (updV T (t.dst i) v) = chV t.m t.kind t.dst T := by
        funext j
        unfold chV
        by_cases hj : j < t.m ∧ t.kind j = 1
        · rw [if_pos hj, if_pos hj]
          exact keep j hj.1 (fun x => by subst x; exact k0 hj.2)
        · rw [if_neg hj, if_neg hj]
      refine ⟨fun s hsn => ?_, fun j hj hkj hl => ?_, fun j hj hkj hX hl => ?_, fun j hj hkj hl => ?_, fun j hj hkj => ?_, h.kp.trans hk2, ?_, fun s hs1 hs2 => ?_⟩
      · rw [updV_ne (fun e => by rw [e, hdi] at hsn; omega)]; exact h.out s hsn
      · by_cases e : j = i
        · subst e; rw [updV_same]; exact hv hkj
        · rw [get_set (fun x => e x.symm)] at hl
          rw [keep j hj e]
          exact h.val j hj hkj hl
      · have e : j ≠ i := fun x => by subst x; exact k0 hkj
        rw [get_set (fun x => e x.symm)] at hl
        rw [keep j hj e]
        exact h.cval j hj hkj hX hl
      · by_cases e : j = i
        · subst e; rw [updV_same]; exact hf hkj
        · rw [get_set (fun x => e x.symm)] at hl
          rw [keep j hj e]
          exact hFs _ _ _ _ (h.free j hj hkj hl) hk2
      · rw [get_set (fun x => by subst x; exact k0 hkj)]; exact h.come j hj hkj
      · rw [e]; exact hEs _ _ _ _ h.ext hk2
      · by_cases e3 : t.inv s = i
        · rw [e3, get_self (by omega)] at hs2; cases hs2
        · rw [get_set (fun x => e3 x.symm)] at hs2
          rw [updV_ne (fun x => e3 (by rw [x, hdi]))]
          exact h.old s hs1 hs2
    have wants : t.act i = true → Region.wanted o (yielded ops (frameOf t.N T).tmps) = true := fun ha => by
      rcases hgd with ⟨h3, _⟩ | ⟨b, h3, h6, h7, h4, h5, h8⟩
      · simp [Region.wanted, h3]
      · obtain ⟨o2, g1, g2, _⟩ := heach (t.gd i) h4
        obtain ⟨hdg, _⟩ := rdst _ h4 (by omega)
        rw [if_neg (by omega)] at g2
        rcases hR.gv i hil h7 with ⟨_, h9⟩ | ⟨h9, _⟩
        · have := yielded_frame (ops := ops) (T := T) g1 g2 hdg ((h.val _ h4 h5 (dep_of hr h1 h8)).trans h9)
          simp [Region.wanted, h3, this, h6]
        · rw [ha] at h9; cases h9
    by_cases k0 : t.kind i = 0
    · obtain ⟨hdN, _⟩ := rdst i hil (by omega)
      rw [if_neg (by omega)] at h2
      by_cases ha : t.act i = true
      · refine wpOp_want h1 (wants ha) ?_
        unfold Oper.wp
        rw [hR.read i hil k0 ha l T w' o c hr hcl h h1, Oper.upon_value, h2, frame_put]
        exact ⟨_, c, hc, rfl, hcl2, step (by omega) _ _ (Kp.refl _ _) (fun _ => rfl) (fun x => by omega)⟩
      · rcases hgd with ⟨_, h3⟩ | ⟨b, h3, h6, h7, h4, h5, h8⟩
        · exact absurd h3 ha
        · rcases hR.gv i hil h7 with ⟨h9, _⟩ | ⟨_, h9, _, hv⟩
          · exact absurd h9 ha
          · obtain ⟨o2, g1, g2, _⟩ := heach (t.gd i) h4
            obtain ⟨hdg, _⟩ := rdst _ h4 (by omega)
            rw [if_neg (by omega)] at g2
            have hy := yielded_frame (ops := ops) (T := T) g1 g2 hdg ((h.val _ h4 h5 (dep_of hr h1 h8)).trans h9)
            refine wpOp_shun h1 (by simp [Region.wanted, h3, hy, h6]) ?_
            rw [h2, frame_put]
            exact ⟨_, c, hc, rfl, hcl2, step (by omega) _ _ (Kp.refl _ _) (fun _ => hv.symm) (fun x => by omega)⟩
    have ha : t.act i = true := by
      rcases hgd with ⟨_, h3⟩ | ⟨b, h3, h6, h7, h4, h5, h8⟩
      · exact h3
      · rcases hR.gv i hil h7 with ⟨h9, _⟩ | ⟨_, _, h9, _⟩
        · exact h9
        · exact absurd h9 k0
    refine wpOp_want h1 (wants ha) ?_
    by_cases k2 : t.kind i = 2
    · obtain ⟨hdN, _⟩ := rdst i hil (by omega)
      rw [if_neg (by omega)] at h2
      obtain ⟨u, w2, hrun, hFi, hk2⟩ := hR.free i hil k2 l T w' o c hr hcl h h1
      unfold Oper.wp
      rw [hrun, Oper.upon_value, h2, frame_put]
      exact ⟨_, c, hc, rfl, hcl2, step (by omega) _ _ hk2 (fun x => absurd x k0) (fun _ => hFi)⟩
    · have k1 : t.kind i = 1 := by omega
      obtain ⟨hpK, hchi⟩ := hF.poss i hil k1
      have hcq : c = t.pos i := by
        have a1 : ¬ t.pos i < c := by
          have := h.come i hil k1
          rw [hnl] at this
          exact of_decide_eq_false this.symm
        have a2 : ¬ c < t.pos i := fun hlt => by
          rcases hbf with h0 | h0 | hb
          · exact h0 k1
          · omega
          · obtain ⟨hq, hkq, hpq⟩ := hF.chis (t.pos i - 1) (by omega)
            have := h.come _ hq hkq
            obtain ⟨q, hq, h10⟩ := Array.any_eq_true.1 hb
            rw [Bool.and_eq_true] at h10
            rw [reach_done hcl h10.2 (ri _ (Array.getElem_mem hq) h10.1)] at this
            have := of_decide_eq_true this.symm
            omega
        omega
      subst hcq
      have hu : t.dst i < t.N → ∀ v, chV t.m t.kind t.dst (updV T (t.dst i) v) = updV (chV t.m t.kind t.dst T) i v := fun hN v => by
        funext j
        by_cases e : j = i
        · subst e
          rw [updV_same]
          unfold chV
          rw [if_pos ⟨hil, k1⟩, updV_same]
        · rw [updV_ne e]
          unfold chV
          by_cases hj : j < t.m ∧ t.kind j = 1
          · rw [if_pos hj, if_pos hj]
            exact updV_ne (fun x => e (inj i hil j hj.1 hN x.symm).symm)
          · rw [if_neg hj, if_neg hj]
      refine Oper.wp_mono (fun a2 w2 h9 => ?_) (hR.chain i hil k1 l T w' o hr hcl h hu h1 Q)
      obtain ⟨T2, rfl, hT2, hk2, hX2, hE2⟩ := h9
      have keep : ∀ j, j < t.m → j ≠ i → T2 (t.dst j) = T (t.dst j) := fun j hj hne => by
        refine hT2 _ ?_
        rcases hF.dsts i hil with ⟨h3, _⟩ | ⟨h3, _⟩
        · exact .inl (fun y => hne (inj i hil j hj h3 y.symm).symm)
        · exact .inr h3
      refine ⟨T2, t.pos i + 1, by omega, rfl, hcl2, fun s hsn => ?_, fun j hj hkj hl => ?_, fun j hj hkj hX hl => ?_, fun j hj hkj hl => ?_, fun j hj hkj => ?_, h.kp.trans hk2, hE2, fun s hs1 hs2 => ?_⟩
      · rw [hT2 s (by
          rcases hF.dsts i hil with ⟨_, h3⟩ | ⟨h3, _⟩
          · left; intro e; rw [e, h3] at hsn; omega
          · exact .inr h3)]
        exact h.out s hsn
      · have e : j ≠ i := fun x => by subst x; omega
        rw [get_set (fun x => e x.symm)] at hl
        rw [keep j hj e]
        exact h.val j hj hkj hl
      · by_cases e : j = i
        · subst e; exact hX2 hX
        · rw [get_set (fun x => e x.symm)] at hl
          rw [keep j hj e]
          exact h.cval j hj hkj hX hl
      · have e : j ≠ i := fun x => by subst x; omega
        rw [get_set (fun x => e x.symm)] at hl
        rw [keep j hj e]
        exact hFs _ _ _ _ (h.free j hj hkj hl) hk2
      · by_cases e : j = i
        · subst e; rw [get_self (by omega)]; exact (decide_eq_true (by omega)).symm
        · rw [get_set (fun x => e x.symm), h.come j hj hkj]
          have : t.pos j ≠ t.pos i := fun x => e (by rw [← (hF.poss j hj hkj).2, x, hchi])
          by_cases e2 : t.pos j < t.pos i
          · rw [decide_eq_true e2, decide_eq_true (by omega)]
          · rw [decide_eq_false e2, decide_eq_false (by omega)]
      · by_cases e3 : t.inv s = i
        · rw [e3, get_self (by omega)] at hs2; cases hs2
        · rw [get_set (fun x => e3 x.symm)] at hs2
          rw [hT2 s (by
            rcases hF.dsts i hil with ⟨_, h3⟩ | ⟨h3, _⟩
            · left; intro x; exact e3 (by rw [x, h3])
            · exact .inr h3)]
          exact h.old s hs1 hs2
  · have : ∀ q, unl (Array.replicate ops.size false) q ≤ q := by
      intro q
      induction q with
      | zero => exact Nat.le_refl _
      | succ q ih => unfold unl; split <;> omega
    exact this _
  · have hf : ∀ i, (Array.replicate ops.size false).getD i false = false := by
      intro i
      simp only [Array.getD]
      split
      · simp
      · rfl
    refine ⟨T0, 0, Nat.zero_le _, rfl, (fun j o _ h => by rw [hf] at h; cases h), fun _ _ => rfl, ?_, ?_, ?_, ?_, Kp.refl _ _, hE0 _, fun _ _ _ => rfl⟩
    · intro i _ _ h; rw [hf] at h; cases h
    · intro i _ _ _ h; rw [hf] at h; cases h
    · intro i _ _ h; rw [hf] at h; cases h
    · intro i _ _; rw [hf]; exact (decide_eq_false (by omega)).symm
end Go.Proofs.YtiommpdbbpddpaaGreatDoor

/- The operations of regions, one equation each, for the law of regions. -/
namespace Go.Proofs.YtiommpdbbpddpaaGreatDoor
open Go.RowKit

theorem frame_list (N : Nat) (T : Nat → Value) : frameOf N T = ⟨((List.range' 0 N).map T).toArray, []⟩ := by
  unfold frameOf
  simp only [Act.mk.injEq, and_true]
  apply Array.ext
  · simp
  · intro i h1 h2
    simp
section
variable {a : Act} {w : World} {o : Oper}
theorem op_mv {x : Operand} {v : Value} (h : o.op = .move x) (hx : a.eval x = v) : (execOp a.eval o).run Tryz.prog w = .ok (.value v) w := by
  generalize a.eval = r at *
  simp [execOp, h, hx]
theorem op_as {x : Operand} {v : Value} (h : o.op = .assign x) (hx : a.eval x = v) : (execOp a.eval o).run Tryz.prog w = .ok (.value v) w := by
  generalize a.eval = r at *
  simp [execOp, h, hx]
theorem op_ex {x : Operand} {k : Nat} {vs : Array Value} {v : Value} (h : o.op = .extract x k) (hx : a.eval x = .tuple vs) (hv : vs[k]? = some v) : (execOp a.eval o).run Tryz.prog w = .ok (.value v) w := by
  generalize a.eval = r at *
  simp [execOp, h, hx, go_sem, hv]
theorem op_pk1 {x y z : Operand} {v : Value} (h : o.op = .pick x y z) (hx : a.eval x = .bool true) (hy : a.eval y = v) : (execOp a.eval o).run Tryz.prog w = .ok (.value v) w := by
  generalize a.eval = r at *
  simp [execOp, h, hx, hy, go_sem]
theorem op_pk0 {x y z : Operand} {v : Value} (h : o.op = .pick x y z) (hx : a.eval x = .bool false) (hz : a.eval z = v) : (execOp a.eval o).run Tryz.prog w = .ok (.value v) w := by
  generalize a.eval = r at *
  simp [execOp, h, hx, hz, go_sem]
theorem op_not {x : Operand} {T : TypeId} {b : Bool} (h : o.op = .unOp .not T x) (hx : a.eval x = .bool b) : (execOp a.eval o).run Tryz.prog w = .ok (.value (.bool (!b))) w := by
  generalize a.eval = r at *
  simp [execOp, h, hx, go_sem]
theorem op_call1 {F : Nat} {x : Operand} {ty : Array TypeId} {u : Value} (he : ∀ args w, (callFunc F args).run Tryz.prog w = .ok (.enter F args) w) (h : o.op = .call { callee := .value (.func F), args := #[x], argTypes := ty }) (hx : a.eval x = u) :
    (execOp a.eval o).run Tryz.prog w = .ok (.enter F #[u]) w := by
  have hf : a.eval (.func F) = .func (.func F) #[] #[] := rfl
  generalize a.eval = r at *
  simp [execOp, h, hx, hf, go_sem, he]
theorem op_call2 {F : Nat} {x y : Operand} {ty : Array TypeId} {u v : Value} (he : ∀ args w, (callFunc F args).run Tryz.prog w = .ok (.enter F args) w) (h : o.op = .call { callee := .value (.func F), args := #[x, y], argTypes := ty }) (hx : a.eval x = u) (hy : a.eval y = v) :
    (execOp a.eval o).run Tryz.prog w = .ok (.enter F #[u, v]) w := by
  have hf : a.eval (.func F) = .func (.func F) #[] #[] := rfl
  generalize a.eval = r at *
  simp [execOp, h, hx, hy, hf, go_sem, he]
end
end Go.Proofs.YtiommpdbbpddpaaGreatDoor

/- A law for regions that draw their order, by reflection: what is read, moved and passed on is reckoned once for the whole region; calls, new blocks and other operations are told one by one. -/
namespace Go.Proofs.YtiommpdbbpddpaaGreatDoor
open Go.RowKit

/-- a value told by letters -/
inductive SV where
  | at (k : Nat)
  | tup (l : List Nat)
  | fn (F : Nat) (caps : List Nat)
  | str (l : List UInt8)
  | num (k : IntKind) (z : Int)
  | bool (b : Bool)
  | un
  deriving DecidableEq
def SV.den (ρ : Nat → Value) : SV → Value
  | .at k => ρ k
  | .tup l => .tuple (l.map ρ).toArray
  | .fn F caps => .func (.func F) #[] (caps.map ρ).toArray
  | .str l => .string ⟨l.toArray⟩
  | .num k z => .int k z
  | .bool b => .bool b
  | .un => undef

def opsIn (id : Nat) : Code → Option (Array Oper)
  | .region i ops _ => if i == id then some ops else none
  | .seq a b => match opsIn id a with | some o => some o | none => opsIn id b
  | .cond _ a b => match opsIn id a with | some o => some o | none => opsIn id b
  | .block _ b => opsIn id b
  | .loop b => opsIn id b
  | .scope b => opsIn id b
  | _ => none
/-- the operations of a function's region -/
def opsOf (id : Nat) (f : Func) : Array Oper := match f.body with
  | some c => (opsIn id c).getD #[]
  | none => #[]

structure RSy where
  st : RSt
  Sy : Nat → SV
  outs : List (Nat × SV)
  X : Nat → Bool
def RSy.tab (y : RSy) (ρ : Nat → Value) (L : List Nat) (F : Nat → Value → World → Prop) : RTab := { y.st with V := fun i => (y.Sy i).den ρ, X := y.X, L := L, E := fun _ _ _ => True, F := F }

def findOut (s : Nat) : List (Nat × SV) → Option SV
  | [] => none
  | (k, v) :: l => if k = s then some v else findOut s l
def depB (ops : Array Oper) (i j : Nat) : Bool := match ops[i]? with
  | none => false
  | some o => o.after.any fun e => e.on == j && Region.binds .any e
def srcOf (ops : Array Oper) (y : RSy) (i d : Nat) : Option SV :=
  if d < y.st.N then
    if y.st.inv d = y.st.m then findOut d y.outs
    else if y.st.inv d < y.st.m ∧ y.st.dst (y.st.inv d) = d ∧ (y.st.kind (y.st.inv d) = 0 ∨ y.st.kind (y.st.inv d) = 1 ∧ y.X (y.st.inv d) = true) ∧ depB ops i (y.st.inv d) = true then some (y.Sy (y.st.inv d))
    else if y.st.inv d < y.st.m ∧ reach ops i 4 (y.st.inv d) = true then findOut d y.outs else none
  else none
def opdOf (ops : Array Oper) (y : RSy) (i : Nat) : Operand → Option SV
  | .tmp d => srcOf ops y i d
  | .func F => some (.fn F [])
  | .const (.string b) => some (.str b.data.toList)
  | .const (.int k z) => some (.num k z)
  | .const (.bool b) => some (.bool b)
  | _ => none
def readOk (ops : Array Oper) (y : RSy) (i : Nat) : Bool := match ops[i]? with
  | none => false
  | some o => match o.op with
    | .move x => decide (opdOf ops y i x = some (y.Sy i))
    | .assign x => decide (opdOf ops y i x = some (y.Sy i))
    | .extract x k => (match opdOf ops y i x with
      | some (.tup l) => decide ((l[k]?).map SV.at = some (y.Sy i))
      | _ => false)
    | .pick c a b => (match opdOf ops y i c with
      | some (.bool true) => decide (opdOf ops y i a = some (y.Sy i))
      | some (.bool false) => decide (opdOf ops y i b = some (y.Sy i))
      | _ => false)
    | .unOp .not _ x => (match opdOf ops y i x with
      | some (.bool b) => decide (y.Sy i = .bool (!b))
      | _ => false)
    | _ => false
def argsOf (ops : Array Oper) (y : RSy) (i : Nat) : List Operand → Option (List SV)
  | [] => some []
  | x :: l => match opdOf ops y i x, argsOf ops y i l with
    | some v, some vs => some (v :: vs)
    | _, _ => none
def callOf (ops : Array Oper) (y : RSy) (i : Nat) : Option (Nat × List SV) := match ops[i]? with
  | none => none
  | some o => match o.op with
    | .call { callee := .value f, args := args, argTypes := _ } => (match opdOf ops y i f, argsOf ops y i args.toList with
      | some (.fn F caps), some vs => some (F, vs ++ caps.map SV.at)
      | _, _ => none)
    | _ => none
/-- a property of each of a list -/
def Each {α : Type} (P : α → Prop) : List α → Prop
  | [] => True
  | x :: l => P x ∧ Each P l
theorem Each.mem {α : Type} {P : α → Prop} : ∀ {l : List α}, Each P l → ∀ x ∈ l, P x
  | [], _, x, h => by cases h
  | y :: l, ⟨h1, h2⟩, x, h => by
    rcases List.mem_cons.1 h with rfl | h
    · exact h1
    · exact h2.mem x h

def guardOk (y : RSy) (i : Nat) : Bool := !y.st.isg i ||
  (y.st.act i && decide (y.Sy (y.st.gd i) = .bool (y.st.gb i))) || (!y.st.act i && decide (y.Sy (y.st.gd i) = .bool (!y.st.gb i)) && y.st.kind i == 0 && decide (y.Sy i = .un))
/-- all that is reckoned; sp: reads that are told; ca: calls with their functions and arguments; cx, fr: other operations of the chain, free ones -/
def reflOk (ops : Array Oper) (y : RSy) (sp : List Nat) (ca : List (Nat × Nat × List SV)) (cx fr : List Nat) : Bool :=
  regFit y.st && (regOk ops y.st && ((List.range y.st.m).all fun i => guardOk y i &&
    (if y.st.kind i = 0 then !y.st.act i || sp.contains i || readOk ops y i
     else if y.st.kind i = 1 then cx.contains i || (decide (y.st.dst i < y.st.N) && ca.any fun c => c.1 == i && decide (callOf ops y i = some (c.2.1, c.2.2)))
     else fr.contains i)))

section
variable {ops : Array Oper} {y : RSy} {ρ : Nat → Value} {L : List Nat} {F : Nat → Value → World → Prop} {w0 w : World} {T0 T : Nat → Value} {c i : Nat} {l : Array Bool}
theorem find_mem {s : Nat} {v : SV} : ∀ {o : List (Nat × SV)}, findOut s o = some v → (s, v) ∈ o
  | [], h => by cases h
  | (k, u) :: o, h => by
    unfold findOut at h
    by_cases e : k = s
    · rw [if_pos e] at h
      cases h; subst e
      exact List.mem_cons_self
    · rw [if_neg e] at h
      exact List.mem_cons_of_mem _ (find_mem h)
theorem dep_refl {j : Nat} (hr : i ∈ Region.ready .any ops l) (h : depB ops i j = true) : l.getD j false = true := by
  unfold depB at h
  cases ho : ops[i]? with
  | none => rw [ho] at h; cases h
  | some o => rw [ho] at h; exact dep_of hr ho h
theorem not_laid (hr : i ∈ Region.ready .any ops l) : l.getD i false = false := by
  have := (ready_lt hr).2
  cases h : l.getD i false with
  | false => rfl
  | true =>
    unfold Array.getD at this h
    by_cases e : i < l.size
    · rw [dif_pos e] at this h; rw [this] at h; cases h
    · rw [dif_neg e] at this; cases this
theorem src_ev {d : Nat} {v : SV} (hT0 : Each (fun p => T0 p.1 = p.2.den ρ) y.outs) (hr : i ∈ Region.ready .any ops l) (hcl : Closed ops l) (hM : SMid (y.tab ρ L F) w0 T0 c l T w) (h : srcOf ops y i d = some v) :
    (frameOf y.st.N T).eval (.tmp d) = v.den ρ := by
  unfold srcOf at h
  by_cases h0 : d < y.st.N
  · rw [if_pos h0] at h
    rw [frame_eval h0]
    by_cases h1 : y.st.inv d = y.st.m
    · rw [if_pos h1] at h
      rw [hM.out d h1]
      exact hT0.mem _ (find_mem h)
    · rw [if_neg h1] at h
      by_cases h2 : y.st.inv d < y.st.m ∧ y.st.dst (y.st.inv d) = d ∧ (y.st.kind (y.st.inv d) = 0 ∨ y.st.kind (y.st.inv d) = 1 ∧ y.X (y.st.inv d) = true) ∧ depB ops i (y.st.inv d) = true
      · rw [if_pos h2] at h
        obtain ⟨a1, a2, a3, a4⟩ := h2
        obtain rfl := Option.some.inj h
        have hd := dep_refl hr a4
        have key : T (y.st.dst (y.st.inv d)) = (y.Sy (y.st.inv d)).den ρ := by
          rcases a3 with a3 | ⟨a3, a5⟩
          · exact hM.val _ a1 a3 hd
          · exact hM.cval _ a1 a3 a5 hd
        rw [a2] at key
        exact key
      · rw [if_neg h2] at h
        by_cases h3 : y.st.inv d < y.st.m ∧ reach ops i 4 (y.st.inv d) = true
        · rw [if_pos h3] at h
          have hn : l.getD (y.st.inv d) false = false := by
            cases hd : l.getD (y.st.inv d) false with
            | false => rfl
            | true =>
              have := reach_done hcl h3.2 hd
              rw [not_laid hr] at this
              cases this
          rw [hM.old d h3.1 hn]
          exact hT0.mem _ (find_mem h)
        · rw [if_neg h3] at h; cases h
  · rw [if_neg h0] at h; cases h
theorem opd_ev {x : Operand} {v : SV} (hT0 : Each (fun p => T0 p.1 = p.2.den ρ) y.outs) (hr : i ∈ Region.ready .any ops l) (hcl : Closed ops l) (hM : SMid (y.tab ρ L F) w0 T0 c l T w) (h : opdOf ops y i x = some v) :
    (frameOf y.st.N T).eval x = v.den ρ := by
  unfold opdOf at h
  split at h
  · exact src_ev hT0 hr hcl hM h
  · cases h; rfl
  · cases h; rfl
  · cases h; rfl
  · cases h; rfl
  · cases h
theorem args_ev (hT0 : Each (fun p => T0 p.1 = p.2.den ρ) y.outs) (hr : i ∈ Region.ready .any ops l) (hcl : Closed ops l) (hM : SMid (y.tab ρ L F) w0 T0 c l T w) :
    ∀ {xs : List Operand} {vs : List SV}, argsOf ops y i xs = some vs → xs.map (frameOf y.st.N T).eval = vs.map (SV.den ρ)
  | [], vs, h => by cases h; rfl
  | x :: xs, vs, h => by
    unfold argsOf at h
    split at h
    · rename_i v vs' h1 h2
      cases h
      rw [List.map_cons, List.map_cons, opd_ev hT0 hr hcl hM h1, args_ev hT0 hr hcl hM h2]
    · cases h
theorem read_ev (hT0 : Each (fun p => T0 p.1 = p.2.den ρ) y.outs) (hr : i ∈ Region.ready .any ops l) (hcl : Closed ops l) (hM : SMid (y.tab ρ L F) w0 T0 c l T w) {o : Oper} (ho : ops[i]? = some o) (h : readOk ops y i = true) :
    (execOp (frameOf y.st.N T).eval o).run Tryz.prog w = .ok (.value ((y.Sy i).den ρ)) w := by
  unfold readOk at h
  rw [ho] at h
  dsimp only at h
  split at h
  · rename_i x e
    exact op_mv e (opd_ev hT0 hr hcl hM (of_decide_eq_true h))
  · rename_i x e
    exact op_as e (opd_ev hT0 hr hcl hM (of_decide_eq_true h))
  · rename_i x k e
    split at h
    · rename_i ls e2
      have h := of_decide_eq_true h
      cases hk : ls[k]? with
      | none => rw [hk] at h; cases h
      | some a =>
        rw [hk] at h
        rw [← Option.some.inj h]
        exact op_ex e (opd_ev hT0 hr hcl hM e2) (by simp [hk, SV.den])
    · cases h
  · rename_i cc a b e
    split at h
    · rename_i e2
      exact op_pk1 e (opd_ev hT0 hr hcl hM e2) (opd_ev hT0 hr hcl hM (of_decide_eq_true h))
    · rename_i e2
      exact op_pk0 e (opd_ev hT0 hr hcl hM e2) (opd_ev hT0 hr hcl hM (of_decide_eq_true h))
    · cases h
  · rename_i tt x e
    split at h
    · rename_i b e2
      rw [of_decide_eq_true h]
      exact op_not e (opd_ev hT0 hr hcl hM e2)
    · cases h
  · cases h
theorem call_ev (hT0 : Each (fun p => T0 p.1 = p.2.den ρ) y.outs) (hr : i ∈ Region.ready .any ops l) (hcl : Closed ops l) (hM : SMid (y.tab ρ L F) w0 T0 c l T w) {o : Oper} (ho : ops[i]? = some o) {G : Nat} {us : List SV} (h : callOf ops y i = some (G, us))
    (he : ∀ args w, (callFunc G args).run Tryz.prog w = .ok (.enter G args) w) :
    (execOp (frameOf y.st.N T).eval o).run Tryz.prog w = .ok (.enter G (us.map (SV.den ρ)).toArray) w := by
  unfold callOf at h
  rw [ho] at h
  dsimp only at h
  split at h
  · rename_i f args ty e
    split at h
    · rename_i F' caps vs e1 e2
      obtain ⟨rfl, rfl⟩ := Prod.mk.inj (Option.some.inj h)
      have hf := opd_ev hT0 hr hcl hM e1
      have ha := args_ev hT0 hr hcl hM e2
      generalize (frameOf y.st.N T).eval = r at *
      have ha2 : args.map r = (vs.map (SV.den ρ)).toArray := by
        apply Array.toList_inj.1
        rw [Array.toList_map, ha]
      simp [execOp, e, hf, SV.den, go_sem, he, ha2, List.map_append, Function.comp_def]
    · cases h
  · cases h
end
/-- what is known where operation i comes up -/
structure RHere (ops : Array Oper) (y : RSy) (ρ : Nat → Value) (L : List Nat) (F : Nat → Value → World → Prop) (w0 : World) (i : Nat) (T : Nat → Value) (w : World) : Prop where
  ev : ∀ x v, opdOf ops y i x = some v → (frameOf y.st.N T).eval x = v.den ρ
  fr : ∀ j, j < y.st.m → y.st.kind j = 2 → depB ops i j = true → F j (T (y.st.dst j)) w
  kp : Kp L w0 w
theorem here_of {ops : Array Oper} {y : RSy} {ρ : Nat → Value} {L : List Nat} {F : Nat → Value → World → Prop} {w0 w : World} {T0 T : Nat → Value} {c i : Nat} {l : Array Bool} (hT0 : Each (fun p => T0 p.1 = p.2.den ρ) y.outs)
    (hr : i ∈ Region.ready .any ops l) (hcl : Closed ops l) (hM : SMid (y.tab ρ L F) w0 T0 c l T w) : RHere ops y ρ L F w0 i T w :=
  ⟨fun _ _ h => opd_ev hT0 hr hcl hM h, fun j hj hk hd => hM.free j hj hk (dep_refl hr hd), hM.kp⟩

theorem reg_refl {ops : Array Oper} {id : Nat} {w : World} {T0 : Nat → Value} (y : RSy) (ρ : Nat → Value) (L : List Nat) (F : Nat → Value → World → Prop) (ops' : Array Oper) (sp : List Nat) (ca : List (Nat × Nat × List SV)) (cx fr : List Nat)
    {Q : Exit → Act → World → Prop} (hm : Tryz.prog.follows .mixedOrders = true) (hops : ops = ops') (hok : reflOk ops' y sp ca cx fr = true) (hT0 : Each (fun p => T0 p.1 = p.2.den ρ) y.outs)
    (hs : Each (fun i => ∀ T wz, RHere ops' y ρ L F w.drew i T wz → ∀ o, ops'[i]? = some o → (execOp (frameOf y.st.N T).eval o).run Tryz.prog wz = .ok (.value ((y.Sy i).den ρ)) wz) sp)
    (hc : Each (fun p => (∀ args w, (callFunc p.2.1 args).run Tryz.prog w = .ok (.enter p.2.1 args) w) ∧ ∀ wz, Kp L w.drew wz → Calls Tryz.prog p.2.1 (p.2.2.map (SV.den ρ)).toArray wz fun x w' => ∃ v, x = .returned v ∧ Kp L wz w' ∧ (y.X p.1 = true → v = (y.Sy p.1).den ρ)) ca)
    (hx : Each (fun i => ∀ T wz, RHere ops' y ρ L F w.drew i T wz → ∀ o, ops'[i]? = some o →
      ∃ G args, (execOp (frameOf y.st.N T).eval o).run Tryz.prog wz = .ok (.enter G args) wz ∧ Calls Tryz.prog G args wz fun x w' => ∃ v, x = .returned v ∧ Kp L wz w' ∧ (y.X i = true → v = (y.Sy i).den ρ)) cx)
    (hdx : ∀ i ∈ cx, y.st.dst i < y.st.N)
    (hf : Each (fun i => ∀ T wz, RHere ops' y ρ L F w.drew i T wz → ∀ o, ops'[i]? = some o → ∃ u w', (execOp (frameOf y.st.N T).eval o).run Tryz.prog wz = .ok (.value u) w' ∧ F i u w' ∧ Kp L wz w') fr)
    (hFs : ∀ i u w1 w2, F i u w1 → Kp L w1 w2 → F i u w2)
    (hQ : ∀ (T : Nat → Value) (w' : World), (∀ s, y.st.inv s = y.st.m → T s = T0 s) → (∀ j, j < y.st.m → y.st.kind j = 0 ∨ y.st.kind j = 1 ∧ y.X j = true → T (y.st.dst j) = (y.Sy j).den ρ) → Kp L w w' →
      (∀ j, j < y.st.m → y.st.kind j = 2 → F j (T (y.st.dst j)) w') → Q .normal (frameOf y.st.N T) w') :
    (Code.region id ops true).wp Tryz.prog Q (frameOf y.st.N T0) w := by
  subst hops
  unfold reflOk at hok
  rw [Bool.and_eq_true, Bool.and_eq_true, List.all_eq_true] at hok
  obtain ⟨hF, hO, hA⟩ := hok
  have hA' : ∀ i, i < y.st.m → guardOk y i = true ∧ (if y.st.kind i = 0 then !y.st.act i || sp.contains i || readOk ops y i
     else if y.st.kind i = 1 then cx.contains i || (decide (y.st.dst i < y.st.N) && ca.any fun c => c.1 == i && decide (callOf ops y i = some (c.2.1, c.2.2)))
     else fr.contains i) = true := fun i hi => Bool.and_eq_true_iff.1 (hA i (List.mem_range.2 hi))
  refine reg_seq (y.tab ρ L F) hm (fit_of hF) ⟨hO, ?_, ?_, ?_, ?_⟩ (fun _ => trivial) (fun _ _ _ _ _ _ => trivial) hFs (fun T w' h1 h2 h3 _ h5 => hQ T w' h1 h2 h3 h5)
  · intro i hi hg
    have h := (hA' i hi).1
    unfold guardOk at h
    have hg' : y.st.isg i = true := hg
    rw [hg'] at h
    simp only [Bool.not_true, Bool.false_or, Bool.or_eq_true, Bool.and_eq_true, decide_eq_true_eq, Bool.not_eq_true', beq_iff_eq] at h
    rcases h with ⟨h1, h2⟩ | ⟨⟨⟨h1, h2⟩, h3⟩, h4⟩
    · exact .inl ⟨h1, by show (y.Sy (y.st.gd i)).den ρ = _; rw [h2]; rfl⟩
    · exact .inr ⟨h1, by show (y.Sy (y.st.gd i)).den ρ = _; rw [h2]; rfl, h3, by show (y.Sy i).den ρ = _; rw [h4]; rfl⟩
  · intro i hi hk ha l T wz o c hr hcl hM ho
    have h := (hA' i hi).2
    rw [if_pos (show y.st.kind i = 0 from hk), show y.st.act i = true from ha] at h
    simp only [Bool.not_true, Bool.false_or, Bool.or_eq_true, List.contains_iff_mem] at h
    rcases h with h | h
    · exact hs.mem i h T wz (here_of hT0 hr hcl hM) o ho
    · exact read_ev hT0 hr hcl hM ho h
  · intro i hi hk l T wz o hr hcl hM hu ho Q'
    have h := (hA' i hi).2
    rw [if_neg (show ¬ y.st.kind i = 0 by have : y.st.kind i = 1 := hk; omega), if_pos (show y.st.kind i = 1 from hk)] at h
    simp only [Bool.or_eq_true, Bool.and_eq_true, decide_eq_true_eq, List.contains_iff_mem, List.any_eq_true, beq_iff_eq] at h
    have hdst : y.st.dst i < y.st.N → o.dst = some (y.st.dst i) := fun hN => by
      obtain ⟨_, he⟩ := each_of (t := y.st) hO
      obtain ⟨o', g1, g2, _⟩ := he i hi
      obtain rfl := Option.some.inj (ho.symm.trans g1)
      rw [if_neg (by omega)] at g2
      exact g2
    rcases h with h | ⟨hN, cc, hcm, rfl, hcall⟩
    · obtain ⟨G, args, hrun, hcl2⟩ := hx.mem i h T wz (here_of hT0 hr hcl hM) o ho
      have hN := hdx i h
      exact after_call hrun (hdst hN) hN (hu hN) (hcl2.mono fun x w2 ⟨v, h1, h2, h3⟩ => ⟨v, h1, h2, h3, trivial⟩)
    · obtain ⟨hen, hcl2⟩ := hc.mem cc hcm
      exact after_call (call_ev hT0 hr hcl hM ho hcall hen) (hdst hN) hN (hu hN) ((hcl2 wz hM.kp).mono fun x w2 ⟨v, h1, h2, h3⟩ => ⟨v, h1, h2, h3, trivial⟩)
  · intro i hi hk l T wz o c hr hcl hM ho
    have h := (hA' i hi).2
    have hk' : y.st.kind i = 2 := hk
    rw [if_neg (by omega), if_neg (by omega), List.contains_iff_mem] at h
    exact hf.mem i h T wz (here_of hT0 hr hcl hM) o ho
end Go.Proofs.YtiommpdbbpddpaaGreatDoor
