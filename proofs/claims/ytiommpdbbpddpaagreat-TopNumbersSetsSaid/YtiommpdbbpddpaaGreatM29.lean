/- Texts Reg, RegS, RegOps, Refl: each says in its own first comment what it proves. -/
import Derived.Test.YtiommpdbbpddpaaGreatM25
/- A general law for regions that draw their order, with one obligation for each operation: reads, calls and effects in a chain, new blocks and the stores that fill them. -/
namespace Go.Proofs.YtiommpdbbpddpaaGreat
open Go.RowKit

/-- which slots the operations leave alone, and what those that have come up have left. Kinds: 0 a read, 1 a call, 2 a new block, 3 a store into one, 5 an effect without a slot -/
structure JMid (m : Nat) (T0 : Nat → Value) (dst kind : Nat → Nat) (V : Nat → Value) (l : Array Bool) (T : Nat → Value) : Prop where
  out : ∀ s, (∀ j, j < m → kind j ≤ 2 → dst j ≠ s) → T s = T0 s
  val : ∀ j, j < m → kind j ≤ 1 → l.getD j false = true → T (dst j) = V j

def isCh (k : Nat) : Prop := k = 1 ∨ k = 5
instance (k : Nat) : Decidable (isCh k) := inferInstanceAs (Decidable (_ ∨ _))

structure JOps (ops : Array Oper) (m N K : Nat) (L : List Nat) (J : Nat → World → Prop) (w0 : World) (T0 : Nat → Value) (dst kind pos mate : Nat → Nat) (V : Nat → Value) (Z C : Nat → Array Value) (Y : Nat → TypeId) : Prop where
  size : ops.size = m
  kinds : ∀ i, i < m → kind i ≤ 3 ∨ kind i = 5
  dstN : ∀ i, i < m → kind i ≤ 2 → dst i < N
  inj : ∀ i, i < m → ∀ j, j < m → kind i ≤ 2 → kind j ≤ 2 → dst i = dst j → i = j
  op : ∀ i, i < m → ∃ o, ops[i]? = some o ∧ o.guard = none ∧ o.dst = if kind i ≤ 2 then some (dst i) else none
  read : ∀ i, i < m → kind i = 0 → ∀ l T w o c, i ∈ Region.ready .any ops l → JMid m T0 dst kind V l T → Kp L w0 w → J c w → (∀ j, j < m → isCh (kind j) → l.getD j false = decide (pos j < c)) → ops[i]? = some o →
    (execOp (frameOf N T).eval o).run Tryz.prog w = .ok (.value (V i)) w
  call : ∀ i, i < m → kind i = 1 → ∀ l T w o, i ∈ Region.ready .any ops l → JMid m T0 dst kind V l T → Kp L w0 w → J (pos i) w → ops[i]? = some o →
    ∃ F args, (execOp (frameOf N T).eval o).run Tryz.prog w = .ok (.enter F args) w ∧ Calls Tryz.prog F args w fun x w' => x = .returned (V i) ∧ J (pos i + 1) w' ∧ Kp L w w'
  eff : ∀ i, i < m → kind i = 5 → ∀ l T w o, i ∈ Region.ready .any ops l → JMid m T0 dst kind V l T → Kp L w0 w → J (pos i) w → ops[i]? = some o →
    ∃ w', (execOp (frameOf N T).eval o).run Tryz.prog w = .ok .skip w' ∧ J (pos i + 1) w' ∧ Kp L w w'
  chain : ∀ i, i < m → isCh (kind i) → pos i < K ∧ ∀ l, i ∈ Region.ready .any ops l → ∀ j, j < m → isCh (kind j) → pos j + 1 = pos i → l.getD j false = true
  pinj : ∀ i, i < m → ∀ j, j < m → isCh (kind i) → isCh (kind j) → pos i = pos j → i = j
  psur : ∀ c, c < K → ∃ i, i < m ∧ isCh (kind i) ∧ pos i = c
  alloc : ∀ i, i < m → kind i = 2 → (∀ T w o, ops[i]? = some o → (execOp (frameOf N T).eval o).run Tryz.prog w = .ok (.value (.pointer (some ⟨w.heap.size, 0, none⟩))) (w.alloc (.cells (Z i) (Y i) (0, 0)))) ∧ mate i < m ∧ kind (mate i) = 3 ∧ mate (mate i) = i
  store : ∀ i, i < m → kind i = 3 → mate i < m ∧ kind (mate i) = 2 ∧ mate (mate i) = i ∧ ∀ l T w o b, i ∈ Region.ready .any ops l → JMid m T0 dst kind V l T → ops[i]? = some o →
    T (dst (mate i)) = .pointer (some ⟨b, 0, none⟩) → w.heap[b]? = some (.cells (Z (mate i)) (Y (mate i)) (0, 0)) →
    ∃ w', (execOp (frameOf N T).eval o).run Tryz.prog w = .ok .skip w' ∧ w'.heap[b]? = some (.cells (C (mate i)) (Y (mate i)) (0, 0)) ∧ Kp [b] w w'
  mated : ∀ i, i < m → kind i = 3 → ∀ l, i ∈ Region.ready .any ops l → l.getD (mate i) false = true
  fin : ∀ l : Array Bool, l.size = m → Region.ready .any ops l = [] → ∀ i, i < m → l.getD i false = true

structure JInv (m K : Nat) (L : List Nat) (J : Nat → World → Prop) (w0 : World) (T0 : Nat → Value) (dst kind pos mate : Nat → Nat) (V : Nat → Value) (Z C : Nat → Array Value) (Y : Nat → TypeId) (l : Array Bool) (T : Nat → Value) (w : World) : Prop where
  mid : JMid m T0 dst kind V l T
  ald : ∀ i, i < m → kind i = 2 → l.getD i false = true → ∃ b, T (dst i) = .pointer (some ⟨b, 0, none⟩) ∧ w0.heap.size ≤ b ∧
    w.heap[b]? = some (.cells (if l.getD (mate i) false = true then C i else Z i) (Y i) (0, 0))
  dis : ∀ i j, i < m → j < m → kind i = 2 → kind j = 2 → i ≠ j → l.getD i false = true → l.getD j false = true → T (dst i) ≠ T (dst j)
  cnt : ∃ c, c ≤ K ∧ (∀ i, i < m → isCh (kind i) → l.getD i false = decide (pos i < c)) ∧ J c w
  sal : ∀ i, i < m → kind i = 2 → l.getD (mate i) false = true → l.getD i false = true
  kpw : Kp L w0 w

/-- in regions whose edges lead back only, nothing is ready when all have come up, and not before -/
theorem jfin_of {ops : Array Oper} {m : Nat} (_hm : ops.size = m) (hb : ∀ i, i < m → ∃ o, ops[i]? = some o ∧ (o.after.all fun e => !Region.binds .any e || decide (e.on < i)) = true) (l : Array Bool) (hs : l.size = m)
    (hr : Region.ready .any ops l = []) : ∀ i, i < m → l.getD i false = true := by
  intro i
  induction i using Nat.strongRecOn with
  | _ i ih =>
    intro hi
    refine true_of_not (by omega) (fun hf => ?_)
    obtain ⟨o, ho, ha⟩ := hb i hi
    have : i ∈ Region.ready .any ops l := ready_of (m := i) hf ho ha (fun j hj => ih j hj (by omega))
    rw [hr] at this
    cases this

theorem blk_lt {w : World} {b : Nat} {o : Obj} (h : w.heap[b]? = some o) : b < w.heap.size := (Array.getElem?_eq_some_iff.1 h).1

theorem reg_law {ops : Array Oper} {m N K id : Nat} {L : List Nat} {J : Nat → World → Prop} {w : World} {T0 : Nat → Value} {dst kind pos mate : Nat → Nat} {V : Nat → Value} {Z C : Nat → Array Value} {Y : Nat → TypeId} {Q : Exit → Act → World → Prop}
    (hm : Tryz.prog.follows .mixedOrders = true) (hO : JOps ops m N K L J w.drew T0 dst kind pos mate V Z C Y) (hL : ∀ x ∈ L, x < w.heap.size)
    (hJ : ∀ c w1 w2, J c w1 → (∀ k, k < w.heap.size → w2.heap[k]? = w1.heap[k]?) → J c w2) (hj0 : J 0 w.drew)
    (hQ : ∀ (T : Nat → Value) (B : Nat → Nat) (w' : World), (∀ s, (∀ j, j < m → kind j ≤ 2 → dst j ≠ s) → T s = T0 s) → (∀ j, j < m → kind j ≤ 1 → T (dst j) = V j) →
      (∀ j, j < m → kind j = 2 → T (dst j) = .pointer (some ⟨B j, 0, none⟩) ∧ w.heap.size ≤ B j ∧ w'.heap[B j]? = some (.cells (C j) (Y j) (0, 0))) →
      (∀ j q, j < m → q < m → kind j = 2 → kind q = 2 → j ≠ q → B j ≠ B q) → J K w' → Kp L w w' → Q .normal (frameOf N T) w') :
    (Code.region id ops true).wp Tryz.prog Q (frameOf N T0) w := by
  have hL0 : ∀ x ∈ L, x < w.drew.heap.size := hL
  refine wp_region_any hm (wpAny_inv (fun l a w' => ∃ T, a = frameOf N T ∧ JInv m K L J w.drew T0 dst kind pos mate V Z C Y l T w') ?_ ?_ ops.size (Array.replicate ops.size false) _ _ (by simp) ?_ ?_)
  · -- all have come up
    rintro l a w' hs ⟨T, rfl, h⟩ hr
    have hsz : l.size = m := by rw [hs, hO.size]
    have la := hO.fin l hsz hr
    have hb2 : ∃ B : Nat → Nat, ∀ i, i < m → kind i = 2 → T (dst i) = .pointer (some ⟨B i, 0, none⟩) ∧ w.heap.size ≤ B i ∧ w'.heap[B i]? = some (.cells (C i) (Y i) (0, 0)) := by
      have hb : ∀ i, i < m ∧ kind i = 2 → ∃ b, T (dst i) = .pointer (some ⟨b, 0, none⟩) ∧ w.heap.size ≤ b ∧ w'.heap[b]? = some (.cells (C i) (Y i) (0, 0)) := by
        rintro i ⟨hi, hk⟩
        obtain ⟨b, h1, h2, h3⟩ := h.ald i hi hk (la i hi)
        have hst := la (mate i) (hO.alloc i hi hk).2.1
        rw [if_pos hst] at h3
        exact ⟨b, h1, h2, h3⟩
      refine ⟨fun i => if hi : i < m ∧ kind i = 2 then (hb i hi).choose else 0, fun i hi hk => ?_⟩
      simp only [hi, hk, and_self, dif_pos]
      exact (hb i ⟨hi, hk⟩).choose_spec
    obtain ⟨B, hB⟩ := hb2
    obtain ⟨c, hc, hc1, hc2⟩ := h.cnt
    have hck : c = K := by
      by_cases e : c < K
      · obtain ⟨i, hi, hk, hp⟩ := hO.psur c e
        have := hc1 i hi hk
        rw [la i hi] at this
        have := of_decide_eq_true this.symm
        omega
      · omega
    subst hck
    refine hQ T B w' h.mid.out (fun j hj hk => h.mid.val j hj hk (la j hj)) hB (fun j q hj hq hkj hkq hne e => ?_) hc2 h.kpw.undrew
    exact h.dis j q hj hq hkj hkq hne (la j hj) (la q hq) (by rw [(hB j hj hkj).1, (hB q hq hkq).1, e])
  · -- one comes up
    rintro l a w' i hs ⟨T, rfl, h⟩ hr
    have hsz : l.size = m := by rw [hs, hO.size]
    obtain ⟨hil, hun⟩ := ready_lt hr
    rw [hO.size] at hil
    have hnl := false_of_true (l := l) (by omega) hun
    obtain ⟨o, h1, h5, h2⟩ := hO.op i hil
    have hk3 := hO.kinds i hil
    refine wpOp_of h1 h5 ?_
    unfold Oper.wp
    -- what a new value in slot 'dst i' keeps
    have keepOut : kind i ≤ 2 → ∀ v s, (∀ j, j < m → kind j ≤ 2 → dst j ≠ s) → updV T (dst i) v s = T0 s := fun hk v s hsn => by
      rw [updV_ne (fun e => hsn i hil hk e.symm)]; exact h.mid.out s hsn
    have keepAt : kind i ≤ 2 → ∀ v j, j < m → kind j ≤ 2 → j ≠ i → updV T (dst i) v (dst j) = T (dst j) := fun hk v j hj hkj hne =>
      updV_ne (fun e => hne (hO.inj j hj i hil hkj hk e))
    -- a step that keeps the new blocks and does not touch kinds 2 and 3
    by_cases k0 : kind i = 0
    · rw [if_pos (by omega)] at h2
      obtain ⟨c, hc, hc1, hc2⟩ := h.cnt
      rw [hO.read i hil k0 l T w' o c hr h.mid h.kpw hc2 hc1 h1, Oper.upon_value, h2, frame_put]
      refine ⟨_, rfl, ⟨⟨keepOut (by omega) _, ?_⟩, ?_, ?_, ?_, ?_, h.kpw⟩⟩
      · intro j hj hkj hl
        by_cases e : j = i
        · subst e; exact updV_same _ _ _
        · rw [get_set (fun x => e x.symm)] at hl
          rw [keepAt (by omega) _ j hj (by omega) e]; exact h.mid.val j hj hkj hl
      · intro j hj hkj hl
        have e : j ≠ i := fun x => by subst x; omega
        have e2 : mate j ≠ i := fun x => by have := (hO.alloc j hj hkj).2.2.1; rw [x] at this; omega
        rw [get_set (fun x => e x.symm)] at hl
        rw [keepAt (by omega) _ j hj (by omega) e, get_set (fun x => e2 x.symm)]; exact h.ald j hj hkj hl
      · intro j q hj hq hkj hkq hne hl1 hl2
        have e : j ≠ i := fun x => by subst x; omega
        have e' : q ≠ i := fun x => by subst x; omega
        rw [get_set (fun x => e x.symm)] at hl1
        rw [get_set (fun x => e' x.symm)] at hl2
        rw [keepAt (by omega) _ j hj (by omega) e, keepAt (by omega) _ q hq (by omega) e']; exact h.dis j q hj hq hkj hkq hne hl1 hl2
      · exact ⟨c, hc, fun j hj hkj => by rw [get_set (fun x => by subst x; unfold isCh at hkj; omega)]; exact hc1 j hj hkj, hc2⟩
      · intro j hj hkj hl
        have e : j ≠ i := fun x => by subst x; omega
        have e2 : mate j ≠ i := fun x => by have := (hO.alloc j hj hkj).2.2.1; rw [x] at this; omega
        rw [get_set (fun x => e2 x.symm)] at hl
        rw [get_set (fun x => e x.symm)]; exact h.sal j hj hkj hl
    by_cases kc : isCh (kind i)
    · obtain ⟨hpK, hch⟩ := hO.chain i hil kc
      obtain ⟨c, hc, hc1, hc2⟩ := h.cnt
      have hcq : c = pos i := by
        have a1 : ¬ pos i < c := by
          have := hc1 i hil kc
          rw [hnl] at this
          exact of_decide_eq_false this.symm
        have a2 : ¬ c < pos i := fun hlt => by
          obtain ⟨q, hq, hkq, hpq⟩ := hO.psur (pos i - 1) (by omega)
          have := hc1 q hq hkq
          rw [hch l hr q hq hkq (by omega)] at this
          have := of_decide_eq_true this.symm
          omega
        omega
      subst hcq
      have alds : ∀ w2, Kp L w' w2 → ∀ j, j < m → kind j = 2 → l.getD j false = true → ∃ b, T (dst j) = .pointer (some ⟨b, 0, none⟩) ∧ w.drew.heap.size ≤ b ∧
          w2.heap[b]? = some (.cells (if l.getD (mate j) false = true then C j else Z j) (Y j) (0, 0)) := fun w2 hk2 j hj hkj hl => by
        obtain ⟨b, h6, h7, h8⟩ := h.ald j hj hkj hl
        exact ⟨b, h6, h7, (hk2.block b (blk_lt h8) (fun x => by have := hL0 b x; omega)).trans h8⟩
      have cnts : ∀ w2, J (pos i + 1) w2 → ∃ c, c ≤ K ∧ (∀ j, j < m → isCh (kind j) → (l.setIfInBounds i true).getD j false = decide (pos j < c)) ∧ J c w2 := fun w2 hj2 => by
        refine ⟨pos i + 1, by omega, fun j hj hkj => ?_, hj2⟩
        by_cases e : j = i
        · subst e; rw [get_self (by omega)]; exact (decide_eq_true (by omega)).symm
        · rw [get_set (fun x => e x.symm), hc1 j hj hkj]
          have : pos j ≠ pos i := fun x => e (hO.pinj j hj i hil hkj kc (by omega))
          by_cases e2 : pos j < pos i
          · rw [decide_eq_true e2, decide_eq_true (by omega)]
          · rw [decide_eq_false e2, decide_eq_false (by omega)]
      have sals : ∀ j, j < m → kind j = 2 → (l.setIfInBounds i true).getD (mate j) false = true → (l.setIfInBounds i true).getD j false = true := fun j hj hkj hl => by
        unfold isCh at kc
        have e : j ≠ i := fun x => by subst x; omega
        have e2 : mate j ≠ i := fun x => by have := (hO.alloc j hj hkj).2.2.1; rw [x] at this; omega
        rw [get_set (fun x => e2 x.symm)] at hl
        rw [get_set (fun x => e x.symm)]; exact h.sal j hj hkj hl
      rcases kc with k1 | k5
      · rw [if_pos (by omega)] at h2
        obtain ⟨F, args, hrun, hcon⟩ := hO.call i hil k1 l T w' o hr h.mid h.kpw hc2 h1
        rw [hrun]
        unfold Oper.upon
        refine Calls.mono hcon ?_
        rintro x w2 ⟨rfl, hE2, hk2⟩
        simp only []
        rw [h2, frame_put]
        refine ⟨_, rfl, ⟨⟨keepOut (by omega) _, ?_⟩, ?_, ?_, cnts w2 hE2, sals, h.kpw.trans hk2⟩⟩
        · intro j hj hkj hl
          by_cases e : j = i
          · subst e; exact updV_same _ _ _
          · rw [get_set (fun x => e x.symm)] at hl
            rw [keepAt (by omega) _ j hj (by omega) e]; exact h.mid.val j hj hkj hl
        · intro j hj hkj hl
          have e : j ≠ i := fun x => by subst x; omega
          have e2 : mate j ≠ i := fun x => by have := (hO.alloc j hj hkj).2.2.1; rw [x] at this; omega
          rw [get_set (fun x => e x.symm)] at hl
          rw [keepAt (by omega) _ j hj (by omega) e, get_set (fun x => e2 x.symm)]
          exact alds w2 hk2 j hj hkj hl
        · intro j q hj hq hkj hkq hne hl1 hl2
          have e : j ≠ i := fun x => by subst x; omega
          have e' : q ≠ i := fun x => by subst x; omega
          rw [get_set (fun x => e x.symm)] at hl1
          rw [get_set (fun x => e' x.symm)] at hl2
          rw [keepAt (by omega) _ j hj (by omega) e, keepAt (by omega) _ q hq (by omega) e']; exact h.dis j q hj hq hkj hkq hne hl1 hl2
      · rw [if_neg (by omega)] at h2
        obtain ⟨w2, hrun, hE2, hk2⟩ := hO.eff i hil k5 l T w' o hr h.mid h.kpw hc2 h1
        rw [hrun, Oper.upon_skip, h2]
        refine ⟨T, rfl, ⟨⟨h.mid.out, ?_⟩, ?_, ?_, cnts w2 hE2, sals, h.kpw.trans hk2⟩⟩
        · intro j hj hkj hl
          have e : j ≠ i := fun x => by subst x; omega
          rw [get_set (fun x => e x.symm)] at hl
          exact h.mid.val j hj hkj hl
        · intro j hj hkj hl
          have e : j ≠ i := fun x => by subst x; omega
          have e2 : mate j ≠ i := fun x => by have := (hO.alloc j hj hkj).2.2.1; rw [x] at this; omega
          rw [get_set (fun x => e x.symm)] at hl
          rw [get_set (fun x => e2 x.symm)]
          exact alds w2 hk2 j hj hkj hl
        · intro j q hj hq hkj hkq hne hl1 hl2
          have e : j ≠ i := fun x => by subst x; omega
          have e' : q ≠ i := fun x => by subst x; omega
          rw [get_set (fun x => e x.symm)] at hl1
          rw [get_set (fun x => e' x.symm)] at hl2
          exact h.dis j q hj hq hkj hkq hne hl1 hl2
    by_cases k2 : kind i = 2
    · rw [if_pos (by omega)] at h2
      obtain ⟨hal, hm1, hm2, hm3⟩ := hO.alloc i hil k2
      rw [hal T w' o h1, Oper.upon_value, h2, frame_put]
      refine ⟨_, rfl, ⟨⟨keepOut (by omega) _, ?_⟩, ?_, ?_, ?_, ?_, h.kpw.alloc _⟩⟩
      · intro j hj hkj hl
        have e : j ≠ i := fun x => by subst x; omega
        rw [get_set (fun x => e x.symm)] at hl
        rw [keepAt (by omega) _ j hj (by omega) e]; exact h.mid.val j hj hkj hl
      · intro j hj hkj hl
        have e2 : mate j ≠ i := fun x => by have := (hO.alloc j hj hkj).2.2.1; rw [x] at this; omega
        rw [get_set (fun x => e2 x.symm)]
        by_cases e : j = i
        · subst e
          have hst : ¬ l.getD (mate j) false = true := fun hl2 => by have := h.sal j hj hkj hl2; rw [hnl] at this; cases this
          rw [updV_same, if_neg hst]
          exact ⟨_, rfl, h.kpw.size, heap_alloc_new w' _⟩
        · rw [get_set (fun x => e x.symm)] at hl
          rw [keepAt (by omega) _ j hj (by omega) e]
          obtain ⟨b, h6, h7, h8⟩ := h.ald j hj hkj hl
          exact ⟨b, h6, h7, (Below.heap_alloc w' _ b (blk_lt h8)).trans h8⟩
      · intro j q hj hq hkj hkq hne hl1 hl2
        have newNe : ∀ x, x < m → kind x = 2 → l.getD x false = true → T (dst x) ≠ .pointer (some ⟨w'.heap.size, 0, none⟩) := by
          intro x hx hkx hlx
          obtain ⟨b, h6, h7, h8⟩ := h.ald x hx hkx hlx
          rw [h6]
          have := blk_lt h8
          intro he
          injection he with he
          injection he with he
          injection he with he1
          omega
        by_cases e : j = i
        · subst e
          rw [get_set hne] at hl2
          rw [updV_same, keepAt (by omega) _ q hq (by omega) (fun x => hne x.symm)]
          exact fun x => newNe q hq hkq hl2 x.symm
        · rw [get_set (fun x => e x.symm)] at hl1
          by_cases e' : q = i
          · subst e'
            rw [updV_same, keepAt (by omega) _ j hj (by omega) e]
            exact newNe j hj hkj hl1
          · rw [get_set (fun x => e' x.symm)] at hl2
            rw [keepAt (by omega) _ j hj (by omega) e, keepAt (by omega) _ q hq (by omega) e']; exact h.dis j q hj hq hkj hkq hne hl1 hl2
      · obtain ⟨c, hc, hc1, hc2⟩ := h.cnt
        have hsz' : w.heap.size ≤ w'.heap.size := h.kpw.size
        exact ⟨c, hc, fun j hj hkj => by rw [get_set (fun x => by subst x; unfold isCh at hkj; omega)]; exact hc1 j hj hkj, hJ c w' _ hc2 (fun k hk => Below.heap_alloc w' _ k (by omega))⟩
      · intro j hj hkj hl
        have e2 : mate j ≠ i := fun x => by have := (hO.alloc j hj hkj).2.2.1; rw [x] at this; omega
        rw [get_set (fun x => e2 x.symm)] at hl
        by_cases e : j = i
        · subst e; exact get_self (by omega) _
        · rw [get_set (fun x => e x.symm)]; exact h.sal j hj hkj hl
    · have k3 : kind i = 3 := by unfold isCh at kc; omega
      rw [if_neg (by omega)] at h2
      obtain ⟨hm1, hm2, hm3, hst⟩ := hO.store i hil k3
      have hla := hO.mated i hil k3 l hr
      obtain ⟨b, h6, h7, h8⟩ := h.ald (mate i) hm1 hm2 hla
      rw [hm3, if_neg (by rw [hnl]; decide)] at h8
      obtain ⟨w2, hrun, hb2, hk2⟩ := hst l T w' o b hr h.mid h1 h6 h8
      rw [hrun, Oper.upon_skip, h2]
      refine ⟨T, rfl, ⟨⟨h.mid.out, ?_⟩, ?_, ?_, ?_, ?_, h.kpw.step hk2 (fun x hx => .inr (by rw [List.mem_singleton] at hx; subst hx; exact h7))⟩⟩
      · intro j hj hkj hl
        have e : j ≠ i := fun x => by subst x; omega
        rw [get_set (fun x => e x.symm)] at hl
        exact h.mid.val j hj hkj hl
      · intro j hj hkj hl
        have e : j ≠ i := fun x => by subst x; omega
        rw [get_set (fun x => e x.symm)] at hl
        by_cases e2 : j = mate i
        · subst e2
          rw [hm3, get_self (by omega), if_pos rfl]
          exact ⟨b, h6, h7, hb2⟩
        · have e3 : mate j ≠ i := fun x => e2 (by rw [← (hO.alloc j hj hkj).2.2.2, x])
          rw [get_set (fun x => e3 x.symm)]
          obtain ⟨b', h9, h10, h11⟩ := h.ald j hj hkj hl
          refine ⟨b', h9, h10, (hk2.block b' (blk_lt h11) (fun he => ?_)).trans h11⟩
          rw [List.mem_singleton] at he
          subst he
          exact h.dis j (mate i) hj hm1 hkj hm2 e2 hl hla (h9.trans h6.symm)
      · intro j q hj hq hkj hkq hne hl1 hl2
        have e : j ≠ i := fun x => by subst x; omega
        have e' : q ≠ i := fun x => by subst x; omega
        rw [get_set (fun x => e x.symm)] at hl1
        rw [get_set (fun x => e' x.symm)] at hl2
        exact h.dis j q hj hq hkj hkq hne hl1 hl2
      · obtain ⟨c, hc, hc1, hc2⟩ := h.cnt
        have hsz' : w.heap.size ≤ w'.heap.size := h.kpw.size
        exact ⟨c, hc, fun j hj hkj => by rw [get_set (fun x => by subst x; unfold isCh at hkj; omega)]; exact hc1 j hj hkj, hJ c w' _ hc2 (fun k hk => hk2.block k (by omega) (fun hx => by rw [List.mem_singleton] at hx; subst hx; have : w.heap.size ≤ k := h7; omega))⟩
      · intro j hj hkj hl
        have e : j ≠ i := fun x => by subst x; omega
        rw [get_set (fun x => e x.symm)]
        by_cases e2 : mate j = i
        · have : j = mate i := by rw [← (hO.alloc j hj hkj).2.2.2, e2]
          rw [this]; exact hla
        · rw [get_set (fun x => e2 x.symm)] at hl; exact h.sal j hj hkj hl
  · -- the fuel
    have : ∀ q, unl (Array.replicate ops.size false) q ≤ q := by
      intro q
      induction q with
      | zero => exact Nat.le_refl _
      | succ q ih => unfold unl; split <;> omega
    exact this _
  · -- the start
    have hf : ∀ i, (Array.replicate ops.size false).getD i false = false := by
      intro i
      simp only [Array.getD]
      split
      · simp
      · rfl
    refine ⟨T0, rfl, ⟨⟨fun _ _ => rfl, ?_⟩, ?_, ?_, ⟨0, Nat.zero_le _, ?_, hj0⟩, ?_, Kp.refl _ _⟩⟩
    · intro i _ _ h; rw [hf] at h; cases h
    · intro i _ _ h; rw [hf] at h; cases h
    · intro i j _ _ _ _ _ h; rw [hf] at h; cases h
    · intro i _ _; rw [hf]; exact (decide_eq_false (by omega)).symm
    · intro i _ _ h; rw [hf] at h; cases h
end Go.Proofs.YtiommpdbbpddpaaGreat

/- A law for regions that draw their order, with guards: reads whose values are known, and a chain of operations of any kind (calls, new blocks, stores), told by what has become of the world and of their own values. -/
namespace Go.Proofs.YtiommpdbbpddpaaGreat
open Go.RowKit

/-- a property of the first n places, one by one -/
def AllTo (P : Nat → Prop) : Nat → Prop
  | 0 => True
  | n + 1 => AllTo P n ∧ P n
theorem AllTo.all {P : Nat → Prop} : ∀ {n : Nat}, AllTo P n → ∀ i, i < n → P i
  | 0, _, i, h => by omega
  | n + 1, ⟨h1, h2⟩, i, h => by
    by_cases e : i = n
    · subst e; exact h2
    · exact h1.all i (by omega)

/-- the values of the operations of the chain, by their places -/
def chV (m : Nat) (kind : Nat → Nat) (dst : Nat → Nat) (T : Nat → Value) : Nat → Value := fun i => if i < m ∧ kind i = 1 then T (dst i) else undef
/-- the tables of a region: m operations over a frame of N slots, a chain of K; dst: the slot (N: none); kind: 0 a read, 1 of the chain, 2 free (a new block at any time); pos: its place in the chain; inv: a slot's operation (m: none); chi: a place's operation; isg: is it guarded; act: is it wanted; gd, gb: its guard -/
structure RSt where
  m : Nat
  N : Nat
  K : Nat
  dst : Nat → Nat
  kind : Nat → Nat
  pos : Nat → Nat
  inv : Nat → Nat
  chi : Nat → Nat
  isg : Nat → Bool
  act : Nat → Bool
  gd : Nat → Nat
  gb : Nat → Bool
/-- and the values; X: is it known; L: the blocks that may change; E: what else the chain has left; F: what a free operation leaves -/
structure RTab extends RSt where
  V : Nat → Value
  X : Nat → Bool
  L : List Nat
  E : Nat → (Nat → Value) → World → Prop
  F : Nat → Value → World → Prop
/-- how far the chain has come -/
def Come (t : RSt) (c : Nat) (l : Array Bool) : Prop := ∀ j, j < t.m → t.kind j = 1 → l.getD j false = decide (t.pos j < c)
structure SMid (t : RTab) (w0 : World) (T0 : Nat → Value) (c : Nat) (l : Array Bool) (T : Nat → Value) (w : World) : Prop where
  out : ∀ s, t.inv s = t.m → T s = T0 s
  val : ∀ j, j < t.m → t.kind j = 0 → l.getD j false = true → T (t.dst j) = t.V j
  cval : ∀ j, j < t.m → t.kind j = 1 → t.X j = true → l.getD j false = true → T (t.dst j) = t.V j
  free : ∀ j, j < t.m → t.kind j = 2 → l.getD j false = true → t.F j (T (t.dst j)) w
  come : Come t.toRSt c l
  kp : Kp t.L w0 w
  ext : t.E c (chV t.m t.kind t.dst T) w
  old : ∀ s, t.inv s < t.m → l.getD (t.inv s) false = false → T s = T0 s
/-- where an operation of the chain leaves off -/
def After (t : RTab) (i : Nat) (T : Nat → Value) (w : World) (a' : Act) (w' : World) : Prop :=
  ∃ T', a' = frameOf t.N T' ∧ (∀ s, s ≠ t.dst i ∨ t.dst i = t.N → T' s = T s) ∧ Kp t.L w w' ∧ (t.X i = true → T' (t.dst i) = t.V i) ∧ t.E (t.pos i + 1) (chV t.m t.kind t.dst T') w'
/-- k is tgt, or waits for it, over a few others at most -/
def reach (ops : Array Oper) (tgt : Nat) : Nat → Nat → Bool
  | 0, k => k == tgt
  | n + 1, k => k == tgt || (match ops[k]? with
    | none => false
    | some o => o.after.any fun e => Region.binds .any e && reach ops tgt n e.on)
def Closed (ops : Array Oper) (l : Array Bool) : Prop := ∀ j o, ops[j]? = some o → l.getD j false = true → ∀ e, e ∈ o.after → Region.binds .any e = true → l.getD e.on false = true
def regOk (ops : Array Oper) (t : RSt) : Bool :=
  ops.size == t.m && (List.range t.m).all fun i => match ops[i]? with
    | none => false
    | some o => (o.dst == (if t.dst i = t.N then none else some (t.dst i))) && o.after.all (fun e => !Region.binds .any e || decide (e.on < i)) &&
      (match o.guard with
        | none => t.act i && !t.isg i
        | some (g, b) => g == t.gd i && b == t.gb i && t.isg i && decide (g < t.m) && t.kind g == 0 && o.after.any (fun e => e.on == g && Region.binds .any e)) &&
      (t.kind i != 1 || t.pos i == 0 || o.after.any (fun e => Region.binds .any e && reach ops (t.chi (t.pos i - 1)) 2 e.on))
structure RFit (t : RSt) : Prop where
  kinds : ∀ i, i < t.m → t.kind i ≤ 2
  dsts : ∀ i, i < t.m → (t.dst i < t.N ∧ t.inv (t.dst i) = i) ∨ (t.dst i = t.N ∧ t.kind i = 1)
  poss : ∀ i, i < t.m → t.kind i = 1 → t.pos i < t.K ∧ t.chi (t.pos i) = i
  chis : ∀ c, c < t.K → t.chi c < t.m ∧ t.kind (t.chi c) = 1 ∧ t.pos (t.chi c) = c
/-- what is left to show of a region's operations, beside what is reckoned -/
structure ROps (ops : Array Oper) (t : RTab) (w0 : World) (T0 : Nat → Value) : Prop where
  ok : regOk ops t.toRSt = true
  gv : ∀ i, i < t.m → t.isg i = true → t.act i = true ∧ t.V (t.gd i) = .bool (t.gb i) ∨ t.act i = false ∧ t.V (t.gd i) = .bool (!t.gb i) ∧ t.kind i = 0 ∧ t.V i = undef
  read : ∀ i, i < t.m → t.kind i = 0 → t.act i = true → ∀ l T w o c, i ∈ Region.ready .any ops l → Closed ops l → SMid t w0 T0 c l T w → ops[i]? = some o →
    (execOp (frameOf t.N T).eval o).run Tryz.prog w = .ok (.value (t.V i)) w
  chain : ∀ i, i < t.m → t.kind i = 1 → ∀ l T w o, i ∈ Region.ready .any ops l → Closed ops l → SMid t w0 T0 (t.pos i) l T w → (t.dst i < t.N → ∀ v, chV t.m t.kind t.dst (updV T (t.dst i) v) = updV (chV t.m t.kind t.dst T) i v) → ops[i]? = some o →
    ∀ Q, o.wp Tryz.prog (frameOf t.N T) w (After t i T w) Q
  free : ∀ i, i < t.m → t.kind i = 2 → ∀ l T w o c, i ∈ Region.ready .any ops l → Closed ops l → SMid t w0 T0 c l T w → ops[i]? = some o →
    ∃ u w', (execOp (frameOf t.N T).eval o).run Tryz.prog w = .ok (.value u) w' ∧ t.F i u w' ∧ Kp t.L w w'

/-! an operation of the chain: a call, a value, an effect -/
section
variable {t : RTab} {o : Oper} {i F : Nat} {T : Nat → Value} {w w' : World} {args : Array Value} {v : Value} {Q : Exit → Act → World → Prop}
end
end Go.Proofs.YtiommpdbbpddpaaGreat

/- The operations of regions, one equation each, for the law of regions. -/
namespace Go.Proofs.YtiommpdbbpddpaaGreat
open Go.RowKit

theorem frame_list (N : Nat) (T : Nat → Value) : frameOf N T = ⟨((List.range' 0 N).map T).toArray, []⟩ := by
  unfold frameOf
  simp only [Act.mk.injEq, and_true]
  apply Array.ext
  · simp
  · intro i h1 h2
    simp
section
variable {a : Act} {w : World} {o : Oper}
theorem op_mv {x : Operand} {v : Value} (h : o.op = .move x) (hx : a.eval x = v) : (execOp a.eval o).run Tryz.prog w = .ok (.value v) w := by
  generalize a.eval = r at *
  simp [execOp, h, hx]
theorem op_as {x : Operand} {v : Value} (h : o.op = .assign x) (hx : a.eval x = v) : (execOp a.eval o).run Tryz.prog w = .ok (.value v) w := by
  generalize a.eval = r at *
  simp [execOp, h, hx]
theorem op_call2 {F : Nat} {x y : Operand} {ty : Array TypeId} {u v : Value} (he : ∀ args w, (callFunc F args).run Tryz.prog w = .ok (.enter F args) w) (h : o.op = .call { callee := .value (.func F), args := #[x, y], argTypes := ty }) (hx : a.eval x = u) (hy : a.eval y = v) :
    (execOp a.eval o).run Tryz.prog w = .ok (.enter F #[u, v]) w := by
  have hf : a.eval (.func F) = .func (.func F) #[] #[] := rfl
  generalize a.eval = r at *
  simp [execOp, h, hx, hy, hf, go_sem, he]
end
end Go.Proofs.YtiommpdbbpddpaaGreat

/- A law for regions that draw their order, by reflection: what is read, moved and passed on is reckoned once for the whole region; calls, new blocks and other operations are told one by one. -/
namespace Go.Proofs.YtiommpdbbpddpaaGreat
open Go.RowKit

/-- a value told by letters -/
inductive SV where
  | at (k : Nat)
  | tup (l : List Nat)
  | fn (F : Nat) (caps : List Nat)
  | str (l : List UInt8)
  | num (k : IntKind) (z : Int)
  | bool (b : Bool)
  | un
  deriving DecidableEq
def SV.den (ρ : Nat → Value) : SV → Value
  | .at k => ρ k
  | .tup l => .tuple (l.map ρ).toArray
  | .fn F caps => .func (.func F) #[] (caps.map ρ).toArray
  | .str l => .string ⟨l.toArray⟩
  | .num k z => .int k z
  | .bool b => .bool b
  | .un => undef

structure RSy where
  st : RSt
  Sy : Nat → SV
  outs : List (Nat × SV)
  X : Nat → Bool
def findOut (s : Nat) : List (Nat × SV) → Option SV
  | [] => none
  | (k, v) :: l => if k = s then some v else findOut s l
def depB (ops : Array Oper) (i j : Nat) : Bool := match ops[i]? with
  | none => false
  | some o => o.after.any fun e => e.on == j && Region.binds .any e
def srcOf (ops : Array Oper) (y : RSy) (i d : Nat) : Option SV :=
  if d < y.st.N then
    if y.st.inv d = y.st.m then findOut d y.outs
    else if y.st.inv d < y.st.m ∧ y.st.dst (y.st.inv d) = d ∧ (y.st.kind (y.st.inv d) = 0 ∨ y.st.kind (y.st.inv d) = 1 ∧ y.X (y.st.inv d) = true) ∧ depB ops i (y.st.inv d) = true then some (y.Sy (y.st.inv d))
    else if y.st.inv d < y.st.m ∧ reach ops i 4 (y.st.inv d) = true then findOut d y.outs else none
  else none
def opdOf (ops : Array Oper) (y : RSy) (i : Nat) : Operand → Option SV
  | .tmp d => srcOf ops y i d
  | .func F => some (.fn F [])
  | .const (.string b) => some (.str b.data.toList)
  | .const (.int k z) => some (.num k z)
  | .const (.bool b) => some (.bool b)
  | _ => none
/-- a property of each of a list -/
def Each {α : Type} (P : α → Prop) : List α → Prop
  | [] => True
  | x :: l => P x ∧ Each P l
theorem Each.mem {α : Type} {P : α → Prop} : ∀ {l : List α}, Each P l → ∀ x ∈ l, P x
  | [], _, x, h => by cases h
  | y :: l, ⟨h1, h2⟩, x, h => by
    rcases List.mem_cons.1 h with rfl | h
    · exact h1
    · exact h2.mem x h

section
variable {ops : Array Oper} {y : RSy} {ρ : Nat → Value} {L : List Nat} {F : Nat → Value → World → Prop} {w0 w : World} {T0 T : Nat → Value} {c i : Nat} {l : Array Bool}
end
/-- what is known where operation i comes up -/
structure RHere (ops : Array Oper) (y : RSy) (ρ : Nat → Value) (L : List Nat) (F : Nat → Value → World → Prop) (w0 : World) (i : Nat) (T : Nat → Value) (w : World) : Prop where
  ev : ∀ x v, opdOf ops y i x = some v → (frameOf y.st.N T).eval x = v.den ρ
  fr : ∀ j, j < y.st.m → y.st.kind j = 2 → depB ops i j = true → F j (T (y.st.dst j)) w
  kp : Kp L w0 w
end Go.Proofs.YtiommpdbbpddpaaGreat
