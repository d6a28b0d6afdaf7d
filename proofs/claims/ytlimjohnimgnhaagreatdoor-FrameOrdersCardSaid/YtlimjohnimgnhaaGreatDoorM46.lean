/- Texts Qk1, Qk2, Un5: each says in its own first comment what it proves. -/
import Derived.Test.YtlimjohnimgnhaaGreatDoorM22
import Derived.Test.YtlimjohnimgnhaaGreatDoorM07
import Derived.Lib.SliceRun
import Derived.Laws.AppendOwn
import Derived.Test.YtlimjohnimgnhaaGreatDoorM49
import Derived.Test.YtlimjohnimgnhaaGreatDoorM39
import Derived.Test.YtlimjohnimgnhaaGreatDoorM13
import Derived.Test.YtlimjohnimgnhaaGreatDoorM31
import Derived.Test.YtlimjohnimgnhaaGreatDoorM47
import Derived.Lib.MinMax
/- Features: clones of frames and datums. -/
namespace Go.Proofs.YtlimjohnimgnhaaGreatDoor
open Go.RowKit

theorem flat_len {k : Nat} : ∀ {rows : List (List Value)}, (∀ r ∈ rows, r.length = k) → rows.flatten.length = rows.length * k
  | [], _ => by simp
  | r :: rs, h => by
    have h1 := h r (by simp)
    have h2 := flat_len (rows := rs) fun x hx => h x (by simp [hx])
    rw [List.flatten_cons, List.length_append, h1, h2, List.length_cons, Nat.succ_mul]; omega
theorem flat_at {k : Nat} : ∀ {rows : List (List Value)}, (∀ r ∈ rows, r.length = k) → ∀ i j, j < k → i < rows.length → rows.flatten[i * k + j]? = some ((rows.getD i []).getD j undef)
  | [], _, i, j, _, hi => absurd hi (by simp)
  | r :: rs, h, 0, j, hj, _ => by
    have h1 := h r (by simp)
    rw [List.flatten_cons, Nat.zero_mul, Nat.zero_add, List.getElem?_append_left (by omega)]
    show r[j]? = some (r.getD j undef)
    rw [List.getD_eq_getElem?_getD, List.getElem?_eq_getElem (by omega)]; rfl
  | r :: rs, h, i + 1, j, hj, hi => by
    have h1 := h r (by simp)
    have h2 := flat_at (rows := rs) (fun x hx => h x (by simp [hx])) i j hj (by simpa using hi)
    rw [List.flatten_cons, List.getElem?_append_right (by rw [h1, Nat.succ_mul]; omega), h1, Nat.succ_mul, show i * k + k + j - k = i * k + j by omega, h2]
    rfl
theorem cCloneFr_info : (Tryz.prog.info? 31).map (fun i => (i.zero, i.size, i.bytes)) = some (some (.agg #[.int .i64 0, .bool false, .int .i64 0, .int .i64 0, .slice none 0 0]), 5, 56) := by kernel_rfl
set_option maxRecDepth 100000 in
set_option maxHeartbeats 1000000 in
theorem cCloneFr (p : Option Addr) (l c : Nat) (rows : List (List Value)) (w : World) (h : Sl [] 5 w (.slice p l c) rows) (hr : ∀ r ∈ rows, r.length = 5 ∧ ∀ u ∈ r, u.oneCell' = true) (hl : l ≤ 1000) : Calls Tryz.prog 34 #[.slice p l c] w fun r W' => ∃ v', r = .returned v' ∧ W'.ownsRow w.heap.size 31 5 v' l rows.flatten ∧ Kb w W' := by
  obtain ⟨q, cap, e1, h2⟩ := h
  injection e1 with e2 e3 e4
  subst e2 e4
  have hflat := flat_len (rows := rows) fun r hx => (hr r hx).1
  have qn : ∀ (w : World) (a : Option Addr) (n c n' c' : Nat), (binOp .eql 26 (.slice a n c) (.slice none n' c')).run Tryz.prog w = .ok (.bool a.isNone) w := fun w a n c n' c' => Lib.run_eql_slice_nil w _ _ a n c n' c' Tryz.underlying26
  cases p with
  | none =>
    have hz : rows.length = 0 := by
      rcases Nat.eq_zero_or_pos rows.length with h | h
      · exact h
      · obtain ⟨b, off, e, _⟩ := h2 h; cases e
    have e5 : l = 0 := by omega
    subst e5
    clear h2 hr hl e3
    go_enter Tryz.func34, Tryz.ntmps34
    go_wp2
    go_ret
    exact ⟨_, rfl, ⟨by rw [hflat, hz], .inl ⟨rfl, rfl⟩⟩, Kb.refl _⟩
  | some ad =>
    have hat : ∀ j u, rows.flatten[j]? = some u → w.cell? (ad.add j) = some u := by
      intro j u hj
      have hjl : j < rows.length * 5 := by have := (List.getElem?_eq_some_iff.1 hj).1; omega
      obtain ⟨b, off, e, _, _, h6⟩ := h2 (by omega)
      injection e with e
      subst e
      have ej : j = j / 5 * 5 + j % 5 := by omega
      have h7 := h6 (j / 5) (by omega) (j % 5) (by omega)
      have h8 := flat_at (rows := rows) (fun r hx => (hr r hx).1) (j / 5) (j % 5) (by omega) (by omega)
      rw [← ej] at h8
      rw [Addr.add_lit, show off + j = off + j / 5 * 5 + j % 5 by omega, h7, ← h8, hj]
    have h1 : ∀ u ∈ rows.flatten, u.oneCell' = true := fun u hu => by
      obtain ⟨r, hr1, hr2⟩ := List.mem_flatten.1 hu
      exact (hr r hr1).2 u hr2
    have HAT := Lib.hid hat
    have H1 := Lib.hid h1
    have HL := Lib.hid hflat
    clear hat h1 hflat h2 hr
    obtain ⟨i0, hi, hz0, hz1, hz2⟩ := info_parts cCloneFr_info
    go_enter Tryz.func34, Tryz.ntmps34
    go_wp2_with (at_builtin; refine wpList_append_own _ rfl _ _ 26 rfl w.heap.size 31 i0 (.agg #[.int .i64 0, .bool false, .int .i64 0, .int .i64 0, .slice none 0 0]) 5 56 Tryz.underlying26 hi hz0 hz1 hz2 rfl (by decide) _ _ _ rfl (World.ownsRow_made w #[] 0 (Nat.le_refl _) (Nat.zero_le _) rfl) ad l c rows.flatten rfl ?qc1 ?qc2 ?qc3 ?qc4 ?qc5 ?qc6 ?_)
    case qc1 => rw [HL.out]; omega
    case qc2 => exact fun j u hj => cell_al (HAT.out j u hj) _
    case qc3 => exact H1.out
    case qc4 => unfold maxLen; omega
    case qc5 => omega
    case qc6 => simp
    intro v' w1 hown hgrow hnil
    go_wp2
    go_ret
    exact ⟨v', rfl, by rw [e3]; simpa using hown, ((Below.refl _ w).alloc (Nat.le_refl _) _).grown hgrow (by simp) (by intro k hk; simp [Value.ownBlock] at hk; omega)⟩
end Go.Proofs.YtlimjohnimgnhaaGreatDoor

/- Features: clones of a frame. -/
namespace Go.Proofs.YtlimjohnimgnhaaGreatDoor
open Go.RowKit

/-- v is a slice of rows of k cells, in a block from n on -/
def SlU (n k : Nat) (w : World) (v : Value) (rows : List (List Value)) : Prop :=
  ∃ (p : Option Addr) (cap : Nat), v = .slice p rows.length cap ∧ (0 < rows.length → ∃ b off, p = some ⟨b, off, none⟩ ∧ n ≤ b ∧ b < w.heap.size ∧ ∀ i, i < rows.length → ∀ j, j < k → w.cell? ⟨b, off + i * k + j, none⟩ = some ((rows.getD i []).getD j undef))
theorem SlU.sl {n k : Nat} {w : World} {v : Value} {rows : List (List Value)} (h : SlU n k w v rows) : Sl [] k w v rows := by
  obtain ⟨p, cap, h1, h2⟩ := h
  refine ⟨p, cap, h1, fun hp => ?_⟩
  obtain ⟨b, off, e, _, hb, hc⟩ := h2 hp
  exact ⟨b, off, e, hb, by simp, hc⟩
theorem SlU.same {n k : Nat} {w w' : World} {v : Value} {rows : List (List Value)} (h : SlU n k w v rows) (hs : w.heap.size ≤ w'.heap.size) (hb : ∀ b, n ≤ b → b < w.heap.size → w'.heap[b]? = w.heap[b]?) : SlU n k w' v rows := by
  obtain ⟨p, cap, h1, h2⟩ := h
  refine ⟨p, cap, h1, fun hp => ?_⟩
  obtain ⟨b, off, e, hn, hlt, hc⟩ := h2 hp
  exact ⟨b, off, e, hn, by omega, fun i hi j hj => (World.cell?_of_block (w := w) (hb b hn hlt)).trans (hc i hi j hj)⟩
theorem SlU.kb {n k : Nat} {w w' : World} {v : Value} {rows : List (List Value)} (h : SlU n k w v rows) (kk : Kb w w') : SlU n k w' v rows := h.same kk.size fun b _ hb => Below.block kk b hb
theorem SlU.alloc {n k : Nat} {w : World} {v : Value} {rows : List (List Value)} (h : SlU n k w v rows) (o : Obj) : SlU n k (w.alloc o) v rows := h.kb ((Kb.refl _).alloc o)
theorem SlU.far {n k : Nat} {w : World} {v : Value} {rows : List (List Value)} (h : SlU n k w v rows) {p : Addr} (hp : p.block < n) (u : Value) : SlU n k (w.setCell p u) v rows := h.same (by simp) fun b hb _ => Below.heap_setCell w p u b (by omega)
theorem SlU.mono {n m k : Nat} {w : World} {v : Value} {rows : List (List Value)} (h : SlU n k w v rows) (hm : m ≤ n) : SlU m k w v rows := by
  obtain ⟨p, cap, h1, h2⟩ := h
  refine ⟨p, cap, h1, fun hp => ?_⟩
  obtain ⟨b, off, e, hn, r⟩ := h2 hp
  exact ⟨b, off, e, by omega, r⟩
theorem own_slU {base k l : Nat} {e : TypeId} {w : World} {v : Value} {rows : List (List Value)} (h : w.ownsRow base e k v l rows.flatten) (hl : l = rows.length) (hr : ∀ r ∈ rows, r.length = k) : SlU base k w v rows := by
  obtain ⟨_, ⟨rfl, h0⟩ | ⟨g, cap, cur, rfl, hb, hh, hn, hc, hz, ht⟩⟩ := h
  · exact ⟨none, 0, by rw [← hl, h0], fun hp => absurd hp (by omega)⟩
  · subst hl
    refine ⟨some ⟨g, 0, none⟩, cap, rfl, fun _ => ⟨g, 0, rfl, hb, ?_, fun i hi j hj => ?_⟩⟩
    · exact (Array.getElem?_eq_some_iff.1 hh).1
    · have h8 := flat_at hr i j hj hi
      have hlt : i * k + j < rows.length * k := by
        have := Nat.mul_le_mul_right k (show i + 1 ≤ rows.length by omega)
        rw [Nat.succ_mul] at this; omega
      rw [← ht, List.getElem?_take, if_pos hlt] at h8
      unfold World.cell?
      rw [hh, Nat.zero_add]
      show cur[i * k + j]? = _
      rw [← h8]; simp
end Go.Proofs.YtlimjohnimgnhaaGreatDoor

/- Frames: the law FrameChecks. -/
namespace Go.Proofs.YtlimjohnimgnhaaGreatDoor
open Go.RowKit

theorem bits_letters : ∀ f : Nat, f < 9 → ∀ k : Nat, k < 5 → (bits .and .i64 (kF f) (setV (k : Int)) == 0) = !(hsB (rF f) (k : Int)) ∧ (bits .and .i64 (kD f) (setV (k : Int)) == 0) = !(hsB (rD f) (k : Int)) ∧ (bits .and .i64 (kM f) (setV (k : Int)) == 0) = !(mmB (k : Int) (f : Int)) ∧ kL f = rL f ∧ kT f = rM f := by decide
theorem few_n2 {n : ByteArray} {fs : List FrT} (h : fewB n fs = true) : n.size ≤ 1000000 := by
  unfold fewB fewN at h
  simp only [Bool.and_eq_true, decide_eq_true_eq] at h
  omega
theorem firstE_app (l : List Int) (g : Int) : firstE (l ++ [g]) = if firstE l = 0 then g else firstE l := by
  induction l with
  | nil =>
    show firstE [g] = if (0 : Int) = 0 then g else 0
    rw [if_pos rfl]
    unfold firstE
    split
    · rename_i h; rw [h]; rfl
    · rfl
  | cons e l ih =>
    show firstE (e :: (l ++ [g])) = _
    rw [firstE, firstE, ih]
    by_cases h : e = 0
    · simp [h]
    · simp [h]
theorem tog_perm (n : ByteArray) (k : Int) (hk : 0 ≤ k ∧ k < 5) (f : Nat) (hf : f < 9) (fd : Bool) (ft fm : Int) (ds : List DatT) : tgE n k f fd ft fm ds = if permE k f fd ft fm ds.length = 0 then fE (dnB ds n) 7 else permE k f fd ft fm ds.length := by
  obtain ⟨q, rfl⟩ : ∃ q : Nat, k = (q : Int) := ⟨k.toNat, by omega⟩
  obtain ⟨h1, h2, h3, h4, h5⟩ := bits_letters f hf q (by omega)
  unfold tgE permE
  rw [h1, h2, h3, h4, h5]
  exact firstE_app [_, _, _, _, _, _] _
theorem fpE_dl {fk ft fm : Int} {ds : List DatT} (h : fpE fk ft fm ds = 0) : ds.length ≤ 3 := by
  rcases Nat.lt_or_ge 3 ds.length with hc | hc
  case inr => exact hc
  have h3 : (3 : Int) < (ds.length : Int) := by omega
  unfold fpE at h
  rw [decide_eq_true h3] at h
  simp only [firstE, fE] at h
  repeat' split at h
  all_goals first | omega | simp_all
theorem rfrCheck {w0 : World} (n : ByteArray) (k a x y z lo hi : Int) (fp : Option Addr) (fl fc : Nat) (fk : Int) (fd : Bool) (ft fm : Int) (dp : Option Addr) (dl dc : Nat) (ds : List DatT) (hnz : n.size ≤ 1000000) (hd : DatS w0 (.slice dp dl dc) ds) (hz : ∀ d ∈ ds, d.1.size ≤ 1000000) : Cf w0 14 #[.agg #[.string n, .int .i64 k, .int .i64 a, .int .i64 x, .int .i64 y, .int .i64 z, .int .i64 lo, .int .i64 hi, .slice fp fl fc], .agg #[.int .i64 fk, .bool fd, .int .i64 ft, .int .i64 fm, .slice dp dl dc]] (.int .i64 (fcE n k a x y z lo hi fk fd ft fm ds)) := Lib.hid fun w gl => by
  have q1 := rfCheck n k a x y z lo hi (.slice fp fl fc) hnz
  have q2 := rfPlain fk fd ft fm dp dl dc ds hd hz
  have hl := hd.len
  unfold fcE
  generalize he : ftE n k a x y z lo hi = ea at *
  by_cases e1 : ea = 0
  · have f1 : firstE [ea] = 0 := by rw [e1]; rfl
    generalize hp : fpE fk ft fm ds = eb at *
    by_cases e2 : eb = 0
    · have f2 : firstE [eb] = 0 := by rw [e2]; rfl
      have hk := ft_k (he.trans e1)
      have hf := fpE_k (hp.trans e2)
      have q3 := rperm n k a x y z lo hi fp fl fc fk fd ft fm dp dl dc hf hk
      rw [tog_perm n k hk fk.toNat (by omega) fd ft fm ds, ← hl]
      rw [f1, f2]
      have e0 : ∀ t : Int, firstE [0, 0, t] = t := fun t => by
        show firstE [t] = t
        unfold firstE
        split
        · rename_i h; rw [h]; rfl
        · rfl
      rw [e0]
      generalize permE k fk.toNat fd ft fm dl = ec at *
      by_cases e3 : ec = 0
      · rw [if_pos e3]
        by_cases h0 : dl = 0
        · subst h0
          obtain rfl : ds = [] := List.length_eq_zero_iff.1 hl.symm
          exact rCheckE_1 w0 n k a x y z lo hi fp fl fc fk fd ft fm dp dc ea eb ec q1 q2 q3 (by rw [e1]; rfl) (by rw [e2]; rfl) (by rw [e3]; rfl) w gl
        · obtain ⟨b, off, rfl, _⟩ := hd.at (by omega)
          exact rCheckD_1 w0 n k a x y z lo hi fp fl fc fk fd ft fm b off dl dc ea eb ec q1 q2 q3 (by rw [e1]; rfl) (by rw [e2]; rfl) (by rw [e3]; rfl) ds hd (by have := fpE_dl (hp.trans e2); omega) w gl
      · rw [if_neg e3]
        exact rCheckC_1 w0 n k a x y z lo hi fp fl fc fk fd ft fm dp dl dc ea eb ec q1 q2 q3 (by rw [e1]; rfl) (by rw [e2]; rfl) (by simpa using e3) w gl
    · have f2 : firstE [eb] = eb := by rw [firstE, if_neg e2]
      rw [f1, f2, show ∀ t : Int, firstE [0, eb, t] = eb from fun t => by show firstE [eb, t] = eb; rw [firstE, if_neg e2]]
      exact rCheckB_1 w0 n k a x y z lo hi fp fl fc fk fd ft fm dp dl dc ea eb q1 q2 (by rw [e1]; rfl) (by simpa using e2) w gl
  · have f1 : firstE [ea] = ea := by rw [firstE, if_neg e1]
    rw [f1, show ∀ s t : Int, firstE [ea, s, t] = ea from fun s t => by rw [firstE, if_neg e1]]
    exact rCheckA_1 w0 n k a x y z lo hi fp fl fc fk fd ft fm dp dl dc ea q1 (by simpa using e1) w gl
theorem fawakeC {w0 : World} : Cf w0 12 #[] (.bool true) := Lib.hid fun w gl => fawake_1 w0 w gl
theorem cFew {w0 : World} (n : ByteArray) (k a x y z lo hi : Int) (fp : Option Addr) (fl fc : Nat) (fs : List FrT) (hfr : FrS w0 (.slice fp fl fc) fs) : Cf w0 10 #[.agg #[.string n, .int .i64 k, .int .i64 a, .int .i64 x, .int .i64 y, .int .i64 z, .int .i64 lo, .int .i64 hi, .slice fp fl fc]] (.bool (fewB n fs)) := Lib.hid fun W g => rFew n k a x y z lo hi fp fl fc fs W (hfr.kb g.at0)
end Go.Proofs.YtlimjohnimgnhaaGreatDoor
