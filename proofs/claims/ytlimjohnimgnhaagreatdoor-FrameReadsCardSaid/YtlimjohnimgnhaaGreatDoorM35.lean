/- Texts Qk1, Qk2, Ux: each says in its own first comment what it proves. -/
import Derived.Test.YtlimjohnimgnhaaGreatDoorM38
import Derived.Test.YtlimjohnimgnhaaGreatDoorM28
import Derived.Lib.SliceRun
import Derived.Laws.AppendOwn
import Derived.Test.YtlimjohnimgnhaaGreatDoorM47
import Derived.Test.YtlimjohnimgnhaaGreatDoorM24
/- Features: clones of frames and datums. -/
namespace Go.Proofs.YtlimjohnimgnhaaGreatDoor
open Go.RowKit

theorem flat_len {k : Nat} : ∀ {rows : List (List Value)}, (∀ r ∈ rows, r.length = k) → rows.flatten.length = rows.length * k
  | [], _ => by simp
  | r :: rs, h => by
    have h1 := h r (by simp)
    have h2 := flat_len (rows := rs) fun x hx => h x (by simp [hx])
    rw [List.flatten_cons, List.length_append, h1, h2, List.length_cons, Nat.succ_mul]; omega
theorem flat_at {k : Nat} : ∀ {rows : List (List Value)}, (∀ r ∈ rows, r.length = k) → ∀ i j, j < k → i < rows.length → rows.flatten[i * k + j]? = some ((rows.getD i []).getD j undef)
  | [], _, i, j, _, hi => absurd hi (by simp)
  | r :: rs, h, 0, j, hj, _ => by
    have h1 := h r (by simp)
    rw [List.flatten_cons, Nat.zero_mul, Nat.zero_add, List.getElem?_append_left (by omega)]
    show r[j]? = some (r.getD j undef)
    rw [List.getD_eq_getElem?_getD, List.getElem?_eq_getElem (by omega)]; rfl
  | r :: rs, h, i + 1, j, hj, hi => by
    have h1 := h r (by simp)
    have h2 := flat_at (rows := rs) (fun x hx => h x (by simp [hx])) i j hj (by simpa using hi)
    rw [List.flatten_cons, List.getElem?_append_right (by rw [h1, Nat.succ_mul]; omega), h1, Nat.succ_mul, show i * k + k + j - k = i * k + j by omega, h2]
    rfl
theorem cCloneFr_info : (Tryz.prog.info? 31).map (fun i => (i.zero, i.size, i.bytes)) = some (some (.agg #[.int .i64 0, .bool false, .int .i64 0, .int .i64 0, .slice none 0 0]), 5, 56) := by kernel_rfl
set_option maxRecDepth 100000 in
set_option maxHeartbeats 1000000 in
theorem cCloneFr (p : Option Addr) (l c : Nat) (rows : List (List Value)) (w : World) (h : Sl [] 5 w (.slice p l c) rows) (hr : ∀ r ∈ rows, r.length = 5 ∧ ∀ u ∈ r, u.oneCell' = true) (hl : l ≤ 1000) : Calls Tryz.prog 34 #[.slice p l c] w fun r W' => ∃ v', r = .returned v' ∧ W'.ownsRow w.heap.size 31 5 v' l rows.flatten ∧ Kb w W' := by
  obtain ⟨q, cap, e1, h2⟩ := h
  injection e1 with e2 e3 e4
  subst e2 e4
  have hflat := flat_len (rows := rows) fun r hx => (hr r hx).1
  have qn : ∀ (w : World) (a : Option Addr) (n c n' c' : Nat), (binOp .eql 26 (.slice a n c) (.slice none n' c')).run Tryz.prog w = .ok (.bool a.isNone) w := fun w a n c n' c' => Lib.run_eql_slice_nil w _ _ a n c n' c' Tryz.underlying26
  cases p with
  | none =>
    have hz : rows.length = 0 := by
      rcases Nat.eq_zero_or_pos rows.length with h | h
      · exact h
      · obtain ⟨b, off, e, _⟩ := h2 h; cases e
    have e5 : l = 0 := by omega
    subst e5
    clear h2 hr hl e3
    go_enter Tryz.func34, Tryz.ntmps34
    go_wp2
    go_ret
    exact ⟨_, rfl, ⟨by rw [hflat, hz], .inl ⟨rfl, rfl⟩⟩, Kb.refl _⟩
  | some ad =>
    have hat : ∀ j u, rows.flatten[j]? = some u → w.cell? (ad.add j) = some u := by
      intro j u hj
      have hjl : j < rows.length * 5 := by have := (List.getElem?_eq_some_iff.1 hj).1; omega
      obtain ⟨b, off, e, _, _, h6⟩ := h2 (by omega)
      injection e with e
      subst e
      have ej : j = j / 5 * 5 + j % 5 := by omega
      have h7 := h6 (j / 5) (by omega) (j % 5) (by omega)
      have h8 := flat_at (rows := rows) (fun r hx => (hr r hx).1) (j / 5) (j % 5) (by omega) (by omega)
      rw [← ej] at h8
      rw [Addr.add_lit, show off + j = off + j / 5 * 5 + j % 5 by omega, h7, ← h8, hj]
    have h1 : ∀ u ∈ rows.flatten, u.oneCell' = true := fun u hu => by
      obtain ⟨r, hr1, hr2⟩ := List.mem_flatten.1 hu
      exact (hr r hr1).2 u hr2
    have HAT := Lib.hid hat
    have H1 := Lib.hid h1
    have HL := Lib.hid hflat
    clear hat h1 hflat h2 hr
    obtain ⟨i0, hi, hz0, hz1, hz2⟩ := info_parts cCloneFr_info
    go_enter Tryz.func34, Tryz.ntmps34
    go_wp2_with (at_builtin; refine wpList_append_own _ rfl _ _ 26 rfl w.heap.size 31 i0 (.agg #[.int .i64 0, .bool false, .int .i64 0, .int .i64 0, .slice none 0 0]) 5 56 Tryz.underlying26 hi hz0 hz1 hz2 rfl (by decide) _ _ _ rfl (World.ownsRow_made w #[] 0 (Nat.le_refl _) (Nat.zero_le _) rfl) ad l c rows.flatten rfl ?qc1 ?qc2 ?qc3 ?qc4 ?qc5 ?qc6 ?_)
    case qc1 => rw [HL.out]; omega
    case qc2 => exact fun j u hj => cell_al (HAT.out j u hj) _
    case qc3 => exact H1.out
    case qc4 => unfold maxLen; omega
    case qc5 => omega
    case qc6 => simp
    intro v' w1 hown hgrow hnil
    go_wp2
    go_ret
    exact ⟨v', rfl, by rw [e3]; simpa using hown, ((Below.refl _ w).alloc (Nat.le_refl _) _).grown hgrow (by simp) (by intro k hk; simp [Value.ownBlock] at hk; omega)⟩
end Go.Proofs.YtlimjohnimgnhaaGreatDoor

/- Features: clones of a frame. -/
namespace Go.Proofs.YtlimjohnimgnhaaGreatDoor
open Go.RowKit

/-- v is a slice of rows of k cells, in a block from n on -/
def SlU (n k : Nat) (w : World) (v : Value) (rows : List (List Value)) : Prop :=
  ∃ (p : Option Addr) (cap : Nat), v = .slice p rows.length cap ∧ (0 < rows.length → ∃ b off, p = some ⟨b, off, none⟩ ∧ n ≤ b ∧ b < w.heap.size ∧ ∀ i, i < rows.length → ∀ j, j < k → w.cell? ⟨b, off + i * k + j, none⟩ = some ((rows.getD i []).getD j undef))
theorem SlU.sl {n k : Nat} {w : World} {v : Value} {rows : List (List Value)} (h : SlU n k w v rows) : Sl [] k w v rows := by
  obtain ⟨p, cap, h1, h2⟩ := h
  refine ⟨p, cap, h1, fun hp => ?_⟩
  obtain ⟨b, off, e, _, hb, hc⟩ := h2 hp
  exact ⟨b, off, e, hb, by simp, hc⟩
theorem SlU.same {n k : Nat} {w w' : World} {v : Value} {rows : List (List Value)} (h : SlU n k w v rows) (hs : w.heap.size ≤ w'.heap.size) (hb : ∀ b, n ≤ b → b < w.heap.size → w'.heap[b]? = w.heap[b]?) : SlU n k w' v rows := by
  obtain ⟨p, cap, h1, h2⟩ := h
  refine ⟨p, cap, h1, fun hp => ?_⟩
  obtain ⟨b, off, e, hn, hlt, hc⟩ := h2 hp
  exact ⟨b, off, e, hn, by omega, fun i hi j hj => (World.cell?_of_block (w := w) (hb b hn hlt)).trans (hc i hi j hj)⟩
theorem SlU.kb {n k : Nat} {w w' : World} {v : Value} {rows : List (List Value)} (h : SlU n k w v rows) (kk : Kb w w') : SlU n k w' v rows := h.same kk.size fun b _ hb => Below.block kk b hb
theorem SlU.alloc {n k : Nat} {w : World} {v : Value} {rows : List (List Value)} (h : SlU n k w v rows) (o : Obj) : SlU n k (w.alloc o) v rows := h.kb ((Kb.refl _).alloc o)
theorem SlU.far {n k : Nat} {w : World} {v : Value} {rows : List (List Value)} (h : SlU n k w v rows) {p : Addr} (hp : p.block < n) (u : Value) : SlU n k (w.setCell p u) v rows := h.same (by simp) fun b hb _ => Below.heap_setCell w p u b (by omega)
theorem SlU.mono {n m k : Nat} {w : World} {v : Value} {rows : List (List Value)} (h : SlU n k w v rows) (hm : m ≤ n) : SlU m k w v rows := by
  obtain ⟨p, cap, h1, h2⟩ := h
  refine ⟨p, cap, h1, fun hp => ?_⟩
  obtain ⟨b, off, e, hn, r⟩ := h2 hp
  exact ⟨b, off, e, by omega, r⟩
theorem own_slU {base k l : Nat} {e : TypeId} {w : World} {v : Value} {rows : List (List Value)} (h : w.ownsRow base e k v l rows.flatten) (hl : l = rows.length) (hr : ∀ r ∈ rows, r.length = k) : SlU base k w v rows := by
  obtain ⟨_, ⟨rfl, h0⟩ | ⟨g, cap, cur, rfl, hb, hh, hn, hc, hz, ht⟩⟩ := h
  · exact ⟨none, 0, by rw [← hl, h0], fun hp => absurd hp (by omega)⟩
  · subst hl
    refine ⟨some ⟨g, 0, none⟩, cap, rfl, fun _ => ⟨g, 0, rfl, hb, ?_, fun i hi j hj => ?_⟩⟩
    · exact (Array.getElem?_eq_some_iff.1 hh).1
    · have h8 := flat_at hr i j hj hi
      have hlt : i * k + j < rows.length * k := by
        have := Nat.mul_le_mul_right k (show i + 1 ≤ rows.length by omega)
        rw [Nat.succ_mul] at this; omega
      rw [← ht, List.getElem?_take, if_pos hlt] at h8
      unfold World.cell?
      rw [hh, Nat.zero_add]
      show cur[i * k + j]? = _
      rw [← h8]; simp
end Go.Proofs.YtlimjohnimgnhaaGreatDoor

/- Frames: Text. -/
namespace Go.Proofs.YtlimjohnimgnhaaGreatDoor
open Go.RowKit

theorem Bw.new {b : Nat} {w : World} (h : Is w b #[.pointer none, .slice none 0 0] 101) : Bw b b [] w :=
  .inl ⟨Nat.le_refl _, .slice none 0 0, h, ⟨rfl, .inl ⟨rfl, rfl⟩⟩, by simp [Value.ownBlock]⟩
def textV (k : Nat) (d : Bool) (t : Int) (m : Nat) (ds : List DatT) : ByteArray := ⟨(dsL (headL [] k d t m) ds).toArray⟩
theorem ftell {w0 : World} (d : Bool) (B b : Nat) (k : Nat) (t : Int) (m : Nat) (dp : Option Addr) (dl dc : Nat) (ds : List DatT) (w : World) (h : Bw B b [] w) (gl : Gf w0 w) (hB : w0.heap.size ≤ B) (hBw : B ≤ w.heap.size) (hk : k < 9) (hm : m < 3) (ht0 : 0 ≤ t) (ht1 : t ≤ 1000000) (hi : (itV t).size ≤ 20)
    (hd : DatS w0 (.slice dp dl dc) ds) (hdl : dl ≤ 3) (hz : ∀ d ∈ ds, d.1.size ≤ 100 ∧ ∃ j : Nat, j < 3 ∧ d.2 = (j : Int)) :
    Calls Tryz.prog 64 #[.agg #[.int .i64 (k : Int), .bool d, .int .i64 t, .int .i64 (m : Int), .slice dp dl dc], .func (.func 65) #[] #[.pointer (some ⟨b, 0, none⟩)]] w fun r W' => r = .returned (.tuple #[]) ∧ Bw B b (dsL (headL [] k d t m) ds) W' ∧ Bk B b w W' := by
  cases d
  · exact ftell_false B b k t m dp dl dc ds w h gl hB hBw hk hm ht0 ht1 hi hd hdl hz
  · exact ftell_true B b k t m dp dl dc ds w h gl hB hBw hk hm ht0 ht1 hi hd hdl hz
set_option maxRecDepth 100000 in
set_option maxHeartbeats 8000000 in
theorem fTextOk {w0 : World} (d : Bool) (k : Nat) (t : Int) (m : Nat) (dp : Option Addr) (dl dc : Nat) (ds : List DatT) (hk : k < 9) (hm : m < 3) (ht0 : 0 ≤ t) (ht1 : t ≤ 1000000) (hi : (itV t).size ≤ 20)
    (hd : DatS w0 (.slice dp dl dc) ds) (hdl : dl ≤ 3) (hz : ∀ d ∈ ds, d.1.size ≤ 100 ∧ ∃ j : Nat, j < 3 ∧ d.2 = (j : Int))
    (hp : Cf w0 15 #[.agg #[.int .i64 (k : Int), .bool d, .int .i64 t, .int .i64 (m : Int), .slice dp dl dc]] (.int .i64 0)) :
    Cf w0 26 #[.agg #[.int .i64 (k : Int), .bool d, .int .i64 t, .int .i64 (m : Int), .slice dp dl dc]] (.tuple #[.string (textV k d t m ds), .int .i64 0]) := Lib.hid fun w gl => by
  have ka := (Kb.refl w).alloc (.cells #[.int .i64 (k : Int), .bool d, .int .i64 t, .int .i64 (m : Int), .slice dp dl dc] 31 (0, 0))
  have ba := Is.made w #[.int .i64 (k : Int), .bool d, .int .i64 t, .int .i64 (m : Int), .slice dp dl dc] 31
  generalize hWA : w.alloc (.cells #[.int .i64 (k : Int), .bool d, .int .i64 t, .int .i64 (m : Int), .slice dp dl dc] 31 (0, 0)) = wa at *
  have q1 := Lib.hid (hp.out wa (gl.kb ka))
  have HG := Lib.hid gl
  have HD := Lib.hid hd
  have HZ := Lib.hid hz
  have c0 := ba.c (i := 0) rfl
  have c1 := ba.c (i := 1) rfl
  have c2 := ba.c (i := 2) rfl
  have c3 := ba.c (i := 3) rfl
  have c4 := ba.c (i := 4) rfl
  clear hp gl hd hz
  go_enter Tryz.func26, Tryz.ntmps26
  go_wp2_with fail
  clear hWA c0 c1 c2 c3 c4
  refine (q1.out).mono ?_
  rintro r w1 ⟨rfl, k1⟩
  have kb := (Kb.refl w1).alloc (.cells #[.pointer none, .slice none 0 0] 101 (0, 0))
  have bb := Is.made w1 #[.pointer none, .slice none 0 0] 101
  have b1 := (ba.kb k1).kb kb
  have g1 := HG.out.kb ((ka.trans k1).trans kb)
  have s1 := (HG.out.kb (ka.trans k1)).size
  have c0 := b1.c (i := 0) rfl
  have c1 := b1.c (i := 1) rfl
  have c2 := b1.c (i := 2) rfl
  have c3 := b1.c (i := 3) rfl
  have c4 := b1.c (i := 4) rfl
  have HK := Lib.hid ((ka.trans k1).trans kb)
  have q2 := Lib.hid (ftell d w1.heap.size w1.heap.size k t m dp dl dc ds (w1.alloc (.cells #[.pointer none, .slice none 0 0] 101 (0, 0))) (Bw.new bb) g1 s1 (by simp) hk hm ht0 ht1 hi HD.out hdl HZ.out)
  have s2 := (ka.trans k1).size
  clear bb b1 g1 kb q1 k1 ka ba
  go_wp2_with fail
  clear c0 c1 c2 c3 c4
  refine (q2.out).mono ?_
  rintro r w2 ⟨rfl, b2, k2⟩
  have s3 := k2.1.size
  have HK2 := Lib.hid k2
  have q3 := Lib.hid (Tryz.Builder_String_any_f w1.heap.size w1.heap.size (dsL (headL [] k d t m) ds) w2 b2 (by simp at s3; omega))
  clear b2 k2 q2
  go_wp2_with fail
  refine (q3.out).mono ?_
  rintro r w3 ⟨rfl, _, k3⟩
  have HK3 := Lib.hid k3
  clear k3 q3
  go_wp2
  go_ret2
  exact ⟨rfl, Below.trans HK.out (Below.mono (Below.trans HK2.out.1 HK3.out) s2)⟩
end Go.Proofs.YtlimjohnimgnhaaGreatDoor
