/- Texts Qk1, Qk2: each says in its own first comment what it proves. -/
import Derived.Test.YtdmfkgopalelgaaDoorQg5
import Derived.Test.YtdmfkgopalelgaaDoorQg4
import Derived.Lib.SliceRun
import Derived.Laws.AppendOwn
import Derived.Test.YtdmfkgopalelgaaDoorQj1
/- Features: clones of frames and datums. -/
namespace Go.Proofs.YtdmfkgopalelgaaDoor
open Go.RowKit

theorem flat_len {k : Nat} : ∀ {rows : List (List Value)}, (∀ r ∈ rows, r.length = k) → rows.flatten.length = rows.length * k
  | [], _ => by simp
  | r :: rs, h => by
    have h1 := h r (by simp)
    have h2 := flat_len (rows := rs) fun x hx => h x (by simp [hx])
    rw [List.flatten_cons, List.length_append, h1, h2, List.length_cons, Nat.succ_mul]; omega
theorem flat_at {k : Nat} : ∀ {rows : List (List Value)}, (∀ r ∈ rows, r.length = k) → ∀ i j, j < k → i < rows.length → rows.flatten[i * k + j]? = some ((rows.getD i []).getD j undef)
  | [], _, i, j, _, hi => absurd hi (by simp)
  | r :: rs, h, 0, j, hj, _ => by
    have h1 := h r (by simp)
    rw [List.flatten_cons, Nat.zero_mul, Nat.zero_add, List.getElem?_append_left (by omega)]
    show r[j]? = some (r.getD j undef)
    rw [List.getD_eq_getElem?_getD, List.getElem?_eq_getElem (by omega)]; rfl
  | r :: rs, h, i + 1, j, hj, hi => by
    have h1 := h r (by simp)
    have h2 := flat_at (rows := rs) (fun x hx => h x (by simp [hx])) i j hj (by simpa using hi)
    rw [List.flatten_cons, List.getElem?_append_right (by rw [h1, Nat.succ_mul]; omega), h1, Nat.succ_mul, show i * k + k + j - k = i * k + j by omega, h2]
    rfl
theorem cCloneDat_info : (Tryd.prog.info? 63).map (fun i => (i.zero, i.size, i.bytes)) = some (some (.agg #[.string ⟨#[]⟩, .int .i64 0]), 2, 24) := by kernel_rfl
set_option maxRecDepth 100000 in
set_option maxHeartbeats 1000000 in
theorem cCloneDat (p : Option Addr) (l c : Nat) (rows : List (List Value)) (w : World) (h : Sl [] 2 w (.slice p l c) rows) (hr : ∀ r ∈ rows, r.length = 2 ∧ ∀ u ∈ r, u.oneCell' = true) (hl : l ≤ 1000) : Calls Tryd.prog 92 #[.slice p l c] w fun r W' => ∃ v', r = .returned v' ∧ W'.ownsRow w.heap.size 63 2 v' l rows.flatten ∧ Kb w W' := by
  obtain ⟨q, cap, e1, h2⟩ := h
  injection e1 with e2 e3 e4
  subst e2 e4
  have hflat := flat_len (rows := rows) fun r hx => (hr r hx).1
  have qn : ∀ (w : World) (a : Option Addr) (n c n' c' : Nat), (binOp .eql 59 (.slice a n c) (.slice none n' c')).run Tryd.prog w = .ok (.bool a.isNone) w := fun w a n c n' c' => Lib.run_eql_slice_nil w _ _ a n c n' c' Tryd.underlying59
  cases p with
  | none =>
    have hz : rows.length = 0 := by
      rcases Nat.eq_zero_or_pos rows.length with h | h
      · exact h
      · obtain ⟨b, off, e, _⟩ := h2 h; cases e
    have e5 : l = 0 := by omega
    subst e5
    clear h2 hr hl e3
    go_enter Tryd.func92, Tryd.ntmps92
    go_wp2
    go_ret
    exact ⟨_, rfl, ⟨by rw [hflat, hz], .inl ⟨rfl, rfl⟩⟩, Kb.refl _⟩
  | some ad =>
    have hat : ∀ j u, rows.flatten[j]? = some u → w.cell? (ad.add j) = some u := by
      intro j u hj
      have hjl : j < rows.length * 2 := by have := (List.getElem?_eq_some_iff.1 hj).1; omega
      obtain ⟨b, off, e, _, _, h6⟩ := h2 (by omega)
      injection e with e
      subst e
      have ej : j = j / 2 * 2 + j % 2 := by omega
      have h7 := h6 (j / 2) (by omega) (j % 2) (by omega)
      have h8 := flat_at (rows := rows) (fun r hx => (hr r hx).1) (j / 2) (j % 2) (by omega) (by omega)
      rw [← ej] at h8
      rw [Addr.add_lit, show off + j = off + j / 2 * 2 + j % 2 by omega, h7, ← h8, hj]
    have h1 : ∀ u ∈ rows.flatten, u.oneCell' = true := fun u hu => by
      obtain ⟨r, hr1, hr2⟩ := List.mem_flatten.1 hu
      exact (hr r hr1).2 u hr2
    have HAT := Lib.hid hat
    have H1 := Lib.hid h1
    have HL := Lib.hid hflat
    clear hat h1 hflat h2 hr
    obtain ⟨i0, hi, hz0, hz1, hz2⟩ := info_parts cCloneDat_info
    go_enter Tryd.func92, Tryd.ntmps92
    go_wp2_with (at_builtin; refine wpList_append_own _ rfl _ _ 59 rfl w.heap.size 63 i0 (.agg #[.string ⟨#[]⟩, .int .i64 0]) 2 24 Tryd.underlying59 hi hz0 hz1 hz2 rfl (by decide) _ _ _ rfl (World.ownsRow_made w #[] 0 (Nat.le_refl _) (Nat.zero_le _) rfl) ad l c rows.flatten rfl ?qc1 ?qc2 ?qc3 ?qc4 ?qc5 ?qc6 ?_)
    case qc1 => rw [HL.out]; omega
    case qc2 => exact fun j u hj => cell_al (HAT.out j u hj) _
    case qc3 => exact H1.out
    case qc4 => unfold maxLen; omega
    case qc5 => omega
    case qc6 => simp
    intro v' w1 hown hgrow hnil
    go_wp2
    go_ret
    exact ⟨v', rfl, by rw [e3]; simpa using hown, ((Below.refl _ w).alloc (Nat.le_refl _) _).grown hgrow (by simp) (by intro k hk; simp [Value.ownBlock] at hk; omega)⟩
theorem cCloneFr_info : (Tryd.prog.info? 61).map (fun i => (i.zero, i.size, i.bytes)) = some (some (.agg #[.int .i64 0, .bool false, .int .i64 0, .int .i64 0, .slice none 0 0]), 5, 56) := by kernel_rfl
set_option maxRecDepth 100000 in
set_option maxHeartbeats 1000000 in
theorem cCloneFr (p : Option Addr) (l c : Nat) (rows : List (List Value)) (w : World) (h : Sl [] 5 w (.slice p l c) rows) (hr : ∀ r ∈ rows, r.length = 5 ∧ ∀ u ∈ r, u.oneCell' = true) (hl : l ≤ 1000) : Calls Tryd.prog 91 #[.slice p l c] w fun r W' => ∃ v', r = .returned v' ∧ W'.ownsRow w.heap.size 61 5 v' l rows.flatten ∧ Kb w W' := by
  obtain ⟨q, cap, e1, h2⟩ := h
  injection e1 with e2 e3 e4
  subst e2 e4
  have hflat := flat_len (rows := rows) fun r hx => (hr r hx).1
  have qn : ∀ (w : World) (a : Option Addr) (n c n' c' : Nat), (binOp .eql 26 (.slice a n c) (.slice none n' c')).run Tryd.prog w = .ok (.bool a.isNone) w := fun w a n c n' c' => Lib.run_eql_slice_nil w _ _ a n c n' c' Tryd.underlying26
  cases p with
  | none =>
    have hz : rows.length = 0 := by
      rcases Nat.eq_zero_or_pos rows.length with h | h
      · exact h
      · obtain ⟨b, off, e, _⟩ := h2 h; cases e
    have e5 : l = 0 := by omega
    subst e5
    clear h2 hr hl e3
    go_enter Tryd.func91, Tryd.ntmps91
    go_wp2
    go_ret
    exact ⟨_, rfl, ⟨by rw [hflat, hz], .inl ⟨rfl, rfl⟩⟩, Kb.refl _⟩
  | some ad =>
    have hat : ∀ j u, rows.flatten[j]? = some u → w.cell? (ad.add j) = some u := by
      intro j u hj
      have hjl : j < rows.length * 5 := by have := (List.getElem?_eq_some_iff.1 hj).1; omega
      obtain ⟨b, off, e, _, _, h6⟩ := h2 (by omega)
      injection e with e
      subst e
      have ej : j = j / 5 * 5 + j % 5 := by omega
      have h7 := h6 (j / 5) (by omega) (j % 5) (by omega)
      have h8 := flat_at (rows := rows) (fun r hx => (hr r hx).1) (j / 5) (j % 5) (by omega) (by omega)
      rw [← ej] at h8
      rw [Addr.add_lit, show off + j = off + j / 5 * 5 + j % 5 by omega, h7, ← h8, hj]
    have h1 : ∀ u ∈ rows.flatten, u.oneCell' = true := fun u hu => by
      obtain ⟨r, hr1, hr2⟩ := List.mem_flatten.1 hu
      exact (hr r hr1).2 u hr2
    have HAT := Lib.hid hat
    have H1 := Lib.hid h1
    have HL := Lib.hid hflat
    clear hat h1 hflat h2 hr
    obtain ⟨i0, hi, hz0, hz1, hz2⟩ := info_parts cCloneFr_info
    go_enter Tryd.func91, Tryd.ntmps91
    go_wp2_with (at_builtin; refine wpList_append_own _ rfl _ _ 26 rfl w.heap.size 61 i0 (.agg #[.int .i64 0, .bool false, .int .i64 0, .int .i64 0, .slice none 0 0]) 5 56 Tryd.underlying26 hi hz0 hz1 hz2 rfl (by decide) _ _ _ rfl (World.ownsRow_made w #[] 0 (Nat.le_refl _) (Nat.zero_le _) rfl) ad l c rows.flatten rfl ?qc1 ?qc2 ?qc3 ?qc4 ?qc5 ?qc6 ?_)
    case qc1 => rw [HL.out]; omega
    case qc2 => exact fun j u hj => cell_al (HAT.out j u hj) _
    case qc3 => exact H1.out
    case qc4 => unfold maxLen; omega
    case qc5 => omega
    case qc6 => simp
    intro v' w1 hown hgrow hnil
    go_wp2
    go_ret
    exact ⟨v', rfl, by rw [e3]; simpa using hown, ((Below.refl _ w).alloc (Nat.le_refl _) _).grown hgrow (by simp) (by intro k hk; simp [Value.ownBlock] at hk; omega)⟩
end Go.Proofs.YtdmfkgopalelgaaDoor

/- Features: clones of a frame. -/
namespace Go.Proofs.YtdmfkgopalelgaaDoor
open Go.RowKit

/-- v is a slice of rows of k cells, in a block from n on -/
def SlU (n k : Nat) (w : World) (v : Value) (rows : List (List Value)) : Prop :=
  ∃ (p : Option Addr) (cap : Nat), v = .slice p rows.length cap ∧ (0 < rows.length → ∃ b off, p = some ⟨b, off, none⟩ ∧ n ≤ b ∧ b < w.heap.size ∧ ∀ i, i < rows.length → ∀ j, j < k → w.cell? ⟨b, off + i * k + j, none⟩ = some ((rows.getD i []).getD j undef))
theorem SlU.sl {n k : Nat} {w : World} {v : Value} {rows : List (List Value)} (h : SlU n k w v rows) : Sl [] k w v rows := by
  obtain ⟨p, cap, h1, h2⟩ := h
  refine ⟨p, cap, h1, fun hp => ?_⟩
  obtain ⟨b, off, e, _, hb, hc⟩ := h2 hp
  exact ⟨b, off, e, hb, by simp, hc⟩
theorem SlU.same {n k : Nat} {w w' : World} {v : Value} {rows : List (List Value)} (h : SlU n k w v rows) (hs : w.heap.size ≤ w'.heap.size) (hb : ∀ b, n ≤ b → b < w.heap.size → w'.heap[b]? = w.heap[b]?) : SlU n k w' v rows := by
  obtain ⟨p, cap, h1, h2⟩ := h
  refine ⟨p, cap, h1, fun hp => ?_⟩
  obtain ⟨b, off, e, hn, hlt, hc⟩ := h2 hp
  exact ⟨b, off, e, hn, by omega, fun i hi j hj => (World.cell?_of_block (w := w) (hb b hn hlt)).trans (hc i hi j hj)⟩
theorem SlU.kb {n k : Nat} {w w' : World} {v : Value} {rows : List (List Value)} (h : SlU n k w v rows) (kk : Kb w w') : SlU n k w' v rows := h.same kk.size fun b _ hb => Below.block kk b hb
theorem SlU.alloc {n k : Nat} {w : World} {v : Value} {rows : List (List Value)} (h : SlU n k w v rows) (o : Obj) : SlU n k (w.alloc o) v rows := h.kb ((Kb.refl _).alloc o)
theorem SlU.far {n k : Nat} {w : World} {v : Value} {rows : List (List Value)} (h : SlU n k w v rows) {p : Addr} (hp : p.block < n) (u : Value) : SlU n k (w.setCell p u) v rows := h.same (by simp) fun b hb _ => Below.heap_setCell w p u b (by omega)
theorem SlU.mono {n m k : Nat} {w : World} {v : Value} {rows : List (List Value)} (h : SlU n k w v rows) (hm : m ≤ n) : SlU m k w v rows := by
  obtain ⟨p, cap, h1, h2⟩ := h
  refine ⟨p, cap, h1, fun hp => ?_⟩
  obtain ⟨b, off, e, hn, r⟩ := h2 hp
  exact ⟨b, off, e, by omega, r⟩
theorem own_slU {base k l : Nat} {e : TypeId} {w : World} {v : Value} {rows : List (List Value)} (h : w.ownsRow base e k v l rows.flatten) (hl : l = rows.length) (hr : ∀ r ∈ rows, r.length = k) : SlU base k w v rows := by
  obtain ⟨_, ⟨rfl, h0⟩ | ⟨g, cap, cur, rfl, hb, hh, hn, hc, hz, ht⟩⟩ := h
  · exact ⟨none, 0, by rw [← hl, h0], fun hp => absurd hp (by omega)⟩
  · subst hl
    refine ⟨some ⟨g, 0, none⟩, cap, rfl, fun _ => ⟨g, 0, rfl, hb, ?_, fun i hi j hj => ?_⟩⟩
    · exact (Array.getElem?_eq_some_iff.1 hh).1
    · have h8 := flat_at hr i j hj hi
      have hlt : i * k + j < rows.length * k := by
        have := Nat.mul_le_mul_right k (show i + 1 ≤ rows.length by omega)
        rw [Nat.succ_mul] at this; omega
      rw [← ht, List.getElem?_take, if_pos hlt] at h8
      unfold World.cell?
      rw [hh, Nat.zero_add]
      show cur[i * k + j]? = _
      rw [← h8]; simp
theorem dat_rows (ds : List DatT) : ∀ r ∈ ds.map datRow, r.length = 2 ∧ ∀ u ∈ r, u.oneCell' = true := by
  intro r hr
  obtain ⟨d, _, rfl⟩ := List.mem_map.1 hr
  refine ⟨rfl, fun u hu => ?_⟩
  rcases d with ⟨s, m⟩
  simp only [datRow, List.mem_cons, List.not_mem_nil, or_false] at hu
  rcases hu with rfl | rfl <;> rfl
theorem cCloneDat2 (q : Option Addr) (m e : Nat) (ds : List DatT) (w : World) (h : DatS w (.slice q m e) ds) (hl : ds.length ≤ 1000) : Calls Tryd.prog 92 #[.slice q m e] w fun r W' => ∃ q' c', r = .returned (.slice q' m c') ∧ SlU w.heap.size 2 W' (.slice q' m c') (ds.map datRow) ∧ Kb w W' := by
  have hm := h.len
  refine (cCloneDat q m e (ds.map datRow) w h (dat_rows ds) (by omega)).mono ?_
  rintro r W' ⟨v', rfl, own, kb⟩
  have u := own_slU own (by simp [hm]) fun r hr => (dat_rows ds r hr).1
  obtain ⟨q', c', hv, h2⟩ := u
  have e5 : (ds.map datRow).length = m := by simp [hm]
  rw [e5] at hv
  subst hv
  exact ⟨q', c', rfl, ⟨q', c', by rw [e5], h2⟩, kb⟩
set_option maxRecDepth 100000 in
set_option maxHeartbeats 1000000 in
theorem cFrame_1 (kf : Int) (dg : Bool) (tt : Int) (mm : Int) (p : Option Addr) (l : Nat) (c : Nat) (ds : List DatT) (hbd : ds.length ≤ 1000) (w : World) (da : DatS w (.slice p l c) ds)  : Calls Tryd.prog 89 #[.agg #[.int .i64 kf, .bool dg, .int .i64 tt, .int .i64 mm, .slice p l c]] w fun r W' => ∃ q' c', r = .returned (.agg #[.int .i64 kf, .bool dg, .int .i64 tt, .int .i64 mm, .slice q' l c']) ∧ SlU w.heap.size 2 W' (.slice q' l c') (ds.map datRow) ∧ Kb w W' := by
  have kx := Kb.refl w
  have j1 := ((Is.made w #[.int .i64 kf, .bool dg, .int .i64 tt, .int .i64 mm, .slice p l c] 61).alloc (.cells #[.int .i64 0, .bool false, .int .i64 0, .int .i64 0, .slice none 0 0] 61 (0, 0)))
  have f2 := j1.c (i := 4) rfl
  clear j1
  go_enter Tryd.func89, Tryd.ntmps89
  go_wp2_with fail
  clear f2
  replace da := ((da.alloc (.cells #[.int .i64 kf, .bool dg, .int .i64 tt, .int .i64 mm, .slice p l c] 61 (0, 0))).alloc (.cells #[.int .i64 0, .bool false, .int .i64 0, .int .i64 0, .slice none 0 0] 61 (0, 0)))
  have b1 := Is.made w #[.int .i64 kf, .bool dg, .int .i64 tt, .int .i64 mm, .slice p l c] 61
  replace b1 := (b1.alloc (.cells #[.int .i64 0, .bool false, .int .i64 0, .int .i64 0, .slice none 0 0] 61 (0, 0)))
  have b2 := Is.made (w.alloc (.cells #[.int .i64 kf, .bool dg, .int .i64 tt, .int .i64 mm, .slice p l c] 61 (0, 0))) #[.int .i64 0, .bool false, .int .i64 0, .int .i64 0, .slice none 0 0] 61
  simp only [World.size_alloc] at b2
  replace kx := kx.alloc (.cells #[.int .i64 kf, .bool dg, .int .i64 tt, .int .i64 mm, .slice p l c] 61 (0, 0))
  replace kx := kx.alloc (.cells #[.int .i64 0, .bool false, .int .i64 0, .int .i64 0, .slice none 0 0] 61 (0, 0))
  (with_reducible refine (cCloneDat2 _ _ _ ds _ da hbd).mono ?_)
  rintro r w1 ⟨qq, cc, rfl, U1, k1⟩
  replace da := da.kb k1
  replace b1 := b1.kb k1
  replace b2 := b2.kb k1
  replace kx := kx.trans k1
  have s1 := k1.size
  simp only [World.size_alloc] at s1
  clear k1
  simp only [World.size_alloc] at U1
  have f3 := b1.c (i := 4) rfl
  have f4 := b1.f 4
  have j5 := (b1.set 4 (.slice qq l cc))
  have f6 := j5.c (i := 0) rfl
  have f7 := j5.c (i := 1) rfl
  have f8 := j5.c (i := 2) rfl
  have f9 := j5.c (i := 3) rfl
  have f10 := j5.c (i := 4) rfl
  have j11 := (b2.far (p := ⟨w.heap.size, 4, none⟩) (show w.heap.size + 1 ≠ w.heap.size by omega) (.slice qq l cc))
  have f12 := j11.c (i := 0) rfl
  have f13 := j11.f 0
  have f14 := j11.c (i := 1) rfl
  have f15 := j11.f 1
  have f16 := j11.c (i := 2) rfl
  have f17 := j11.f 2
  have f18 := j11.c (i := 3) rfl
  have f19 := j11.f 3
  have f20 := j11.c (i := 4) rfl
  have f21 := j11.f 4
  clear j5 j11
  go_wp2
  clear f3 f4 f6 f7 f8 f9 f10 f12 f13 f14 f15 f16 f17 f18 f19 f20 f21
  replace b2 := (b2.far (p := ⟨w.heap.size, 4, none⟩) (show w.heap.size + 1 ≠ w.heap.size by omega) (.slice qq l cc))
  replace b2 : Is _ _ #[.int .i64 kf, .bool false, .int .i64 0, .int .i64 0, .slice none 0 0] _ := b2.set 0 (.int .i64 kf)
  replace b2 : Is _ _ #[.int .i64 kf, .bool dg, .int .i64 0, .int .i64 0, .slice none 0 0] _ := b2.set 1 (.bool dg)
  replace b2 : Is _ _ #[.int .i64 kf, .bool dg, .int .i64 tt, .int .i64 0, .slice none 0 0] _ := b2.set 2 (.int .i64 tt)
  replace b2 : Is _ _ #[.int .i64 kf, .bool dg, .int .i64 tt, .int .i64 mm, .slice none 0 0] _ := b2.set 3 (.int .i64 mm)
  replace b2 : Is _ _ #[.int .i64 kf, .bool dg, .int .i64 tt, .int .i64 mm, .slice qq l cc] _ := b2.set 4 (.slice qq l cc)
  replace U1 := ((((((U1.far (p := ⟨w.heap.size, 4, none⟩) (show w.heap.size < (w.heap.size + 1 + 1) by omega) (.slice qq l cc)).far (p := ⟨w.heap.size + 1, 0, none⟩) (show w.heap.size + 1 < (w.heap.size + 1 + 1) by omega) (.int .i64 kf)).far (p := ⟨w.heap.size + 1, 1, none⟩) (show w.heap.size + 1 < (w.heap.size + 1 + 1) by omega) (.bool dg)).far (p := ⟨w.heap.size + 1, 2, none⟩) (show w.heap.size + 1 < (w.heap.size + 1 + 1) by omega) (.int .i64 tt)).far (p := ⟨w.heap.size + 1, 3, none⟩) (show w.heap.size + 1 < (w.heap.size + 1 + 1) by omega) (.int .i64 mm)).far (p := ⟨w.heap.size + 1, 4, none⟩) (show w.heap.size + 1 < (w.heap.size + 1 + 1) by omega) (.slice qq l cc))
  replace kx := kx.setCell (p := ⟨w.heap.size, 4, none⟩) (show w.heap.size ≤ w.heap.size by omega) (.slice qq l cc)
  replace kx := kx.setCell (p := ⟨w.heap.size + 1, 0, none⟩) (show w.heap.size ≤ w.heap.size + 1 by omega) (.int .i64 kf)
  replace kx := kx.setCell (p := ⟨w.heap.size + 1, 1, none⟩) (show w.heap.size ≤ w.heap.size + 1 by omega) (.bool dg)
  replace kx := kx.setCell (p := ⟨w.heap.size + 1, 2, none⟩) (show w.heap.size ≤ w.heap.size + 1 by omega) (.int .i64 tt)
  replace kx := kx.setCell (p := ⟨w.heap.size + 1, 3, none⟩) (show w.heap.size ≤ w.heap.size + 1 by omega) (.int .i64 mm)
  replace kx := kx.setCell (p := ⟨w.heap.size + 1, 4, none⟩) (show w.heap.size ≤ w.heap.size + 1 by omega) (.slice qq l cc)
  refine ret_row Tryd.results89 rfl rfl b2 Tryd.underlying61 rfl (by kernel_rfl) ?_
  exact ⟨_, _, rfl, U1.mono (by omega), kx⟩
end Go.Proofs.YtdmfkgopalelgaaDoor
