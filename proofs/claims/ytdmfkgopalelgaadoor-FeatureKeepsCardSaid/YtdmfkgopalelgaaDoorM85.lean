/- Texts Qk3, Qk4, Qk5: each says in its own first comment what it proves. -/
import Derived.Test.YtdmfkgopalelgaaDoorM84
/- Features: clones of lists of frames: clone.each at frames. -/
namespace Go.Proofs.YtdmfkgopalelgaaDoor
open Go.RowKit

/-- element j of the cells: a frame whose datums a fact D tells -/
def FrAt (cs : Array Value) (j : Nat) (f : FrT) (D : Value → Prop) : Prop :=
  ∃ q m e, cs[j * 5]? = some (.int .i64 f.k) ∧ cs[j * 5 + 1]? = some (.bool f.d) ∧ cs[j * 5 + 2]? = some (.int .i64 f.t) ∧ cs[j * 5 + 3]? = some (.int .i64 f.m) ∧ cs[j * 5 + 4]? = some (.slice q m e) ∧ m = f.ds.length ∧ D (.slice q m e)
/-- v is a slice of these frames, which lie with their datums in blocks from n on -/
def FrU (n : Nat) (w : World) (v : Value) (fs : List FrT) : Prop :=
  ∃ (p : Option Addr) (cap : Nat), v = .slice p fs.length cap ∧ (0 < fs.length → ∃ g cs, p = some ⟨g, 0, none⟩ ∧ n ≤ g ∧ Is w g cs 61 ∧ ∀ j f, fs[j]? = some f → FrAt cs j f fun v => SlU n 2 w v (f.ds.map datRow))
theorem FrAt.mono {cs : Array Value} {j : Nat} {f : FrT} {D E : Value → Prop} (h : FrAt cs j f D) (k : ∀ v, D v → E v) : FrAt cs j f E := by
  obtain ⟨q, m, e, h0, h1, h2, h3, h4, h5, h6⟩ := h
  exact ⟨q, m, e, h0, h1, h2, h3, h4, h5, k _ h6⟩
theorem FrU.same {n : Nat} {w w' : World} {v : Value} {fs : List FrT} (h : FrU n w v fs) (hs : w.heap.size ≤ w'.heap.size) (hb : ∀ b, n ≤ b → b < w.heap.size → w'.heap[b]? = w.heap[b]?) : FrU n w' v fs := by
  obtain ⟨p, cap, h1, h2⟩ := h
  refine ⟨p, cap, h1, fun hp => ?_⟩
  obtain ⟨g, cs, e, hn, hi, hc⟩ := h2 hp
  exact ⟨g, cs, e, hn, hi.same (hb g hn hi.lt), fun j f hf => (hc j f hf).mono fun v hv => hv.same hs hb⟩
theorem FrU.kb {n : Nat} {w w' : World} {v : Value} {fs : List FrT} (h : FrU n w v fs) (kk : Kb w w') : FrU n w' v fs := h.same kk.size fun b _ hb => Below.block kk b hb
theorem FrU.alloc {n : Nat} {w : World} {v : Value} {fs : List FrT} (h : FrU n w v fs) (o : Obj) : FrU n (w.alloc o) v fs := h.kb ((Kb.refl _).alloc o)
theorem FrU.drew {n : Nat} {w : World} {v : Value} {fs : List FrT} (h : FrU n w v fs) : FrU n w.drew v fs := h.kb (show Kb w w.drew from (Kb.refl _).drew)
theorem FrU.far {n : Nat} {w : World} {v : Value} {fs : List FrT} (h : FrU n w v fs) {p : Addr} (hp : p.block < n) (u : Value) : FrU n (w.setCell p u) v fs := h.same (by simp) fun b hb _ => Below.heap_setCell w p u b (by omega)
theorem FrU.mono {n m : Nat} {w : World} {v : Value} {fs : List FrT} (h : FrU n w v fs) (hm : m ≤ n) : FrU m w v fs := by
  obtain ⟨p, cap, h1, h2⟩ := h
  refine ⟨p, cap, h1, fun hp => ?_⟩
  obtain ⟨g, cs, e, hn, hi, hc⟩ := h2 hp
  exact ⟨g, cs, e, by omega, hi, fun j f hf => (hc j f hf).mono fun v hv => hv.mono hm⟩
end Go.Proofs.YtdmfkgopalelgaaDoor

/- Features: slices.Clone at frames, told frame by frame. -/
namespace Go.Proofs.YtdmfkgopalelgaaDoor
open Go.RowKit

theorem own_at {cur : Array Value} {rows : List (List Value)} {k l : Nat} (ht : cur.toList.take (l * k) = rows.flatten) (hl : l = rows.length) (hr : ∀ r ∈ rows, r.length = k) (i j : Nat) (hi : i < rows.length) (hj : j < k) : cur[i * k + j]? = some ((rows.getD i []).getD j undef) := by
  subst hl
  have h8 := flat_at hr i j hj hi
  have hlt : i * k + j < rows.length * k := by
    have := Nat.mul_le_mul_right k (show i + 1 ≤ rows.length by omega)
    rw [Nat.succ_mul] at this; omega
  rw [← ht, List.getElem?_take, if_pos hlt] at h8
  rw [← h8]; simp
theorem cCloneFr2 (p : Option Addr) (l c : Nat) (fs : List FrT) (w : World) (h : FrS w (.slice p l c) fs) (hl : fs.length ≤ 1000) : Calls Tryd.prog 91 #[.slice p l c] w fun r W' => ∃ q c', r = .returned (.slice q l c') ∧ Kb w W' ∧ (0 < l → ∃ g cs, q = some ⟨g, 0, none⟩ ∧ w.heap.size ≤ g ∧ Is W' g cs 61 ∧ ∀ j f, fs[j]? = some f → FrAt cs j f fun v => DatS w v f.ds) := by
  have hlen := h.len
  obtain ⟨vs, h1, h2, h3⟩ := h
  have hr : ∀ r ∈ List.zipWith frRow fs vs, r.length = 5 ∧ ∀ u ∈ r, u.oneCell' = true := by
    intro r hr
    obtain ⟨j, hj⟩ := List.getElem?_of_mem hr
    rw [List.getElem?_zipWith] at hj
    cases hf : fs[j]? with
    | none => rw [hf] at hj; simp at hj
    | some f =>
      cases hv : vs[j]? with
      | none => rw [hf, hv] at hj; simp at hj
      | some v =>
        rw [hf, hv] at hj
        injection hj with hj
        subst hj
        have hd := h3 j f hf
        rw [List.getD_eq_getElem?_getD, hv] at hd
        obtain ⟨q, cap, hq, _⟩ := hd
        replace hq : v = _ := hq
        subst hq
        refine ⟨rfl, fun u hu => ?_⟩
        simp only [frRow, List.mem_cons, List.not_mem_nil, or_false] at hu
        rcases hu with rfl | rfl | rfl | rfl | rfl <;> rfl
  have hzl : (List.zipWith frRow fs vs).length = fs.length := by simp [h1]
  refine (cCloneFr p l c _ w h2 hr (by omega)).mono ?_
  rintro r W' ⟨v', rfl, ⟨_, ⟨rfl, h0⟩ | ⟨g, cap, cur, rfl, hb, hh, hn, hc, hz, ht⟩⟩, kb⟩
  · subst h0
    exact ⟨none, 0, rfl, kb, fun h => absurd h (by omega)⟩
  · refine ⟨_, cap, rfl, kb, fun hp => ⟨g, cur, rfl, hb, hh, fun j f hf => ?_⟩⟩
    have hj : j < fs.length := (List.getElem?_eq_some_iff.1 hf).1
    have hvj : j < vs.length := by omega
    have hrow : (List.zipWith frRow fs vs).getD j [] = frRow f (vs.getD j undef) := by
      rw [List.getD_eq_getElem?_getD, List.getElem?_zipWith, hf, List.getElem?_eq_getElem hvj, List.getD_eq_getElem?_getD, List.getElem?_eq_getElem hvj]
      rfl
    have hat := fun q hq => own_at ht (by omega) (fun r hx => (hr r hx).1) j q (by omega) hq
    rw [hrow] at hat
    have hd := h3 j f hf
    have hd2 := hd
    obtain ⟨q, e, hq, _⟩ := hd2
    rw [hq] at hd hat
    exact ⟨q, _, e, hat 0 (by omega), hat 1 (by omega), hat 2 (by omega), hat 3 (by omega), hat 4 (by omega), by simp, hd⟩
end Go.Proofs.YtdmfkgopalelgaaDoor

/- Features: clone.each at frames. -/
namespace Go.Proofs.YtdmfkgopalelgaaDoor
open Go.RowKit

/-- the cells behind frame i's store -/
def put5c (cs : Array Value) (i : Nat) (a b c d e : Value) : Array Value := ((((cs.setIfInBounds (i * 5) a).setIfInBounds (i * 5 + 1) b).setIfInBounds (i * 5 + 2) c).setIfInBounds (i * 5 + 3) d).setIfInBounds (i * 5 + 4) e
theorem put5c_far {cs : Array Value} {i : Nat} {a b c d e : Value} {x : Nat} (h : x < i * 5 ∨ i * 5 + 5 ≤ x) : (put5c cs i a b c d e)[x]? = cs[x]? := by
  unfold put5c
  rw [Array.getElem?_setIfInBounds_ne (by omega), Array.getElem?_setIfInBounds_ne (by omega), Array.getElem?_setIfInBounds_ne (by omega), Array.getElem?_setIfInBounds_ne (by omega), Array.getElem?_setIfInBounds_ne (by omega)]
theorem put5c_at {cs : Array Value} {i : Nat} {a b c d e : Value} (h : i * 5 + 4 < cs.size) : (put5c cs i a b c d e)[i * 5]? = some a ∧ (put5c cs i a b c d e)[i * 5 + 1]? = some b ∧ (put5c cs i a b c d e)[i * 5 + 2]? = some c ∧ (put5c cs i a b c d e)[i * 5 + 3]? = some d ∧ (put5c cs i a b c d e)[i * 5 + 4]? = some e := by
  unfold put5c
  refine ⟨?_, ?_, ?_, ?_, ?_⟩ <;> simp [Array.getElem?_setIfInBounds] <;> omega
theorem FrAt.put {cs : Array Value} {i j : Nat} {f : FrT} {D : Value → Prop} {a b c d e : Value} (h : FrAt cs j f D) (hj : j ≠ i) : FrAt (put5c cs i a b c d e) j f D := by
  obtain ⟨q, m, e, h0, h1, h2, h3, h4, h5⟩ := h
  exact ⟨q, m, e, by rw [put5c_far (by omega)]; exact h0, by rw [put5c_far (by omega)]; exact h1, by rw [put5c_far (by omega)]; exact h2, by rw [put5c_far (by omega)]; exact h3, by rw [put5c_far (by omega)]; exact h4, h5⟩
theorem SlU.put {g k i : Nat} {w : World} {v : Value} {rows : List (List Value)} {a b c d e : Value} (h : SlU (g + 1) k w v rows) : SlU (g + 1) k (((((w.setCell ⟨g, i * 5, none⟩ a).setCell ⟨g, i * 5 + 1, none⟩ b).setCell ⟨g, i * 5 + 2, none⟩ c).setCell ⟨g, i * 5 + 3, none⟩ d).setCell ⟨g, i * 5 + 4, none⟩ e) v rows :=
  ((((h.far (Nat.lt_succ_self g) _).far (Nat.lt_succ_self g) _).far (Nat.lt_succ_self g) _).far (Nat.lt_succ_self g) _).far (Nat.lt_succ_self g) _
theorem Kb.put {g i : Nat} {w0 w : World} {a b c d e : Value} (h : Kb w0 w) (hg : w0.heap.size ≤ g) : Kb w0 (((((w.setCell ⟨g, i * 5, none⟩ a).setCell ⟨g, i * 5 + 1, none⟩ b).setCell ⟨g, i * 5 + 2, none⟩ c).setCell ⟨g, i * 5 + 3, none⟩ d).setCell ⟨g, i * 5 + 4, none⟩ e) :=
  ((((h.setCell hg _).setCell hg _).setCell hg _).setCell hg _).setCell hg _
theorem Is.put {g i : Nat} {w : World} {cs : Array Value} {T : TypeId} {a b c d e : Value} (h : Is w g cs T) : Is (((((w.setCell ⟨g, i * 5, none⟩ a).setCell ⟨g, i * 5 + 1, none⟩ b).setCell ⟨g, i * 5 + 2, none⟩ c).setCell ⟨g, i * 5 + 3, none⟩ d).setCell ⟨g, i * 5 + 4, none⟩ e) g (put5c cs i a b c d e) T :=
  ((((h.set (i * 5) a).set (i * 5 + 1) b).set (i * 5 + 2) c).set (i * 5 + 3) d).set (i * 5 + 4) e
set_option maxRecDepth 100000 in
set_option maxHeartbeats 4000000 in
theorem cEach (p : Option Addr) (l c : Nat) (fs : List FrT) (w : World) (h : FrS w (.slice p l c) fs) (hl : fs.length ≤ 1000) (hall : Hid (∀ f ∈ fs, f.ds.length ≤ 1000)) : Calls Tryd.prog 88 #[.slice p l c, .func (.func 89) #[] #[]] w fun r W' => ∃ q c', r = .returned (.slice q l c') ∧ FrU w.heap.size W' (.slice q l c') fs ∧ Kb w W' := by
  have hlen := h.len
  have HLEN := Lib.hid hlen
  have HL := Lib.hid hl
  have hl2 : l ≤ 1000 := by omega
  have en : ∀ args W, (callFunc 89 args).run Tryd.prog W = .ok (.enter 89 args) W := enters_of Tryd.func89 (by kernel_rfl) rfl
  have Q0 := Lib.hid (cCloneFr2 p l c fs w h hl)
  clear h hlen hl
  go_enter Tryd.func88, Tryd.ntmps88
  go_wp2_with fail
  (with_reducible refine (Q0.out).mono ?_)
  rintro r w1 ⟨q, c', rfl, kb, hg⟩
  go_wp2
  have HG : Hid (0 < l → ∃ g cs, q = some ⟨g, 0, none⟩ ∧ w.heap.size ≤ g ∧ Is w1 g cs 61 ∧ ∀ j f, fs[j]? = some f → (j < 0 → FrAt cs j f fun v => SlU (g + 1) 2 w1 v (f.ds.map datRow)) ∧ (0 ≤ j → FrAt cs j f fun v => DatS w v f.ds)) := Lib.hid fun hp => by
    obtain ⟨g, cs, e1, e2, e3, e4⟩ := hg hp
    exact ⟨g, cs, e1, e2, e3, fun j f hf => ⟨fun hj => absurd hj (by omega), fun _ => e4 j f hf⟩⟩
  clear hg
  go_loopg [12] l (fun gk s12 wr => ∃ i : Nat, s12 = .int .i64 i ∧ i + gk = l ∧ Kb w wr ∧ Hid (0 < l → ∃ g cs, q = some ⟨g, 0, none⟩ ∧ w.heap.size ≤ g ∧ Is wr g cs 61 ∧ ∀ j f, fs[j]? = some f → (j < i → FrAt cs j f fun v => SlU (g + 1) 2 wr v (f.ds.map datRow)) ∧ (i ≤ j → FrAt cs j f fun v => DatS w v f.ds)))
  case atStart => exact ⟨0, rfl, by omega, kb, HG⟩
  case round =>
    obtain ⟨i, rfl, hi, kx, hq⟩ := hrel
    have hi0 : (0 : Int) ≤ (i : Int) := by omega
    by_cases hlt : i < l
    · obtain ⟨g, cs, rfl, hgw, is, hat⟩ := hq.out (by omega)
      obtain ⟨f, hf⟩ : ∃ f, fs[i]? = some f := ⟨_, List.getElem?_eq_getElem (by have := HLEN.out; omega)⟩
      obtain ⟨qd, md, ed, t0, t1, t2, t3, t4, hm, hd⟩ := (hat i f hf).2 (Nat.le_refl _)
      have hsz : i * 5 + 4 < cs.size := (Array.getElem?_eq_some_iff.1 t4).1
      have hdl : f.ds.length ≤ 1000 := hall.out f (List.mem_of_getElem? hf)
      have x0 := is.c (i := i * 5) t0
      have x1 := is.c (i := i * 5 + 1) t1
      have x2 := is.c (i := i * 5 + 2) t2
      have x3 := is.c (i := i * 5 + 3) t3
      have x4 := is.c (i := i * 5 + 4) t4
      have b0 := Is.made wr #[.int .i64 f.k, .bool f.d, .int .i64 f.t, .int .i64 f.m, .slice qd md ed] 61
      have z0 := b0.c (i := 0) rfl
      have z1 := b0.c (i := 1) rfl
      have z2 := b0.c (i := 2) rfl
      have z3 := b0.c (i := 3) rfl
      have z4 := b0.c (i := 4) rfl
      have hglt := is.lt
      have IS := Lib.hid (is.alloc (.cells #[.int .i64 f.k, .bool f.d, .int .i64 f.t, .int .i64 f.m, .slice qd md ed] 61 (0, 0)))
      have HAT := Lib.hid hat
      have HF := Lib.hid hf
      have HM := Lib.hid hm
      have HSZ := Lib.hid hsz
      have HT : Hid _ := Lib.hid (And.intro t0 (And.intro t1 (And.intro t2 (And.intro t3 t4))))
      have KX := Lib.hid kx
      have QF := Lib.hid (cFrame_1 f.k f.d f.t f.m qd md ed f.ds hdl _ ((hd.kb (kx.alloc (.cells #[.int .i64 f.k, .bool f.d, .int .i64 f.t, .int .i64 f.m, .slice qd md ed] 61 (0, 0))))))
      have HI := Lib.hid hi
      clear is hat hf hm hsz t0 t1 t2 t3 t4 hd kx b0 hi hdl
      go_wp2_with fail
      (with_reducible refine (QF.out).mono ?_)
      rintro r wn ⟨qn, cn, rfl, U, k2⟩
      have is1 := IS.out.kb k2
      obtain ⟨t0, t1, t2, t3, t4⟩ := HT.out
      have m0 := is1.c (i := i * 5) t0
      have m1 := is1.c (i := i * 5 + 1) t1
      have m2 := is1.c (i := i * 5 + 2) t2
      have m3 := is1.c (i := i * 5 + 3) t3
      have m4 := is1.c (i := i * 5 + 4) t4
      have v0 := is1.f (i * 5)
      have v1 := is1.f (i * 5 + 1)
      have v2 := is1.f (i * 5 + 2)
      have v3 := is1.f (i * 5 + 3)
      have v4 := is1.f (i * 5 + 4)
      have IS1 := Lib.hid is1
      have KN := Lib.hid ((KX.out.alloc (.cells #[.int .i64 f.k, .bool f.d, .int .i64 f.t, .int .i64 f.m, .slice qd md ed] 61 (0, 0))).trans k2)
      have K2 := Lib.hid k2
      have UU := Lib.hid U
      clear is1 t0 t1 t2 t3 t4 k2 U x0 x1 x2 x3 x4 z0 z1 z2 z3 z4
      go_wp2
      clear m0 m1 m2 m3 m4 v0 v1 v2 v3 v4
      have hi := HI.out
      go_roundg (gk - 1)
      case measure => omega
      case rel =>
        refine ⟨i + 1, by go_num, by omega, KN.out.put hgw, Lib.hid fun _ => ⟨g, put5c cs i (.int .i64 f.k) (.bool f.d) (.int .i64 f.t) (.int .i64 f.m) (.slice qn md cn), rfl, hgw, IS1.out.put, fun j f' hf' => ⟨fun hj => ?_, fun hj => ?_⟩⟩⟩
        · by_cases hji : j = i
          · subst hji
            obtain rfl : f = f' := Option.some.inj (HF.out.symm.trans hf')
            obtain ⟨y0, y1, y2, y3, y4⟩ := put5c_at (cs := cs) (i := j) HSZ.out (a := .int .i64 f.k) (b := .bool f.d) (c := .int .i64 f.t) (d := .int .i64 f.m) (e := .slice qn md cn)
            exact ⟨qn, md, cn, y0, y1, y2, y3, y4, HM.out, (UU.out.mono (by simp only [World.size_alloc]; omega)).put⟩
          · exact (((HAT.out j f' hf').1 (by omega)).put hji).mono fun v hv => ((hv.alloc _).kb K2.out).put
        · exact ((HAT.out j f' hf').2 (by omega)).put (by omega)
    · obtain rfl : i = l := by omega
      have HQ := hq
      have KX := Lib.hid kx
      clear hq kx hi
      go_wp2
      go_ret
      refine ⟨q, c', rfl, ⟨q, c', by rw [← HLEN.out], fun hp => ?_⟩, KX.out⟩
      obtain ⟨g, cs, e1, e2, e3, e4⟩ := HQ.out (by rw [HLEN.out]; exact hp)
      exact ⟨g, cs, e1, e2, e3, fun j f hf => ((e4 j f hf).1 (by have := (List.getElem?_eq_some_iff.1 hf).1; have := HLEN.out; omega)).mono fun v hv => hv.mono (by omega)⟩
end Go.Proofs.YtdmfkgopalelgaaDoor
