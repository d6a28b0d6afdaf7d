/- Texts Up9: each says in its own first comment what it proves. -/
import Derived.Test.YtlimjohnimgnhaaGreatDoorM42
import Derived.Test.YtlimjohnimgnhaaGreatDoorM10
/- Frames: Datums of the program and of the reference. -/
namespace Go.Proofs.YtlimjohnimgnhaaGreatDoor
open Go.RowKit

theorem few_all {n : ByteArray} {fs : List FrT} (h : fewB n fs = true) : n.size ≤ 1000000 ∧ fs.length ≤ 12 ∧ (∀ f ∈ fs, f.ds.length ≤ 6 ∧ ∀ d ∈ f.ds, d.1.size ≤ 1000000) := by
  have h0 := few_n2 h
  unfold fewB at h
  simp only [Bool.and_eq_true, decide_eq_true_eq, List.all_eq_true] at h
  refine ⟨h0, h.1.2, fun f hf => ?_⟩
  have h2 := h.2 f hf
  unfold fewF fewD at h2
  simp only [Bool.and_eq_true, decide_eq_true_eq, List.all_eq_true] at h2
  exact ⟨h2.1, fun d hd => by have := h2.2 d hd; unfold fewN at this; have := of_decide_eq_true this; omega⟩
theorem nmL_le : ∀ (fs : List FrT), (∀ f ∈ fs, f.ds.length ≤ 6) → (nmL fs).length ≤ 6 * fs.length
  | [], _ => Nat.le_refl _
  | f :: fs, h => by
    have h1 := nmL_le fs fun g hg => h g (by simp [hg])
    have h2 := h f (by simp)
    have h3 : (nmL (f :: fs)).length = (nmD f.ds).length + (nmL fs).length := by
      unfold nmL; rw [List.flatMap_cons, List.length_append]
    have h5 : (nmD f.ds).length = f.ds.length := by unfold nmD; simp
    rw [List.length_cons]
    omega
/-- the names of the datums of frames that are right -/
def dtV (n : ByteArray) (k a x y z lo hi : Int) (fs : List FrT) : List (List UInt8) := if alE n k a x y z lo hi fs = 0 then srt (nmL fs) else []
set_option maxRecDepth 100000 in
theorem fDatZ {w0 : World} (n : ByteArray) (k a x y z lo hi : Int) (fp : Option Addr) (fc : Nat) (q1 : Cf w0 19 #[.agg #[.string n, .int .i64 k, .int .i64 a, .int .i64 x, .int .i64 y, .int .i64 z, .int .i64 lo, .int .i64 hi, .slice fp 0 fc]] (.int .i64 0)) (w : World) (gl : Gf w0 w) : Calls Tryz.prog 17 #[.agg #[.string n, .int .i64 k, .int .i64 a, .int .i64 x, .int .i64 y, .int .i64 z, .int .i64 lo, .int .i64 hi, .slice fp 0 fc]] w fun r W' => (∃ v, r = .returned (.tuple #[v, .int .i64 0]) ∧ SlU w.heap.size 1 W' v ((srt (nmL [])).map fun x => [encStr x])) ∧ Kb w W' := by
  have i1 := Is.made w #[.string n, .int .i64 k, .int .i64 a, .int .i64 x, .int .i64 y, .int .i64 z, .int .i64 lo, .int .i64 hi, .slice fp 0 fc] 28
  have k0 := (Kb.refl w).alloc (.cells #[.string n, .int .i64 k, .int .i64 a, .int .i64 x, .int .i64 y, .int .i64 z, .int .i64 lo, .int .i64 hi, .slice fp 0 fc] 28 (0, 0))
  have g0 := i1.c (i := 0) rfl
  have g1 := i1.c (i := 1) rfl
  have g2 := i1.c (i := 2) rfl
  have g3 := i1.c (i := 3) rfl
  have g4 := i1.c (i := 4) rfl
  have g5 := i1.c (i := 5) rfl
  have g6 := i1.c (i := 6) rfl
  have g7 := i1.c (i := 7) rfl
  have g8 := i1.c (i := 8) rfl
  go_enter Tryz.func17, Tryz.ntmps17
  go_wp2_with fail
  refine (q1.out _ (gl.kb k0)).mono ?_
  rintro r w1 ⟨rfl, k1⟩
  replace i1 := i1.kb k1
  replace k0 := k0.trans k1
  clear g0 g1 g2 g3 g4 g5 g6 g7 g8
  clear q1 gl
  have c8 := i1.c (i := 8) rfl
  have ho := World.ownsMap_made w1 Tryz.prog 9 (plainElem (H := Unit) Tryz.prog 4)
  have c8' := cell_al c8 (.map #[] 0)
  have k2 := k0.alloc (.map #[] 0)
  go_wp2_with (first | (refine wpList_makeMap_own _ rfl _ rfl ?_) | fail)
  clear c8
  have ho2 : (w1.alloc (.map #[] 0)).ownsMap Tryz.prog 9 (plainElem (H := Unit) Tryz.prog 4) w1.heap.size 0 (setN (nmL [])) := ho
  clear ho
  have hend := Lib.hid (sorted_end (base := w.heap.size) ho2 (by decide) k2.size)
  generalize w1.heap.size = mb at *
  generalize w1.alloc (.map #[] 0) = w2 at *
  refine wp_loop_rounds 1 ?_
  rw [rounds_succ]
  go_wp2_with fail
  refine ((callsIn_wide (n := 5)).1 (Tryz.maps_Keys_55 (some mb) w2)).mono ?_
  rintro r w5 ⟨rfl, rfl⟩
  go_wp2_with fail
  refine hend.out.mono ?_
  rintro r w6 ⟨⟨v, rfl, hv⟩, k6⟩
  go_wp2
  go_ret2
  exact ⟨⟨v, rfl, hv⟩, (k2.alloc _).trans k6⟩
theorem fDat {w0 : World} (n : ByteArray) (k a x y z lo hi : Int) (fp : Option Addr) (fl fc : Nat) (fs : List FrT) (hnz : n.size ≤ 1000000) (hf : FrP w0 (.slice fp fl fc) fs) (hF : fl ≤ 12) (hz : ∀ f ∈ fs, f.ds.length ≤ 6 ∧ ∀ d ∈ f.ds, d.1.size ≤ 1000000) (W : World) (gl : Gf w0 W) : Calls Tryz.prog 17 #[.agg #[.string n, .int .i64 k, .int .i64 a, .int .i64 x, .int .i64 y, .int .i64 z, .int .i64 lo, .int .i64 hi, .slice fp fl fc]] W fun r W' => (∃ v, r = .returned (.tuple #[v, .int .i64 (alE n k a x y z lo hi fs)]) ∧ SlS W' v (dtV n k a x y z lo hi fs)) ∧ Kb W W' := by
  have hl := hf.len
  have hz2 : ∀ f ∈ fs, f.ds.length ≤ 100000 ∧ ∀ d ∈ f.ds, d.1.size ≤ 1000000 := fun f h => ⟨by have := (hz f h).1; omega, (hz f h).2⟩
  have q1 := frAll (w0 := w0) n k a x y z lo hi fp fl fc fs hnz hf (by omega) hz2
  have hN := nmL_le fs fun f h => (hz f h).1
  unfold dtV
  by_cases e1 : alE n k a x y z lo hi fs = 0
  · rw [if_pos e1, e1]
    rw [e1] at q1
    by_cases h0 : fl = 0
    · subst h0
      obtain rfl : fs = [] := List.length_eq_zero_iff.1 hl.symm
      exact (fDatZ n k a x y z lo hi fp fc q1 W gl).mono fun r W' h => ⟨h.1.imp fun v hv => ⟨hv.1, hv.2.sl⟩, h.2⟩
    · obtain ⟨b, off, rfl, _⟩ := hf.at (by omega)
      exact (fDatD n k a x y z lo hi b off fl fc fs hf (fun f h => (hz f h).2) (by omega) (by omega) q1 W gl).mono fun r W' h => ⟨h.1.imp fun v hv => ⟨hv.1, hv.2.sl⟩, h.2⟩
  · rw [if_neg e1]
    exact (fDatA n k a x y z lo hi fp fl fc _ (by simpa using e1) q1 W gl).mono fun r W' h => ⟨⟨_, h.1, SlS.nil _⟩, h.2⟩
set_option maxRecDepth 100000 in
theorem rDatA {w0 : World} (n : ByteArray) (k a x y z lo hi : Int) (fp : Option Addr) (fl fc : Nat) (e : Int) (he : (e != 0) = true) (q1 : Cf w0 20 #[.agg #[.string n, .int .i64 k, .int .i64 a, .int .i64 x, .int .i64 y, .int .i64 z, .int .i64 lo, .int .i64 hi, .slice fp fl fc]] (.int .i64 e)) (w : World) (gl : Gf w0 w) : Calls Tryz.prog 18 #[.agg #[.string n, .int .i64 k, .int .i64 a, .int .i64 x, .int .i64 y, .int .i64 z, .int .i64 lo, .int .i64 hi, .slice fp fl fc]] w fun r W' => r = .returned (.tuple #[.slice none 0 0, .int .i64 e]) ∧ Kb w W' := by
  have i1 := Is.made w #[.string n, .int .i64 k, .int .i64 a, .int .i64 x, .int .i64 y, .int .i64 z, .int .i64 lo, .int .i64 hi, .slice fp fl fc] 28
  have k0 := (Kb.refl w).alloc (.cells #[.string n, .int .i64 k, .int .i64 a, .int .i64 x, .int .i64 y, .int .i64 z, .int .i64 lo, .int .i64 hi, .slice fp fl fc] 28 (0, 0))
  have g0 := i1.c (i := 0) rfl
  have g1 := i1.c (i := 1) rfl
  have g2 := i1.c (i := 2) rfl
  have g3 := i1.c (i := 3) rfl
  have g4 := i1.c (i := 4) rfl
  have g5 := i1.c (i := 5) rfl
  have g6 := i1.c (i := 6) rfl
  have g7 := i1.c (i := 7) rfl
  have g8 := i1.c (i := 8) rfl
  go_enter Tryz.func18, Tryz.ntmps18
  go_wp2_with fail
  refine (q1.out _ (gl.kb k0)).mono ?_
  rintro r w1 ⟨rfl, k1⟩
  replace i1 := i1.kb k1
  replace k0 := k0.trans k1
  clear g0 g1 g2 g3 g4 g5 g6 g7 g8
  clear q1
  go_wp2
  go_ret2
  exact ⟨rfl, k0⟩
set_option maxRecDepth 100000 in
theorem rDatB {w0 : World} (n : ByteArray) (k a x y z lo hi : Int) (fp : Option Addr) (fl fc : Nat) (L : List (List UInt8)) (q1 : Cf w0 20 #[.agg #[.string n, .int .i64 k, .int .i64 a, .int .i64 x, .int .i64 y, .int .i64 z, .int .i64 lo, .int .i64 hi, .slice fp fl fc]] (.int .i64 0)) (q2 : ∀ W : World, Gf w0 W → Calls Tryz.prog 56 #[.agg #[.string n, .int .i64 k, .int .i64 a, .int .i64 x, .int .i64 y, .int .i64 z, .int .i64 lo, .int .i64 hi, .slice fp fl fc]] W fun r W' => (∃ v, r = .returned v ∧ SlS W' v L) ∧ Kb W W') (w : World) (gl : Gf w0 w) : Calls Tryz.prog 18 #[.agg #[.string n, .int .i64 k, .int .i64 a, .int .i64 x, .int .i64 y, .int .i64 z, .int .i64 lo, .int .i64 hi, .slice fp fl fc]] w fun r W' => (∃ v, r = .returned (.tuple #[v, .int .i64 0]) ∧ SlS W' v L) ∧ Kb w W' := by
  have i1 := Is.made w #[.string n, .int .i64 k, .int .i64 a, .int .i64 x, .int .i64 y, .int .i64 z, .int .i64 lo, .int .i64 hi, .slice fp fl fc] 28
  have k0 := (Kb.refl w).alloc (.cells #[.string n, .int .i64 k, .int .i64 a, .int .i64 x, .int .i64 y, .int .i64 z, .int .i64 lo, .int .i64 hi, .slice fp fl fc] 28 (0, 0))
  have g0 := i1.c (i := 0) rfl
  have g1 := i1.c (i := 1) rfl
  have g2 := i1.c (i := 2) rfl
  have g3 := i1.c (i := 3) rfl
  have g4 := i1.c (i := 4) rfl
  have g5 := i1.c (i := 5) rfl
  have g6 := i1.c (i := 6) rfl
  have g7 := i1.c (i := 7) rfl
  have g8 := i1.c (i := 8) rfl
  go_enter Tryz.func18, Tryz.ntmps18
  go_wp2_with fail
  refine (q1.out _ (gl.kb k0)).mono ?_
  rintro r w1 ⟨rfl, k1⟩
  replace i1 := i1.kb k1
  replace k0 := k0.trans k1
  clear g0 g1 g2 g3 g4 g5 g6 g7 g8
  clear q1
  have g0 := i1.c (i := 0) rfl
  have g1 := i1.c (i := 1) rfl
  have g2 := i1.c (i := 2) rfl
  have g3 := i1.c (i := 3) rfl
  have g4 := i1.c (i := 4) rfl
  have g5 := i1.c (i := 5) rfl
  have g6 := i1.c (i := 6) rfl
  have g7 := i1.c (i := 7) rfl
  have g8 := i1.c (i := 8) rfl
  have hq := Lib.hid (q2 _ (gl.kb k0))
  clear q2
  go_wp2_with fail
  refine hq.out.mono ?_
  rintro r w2 ⟨⟨v, rfl, hv⟩, k2⟩
  clear g0 g1 g2 g3 g4 g5 g6 g7 g8
  go_wp2
  go_ret2
  exact ⟨⟨v, rfl, hv⟩, k0.trans k2⟩
theorem rDat {w0 : World} (n : ByteArray) (k a x y z lo hi : Int) (fp : Option Addr) (fl fc : Nat) (fs : List FrT) (hnz : n.size ≤ 1000000) (hf : FrP w0 (.slice fp fl fc) fs) (hF : fl ≤ 12) (hz : ∀ f ∈ fs, f.ds.length ≤ 6 ∧ ∀ d ∈ f.ds, d.1.size ≤ 1000000) (W : World) (gl : Gf w0 W) : Calls Tryz.prog 18 #[.agg #[.string n, .int .i64 k, .int .i64 a, .int .i64 x, .int .i64 y, .int .i64 z, .int .i64 lo, .int .i64 hi, .slice fp fl fc]] W fun r W' => (∃ v, r = .returned (.tuple #[v, .int .i64 (alE n k a x y z lo hi fs)]) ∧ SlS W' v (dtV n k a x y z lo hi fs)) ∧ Kb W W' := by
  have hl := hf.len
  have hz2 : ∀ f ∈ fs, f.ds.length ≤ 100000 ∧ ∀ d ∈ f.ds, d.1.size ≤ 1000000 := fun f h => ⟨by have := (hz f h).1; omega, (hz f h).2⟩
  have q1 := rfrAll (w0 := w0) n k a x y z lo hi fp fl fc fs hnz hf hz2
  have hN := nmL_le fs fun f h => (hz f h).1
  unfold dtV
  by_cases e1 : alE n k a x y z lo hi fs = 0
  · rw [if_pos e1, e1]
    rw [e1] at q1
    refine rDatB n k a x y z lo hi fp fl fc _ q1 (fun W2 g2 => ?_) W gl
    by_cases h0 : fl = 0
    · subst h0
      obtain rfl : fs = [] := List.length_eq_zero_iff.1 hl.symm
      exact (rNamed0 n k a x y z lo hi fp fc W2).mono fun r W' h => ⟨⟨_, h.1, SlS.nil _⟩, h.2⟩
    · obtain ⟨b, off, rfl, _⟩ := hf.at (by omega)
      exact (rNamed1 n k a x y z lo hi b off fl fc fs hf (by omega) (by omega) W2 g2.at0).mono fun r W' h => ⟨h.1.imp fun v hv => ⟨hv.1, hv.2.sl⟩, h.2⟩
  · rw [if_neg e1]
    exact (rDatA n k a x y z lo hi fp fl fc _ (by simpa using e1) q1 W gl).mono fun r W' h => ⟨⟨_, h.1, SlS.nil _⟩, h.2⟩
theorem dtV_len {n : ByteArray} {k a x y z lo hi : Int} {fs : List FrT} (hF : fs.length ≤ 12) (hz : ∀ f ∈ fs, f.ds.length ≤ 6 ∧ ∀ d ∈ f.ds, d.1.size ≤ 1000000) : (dtV n k a x y z lo hi fs).length ≤ 100000 := by
  have hN := nmL_le fs fun f h => (hz f h).1
  have h1 := srt_len (nmL fs)
  unfold dtV
  split
  · omega
  · simp
theorem SlS.kx {w w' : World} {v : Value} {ss : List (List UInt8)} (h : SlS w v ss) (k : Kx [] w w') (_ : True := trivial) : SlS w' v ss := Sl.kx h k
theorem SlS.cells {w : World} {v : Value} {ss : List (List UInt8)} (h : SlS w v ss) : (ss = [] ∧ ∃ p c, v = .slice p 0 c) ∨ ∃ b off c, v = .slice (some ⟨b, off, none⟩) ss.length c ∧ ∀ j, j < (ss.map fun x => (⟨x.toArray⟩ : ByteArray)).length → w.cell? ⟨b, off + j, none⟩ = some (.string ((ss.map fun x => (⟨x.toArray⟩ : ByteArray)).getD j ByteArray.empty)) := by
  obtain ⟨p, c, rfl, h2⟩ := h
  rcases Nat.eq_zero_or_pos ss.length with h0 | h0
  · obtain rfl := List.length_eq_zero_iff.1 h0
    exact .inl ⟨rfl, p, c, rfl⟩
  · obtain ⟨b, off, rfl, _, _, h6⟩ := h2 (by simpa using h0)
    refine .inr ⟨b, off, c, by simp, fun j hj => ?_⟩
    have hj' : j < ss.length := by simpa using hj
    have h7 := h6 j (by simpa using hj') 0 (by omega)
    rw [Nat.mul_one, Nat.add_zero] at h7
    rw [h7]
    simp [List.getD_eq_getElem?_getD, hj', encStr]
theorem sEqual {w : World} {v1 v2 : Value} {ss : List (List UInt8)} (h1 : SlS w v1 ss) (h2 : SlS w v2 ss) (hl : ss.length ≤ 100000) : Calls Tryz.prog 21 #[v1, v2] w fun r W' => r = .returned (.bool true) ∧ Kb w W' := by
  rcases h1.cells with ⟨rfl, p, c, rfl⟩ | ⟨b, off, c, rfl, hc⟩
  · rcases h2.cells with ⟨_, p2, c2, rfl⟩ | ⟨b2, off2, c2, rfl, hc2⟩
    · exact (Tryz.slices_Equal_string_empty p p2 c 0 c2 w (by decide)).mono fun r W' h => ⟨h.1, by rw [h.2]; exact Kb.refl w⟩
    · exact (Tryz.slices_Equal_string_empty p _ c 0 c2 w (by decide)).mono fun r W' h => ⟨h.1, by rw [h.2]; exact Kb.refl w⟩
  · rcases h2.cells with ⟨rfl, p2, c2, rfl⟩ | ⟨b2, off2, c2, rfl, hc2⟩
    · exact (Tryz.slices_Equal_string_empty _ p2 c 0 c2 w (by decide)).mono fun r W' h => ⟨h.1, by rw [h.2]; exact Kb.refl w⟩
    · refine (Tryz.slices_Equal_string b off ss.length c b2 off2 ss.length c2 _ _ w (by simp) (by simp) (by omega) (by omega) hc hc2).mono fun r W' h => ?_
      obtain ⟨rfl, q, rfl⟩ := h
      exact ⟨by rw [decide_eq_true rfl], (Kb.refl w).drewN q⟩
end Go.Proofs.YtlimjohnimgnhaaGreatDoor
