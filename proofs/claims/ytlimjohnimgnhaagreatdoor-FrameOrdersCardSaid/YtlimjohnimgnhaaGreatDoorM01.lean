/- Texts Uq3: each says in its own first comment what it proves. -/
import Derived.Test.YtlimjohnimgnhaaGreatDoorM40
/- Frames: the law FrameOrders, its main way. -/
namespace Go.Proofs.YtlimjohnimgnhaaGreatDoor
open Go.RowKit

set_option maxRecDepth 100000 in
set_option maxHeartbeats 16000000 in
theorem loC (n : ByteArray) (k a x y z lo hi : Int) (fp : Option Addr) (fl fc : Nat) (fs : List FrT) (w : World) (gl : Gf w w) (hfr : FrP w (.slice fp fl fc) fs) (h1 : fewB n fs = true) (h2 : alE n k a x y z lo hi fs = 0) : Calls Tryz.prog 9 #[.agg #[.string n, .int .i64 k, .int .i64 a, .int .i64 x, .int .i64 y, .int .i64 z, .int .i64 lo, .int .i64 hi, .slice fp fl fc]] w fun r W' => r = .returned (.bool true) ∧ Kb w W' := by
  obtain ⟨hnz, h12, hz⟩ := few_all h1
  have hl := hfr.len
  have hF : fl ≤ 12 := by omega
  have hz2 : ∀ f ∈ fs, f.ds.length ≤ 100000 ∧ ∀ d ∈ f.ds, d.1.size ≤ 1000000 := fun f h => ⟨by have := (hz f h).1; omega, (hz f h).2⟩
  obtain ⟨zs, hzs, hsl, hok⟩ := hfr.zs
  have hzl : zs.length = fl := by rw [hl, ← hzs, List.length_map]
  have qf := cFew (w0 := w) n k a x y z lo hi fp fl fc fs hfr.frs
  rw [h1] at qf
  have qa := rfrAll (w0 := w) n k a x y z lo hi fp fl fc fs hnz hfr hz2
  rw [h2] at qa
  have hdl := dtV_len (n := n) (k := k) (a := a) (x := x) (y := y) (z := z) (lo := lo) (hi := hi) h12 hz
  have k0 := (Kb.refl w).alloc (.cells #[.string n, .int .i64 k, .int .i64 a, .int .i64 x, .int .i64 y, .int .i64 z, .int .i64 lo, .int .i64 hi, .slice fp fl fc] 28 (0, 0))
  have i1 := Is.made w #[.string n, .int .i64 k, .int .i64 a, .int .i64 x, .int .i64 y, .int .i64 z, .int .i64 lo, .int .i64 hi, .slice fp fl fc] 28
  have g0 := i1.c (i := 0) rfl
  have g1 := i1.c (i := 1) rfl
  have g2 := i1.c (i := 2) rfl
  have g3 := i1.c (i := 3) rfl
  have g4 := i1.c (i := 4) rfl
  have g5 := i1.c (i := 5) rfl
  have g6 := i1.c (i := 6) rfl
  have g7 := i1.c (i := 7) rfl
  have g8 := i1.c (i := 8) rfl
  have HL := Lib.hid hl
  have HZ := Lib.hid hz
  have HZL := Lib.hid hzl
  clear hl hz hzl
  go_enter Tryz.func9, Tryz.ntmps9
  go_wp2_with fail
  refine (qf.out _ (gl.kb k0)).mono ?_
  rintro r w1 ⟨rfl, k1⟩
  replace i1 := i1.kb k1
  replace k0 := k0.trans k1
  clear g0 g1 g2 g3 g4 g5 g6 g7 g8 qf
  have g0 := i1.c (i := 0) rfl
  have g1 := i1.c (i := 1) rfl
  have g2 := i1.c (i := 2) rfl
  have g3 := i1.c (i := 3) rfl
  have g4 := i1.c (i := 4) rfl
  have g5 := i1.c (i := 5) rfl
  have g6 := i1.c (i := 6) rfl
  have g7 := i1.c (i := 7) rfl
  have g8 := i1.c (i := 8) rfl
  go_wp2_with fail
  refine (qa.out _ (gl.kb k0)).mono ?_
  rintro r w2 ⟨rfl, k2⟩
  replace i1 := i1.kb k2
  replace k0 := k0.trans k2
  clear g0 g1 g2 g3 g4 g5 g6 g7 g8 qa
  have g0 := i1.c (i := 0) rfl
  have g1 := i1.c (i := 1) rfl
  have g2 := i1.c (i := 2) rfl
  have g3 := i1.c (i := 3) rfl
  have g4 := i1.c (i := 4) rfl
  have g5 := i1.c (i := 5) rfl
  have g6 := i1.c (i := 6) rfl
  have g7 := i1.c (i := 7) rfl
  have g8 := i1.c (i := 8) rfl
  have hne : w.heap.size ≠ w2.heap.size := by have := i1.lt; omega
  have i3 := Is.made w2 #[.string n, .int .i64 k, .int .i64 a, .int .i64 x, .int .i64 y, .int .i64 z, .int .i64 lo, .int .i64 hi, .slice fp fl fc] 28
  have kz := k0.alloc (.cells #[.string n, .int .i64 k, .int .i64 a, .int .i64 x, .int .i64 y, .int .i64 z, .int .i64 lo, .int .i64 hi, .slice fp fl fc] 28 (0, 0))
  have g8' := (i1.alloc (.cells #[.string n, .int .i64 k, .int .i64 a, .int .i64 x, .int .i64 y, .int .i64 z, .int .i64 lo, .int .i64 hi, .slice fp fl fc] 28 (0, 0))).c (i := 8) rfl
  have hc := Lib.hid (fCloneZ fp fl fc zs (w2.alloc (.cells #[.string n, .int .i64 k, .int .i64 a, .int .i64 x, .int .i64 y, .int .i64 z, .int .i64 lo, .int .i64 hi, .slice fp fl fc] 28 (0, 0))) (hsl.kb kz) HZL.out.symm (by omega))
  have hb1 := k0.size
  go_wp2_with fail
  refine hc.out.mono ?_
  rintro r w3 ⟨⟨v', rfl, how⟩, k3⟩
  replace i1 := (i1.alloc (.cells #[.string n, .int .i64 k, .int .i64 a, .int .i64 x, .int .i64 y, .int .i64 z, .int .i64 lo, .int .i64 hi, .slice fp fl fc] 28 (0, 0))).kb k3
  replace i3 := i3.kb k3
  replace k0 := kz.trans k3
  clear g0 g1 g2 g3 g4 g5 g6 g7 g8 g8' hc kz k1 k2 k3
  simp only [World.size_alloc] at how
  obtain ⟨p', c', ev, hh⟩ := id how
  rw [HZL.out] at ev
  subst ev
  clear hh
  generalize w2.heap.size = ob at *
  have f8 := i3.f 8
  have g8 := i3.c (i := 8) rfl
  have j3 := i3.set 8 (.slice p' fl c')
  have j38 := j3.c (i := 8) rfl
  have hr := Lib.hid (fReverse (ob + 1) _ zs (w3.setCell ⟨ob, 8, none⟩ (.slice p' fl c')) (how.far (q := ⟨ob, 8, none⟩) (Nat.lt_succ_self ob) _) (by have := HZL.out; omega))
  have k4 := k0.setCell (p := ⟨ob, 8, none⟩) (by omega) (.slice p' fl c')
  have j1 := i1.far (p := ⟨ob, 8, none⟩) hne (.slice p' fl c')
  go_wp2_with fail
  refine hr.out.mono ?_
  rintro r w4 ⟨rfl, how4, L, hL, kx4⟩
  clear hr how i3 i1 g8 f8 j38 k0
  replace j3 : Is w4 ob #[.string n, .int .i64 k, .int .i64 a, .int .i64 x, .int .i64 y, .int .i64 z, .int .i64 lo, .int .i64 hi, .slice p' fl c'] 28 := j3.kx kx4 (fun hm => by have := hL _ hm; omega)
  replace j1 := j1.kx kx4 (fun hm => by have := hL _ hm; omega)
  replace k0 : Kb w w4 := kx4.old k4 (fun q hq => by have := hL _ hq; omega)
  clear kx4 k4 hL
  have g0 := j1.c (i := 0) rfl
  have g1 := j1.c (i := 1) rfl
  have g2 := j1.c (i := 2) rfl
  have g3 := j1.c (i := 3) rfl
  have g4 := j1.c (i := 4) rfl
  have g5 := j1.c (i := 5) rfl
  have g6 := j1.c (i := 6) rfl
  have g7 := j1.c (i := 7) rfl
  have g8 := j1.c (i := 8) rfl
  have hd := Lib.hid (fDatU (w0 := w) n k a x y z lo hi fp fl fc fs hnz hfr hF HZ.out h2 w4 (gl.kb k0))
  have hob4 := j3.lt
  go_wp2_with fail
  refine hd.out.mono ?_
  rintro r w5 ⟨⟨v1, rfl, hs1⟩, k5⟩
  clear g0 g1 g2 g3 g4 g5 g6 g7 g8 hd
  replace j1 := j1.kb k5
  replace j3 := j3.kb k5
  replace k0 := k0.trans k5
  have how5 := how4.kb k5
  clear k5 how4
  have hok5 : ∀ z ∈ zs, okF w5 z := fun z hz => (hok z hz).kx k0
  have hrv : (zs.reverse).map (fun z => z.1) = fs.reverse := by rw [List.map_reverse, hzs]
  have hfp : FrP w5 (.slice p' fl c') fs.reverse := by rw [← hrv]; exact frp_zs how5.sl (fun z hz => hok5 z (by simpa using hz))
  have hzr : ∀ f ∈ fs.reverse, f.ds.length ≤ 6 ∧ ∀ d ∈ f.ds, d.1.size ≤ 1000000 := fun f hf => HZ.out f (by simpa using hf)
  have h2r := alE_rev h2
  have hdr := dtV_rev h2
  have g0 := j3.c (i := 0) rfl
  have g1 := j3.c (i := 1) rfl
  have g2 := j3.c (i := 2) rfl
  have g3 := j3.c (i := 3) rfl
  have g4 := j3.c (i := 4) rfl
  have g5 := j3.c (i := 5) rfl
  have g6 := j3.c (i := 6) rfl
  have g7 := j3.c (i := 7) rfl
  have g8 := j3.c (i := 8) rfl
  have hd := Lib.hid (fDat (w0 := w5) n k a x y z lo hi p' fl c' fs.reverse hnz hfp hF hzr w5 (gl.kb k0).me)
  go_wp2_with fail
  refine hd.out.mono ?_
  rintro r w6 ⟨⟨v2, rfl, hs2⟩, k6⟩
  rw [h2r]
  rw [hdr] at hs2
  clear g0 g1 g2 g3 g4 g5 g6 g7 g8 hd
  replace hs1 := hs1.kb k6
  replace j1 := j1.kb k6
  replace j3 := j3.kb k6
  replace k0 := k0.trans k6
  replace how5 := how5.kb k6
  replace hfp := hfp.kb k6
  clear k6 hok5
  have hq := Lib.hid (sEqual hs1.sl hs2 hdl)
  go_wp2_with fail
  refine hq.out.mono ?_
  rintro r w7 ⟨rfl, k7⟩
  replace hs1 := hs1.kb k7
  replace j1 := j1.kb k7
  replace j3 := j3.kb k7
  replace k0 := k0.trans k7
  replace how5 := how5.kb k7
  replace hfp := hfp.kb k7
  clear k7 hs2 hq
  have hq := Lib.hid (fIsSorted hs1.sl (dtV_asc fs) hdl)
  go_wp2_with fail
  refine hq.out.mono ?_
  rintro r w8 ⟨rfl, k8⟩
  replace hs1 := hs1.kb k8
  replace j1 := j1.kb k8
  replace j3 := j3.kb k8
  replace k0 := k0.trans k8
  replace how5 := how5.kb k8
  replace hfp := hfp.kb k8
  clear k8 hq
  have g0 := j3.c (i := 0) rfl
  have g1 := j3.c (i := 1) rfl
  have g2 := j3.c (i := 2) rfl
  have g3 := j3.c (i := 3) rfl
  have g4 := j3.c (i := 4) rfl
  have g5 := j3.c (i := 5) rfl
  have g6 := j3.c (i := 6) rfl
  have g7 := j3.c (i := 7) rfl
  have g8 := j3.c (i := 8) rfl
  have hq := Lib.hid ((frAll (w0 := w8) n k a x y z lo hi p' fl c' fs.reverse hnz hfp (by omega) (fun f hf => ⟨by have := (hzr f hf).1; omega, (hzr f hf).2⟩)).out w8 (gl.kb k0).me)
  rw [h2r] at hq
  go_wp2_with fail
  refine hq.out.mono ?_
  rintro r w9 ⟨rfl, k9⟩
  replace hs1 := hs1.kb k9
  replace j1 := j1.kb k9
  replace j3 := j3.kb k9
  replace k0 := k0.trans k9
  replace how5 := how5.kb k9
  clear k9 hq hfp g0 g1 g2 g3 g4 g5 g6 g7 g8
  have c8 := j1.c (i := 8) rfl
  obtain ⟨p1, l1, c1, rfl, hl1⟩ := hs1.shape
  rw [List.length_map] at hl1
  have HL1 := Lib.hid hl1
  clear hl1
  by_cases h0 : fl = 0
  · subst h0
    have hl0 : l1 = 0 := by
      have : fs = [] := List.length_eq_zero_iff.1 HL.out.symm
      rw [HL1.out, dtV_0 h2, this]; rfl
    subst hl0
    have qw := (fawakeC (w0 := w)).out w9 (gl.kb k0)
    clear j1 j3
    go_wp2_with fail
    refine qw.mono ?_
    rintro r wa ⟨rfl, ka⟩
    go_wp2
    go_ret
    exact ⟨rfl, k0.trans ka⟩
  have hn0 : ((fl : Int) == 0) = false := by simp; omega
  obtain ⟨g, rfl, hlc, hcm, _⟩ := how5.tail (by omega) (fun z hz => (hok z (by simpa using hz)).kx k0)
  have hdrop : ((zs.reverse).drop 1).map (fun z => z.1) = fs.reverse.drop 1 := by rw [List.map_drop, hrv]
  have j38 := j3.c (i := 8) rfl
  have f38 := j3.f 8
  have m1 : (1 : Int) ≤ (fl : Int) := by omega
  have m2 : (fl : Int) ≤ (c' : Int) := by omega
  have m3 : ¬ (fl : Int) < 1 := by omega
  have m4 : 1 ≤ fl := by omega
  have hobw : w.heap.size ≤ ob := by omega
  by_cases hc1 : c' = 1
  · subst hc1
    obtain rfl : fl = 1 := by omega
    clear m4
    have q3 : Is (w9.setCell ⟨ob, 8, none⟩ (.slice (some ⟨g, 0, none⟩) 0 0)) ob #[.string n, .int .i64 k, .int .i64 a, .int .i64 x, .int .i64 y, .int .i64 z, .int .i64 lo, .int .i64 hi, .slice (some ⟨g, 0, none⟩) 0 0] 28 := j3.set 8 (.slice (some ⟨g, 0, none⟩) 0 0)
    have q1 := j1.far (p := ⟨ob, 8, none⟩) hne (.slice (some ⟨g, 0, none⟩) 0 0)
    have k10 := k0.setCell (p := ⟨ob, 8, none⟩) hobw (.slice (some ⟨g, 0, none⟩) 0 0)
    have g0 := q3.c (i := 0) rfl
    have g1 := q3.c (i := 1) rfl
    have g2 := q3.c (i := 2) rfl
    have g3 := q3.c (i := 3) rfl
    have g4 := q3.c (i := 4) rfl
    have g5 := q3.c (i := 5) rfl
    have g6 := q3.c (i := 6) rfl
    have g7 := q3.c (i := 7) rfl
    have g8 := q3.c (i := 8) rfl
    have hs1' := hs1.far (p := ⟨ob, 8, none⟩) hob4 (.slice (some ⟨g, 0, none⟩) 0 0)
    have hft3 : FrP (w9.setCell ⟨ob, 8, none⟩ (.slice (some ⟨g, 0, none⟩) 0 0)) (.slice (some ⟨g, 0, none⟩) 0 0) (fs.reverse.drop 1) := by
      have hd1 : fs.reverse.drop 1 = [] := List.drop_of_length_le (by have := HL.out; simp; omega)
      rw [hd1]
      exact ⟨[], rfl, ⟨_, _, rfl, fun h => absurd h (by simp)⟩, fun i f h => by simp at h, fun i h => absurd h (by simp)⟩
    have hz3 : ∀ f ∈ fs.reverse.drop 1, f.ds.length ≤ 6 ∧ ∀ d ∈ f.ds, d.1.size ≤ 1000000 := fun f hf => hzr f (List.mem_of_mem_drop hf)
    have h2d := alE_drop 1 h2r
    have hd := Lib.hid (fDat (w0 := w9.setCell ⟨ob, 8, none⟩ (.slice (some ⟨g, 0, none⟩) 0 0)) n k a x y z lo hi (some ⟨g, 0, none⟩) 0 0 (fs.reverse.drop 1) hnz hft3 (by omega) hz3 _ (gl.kb k10).me)
    clear j1 j3 hs1 how5 k0
    go_wp2_with fail
    refine hd.out.mono ?_
    rintro r wq ⟨⟨v3, rfl, hs3⟩, kb⟩
    rw [h2d]
    replace hs1 := hs1'.kb kb
    replace k0 := k10.trans kb
    have hsub := dtV_sub 1 h2
    obtain ⟨p3, l3, c3, rfl, hl3⟩ := hs3.shape
    have hb3 : 0 < l3 → ∃ b off, p3 = some ⟨b, off, none⟩ := fun h => by
      obtain ⟨q, c, e, h6⟩ := hs3
      injection e with e1 e2 e3
      obtain ⟨b, off, e7, _⟩ := h6 (by simpa using (by omega : 0 < (dtV n k a x y z lo hi (fs.reverse.drop 1)).length))
      exact ⟨b, off, e1.trans e7⟩
    have hl3b : l3 ≤ 1000 := by
      have h5 := dtV_len2 (n := n) (k := k) (a := a) (x := x) (y := y) (z := z) (lo := lo) (hi := hi) (fs := fs.reverse.drop 1) (by simp; omega) hz3
      omega
    have HL3 := Lib.hid hl3
    clear hd hs1' hft3 kb k10 q3 q1 hl3 g0 g1 g2 g3 g4 g5 g6 g7 g8
    go_wp2
    go_loopg [81] l3 (fun gk s81 wr => ∃ i : Nat, s81 = .int .i64 i ∧ i + gk = l3 ∧ Kb w wr ∧ Kb wq wr)
    case atStart => exact ⟨0, rfl, by omega, k0, Kb.refl _⟩
    case round =>
      clear k0
      obtain ⟨i, rfl, hi_, kk, kq⟩ := hrel
      have hi0 : (0 : Int) ≤ (i : Int) := by omega
      by_cases hlt : i < l3
      · have hil : (i : Int) < (l3 : Int) := by omega
        obtain ⟨b3, off3, rfl⟩ := hb3 (by omega)
        obtain ⟨sx, hsx, hcx⟩ := hs3.cell i (by have := HL3.out; omega)
        replace hcx := kq.cell hcx
        have hq := Lib.hid (fContains (s := sx) (hs1.kb kq).sl (hsub _ (List.mem_of_getElem? hsx)) hdl)
        clear hsx
        go_wp2_with fail
        refine hq.out.mono ?_
        rintro r w9 ⟨rfl, k9⟩
        clear hcx hq
        go_wp2
        go_roundg (gk - 1)
        case measure => omega
        case rel => exact ⟨i + 1, by go_num, by omega, kk.trans k9, kq.trans k9⟩
      · obtain rfl : i = l3 := by omega
        have qw := (fawakeC (w0 := w)).out wr (gl.kb kk)
        clear hi_
        go_wp2_with fail
        refine qw.mono ?_
        rintro r w9 ⟨rfl, k9⟩
        go_wp2
        go_ret
        exact ⟨rfl, kk.trans k9⟩
  · have hc2 : ¬ c' - 1 = 0 := by omega
    have q3 : Is (w9.setCell ⟨ob, 8, none⟩ (.slice (some ⟨g, 5, none⟩) (fl - 1) (c' - 1))) ob #[.string n, .int .i64 k, .int .i64 a, .int .i64 x, .int .i64 y, .int .i64 z, .int .i64 lo, .int .i64 hi, .slice (some ⟨g, 5, none⟩) (fl - 1) (c' - 1)] 28 := j3.set 8 (.slice (some ⟨g, 5, none⟩) (fl - 1) (c' - 1))
    have q1 := j1.far (p := ⟨ob, 8, none⟩) hne (.slice (some ⟨g, 5, none⟩) (fl - 1) (c' - 1))
    have k10 := k0.setCell (p := ⟨ob, 8, none⟩) hobw (.slice (some ⟨g, 5, none⟩) (fl - 1) (c' - 1))
    have g0 := q3.c (i := 0) rfl
    have g1 := q3.c (i := 1) rfl
    have g2 := q3.c (i := 2) rfl
    have g3 := q3.c (i := 3) rfl
    have g4 := q3.c (i := 4) rfl
    have g5 := q3.c (i := 5) rfl
    have g6 := q3.c (i := 6) rfl
    have g7 := q3.c (i := 7) rfl
    have g8 := q3.c (i := 8) rfl
    have hs1' := hs1.far (p := ⟨ob, 8, none⟩) hob4 (.slice (some ⟨g, 5, none⟩) (fl - 1) (c' - 1))
    have hft3 : FrP (w9.setCell ⟨ob, 8, none⟩ (.slice (some ⟨g, 5, none⟩) (fl - 1) (c' - 1))) (.slice (some ⟨g, 5, none⟩) (fl - 1) (c' - 1)) (fs.reverse.drop 1) := by
      obtain ⟨g2, eg, _, _, q⟩ := (how5.far (q := ⟨ob, 8, none⟩) (Nat.lt_succ_self ob) (.slice (some ⟨g, 5, none⟩) (fl - 1) (c' - 1))).tail (by omega) (fun z hz => (hok z (by simpa using hz)).kx k10)
      injection eg with eg
      injection eg with eg _
      subst eg
      rw [hdrop] at q
      exact q
    have hz3 : ∀ f ∈ fs.reverse.drop 1, f.ds.length ≤ 6 ∧ ∀ d ∈ f.ds, d.1.size ≤ 1000000 := fun f hf => hzr f (List.mem_of_mem_drop hf)
    have h2d := alE_drop 1 h2r
    have hd := Lib.hid (fDat (w0 := w9.setCell ⟨ob, 8, none⟩ (.slice (some ⟨g, 5, none⟩) (fl - 1) (c' - 1))) n k a x y z lo hi (some ⟨g, 5, none⟩) (fl - 1) (c' - 1) (fs.reverse.drop 1) hnz hft3 (by omega) hz3 _ (gl.kb k10).me)
    clear j1 j3 hs1 how5 k0
    go_wp2_with fail
    refine hd.out.mono ?_
    rintro r wq ⟨⟨v3, rfl, hs3⟩, kb⟩
    rw [h2d]
    replace hs1 := hs1'.kb kb
    replace k0 := k10.trans kb
    have hsub := dtV_sub 1 h2
    obtain ⟨p3, l3, c3, rfl, hl3⟩ := hs3.shape
    have hb3 : 0 < l3 → ∃ b off, p3 = some ⟨b, off, none⟩ := fun h => by
      obtain ⟨q, c, e, h6⟩ := hs3
      injection e with e1 e2 e3
      obtain ⟨b, off, e7, _⟩ := h6 (by simpa using (by omega : 0 < (dtV n k a x y z lo hi (fs.reverse.drop 1)).length))
      exact ⟨b, off, e1.trans e7⟩
    have hl3b : l3 ≤ 1000 := by
      have h5 := dtV_len2 (n := n) (k := k) (a := a) (x := x) (y := y) (z := z) (lo := lo) (hi := hi) (fs := fs.reverse.drop 1) (by simp; omega) hz3
      omega
    have HL3 := Lib.hid hl3
    clear hd hs1' hft3 kb k10 q3 q1 hl3 g0 g1 g2 g3 g4 g5 g6 g7 g8
    go_wp2
    go_loopg [81] l3 (fun gk s81 wr => ∃ i : Nat, s81 = .int .i64 i ∧ i + gk = l3 ∧ Kb w wr ∧ Kb wq wr)
    case atStart => exact ⟨0, rfl, by omega, k0, Kb.refl _⟩
    case round =>
      clear k0
      obtain ⟨i, rfl, hi_, kk, kq⟩ := hrel
      have hi0 : (0 : Int) ≤ (i : Int) := by omega
      by_cases hlt : i < l3
      · have hil : (i : Int) < (l3 : Int) := by omega
        obtain ⟨b3, off3, rfl⟩ := hb3 (by omega)
        obtain ⟨sx, hsx, hcx⟩ := hs3.cell i (by have := HL3.out; omega)
        replace hcx := kq.cell hcx
        have hq := Lib.hid (fContains (s := sx) (hs1.kb kq).sl (hsub _ (List.mem_of_getElem? hsx)) hdl)
        clear hsx
        go_wp2_with fail
        refine hq.out.mono ?_
        rintro r w9 ⟨rfl, k9⟩
        clear hcx hq
        go_wp2
        go_roundg (gk - 1)
        case measure => omega
        case rel => exact ⟨i + 1, by go_num, by omega, kk.trans k9, kq.trans k9⟩
      · obtain rfl : i = l3 := by omega
        have qw := (fawakeC (w0 := w)).out wr (gl.kb kk)
        clear hi_
        go_wp2_with fail
        refine qw.mono ?_
        rintro r w9 ⟨rfl, k9⟩
        go_wp2
        go_ret
        exact ⟨rfl, kk.trans k9⟩
theorem cFrameOrders (n : ByteArray) (k a x y z lo hi : Int) (fp : Option Addr) (fl fc : Nat) (fs : List FrT) (w : World) (gl : Gf w w) (hfr : FrP w (.slice fp fl fc) fs) : Calls Tryz.prog 9 #[.agg #[.string n, .int .i64 k, .int .i64 a, .int .i64 x, .int .i64 y, .int .i64 z, .int .i64 lo, .int .i64 hi, .slice fp fl fc]] w fun r W' => r = .returned (.bool true) ∧ Kb w W' := by
  rcases Bool.eq_false_or_eq_true (fewB n fs) with h1 | h1
  · obtain ⟨h2, h3, h4⟩ := few_all h1
    by_cases e : alE n k a x y z lo hi fs = 0
    · exact loC n k a x y z lo hi fp fl fc fs w gl hfr h1 e
    · exact loB_1 w n k a x y z lo hi fp fl fc fs hfr h1 (by simpa using e) h2 (fun f h => ⟨by have := (h4 f h).1; omega, (h4 f h).2⟩) w gl
  · exact loA_1 w n k a x y z lo hi fp fl fc fs hfr h1 w gl
end Go.Proofs.YtlimjohnimgnhaaGreatDoor
