/- Texts Vchk4: each says in its own first comment what it proves. -/
import Derived.Test.YtegamkilhgekjaaGreatDoorM69
import Derived.Test.YtegamkilhgekjaaGreatDoorM68
import Derived.Test.YtegamkilhgekjaaGreatDoorM62
import Derived.Test.YtegamkilhgekjaaGreatDoorM67
import Derived.Deep.RegionHeld3
import Derived.Deep.Cut
import Derived.Deep.CutRange
/- Collinear and Area of package vector at every list of points. -/
namespace Go.Proofs.YtegamkilhgekjaaGreatDoor
open Go.RowKit
open Go.Lib (nDigits itoa decDigits)

theorem ptB_drew' {w w' : World} {b : Nat} {x y : Int} (h : PtB w b x y) (k : Kp [] w.drew w') : PtB w' b x y := (k.block b h.lt (by simp)).trans h
def st2 (w : World) (b : Nat) (x y : Int) : World := (w.setCell ⟨b, 0, none⟩ (.int .i64 x)).setCell ⟨b, 1, none⟩ (.int .i64 y)
theorem ptB_set2 {w : World} {b : Nat} {p q : Int} (h : PtB w b p q) (x y : Int) : PtB (st2 w b x y) b x y := by
  unfold PtB st2 at *; simp [World.setCell, Array.getElem?_modify, h]
theorem ptB_far2 {w : World} {b d : Nat} {p q : Int} (h : PtB w b p q) (hne : d ≠ b) (x y : Int) : PtB (st2 w d x y) b p q := by
  unfold PtB st2 at *; simp [World.setCell, Array.getElem?_modify, hne, h]
theorem kp_st2 {a w : World} {b : Nat} (k : Kp [] a w) (hb : a.heap.size ≤ b) (x y : Int) : Kp [] a (st2 w b x y) :=
  (k.setCell (p := ⟨b, 0, none⟩) (.inr hb) _).setCell (p := ⟨b, 1, none⟩) (.inr hb) _
def bd2 (a : Int × Int) (M : Nat) : Prop := a.1.natAbs ≤ M ∧ a.2.natAbs ≤ M
theorem sb2_bd {ps : List (Int × Int)} (h : ∀ q ∈ ps, PB q) (i j : Nat) : bd2 (sb2 (gP ps i) (gP ps j)) 200000 := by
  have a := gP_pb h i
  have b := gP_pb h j
  unfold PB at a b
  unfold bd2 sb2
  dsimp only
  omega

set_option maxRecDepth 100000 in
set_option maxHeartbeats 4000000 in
theorem collinear1 (bx g o c : Nat) (p : Option Addr) (ps : List (Int × Int)) (w : World) (hs : Pts w g o ps) (hp : 0 < ps.length → p = some ⟨g, o, none⟩ ∧ g < w.heap.size) (hn : ps.length ≤ 64) (hb : ∀ q ∈ ps, PB q) (hbx : bx < w.heap.size) (hB : w.cell? ⟨bx, 0, none⟩ = some (.slice p ps.length c)) (R : Bool)
    (h0 : ∀ i j k, i < ps.length → j < i → k < j → v3 (gP ps) i j k ≠ 0 → R = false) (h1 : (∀ i j k, i < ps.length → j < i → k < j → v3 (gP ps) i j k = 0) → R = true) :
    Calls Tryz.prog 61 #[.pointer (some ⟨bx, 0, none⟩)] w fun e w' => e = .returned (.bool R) ∧ Kp [] w w' := by
  obtain ⟨w1, hw1⟩ : ∃ w1, w1 = w.alloc (.cells #[.int .i64 0, .int .i64 0] 49 (0, 0)) := ⟨_, rfl⟩
  have a0 : PtB w1 w.heap.size 0 0 := by rw [hw1]; exact PtB.made w 0 0
  have kk : Kp [] w w1 := by rw [hw1]; exact (Kp.refl _ _).alloc _
  have hB1 : ∀ W, Kp [] w W → W.cell? ⟨bx, 0, none⟩ = some (.slice p ps.length c) := fun W k => by
    rw [World.cell?_of_block (k.block bx hbx (by simp))]; exact hB
  have hcc : ∀ j, j < ps.length → ∀ W, Kp [] w W → W.cell? ⟨g, o + j * 2, none⟩ = some (.int .i64 (gP ps j).1) ∧ W.cell? ⟨g, o + j * 2 + 1, none⟩ = some (.int .i64 (gP ps j).2) := fun j hj W k => by rw [gP_lt hj]; exact hs.kp0 hp k j hj
  have hp1 : 0 < ps.length → p = some ⟨g, o, none⟩ := fun h => (hp h).1
  have hv := fun j => sb2_bd hb 0 j
  have q1 : Hid (∀ (W : World) (j : Nat), Calls Tryz.prog 62 #[.agg #[.int .i64 (gP ps j).1, .int .i64 (gP ps j).2], .agg #[.int .i64 (gP ps 0).1, .int .i64 (gP ps 0).2]] W fun e w' => e = .returned (.agg #[.int .i64 (sb2 (gP ps 0) (gP ps j)).1, .int .i64 (sb2 (gP ps 0) (gP ps j)).2]) ∧ Kp [] W w') := fun W j => by
    have a := gP_pb hb 0
    have b := gP_pb hb j
    unfold PB at a b
    exact vminus _ _ _ _ W (by omega) (by omega) (by omega) (by omega)
  generalize gP ps = G at *
  generalize hN : ps.length = N at *
  have hqa := Lib.hid hcc
  have hqp := Lib.hid hp1
  have H0 := Lib.hid h0
  have H1 := Lib.hid h1
  have Hv := Lib.hid hv
  have HB := Lib.hid hB1
  clear hs hp hcc hp1 hb hN h0 h1 hv hB1 ps
  have cB := HB.out _ kk
  have hn1 : (N : Int) ≤ 64 := by omega
  have hz0 : 0 ≤ (N : Int) := by omega
  have hn2 := Lib.hid hn
  clear hn
  have w0 : w.heap.size + 1 = w1.heap.size := by rw [hw1]; simp
  have W0 := Lib.hid w0
  clear w0
  subst hw1
  go_enter Tryz.func61, Tryz.ntmps61
  go_wp2_with fail
  go_loopg [8] N (fun gk s8 wr => ∃ (t : Nat) (A : Int × Int), s8 = .int .i64 t ∧ t + gk = N ∧ Hid (ClI G t A ∧ bd2 A 200000) ∧ PtB wr w.heap.size A.1 A.2 ∧ Kp [] w wr)
  case atStart => exact ⟨0, o2, rfl, by omega, Lib.hid ⟨ClI.start G, by unfold bd2 o2; simp⟩, a0, kk⟩
  case round =>
    clear a0 kk cB
    obtain ⟨t, A, rfl, hk, hI, a0, kk⟩ := hrel
    by_cases lt : t < N
    · have lt' : (t : Int) < (N : Int) := by omega
      have z1 : 0 ≤ (t : Int) := by omega
      have hpos : (0 : Int) < (N : Int) := by omega
      obtain rfl := hqp.out (by omega)
      obtain ⟨c0, c1⟩ := hqa.out t lt wr kk
      have s := PtB.made wr (G t).1 (G t).2
      have x0 := s.c0; have x1 := s.c1
      have HZ := Lib.hid a0.lt
      replace a0 := a0.alloc (.cells #[.int .i64 (G t).1, .int .i64 (G t).2] 49 (0, 0))
      replace kk := kk.alloc (.cells #[.int .i64 (G t).1, .int .i64 (G t).2] 49 (0, 0))
      obtain ⟨d0, d1⟩ := hqa.out 0 (by omega) _ kk
      have cB := HB.out _ kk
      have kz := kk.alloc (.cells #[.int .i64 0, .int .i64 0] 49 (0, 0))
      obtain ⟨r0, r1⟩ := hqa.out 0 (by omega) _ kz
      have cZ := HB.out _ kz; clear kz
      have sz := s.alloc (.cells #[.int .i64 0, .int .i64 0] 49 (0, 0))
      have t0 := sz.c0; have t1 := sz.c1; clear sz
      rw [Nat.zero_mul, Nat.add_zero] at d0 d1 r0 r1
      have q := Lib.hid fun W : World => q1.out W t
      have Hk := Lib.hid hk
      have Ht := Lib.hid lt
      clear hk lt q1
      have hv := Lib.hid (Hv.out t)
      have hst := Lib.hid fun (A2 : Int × Int) h1 => ClI.step (A' := A2) hI.out.1 h1
      generalize hV : sb2 (G 0) (G t) = V at *
      have HV := Lib.hid hV; clear hV
      generalize (G 0).1 = g1 at *
      generalize (G 0).2 = g2 at *
      generalize (G t).1 = p1 at *
      generalize (G t).2 = p2 at *
      go_wp2_with fail
      have hz : PtB ((wr.alloc (.cells #[.int .i64 p1, .int .i64 p2] 49 (0, 0))).alloc (.cells #[.int .i64 0, .int .i64 0] 49 (0, 0))) (wr.heap.size + 1) 0 0 := by have := PtB.made (wr.alloc (.cells #[.int .i64 p1, .int .i64 p2] 49 (0, 0))) 0 0; rw [World.size_alloc] at this; exact this
      go_cut [5] from 12 to 25 (fun s5 wx => ∃ bv, s5 = .pointer (some ⟨bv, 0, none⟩) ∧ w.heap.size < bv ∧ PtB wx bv V.1 V.2 ∧ PtB wx w.heap.size A.1 A.2 ∧ Kp [] w wx)
      case first =>
        go_region_with (go_at_call 62; refine (q.out _).mono ?_; rintro e w9 ⟨rfl, k9⟩; (try (have y := ptB_drew' hz k9; have y0 := y.c0; have y1 := y.c1; have f0 := y.f 0; have f1 := y.f 1)))
        all_goals go_wp2_with fail
        all_goals go_meet
        all_goals first
          | exact ⟨_, rfl, by have e := HZ.out; have f := k9.size; simp at f; omega, PtB.made w9 V.1 V.2, (ptB_drew' a0 k9).alloc _, (kk.drew.trans k9).alloc _⟩
          | exact ⟨_, rfl, by have e := HZ.out; omega, ptB_set2 y V.1 V.2, ptB_far2 (ptB_drew' (a0.alloc _) k9) (by have e := HZ.out; omega) _ _, kp_st2 ((kk.alloc _).drew.trans k9) (by have e := HZ.out; omega) _ _⟩
      case rest =>
        clear a0 kk s x0 x1 c0 c1 d0 d1 r0 r1 t0 t1 cB cZ hz q
        obtain ⟨bv, rfl, hbv, y, a0, kk⟩ := hcut
        obtain ⟨hI1, hI2⟩ := hI.out
        have ve := hv.out
        have HBv := Lib.hid hbv
        have bvA : bv ≠ w.heap.size := by omega
        clear hbv
        have a0c0 := a0.c0
        have a0c1 := a0.c1
        have a0f0 := a0.f 0
        have a0f1 := a0.f 1
        have yc0 := y.c0
        have yc1 := y.c1
        by_cases hA : A = o2
        · have eqa := fun W => eqP A.1 A.2 0 0 W
          rw [show (A.1 == 0 && A.2 == 0) = true by rw [hA]; rfl] at eqa
          have hs := hst.out V (by rw [if_pos hA])
          have q3 : Hid (∀ W : World, Calls Tryz.prog 58 #[.agg #[.int .i64 V.1, .int .i64 V.2], .agg #[.int .i64 V.1, .int .i64 V.2]] W fun e w' => e = .returned (.int .i64 (cr2 V V)) ∧ Kp [] W w') := fun W => vcross _ _ _ _ W (by have := ve.1; omega) (by have := ve.2; omega) (by have := ve.1; omega) (by have := ve.2; omega)
          have HS := Lib.hid hs; have BB := Lib.hid ve; clear hs hI1 hI2 ve hv hst hA hI
          have a1 := ptB_set2 a0 V.1 V.2; have y1 := ptB_far2 y (Ne.symm bvA) V.1 V.2; replace kk := kp_st2 kk (Nat.le_refl _) V.1 V.2; unfold st2 at a1 y1 kk
          have a1c0 := a1.c0
          have a1c1 := a1.c1
          have y1c0 := y1.c0
          have y1c1 := y1.c1
          generalize hd : cr2 V V = d at *
          have HD := Lib.hid hd; clear hd
          go_wp2_with fail
          with_reducible refine (q3.out _).mono ?_
          rintro e w7 ⟨rfl, k7⟩
          replace kk := kk.trans k7; replace a1 := a1.kept k7 (by simp); clear k7 q3 y1 y1c0 y1c1 a1c0 a1c1 a0c0 a0c1 a0f0 a0f1 yc0 yc1
          by_cases hd : d = 0
          · subst hd
            go_wp2
            have hk := Hk.out; have lt := Ht.out
            go_roundg (gk - 1)
            case measure => omega
            case rel => exact ⟨t + 1, V, by go_num, by omega, Lib.hid ⟨HS.out.1 (by trivial), BB.out⟩, a1, kk⟩
          · have hdb : (d != 0) = true := by simp [hd]
            have HR : Hid (R = false) := by obtain ⟨j, k, h1, h2, h3⟩ := HS.out.2 hd; exact H0.out t j k Ht.out h1 h2 h3
            clear hd
            go_wp2
            go_ret
            exact ⟨by rw [HR.out]; rfl, kk⟩
        · have eqa := fun W => eqP A.1 A.2 0 0 W
          rw [show (A.1 == 0 && A.2 == 0) = false by rw [o2_iff] at hA; simp only [Bool.and_eq_false_iff, beq_eq_false_iff_ne]; by_cases h1 : A.1 = 0 <;> simp_all] at eqa
          have hs := hst.out A (by rw [if_neg hA])
          have q3 : Hid (∀ W : World, Calls Tryz.prog 58 #[.agg #[.int .i64 A.1, .int .i64 A.2], .agg #[.int .i64 V.1, .int .i64 V.2]] W fun e w' => e = .returned (.int .i64 (cr2 A V)) ∧ Kp [] W w') := fun W => vcross _ _ _ _ W (by have := hI2.1; omega) (by have := hI2.2; omega) (by have := ve.1; omega) (by have := ve.2; omega)
          have HS := Lib.hid hs; have BB := Lib.hid hI2; clear hs hI1 hI2 ve hv hst hA hI
          generalize hd : cr2 A V = d at *
          have HD := Lib.hid hd; clear hd
          go_wp2_with fail
          with_reducible refine (q3.out _).mono ?_
          rintro e w7 ⟨rfl, k7⟩
          replace kk := kk.trans k7; replace a0 := a0.kept k7 (by simp); clear k7 q3 a0c0 a0c1 a0f0 a0f1 yc0 yc1
          by_cases hd : d = 0
          · subst hd
            go_wp2
            have hk := Hk.out; have lt := Ht.out
            go_roundg (gk - 1)
            case measure => omega
            case rel => exact ⟨t + 1, A, by go_num, by omega, Lib.hid ⟨HS.out.1 (by trivial), BB.out⟩, a0, kk⟩
          · have hdb : (d != 0) = true := by simp [hd]
            have HR : Hid (R = false) := by obtain ⟨j, k, h1, h2, h3⟩ := HS.out.2 hd; exact H0.out t j k Ht.out h1 h2 h3
            clear hd
            go_wp2
            go_ret
            exact ⟨by rw [HR.out]; rfl, kk⟩
    · have lt' : ¬ (t : Int) < (N : Int) := by omega
      have et : t = N := by omega
      have HR : Hid (R = true) := H1.out (fun i j k h1 h2 h3 => ClI.done hI.out.1 i j k (by omega) h2 h3)
      clear lt hk et q1 a0
      go_wp2
      go_ret
      exact ⟨by rw [HR.out]; rfl, kk⟩

set_option maxRecDepth 100000 in
set_option maxHeartbeats 4000000 in
theorem collinear_p (g o c : Nat) (p : Option Addr) (ps : List (Int × Int)) (w : World) (hs : Pts w g o ps) (hp : 0 < ps.length → p = some ⟨g, o, none⟩ ∧ g < w.heap.size) (hn : ps.length ≤ 9223372036854775807) :
    Calls Tryz.prog 16 #[.slice p ps.length c] w fun e w' => e = .returned (.tuple #[.bool (bZp (ckP ps) (clB ps)), .int .i64 (ckP ps)]) ∧ Kp [] w w' := by
  obtain ⟨w1, hw1⟩ : ∃ w1, w1 = w.alloc (.cells #[.slice p ps.length c] 22 (0, 0)) := ⟨_, rfl⟩
  have bx : Boxed w1 w.heap.size 22 (.slice p ps.length c) := by rw [hw1]; exact Boxed.new w _ _
  have kk : Kp [] w w1 := by rw [hw1]; exact (Kp.refl _ _).alloc _
  have hp1 : 0 < ps.length → p = some ⟨g, o, none⟩ ∧ g < w1.heap.size := fun h => ⟨(hp h).1, Nat.lt_of_lt_of_le (hp h).2 kk.size⟩
  have hs1 : Pts w1 g o ps := hs.kp0 hp kk
  have qc := Lib.hid (vCheck g o c p ps w1 hs1 hp1 hn)
  have qr : Hid (∀ W : World, Kp [] w1 W → Calls Tryz.prog 60 #[.int .i64 (ckP ps), .func (.func 61) #[] #[.pointer (some ⟨w.heap.size, 0, none⟩)]] W fun e w' => e = .returned (.tuple #[.bool (bZp (ckP ps) (clB ps)), .int .i64 (ckP ps)]) ∧ Kp [] W w') := fun W k => by
    by_cases h0 : ckP ps = 0
    · rw [h0, show bZp 0 (clB ps) = clB ps from if_pos rfl]
      refine vresultB_0 61 _ _ W (enters_of Tryz.func61 (by kernel_rfl) rfl) (Lib.hid ?_)
      have hz : w.heap.size < W.heap.size := Nat.lt_of_lt_of_le bx.lt k.size
      have hB : W.cell? ⟨w.heap.size, 0, none⟩ = some (.slice p ps.length c) := (show Boxed W w.heap.size 22 (.slice p ps.length c) from (k.block _ bx.lt (by simp)).trans bx).cell
      exact collinear1 w.heap.size g o c p ps W (hs1.kp0 hp1 k) (fun h => ⟨(hp1 h).1, Nat.lt_of_lt_of_le (hp1 h).2 k.size⟩) (ckP_len h0) (ckP_pb h0) hz hB (clB ps) (fun i j k h1 h2 h3 h => clB_0 i j k h1 h2 h3 h) clB_1
    · rw [show bZp (ckP ps) (clB ps) = false from if_neg h0]
      exact vresultB_e _ _ W (by simp [h0])
  have cB := bx.cell
  generalize bZp (ckP ps) (clB ps) = v at *
  generalize ckP ps = z at *
  generalize hN : ps.length = N at *
  clear hs1 hp1 hs hp bx hn hN
  subst hw1
  go_enter Tryz.func16, Tryz.ntmps16
  go_wp2_with fail
  with_reducible refine qc.out.mono ?_
  rintro e w2 ⟨rfl, k⟩
  go_wp2_with fail
  with_reducible refine (qr.out _ k).mono ?_
  rintro e w3 ⟨rfl, k3⟩
  replace kk := (kk.trans k).trans k3
  clear k k3 qr qc cB
  go_wp2
  go_ret2
  exact ⟨rfl, kk⟩

set_option maxRecDepth 100000 in
set_option maxHeartbeats 4000000 in
theorem area_p (g o c : Nat) (p : Option Addr) (ps : List (Int × Int)) (w : World) (hs : Pts w g o ps) (hp : 0 < ps.length → p = some ⟨g, o, none⟩ ∧ g < w.heap.size) (hn : ps.length ≤ 9223372036854775807) :
    Calls Tryz.prog 14 #[.slice p ps.length c] w fun e w' => e = .returned (.tuple #[.int .i64 (iZ (ckP ps) (arS (gP ps) ps.length ps.length)), .int .i64 (ckP ps)]) ∧ Kp [] w w' := by
  by_cases h0 : ckP ps = 0
  · rw [h0, show iZ 0 (arS (gP ps) ps.length ps.length) = arS (gP ps) ps.length ps.length from if_pos rfl]
    exact area_c g o c p ps w hs hp (ckP_len h0) (ckP_pb h0)
  · rw [show iZ (ckP ps) (arS (gP ps) ps.length ps.length) = 0 from if_neg h0]
    obtain ⟨w1, hw1⟩ : ∃ w1, w1 = w.alloc (.cells #[.slice p ps.length c] 22 (0, 0)) := ⟨_, rfl⟩
    have bx : Boxed w1 w.heap.size 22 (.slice p ps.length c) := by rw [hw1]; exact Boxed.new w _ _
    have kk : Kp [] w w1 := by rw [hw1]; exact (Kp.refl _ _).alloc _
    have hp1 : 0 < ps.length → p = some ⟨g, o, none⟩ ∧ g < w1.heap.size := fun h => ⟨(hp h).1, Nat.lt_of_lt_of_le (hp h).2 kk.size⟩
    have qc := Lib.hid (vCheck g o c p ps w1 (hs.kp0 hp kk) hp1 hn)
    have qr : Hid (∀ W : World, Calls Tryz.prog 55 #[.int .i64 (ckP ps), .func (.func 56) #[] #[.pointer (some ⟨w.heap.size, 0, none⟩)]] W fun e w' => e = .returned (.tuple #[.int .i64 0, .int .i64 (ckP ps)]) ∧ Kp [] W w') := fun W => vresult_e _ _ W (by simp [h0])
    have cB := bx.cell
    generalize ckP ps = z at *
    generalize hN : ps.length = N at *
    clear hp1 hs hp bx hn hN h0
    subst hw1
    go_enter Tryz.func14, Tryz.ntmps14
    go_wp2_with fail
    with_reducible refine qc.out.mono ?_
    rintro e w2 ⟨rfl, k⟩
    go_wp2_with fail
    with_reducible refine (qr.out _).mono ?_
    rintro e w3 ⟨rfl, k3⟩
    replace kk := (kk.trans k).trans k3
    clear k k3 qr qc cB
    go_wp2
    go_ret2
    exact ⟨rfl, kk⟩

end Go.Proofs.YtegamkilhgekjaaGreatDoor
