/- Texts Vref7, Vref8, Vref9, Vec17, Vsol: each says in its own first comment what it proves. -/
import Derived.Test.YtcgilcmhandgfaaGreatDoorM61
import Derived.Test.YtcgilcmhandgfaaGreatDoorM59
import Derived.Test.YtcgilcmhandgfaaGreatDoorM60
import Derived.Deep.RegionHeld3
import Derived.Test.YtcgilcmhandgfaaGreatDoorM62
import Derived.Laws.StructEq
/- The reference of layer 7 in space: RightSpot, Less, TimesSpace, Vector, FarSpace, Across, Six. -/
namespace Go.Proofs.YtcgilcmhandgfaaGreatDoor
open Go.RowKit
open Go.Lib (nDigits itoa decDigits)

set_option maxRecDepth 100000 in
set_option maxHeartbeats 4000000 in
theorem rRightS_0 (ax ay az : Int) (w : World)
    (q0 : Hid (Gw w 119 #[.int .i64 ax] (.bool false))) :
    Calls Tryz.prog 80 #[.agg #[.int .i64 ax, .int .i64 ay, .int .i64 az]] w fun e w' => e = .returned (.bool false) ∧ Kp [] w w' := by
  unfold Gw at q0
  have sa := SpB.made 56 w ax ay az
  have kk : Kp [] w (w.alloc (.cells #[.int .i64 ax, .int .i64 ay, .int .i64 az] 56 (0, 0))) := (Kp.refl _ _).alloc _
  have xa0 := sa.c0
  have xa1 := sa.c1
  have xa2 := sa.c2
  go_enter Tryz.func80, Tryz.ntmps80
  go_wp2_with fail
  with_reducible refine (q0.out _ kk).mono ?_
  rintro e w1 ⟨rfl, k⟩
  replace sa := sa.kept k (by simp)
  clear xa0 xa1 xa2
  have xa0 := sa.c0
  have xa1 := sa.c1
  have xa2 := sa.c2
  replace kk := kk.trans k
  clear k
  clear sa xa0 xa1 xa2
  go_wp2
  go_ret
  exact ⟨rfl, kk⟩

set_option maxRecDepth 100000 in
set_option maxHeartbeats 4000000 in
theorem rRightS_1 (ax ay az : Int) (w : World)
    (q0 : Hid (Gw w 119 #[.int .i64 ax] (.bool true)))
    (q1 : Hid (Gw w 119 #[.int .i64 ay] (.bool false))) :
    Calls Tryz.prog 80 #[.agg #[.int .i64 ax, .int .i64 ay, .int .i64 az]] w fun e w' => e = .returned (.bool false) ∧ Kp [] w w' := by
  unfold Gw at q0 q1
  have sa := SpB.made 56 w ax ay az
  have kk : Kp [] w (w.alloc (.cells #[.int .i64 ax, .int .i64 ay, .int .i64 az] 56 (0, 0))) := (Kp.refl _ _).alloc _
  have xa0 := sa.c0
  have xa1 := sa.c1
  have xa2 := sa.c2
  go_enter Tryz.func80, Tryz.ntmps80
  go_wp2_with fail
  with_reducible refine (q0.out _ kk).mono ?_
  rintro e w1 ⟨rfl, k⟩
  replace sa := sa.kept k (by simp)
  clear xa0 xa1 xa2
  have xa0 := sa.c0
  have xa1 := sa.c1
  have xa2 := sa.c2
  replace kk := kk.trans k
  clear k
  go_wp2_with fail
  with_reducible refine (q1.out _ kk).mono ?_
  rintro e w2 ⟨rfl, k⟩
  replace sa := sa.kept k (by simp)
  clear xa0 xa1 xa2
  have xa0 := sa.c0
  have xa1 := sa.c1
  have xa2 := sa.c2
  replace kk := kk.trans k
  clear k
  clear sa xa0 xa1 xa2
  go_wp2
  go_ret
  exact ⟨rfl, kk⟩

set_option maxRecDepth 100000 in
set_option maxHeartbeats 4000000 in
theorem rRightS_2 (ax ay az : Int) (w : World)
    (q0 : Hid (Gw w 119 #[.int .i64 ax] (.bool true)))
    (q1 : Hid (Gw w 119 #[.int .i64 ay] (.bool true)))
    (q2 : Hid (Gw w 119 #[.int .i64 az] (.bool false))) :
    Calls Tryz.prog 80 #[.agg #[.int .i64 ax, .int .i64 ay, .int .i64 az]] w fun e w' => e = .returned (.bool false) ∧ Kp [] w w' := by
  unfold Gw at q0 q1 q2
  have sa := SpB.made 56 w ax ay az
  have kk : Kp [] w (w.alloc (.cells #[.int .i64 ax, .int .i64 ay, .int .i64 az] 56 (0, 0))) := (Kp.refl _ _).alloc _
  have xa0 := sa.c0
  have xa1 := sa.c1
  have xa2 := sa.c2
  go_enter Tryz.func80, Tryz.ntmps80
  go_wp2_with fail
  with_reducible refine (q0.out _ kk).mono ?_
  rintro e w1 ⟨rfl, k⟩
  replace sa := sa.kept k (by simp)
  clear xa0 xa1 xa2
  have xa0 := sa.c0
  have xa1 := sa.c1
  have xa2 := sa.c2
  replace kk := kk.trans k
  clear k
  go_wp2_with fail
  with_reducible refine (q1.out _ kk).mono ?_
  rintro e w2 ⟨rfl, k⟩
  replace sa := sa.kept k (by simp)
  clear xa0 xa1 xa2
  have xa0 := sa.c0
  have xa1 := sa.c1
  have xa2 := sa.c2
  replace kk := kk.trans k
  clear k
  go_wp2_with fail
  with_reducible refine (q2.out _ kk).mono ?_
  rintro e w3 ⟨rfl, k⟩
  replace sa := sa.kept k (by simp)
  clear xa0 xa1 xa2
  have xa0 := sa.c0
  have xa1 := sa.c1
  have xa2 := sa.c2
  replace kk := kk.trans k
  clear k
  clear sa xa0 xa1 xa2
  go_wp2
  go_ret
  exact ⟨rfl, kk⟩

set_option maxRecDepth 100000 in
set_option maxHeartbeats 4000000 in
theorem rRightS_3 (ax ay az : Int) (w : World)
    (q0 : Hid (Gw w 119 #[.int .i64 ax] (.bool true)))
    (q1 : Hid (Gw w 119 #[.int .i64 ay] (.bool true)))
    (q2 : Hid (Gw w 119 #[.int .i64 az] (.bool true))) :
    Calls Tryz.prog 80 #[.agg #[.int .i64 ax, .int .i64 ay, .int .i64 az]] w fun e w' => e = .returned (.bool true) ∧ Kp [] w w' := by
  unfold Gw at q0 q1 q2
  have sa := SpB.made 56 w ax ay az
  have kk : Kp [] w (w.alloc (.cells #[.int .i64 ax, .int .i64 ay, .int .i64 az] 56 (0, 0))) := (Kp.refl _ _).alloc _
  have xa0 := sa.c0
  have xa1 := sa.c1
  have xa2 := sa.c2
  go_enter Tryz.func80, Tryz.ntmps80
  go_wp2_with fail
  with_reducible refine (q0.out _ kk).mono ?_
  rintro e w1 ⟨rfl, k⟩
  replace sa := sa.kept k (by simp)
  clear xa0 xa1 xa2
  have xa0 := sa.c0
  have xa1 := sa.c1
  have xa2 := sa.c2
  replace kk := kk.trans k
  clear k
  go_wp2_with fail
  with_reducible refine (q1.out _ kk).mono ?_
  rintro e w2 ⟨rfl, k⟩
  replace sa := sa.kept k (by simp)
  clear xa0 xa1 xa2
  have xa0 := sa.c0
  have xa1 := sa.c1
  have xa2 := sa.c2
  replace kk := kk.trans k
  clear k
  go_wp2_with fail
  with_reducible refine (q2.out _ kk).mono ?_
  rintro e w3 ⟨rfl, k⟩
  replace sa := sa.kept k (by simp)
  clear xa0 xa1 xa2
  have xa0 := sa.c0
  have xa1 := sa.c1
  have xa2 := sa.c2
  replace kk := kk.trans k
  clear k
  clear sa xa0 xa1 xa2
  go_wp2
  go_ret
  exact ⟨rfl, kk⟩

theorem rrightS (ax ay az : Int) (w : World) : Calls Tryz.prog 80 #[.agg #[.int .i64 ax, .int .i64 ay, .int .i64 az]] w fun e w' => e = .returned (.bool (inS ⟨ax, ay, az⟩)) ∧ Kp [] w w' := by
  have e : inS ⟨ax, ay, az⟩ = (inB ax && inB ay && inB az) := rfl
  rw [e]
  have g : ∀ (z : Int) (b : Bool), inB z = b → Hid (Gw w 119 #[.int .i64 z] (.bool b)) := fun z b h => gw_of fun W => by
    have q := rin7 z W
    rwa [h] at q
  cases h1 : inB ax with
  | false => exact rRightS_0 ax ay az w (g _ _ h1)
  | true =>
    cases h2 : inB ay with
    | false => exact rRightS_1 ax ay az w (g _ _ h1) (g _ _ h2)
    | true =>
      cases h3 : inB az with
      | false => exact rRightS_2 ax ay az w (g _ _ h1) (g _ _ h2) (g _ _ h3)
      | true => exact rRightS_3 ax ay az w (g _ _ h1) (g _ _ h2) (g _ _ h3)

set_option maxRecDepth 100000 in
set_option maxHeartbeats 4000000 in
theorem rTimesS (ax ay az bx yb bz : Int) (w : World) (hax : ax.natAbs ≤ 1000000000000) (hay : ay.natAbs ≤ 1000000000000) (haz : az.natAbs ≤ 1000000000000) (hbx : bx.natAbs ≤ 1000000) (hyb : yb.natAbs ≤ 1000000) (hbz : bz.natAbs ≤ 1000000) :
    Calls Tryz.prog 124 #[.agg #[.int .i64 ax, .int .i64 ay, .int .i64 az], .agg #[.int .i64 bx, .int .i64 yb, .int .i64 bz]] w fun e w' => e = .returned (.int .i64 (ax * bx + ay * yb + az * bz)) ∧ Kp [] w w' := by
  have m0 := mul_bd hax hbx
  have m1 := mul_bd hay hyb
  have m2 := mul_bd haz hbz
  have p0 : -1000000000000000000 ≤ ax * bx ∧ ax * bx ≤ 1000000000000000000 := by omega
  have p1 : -1000000000000000000 ≤ ay * yb ∧ ay * yb ≤ 1000000000000000000 := by omega
  have p2 : -1000000000000000000 ≤ az * bz ∧ az * bz ≤ 1000000000000000000 := by omega
  obtain ⟨p01, p02⟩ := p0
  obtain ⟨p11, p12⟩ := p1
  obtain ⟨p21, p22⟩ := p2
  clear hax hay haz hbx hyb hbz m0 m1 m2
  have s0 := (SpB.made 56 w ax ay az).alloc (.cells #[.int .i64 bx, .int .i64 yb, .int .i64 bz] 56 (0, 0))
  have s1 := SpB.made 56 (w.alloc (.cells #[.int .i64 ax, .int .i64 ay, .int .i64 az] 56 (0, 0))) bx yb bz
  simp only [World.size_alloc] at s1
  have c0 := s0.c0
  have d0 := s1.c0
  have c1 := s0.c1
  have d1 := s1.c1
  have c2 := s0.c2
  have d2 := s1.c2
  clear s0 s1
  have kk : Kp [] w ((w.alloc (.cells #[.int .i64 ax, .int .i64 ay, .int .i64 az] 56 (0, 0))).alloc (.cells #[.int .i64 bx, .int .i64 yb, .int .i64 bz] 56 (0, 0))) := ((Kp.refl [] w).alloc _).alloc _
  go_enter Tryz.func124, Tryz.ntmps124
  go_wp2
  go_ret
  exact ⟨rfl, kk⟩

set_option maxRecDepth 100000 in
set_option maxHeartbeats 4000000 in
theorem rVectorS (ax ay az bx yb bz : Int) (w : World) (hax : ax.natAbs ≤ 1000000) (hay : ay.natAbs ≤ 1000000) (haz : az.natAbs ≤ 1000000) (hbx : bx.natAbs ≤ 1000000) (hyb : yb.natAbs ≤ 1000000) (hbz : bz.natAbs ≤ 1000000) :
    Calls Tryz.prog 122 #[.agg #[.int .i64 ax, .int .i64 ay, .int .i64 az], .agg #[.int .i64 bx, .int .i64 yb, .int .i64 bz]] w fun e w' => e = .returned (.agg #[.int .i64 (ay * bz - az * yb), .int .i64 (az * bx - ax * bz), .int .i64 (ax * yb - ay * bx)]) ∧ Kp [] w w' := by
  have m0 := mul_bd hay hbz
  have m1 := mul_bd haz hyb
  have m2 := mul_bd haz hbx
  have m3 := mul_bd hax hbz
  have m4 := mul_bd hax hyb
  have m5 := mul_bd hay hbx
  have p0 : -1000000000000 ≤ ay * bz ∧ ay * bz ≤ 1000000000000 := by omega
  have p1 : -1000000000000 ≤ az * yb ∧ az * yb ≤ 1000000000000 := by omega
  have p2 : -1000000000000 ≤ az * bx ∧ az * bx ≤ 1000000000000 := by omega
  have p3 : -1000000000000 ≤ ax * bz ∧ ax * bz ≤ 1000000000000 := by omega
  have p4 : -1000000000000 ≤ ax * yb ∧ ax * yb ≤ 1000000000000 := by omega
  have p5 : -1000000000000 ≤ ay * bx ∧ ay * bx ≤ 1000000000000 := by omega
  obtain ⟨p01, p02⟩ := p0
  obtain ⟨p11, p12⟩ := p1
  obtain ⟨p21, p22⟩ := p2
  obtain ⟨p31, p32⟩ := p3
  obtain ⟨p41, p42⟩ := p4
  obtain ⟨p51, p52⟩ := p5
  clear hax hay haz hbx hyb hbz m0 m1 m2 m3 m4 m5
  have s0 := (SpB.made 56 w ax ay az).alloc (.cells #[.int .i64 bx, .int .i64 yb, .int .i64 bz] 56 (0, 0))
  have s1 := SpB.made 56 (w.alloc (.cells #[.int .i64 ax, .int .i64 ay, .int .i64 az] 56 (0, 0))) bx yb bz
  simp only [World.size_alloc] at s1
  replace s0 := s0.alloc (.cells #[.int .i64 0, .int .i64 0, .int .i64 0] 56 (0, 0))
  replace s1 := s1.alloc (.cells #[.int .i64 0, .int .i64 0, .int .i64 0] 56 (0, 0))
  have c0 := s0.c0
  have d0 := s1.c0
  have c1 := s0.c1
  have d1 := s1.c1
  have c2 := s0.c2
  have d2 := s1.c2
  clear s0 s1
  have kk : Kp [] w (((w.alloc (.cells #[.int .i64 ax, .int .i64 ay, .int .i64 az] 56 (0, 0))).alloc (.cells #[.int .i64 bx, .int .i64 yb, .int .i64 bz] 56 (0, 0))).alloc (.cells #[.int .i64 (ay * bz - az * yb), .int .i64 (az * bx - ax * bz), .int .i64 (ax * yb - ay * bx)] 56 (0, 0))) := (((Kp.refl [] w).alloc _).alloc _).alloc _
  go_enter Tryz.func122, Tryz.ntmps122
  go_wp2
  refine bodyPost_ret (v := .agg #[.int .i64 (ay * bz - az * yb), .int .i64 (az * bx - ax * bz), .int .i64 (ax * yb - ay * bx)]) (by simp [results, Tryz.results122, go_sem]) rfl ?_
  exact ⟨rfl, kk⟩

set_option maxRecDepth 100000 in
set_option maxHeartbeats 4000000 in
theorem rLessS (ax ay az bx yb bz : Int) (w : World) (hax : ax.natAbs ≤ 1000000) (hay : ay.natAbs ≤ 1000000) (haz : az.natAbs ≤ 1000000) (hbx : bx.natAbs ≤ 1000000) (hyb : yb.natAbs ≤ 1000000) (hbz : bz.natAbs ≤ 1000000) :
    Calls Tryz.prog 123 #[.agg #[.int .i64 ax, .int .i64 ay, .int .i64 az], .agg #[.int .i64 bx, .int .i64 yb, .int .i64 bz]] w fun e w' => e = .returned (.agg #[.int .i64 (ax - bx), .int .i64 (ay - yb), .int .i64 (az - bz)]) ∧ Kp [] w w' := by
  have bax : -1000000 ≤ ax ∧ ax ≤ 1000000 := by omega
  have bay : -1000000 ≤ ay ∧ ay ≤ 1000000 := by omega
  have baz : -1000000 ≤ az ∧ az ≤ 1000000 := by omega
  have bbx : -1000000 ≤ bx ∧ bx ≤ 1000000 := by omega
  have byb : -1000000 ≤ yb ∧ yb ≤ 1000000 := by omega
  have bbz : -1000000 ≤ bz ∧ bz ≤ 1000000 := by omega
  obtain ⟨bax1, bax2⟩ := bax
  obtain ⟨bay1, bay2⟩ := bay
  obtain ⟨baz1, baz2⟩ := baz
  obtain ⟨bbx1, bbx2⟩ := bbx
  obtain ⟨byb1, byb2⟩ := byb
  obtain ⟨bbz1, bbz2⟩ := bbz
  clear hax hay haz hbx hyb hbz
  have s0 := (SpB.made 56 w ax ay az).alloc (.cells #[.int .i64 bx, .int .i64 yb, .int .i64 bz] 56 (0, 0))
  have s1 := SpB.made 56 (w.alloc (.cells #[.int .i64 ax, .int .i64 ay, .int .i64 az] 56 (0, 0))) bx yb bz
  simp only [World.size_alloc] at s1
  replace s0 := s0.alloc (.cells #[.int .i64 0, .int .i64 0, .int .i64 0] 56 (0, 0))
  replace s1 := s1.alloc (.cells #[.int .i64 0, .int .i64 0, .int .i64 0] 56 (0, 0))
  have c0 := s0.c0
  have d0 := s1.c0
  have c1 := s0.c1
  have d1 := s1.c1
  have c2 := s0.c2
  have d2 := s1.c2
  clear s0 s1
  have kk : Kp [] w (((w.alloc (.cells #[.int .i64 ax, .int .i64 ay, .int .i64 az] 56 (0, 0))).alloc (.cells #[.int .i64 bx, .int .i64 yb, .int .i64 bz] 56 (0, 0))).alloc (.cells #[.int .i64 (ax - bx), .int .i64 (ay - yb), .int .i64 (az - bz)] 56 (0, 0))) := (((Kp.refl [] w).alloc _).alloc _).alloc _
  go_enter Tryz.func123, Tryz.ntmps123
  go_wp2
  refine bodyPost_ret (v := .agg #[.int .i64 (ax - bx), .int .i64 (ay - yb), .int .i64 (az - bz)]) (by simp [results, Tryz.results123, go_sem]) rfl ?_
  exact ⟨rfl, kk⟩

def vrfs_s : RSt := ⟨8, 12, 3, fun i => ([5, 6, 7, 8, 9, 10, 11, 4] : List Nat).getD i 0, fun i => ([0, 0, 1, 0, 0, 1, 1, 0] : List Nat).getD i 0, fun i => ([0, 0, 0, 0, 0, 1, 2, 0] : List Nat).getD i 0, fun i => ([8, 8, 8, 8, 7, 0, 1, 2, 3, 4, 5, 6, 8] : List Nat).getD i 8, fun i => ([2, 5, 6] : List Nat).getD i 0, fun _ => false, fun _ => true, fun _ => 0, fun _ => false⟩
def vrfs_y : RSy := ⟨vrfs_s, fun i => ([.at 2, .at 3, .at 4, .at 2, .at 3, .at 4, .at 5, .at 5] : List SV).getD i .un, [(2, .at 0), (3, .at 1)], fun i => ([false, false, true, false, false, true, true, false] : List Bool).getD i false⟩
def vrfs_ca : List (Nat × Nat × List SV) := [(2, 123, [.at 2, .at 3]), (5, 123, [.at 2, .at 3]), (6, 124, [.at 4, .at 4])]
theorem vrfs_ok : reflOk (opsOf 1 Tryz.f99) vrfs_y [0, 1, 3, 4] vrfs_ca [] [] = true := by kernel_rfl
set_option maxRecDepth 100000 in
set_option maxHeartbeats 4000000 in
theorem rFarS (ax ay az bx yb bz ux uy uz v : Int) (w : World)
    (q1 : Hid (Gw w 123 #[.agg #[.int .i64 ax, .int .i64 ay, .int .i64 az], .agg #[.int .i64 bx, .int .i64 yb, .int .i64 bz]] (.agg #[.int .i64 ux, .int .i64 uy, .int .i64 uz])))
    (q2 : Hid (Gw w 124 #[.agg #[.int .i64 ux, .int .i64 uy, .int .i64 uz], .agg #[.int .i64 ux, .int .i64 uy, .int .i64 uz]] (.int .i64 v))) :
    Calls Tryz.prog 99 #[.agg #[.int .i64 ax, .int .i64 ay, .int .i64 az], .agg #[.int .i64 bx, .int .i64 yb, .int .i64 bz]] w fun e w' => e = .returned (.int .i64 v) ∧ Kp [] w w' := by
  unfold Gw at q1 q2
  have sa := SpB.made 56 w ax ay az
  replace sa := sa.alloc (.cells #[.int .i64 bx, .int .i64 yb, .int .i64 bz] 56 (0, 0))
  have sb := SpB.made 56 (w.alloc (.cells #[.int .i64 ax, .int .i64 ay, .int .i64 az] 56 (0, 0))) bx yb bz
  simp only [World.size_alloc] at *
  have kk : Kp [] w ((w.alloc (.cells #[.int .i64 ax, .int .i64 ay, .int .i64 az] 56 (0, 0))).alloc (.cells #[.int .i64 bx, .int .i64 yb, .int .i64 bz] 56 (0, 0))) := ((Kp.refl _ _).alloc _).alloc _
  have xa0 := sa.c0
  have xa1 := sa.c1
  have xa2 := sa.c2
  have xb0 := sb.c0
  have xb1 := sb.c1
  have xb2 := sb.c2
  go_enter Tryz.func99, Tryz.ntmps99
  go_wp2_with fail
  rw [frame_lit]
  refine reg_refl vrfs_y (fun k => ([.pointer (some ⟨w.heap.size, 0, none⟩), .pointer (some ⟨w.heap.size + 1, 0, none⟩), .agg #[.int .i64 ax, .int .i64 ay, .int .i64 az], .agg #[.int .i64 bx, .int .i64 yb, .int .i64 bz], .agg #[.int .i64 ux, .int .i64 uy, .int .i64 uz], .int .i64 v] : List Value).getD k undef) [] (fun _ _ _ => True) (opsOf 1 Tryz.f99) [0, 1, 3, 4] vrfs_ca [] [] (by kernel_rfl) (by kernel_rfl) vrfs_ok ⟨rfl, rfl, trivial⟩ ?sp ?ca ?cx (by decide) ?fr (fun _ _ _ _ h _ => h) ?rest
  case sp =>
    refine ⟨?_, ?_, ?_, ?_, trivial⟩
    · intro T wz H o ho; have he : o.op = .load 56 (.tmp 2) := Option.some.inj ((congrArg (fun z => z.map Oper.op) ho).symm.trans (show ((opsOf 1 Tryz.f99)[0]?).map Oper.op = some (.load 56 (.tmp 2)) by kernel_rfl)); exact op_ldSp he (H.ev (.tmp 2) (.at 0) (by kernel_rfl)) (SpB.kept (L := []) (show SpB 56 (World.drew ((w.alloc (.cells #[.int .i64 ax, .int .i64 ay, .int .i64 az] 56 (0, 0))).alloc (.cells #[.int .i64 bx, .int .i64 yb, .int .i64 bz] 56 (0, 0)))) _ _ _ _ from sa) H.kp (by simp))
    · intro T wz H o ho; have he : o.op = .load 56 (.tmp 3) := Option.some.inj ((congrArg (fun z => z.map Oper.op) ho).symm.trans (show ((opsOf 1 Tryz.f99)[1]?).map Oper.op = some (.load 56 (.tmp 3)) by kernel_rfl)); exact op_ldSp he (H.ev (.tmp 3) (.at 1) (by kernel_rfl)) (SpB.kept (L := []) (show SpB 56 (World.drew ((w.alloc (.cells #[.int .i64 ax, .int .i64 ay, .int .i64 az] 56 (0, 0))).alloc (.cells #[.int .i64 bx, .int .i64 yb, .int .i64 bz] 56 (0, 0)))) _ _ _ _ from sb) H.kp (by simp))
    · intro T wz H o ho; have he : o.op = .load 56 (.tmp 2) := Option.some.inj ((congrArg (fun z => z.map Oper.op) ho).symm.trans (show ((opsOf 1 Tryz.f99)[3]?).map Oper.op = some (.load 56 (.tmp 2)) by kernel_rfl)); exact op_ldSp he (H.ev (.tmp 2) (.at 0) (by kernel_rfl)) (SpB.kept (L := []) (show SpB 56 (World.drew ((w.alloc (.cells #[.int .i64 ax, .int .i64 ay, .int .i64 az] 56 (0, 0))).alloc (.cells #[.int .i64 bx, .int .i64 yb, .int .i64 bz] 56 (0, 0)))) _ _ _ _ from sa) H.kp (by simp))
    · intro T wz H o ho; have he : o.op = .load 56 (.tmp 3) := Option.some.inj ((congrArg (fun z => z.map Oper.op) ho).symm.trans (show ((opsOf 1 Tryz.f99)[4]?).map Oper.op = some (.load 56 (.tmp 3)) by kernel_rfl)); exact op_ldSp he (H.ev (.tmp 3) (.at 1) (by kernel_rfl)) (SpB.kept (L := []) (show SpB 56 (World.drew ((w.alloc (.cells #[.int .i64 ax, .int .i64 ay, .int .i64 az] 56 (0, 0))).alloc (.cells #[.int .i64 bx, .int .i64 yb, .int .i64 bz] 56 (0, 0)))) _ _ _ _ from sb) H.kp (by simp))
  case ca =>
    refine ⟨?_, ?_, ?_, trivial⟩
    · exact ⟨(enters_of Tryz.func123 (by kernel_rfl) rfl), fun wz hk => (q1.out wz (kk.drew.trans hk)).mono fun x w2 ⟨h1, h2⟩ => ⟨_, h1, h2, fun _ => rfl⟩⟩
    · exact ⟨(enters_of Tryz.func123 (by kernel_rfl) rfl), fun wz hk => (q1.out wz (kk.drew.trans hk)).mono fun x w2 ⟨h1, h2⟩ => ⟨_, h1, h2, fun _ => rfl⟩⟩
    · exact ⟨(enters_of Tryz.func124 (by kernel_rfl) rfl), fun wz hk => (q2.out wz (kk.drew.trans hk)).mono fun x w2 ⟨h1, h2⟩ => ⟨_, h1, h2, fun _ => rfl⟩⟩
  case cx =>
    exact trivial
  case fr =>
    exact trivial
  case rest =>
    intro T w1 hout hval k hF
    rw [show frameOf vrfs_y.st.N T = (⟨#[T 0, T 1, T 2, T 3, T 4, T 5, T 6, T 7, T 8, T 9, T 10, T 11], []⟩ : Act) from frame_list 12 T]
    rw [show T 4 = .int .i64 v from hval 7 (by decide : 7 < 8) (.inl rfl)]
    replace sa := sa.kept k (by simp)
    replace sb := sb.kept k (by simp)
    clear xa0 xa1 xa2 xb0 xb1 xb2
    have xa0 := sa.c0
    have xa1 := sa.c1
    have xa2 := sa.c2
    have xb0 := sb.c0
    have xb1 := sb.c1
    have xb2 := sb.c2
    replace kk := kk.trans k
    clear k hout hval hF
    clear sa sb xa0 xa1 xa2 xb0 xb1 xb2
    go_wp2
    go_ret
    exact ⟨rfl, kk⟩

def vrsx_s : RSt := ⟨9, 17, 3, fun i => ([9, 10, 11, 12, 13, 14, 15, 16, 8] : List Nat).getD i 0, fun i => ([0, 0, 0, 1, 0, 0, 1, 1, 0] : List Nat).getD i 0, fun i => ([0, 0, 0, 0, 0, 0, 1, 2, 0] : List Nat).getD i 0, fun i => ([9, 9, 9, 9, 9, 9, 9, 9, 8, 0, 1, 2, 3, 4, 5, 6, 7, 9] : List Nat).getD i 9, fun i => ([3, 6, 7] : List Nat).getD i 0, fun _ => false, fun _ => true, fun _ => 0, fun _ => false⟩
def vrsx_y : RSy := ⟨vrsx_s, fun i => ([.at 4, .at 5, .at 6, .at 7, .at 8, .at 4, .at 9, .at 10, .at 10] : List SV).getD i .un, [(4, .at 0), (5, .at 1), (6, .at 2), (7, .at 3)], fun i => ([false, false, false, true, false, false, true, true, false] : List Bool).getD i false⟩
def vrsx_ca : List (Nat × Nat × List SV) := [(3, 95, [.at 4, .at 5, .at 6]), (6, 123, [.at 8, .at 4]), (7, 124, [.at 7, .at 9])]
theorem vrsx_ok : reflOk (opsOf 1 Tryz.f97) vrsx_y [0, 1, 2, 4, 5] vrsx_ca [] [] = true := by kernel_rfl
set_option maxRecDepth 100000 in
set_option maxHeartbeats 4000000 in
theorem rSix (ax ay az bx yb bz cx cy cz dx dy dz nx ny nz ux uy uz v : Int) (w : World)
    (q1 : Hid (Gw w 95 #[.agg #[.int .i64 ax, .int .i64 ay, .int .i64 az], .agg #[.int .i64 bx, .int .i64 yb, .int .i64 bz], .agg #[.int .i64 cx, .int .i64 cy, .int .i64 cz]] (.agg #[.int .i64 nx, .int .i64 ny, .int .i64 nz])))
    (q2 : Hid (Gw w 123 #[.agg #[.int .i64 dx, .int .i64 dy, .int .i64 dz], .agg #[.int .i64 ax, .int .i64 ay, .int .i64 az]] (.agg #[.int .i64 ux, .int .i64 uy, .int .i64 uz])))
    (q3 : Hid (Gw w 124 #[.agg #[.int .i64 nx, .int .i64 ny, .int .i64 nz], .agg #[.int .i64 ux, .int .i64 uy, .int .i64 uz]] (.int .i64 v))) :
    Calls Tryz.prog 97 #[.agg #[.int .i64 ax, .int .i64 ay, .int .i64 az], .agg #[.int .i64 bx, .int .i64 yb, .int .i64 bz], .agg #[.int .i64 cx, .int .i64 cy, .int .i64 cz], .agg #[.int .i64 dx, .int .i64 dy, .int .i64 dz]] w fun e w' => e = .returned (.int .i64 v) ∧ Kp [] w w' := by
  unfold Gw at q1 q2 q3
  have sa := SpB.made 56 w ax ay az
  replace sa := sa.alloc (.cells #[.int .i64 bx, .int .i64 yb, .int .i64 bz] 56 (0, 0))
  replace sa := sa.alloc (.cells #[.int .i64 cx, .int .i64 cy, .int .i64 cz] 56 (0, 0))
  replace sa := sa.alloc (.cells #[.int .i64 dx, .int .i64 dy, .int .i64 dz] 56 (0, 0))
  have sb := SpB.made 56 (w.alloc (.cells #[.int .i64 ax, .int .i64 ay, .int .i64 az] 56 (0, 0))) bx yb bz
  replace sb := sb.alloc (.cells #[.int .i64 cx, .int .i64 cy, .int .i64 cz] 56 (0, 0))
  replace sb := sb.alloc (.cells #[.int .i64 dx, .int .i64 dy, .int .i64 dz] 56 (0, 0))
  have sc := SpB.made 56 ((w.alloc (.cells #[.int .i64 ax, .int .i64 ay, .int .i64 az] 56 (0, 0))).alloc (.cells #[.int .i64 bx, .int .i64 yb, .int .i64 bz] 56 (0, 0))) cx cy cz
  replace sc := sc.alloc (.cells #[.int .i64 dx, .int .i64 dy, .int .i64 dz] 56 (0, 0))
  have sd := SpB.made 56 (((w.alloc (.cells #[.int .i64 ax, .int .i64 ay, .int .i64 az] 56 (0, 0))).alloc (.cells #[.int .i64 bx, .int .i64 yb, .int .i64 bz] 56 (0, 0))).alloc (.cells #[.int .i64 cx, .int .i64 cy, .int .i64 cz] 56 (0, 0))) dx dy dz
  simp only [World.size_alloc] at *
  have kk : Kp [] w ((((w.alloc (.cells #[.int .i64 ax, .int .i64 ay, .int .i64 az] 56 (0, 0))).alloc (.cells #[.int .i64 bx, .int .i64 yb, .int .i64 bz] 56 (0, 0))).alloc (.cells #[.int .i64 cx, .int .i64 cy, .int .i64 cz] 56 (0, 0))).alloc (.cells #[.int .i64 dx, .int .i64 dy, .int .i64 dz] 56 (0, 0))) := ((((Kp.refl _ _).alloc _).alloc _).alloc _).alloc _
  have xa0 := sa.c0
  have xa1 := sa.c1
  have xa2 := sa.c2
  have xb0 := sb.c0
  have xb1 := sb.c1
  have xb2 := sb.c2
  have xc0 := sc.c0
  have xc1 := sc.c1
  have xc2 := sc.c2
  have xd0 := sd.c0
  have xd1 := sd.c1
  have xd2 := sd.c2
  go_enter Tryz.func97, Tryz.ntmps97
  go_wp2_with fail
  rw [frame_lit]
  refine reg_refl vrsx_y (fun k => ([.pointer (some ⟨w.heap.size, 0, none⟩), .pointer (some ⟨w.heap.size + 1, 0, none⟩), .pointer (some ⟨w.heap.size + 1 + 1, 0, none⟩), .pointer (some ⟨w.heap.size + 1 + 1 + 1, 0, none⟩), .agg #[.int .i64 ax, .int .i64 ay, .int .i64 az], .agg #[.int .i64 bx, .int .i64 yb, .int .i64 bz], .agg #[.int .i64 cx, .int .i64 cy, .int .i64 cz], .agg #[.int .i64 nx, .int .i64 ny, .int .i64 nz], .agg #[.int .i64 dx, .int .i64 dy, .int .i64 dz], .agg #[.int .i64 ux, .int .i64 uy, .int .i64 uz], .int .i64 v] : List Value).getD k undef) [] (fun _ _ _ => True) (opsOf 1 Tryz.f97) [0, 1, 2, 4, 5] vrsx_ca [] [] (by kernel_rfl) (by kernel_rfl) vrsx_ok ⟨rfl, rfl, rfl, rfl, trivial⟩ ?sp ?ca ?cx (by decide) ?fr (fun _ _ _ _ h _ => h) ?rest
  case sp =>
    refine ⟨?_, ?_, ?_, ?_, ?_, trivial⟩
    · intro T wz H o ho; have he : o.op = .load 56 (.tmp 4) := Option.some.inj ((congrArg (fun z => z.map Oper.op) ho).symm.trans (show ((opsOf 1 Tryz.f97)[0]?).map Oper.op = some (.load 56 (.tmp 4)) by kernel_rfl)); exact op_ldSp he (H.ev (.tmp 4) (.at 0) (by kernel_rfl)) (SpB.kept (L := []) (show SpB 56 (World.drew ((((w.alloc (.cells #[.int .i64 ax, .int .i64 ay, .int .i64 az] 56 (0, 0))).alloc (.cells #[.int .i64 bx, .int .i64 yb, .int .i64 bz] 56 (0, 0))).alloc (.cells #[.int .i64 cx, .int .i64 cy, .int .i64 cz] 56 (0, 0))).alloc (.cells #[.int .i64 dx, .int .i64 dy, .int .i64 dz] 56 (0, 0)))) _ _ _ _ from sa) H.kp (by simp))
    · intro T wz H o ho; have he : o.op = .load 56 (.tmp 5) := Option.some.inj ((congrArg (fun z => z.map Oper.op) ho).symm.trans (show ((opsOf 1 Tryz.f97)[1]?).map Oper.op = some (.load 56 (.tmp 5)) by kernel_rfl)); exact op_ldSp he (H.ev (.tmp 5) (.at 1) (by kernel_rfl)) (SpB.kept (L := []) (show SpB 56 (World.drew ((((w.alloc (.cells #[.int .i64 ax, .int .i64 ay, .int .i64 az] 56 (0, 0))).alloc (.cells #[.int .i64 bx, .int .i64 yb, .int .i64 bz] 56 (0, 0))).alloc (.cells #[.int .i64 cx, .int .i64 cy, .int .i64 cz] 56 (0, 0))).alloc (.cells #[.int .i64 dx, .int .i64 dy, .int .i64 dz] 56 (0, 0)))) _ _ _ _ from sb) H.kp (by simp))
    · intro T wz H o ho; have he : o.op = .load 56 (.tmp 6) := Option.some.inj ((congrArg (fun z => z.map Oper.op) ho).symm.trans (show ((opsOf 1 Tryz.f97)[2]?).map Oper.op = some (.load 56 (.tmp 6)) by kernel_rfl)); exact op_ldSp he (H.ev (.tmp 6) (.at 2) (by kernel_rfl)) (SpB.kept (L := []) (show SpB 56 (World.drew ((((w.alloc (.cells #[.int .i64 ax, .int .i64 ay, .int .i64 az] 56 (0, 0))).alloc (.cells #[.int .i64 bx, .int .i64 yb, .int .i64 bz] 56 (0, 0))).alloc (.cells #[.int .i64 cx, .int .i64 cy, .int .i64 cz] 56 (0, 0))).alloc (.cells #[.int .i64 dx, .int .i64 dy, .int .i64 dz] 56 (0, 0)))) _ _ _ _ from sc) H.kp (by simp))
    · intro T wz H o ho; have he : o.op = .load 56 (.tmp 7) := Option.some.inj ((congrArg (fun z => z.map Oper.op) ho).symm.trans (show ((opsOf 1 Tryz.f97)[4]?).map Oper.op = some (.load 56 (.tmp 7)) by kernel_rfl)); exact op_ldSp he (H.ev (.tmp 7) (.at 3) (by kernel_rfl)) (SpB.kept (L := []) (show SpB 56 (World.drew ((((w.alloc (.cells #[.int .i64 ax, .int .i64 ay, .int .i64 az] 56 (0, 0))).alloc (.cells #[.int .i64 bx, .int .i64 yb, .int .i64 bz] 56 (0, 0))).alloc (.cells #[.int .i64 cx, .int .i64 cy, .int .i64 cz] 56 (0, 0))).alloc (.cells #[.int .i64 dx, .int .i64 dy, .int .i64 dz] 56 (0, 0)))) _ _ _ _ from sd) H.kp (by simp))
    · intro T wz H o ho; have he : o.op = .load 56 (.tmp 4) := Option.some.inj ((congrArg (fun z => z.map Oper.op) ho).symm.trans (show ((opsOf 1 Tryz.f97)[5]?).map Oper.op = some (.load 56 (.tmp 4)) by kernel_rfl)); exact op_ldSp he (H.ev (.tmp 4) (.at 0) (by kernel_rfl)) (SpB.kept (L := []) (show SpB 56 (World.drew ((((w.alloc (.cells #[.int .i64 ax, .int .i64 ay, .int .i64 az] 56 (0, 0))).alloc (.cells #[.int .i64 bx, .int .i64 yb, .int .i64 bz] 56 (0, 0))).alloc (.cells #[.int .i64 cx, .int .i64 cy, .int .i64 cz] 56 (0, 0))).alloc (.cells #[.int .i64 dx, .int .i64 dy, .int .i64 dz] 56 (0, 0)))) _ _ _ _ from sa) H.kp (by simp))
  case ca =>
    refine ⟨?_, ?_, ?_, trivial⟩
    · exact ⟨(enters_of Tryz.func95 (by kernel_rfl) rfl), fun wz hk => (q1.out wz (kk.drew.trans hk)).mono fun x w2 ⟨h1, h2⟩ => ⟨_, h1, h2, fun _ => rfl⟩⟩
    · exact ⟨(enters_of Tryz.func123 (by kernel_rfl) rfl), fun wz hk => (q2.out wz (kk.drew.trans hk)).mono fun x w2 ⟨h1, h2⟩ => ⟨_, h1, h2, fun _ => rfl⟩⟩
    · exact ⟨(enters_of Tryz.func124 (by kernel_rfl) rfl), fun wz hk => (q3.out wz (kk.drew.trans hk)).mono fun x w2 ⟨h1, h2⟩ => ⟨_, h1, h2, fun _ => rfl⟩⟩
  case cx =>
    exact trivial
  case fr =>
    exact trivial
  case rest =>
    intro T w1 hout hval k hF
    rw [show frameOf vrsx_y.st.N T = (⟨#[T 0, T 1, T 2, T 3, T 4, T 5, T 6, T 7, T 8, T 9, T 10, T 11, T 12, T 13, T 14, T 15, T 16], []⟩ : Act) from frame_list 17 T]
    rw [show T 8 = .int .i64 v from hval 8 (by decide : 8 < 9) (.inl rfl)]
    replace sa := sa.kept k (by simp)
    replace sb := sb.kept k (by simp)
    replace sc := sc.kept k (by simp)
    replace sd := sd.kept k (by simp)
    clear xa0 xa1 xa2 xb0 xb1 xb2 xc0 xc1 xc2 xd0 xd1 xd2
    have xa0 := sa.c0
    have xa1 := sa.c1
    have xa2 := sa.c2
    have xb0 := sb.c0
    have xb1 := sb.c1
    have xb2 := sb.c2
    have xc0 := sc.c0
    have xc1 := sc.c1
    have xc2 := sc.c2
    have xd0 := sd.c0
    have xd1 := sd.c1
    have xd2 := sd.c2
    replace kk := kk.trans k
    clear k hout hval hF
    clear sa sb sc sd xa0 xa1 xa2 xb0 xb1 xb2 xc0 xc1 xc2 xd0 xd1 xd2
    go_wp2
    go_ret
    exact ⟨rfl, kk⟩

set_option maxRecDepth 100000 in
set_option maxHeartbeats 4000000 in
theorem rAcross (ax ay az bx yb bz cx cy cz ux uy uz vx vy vz nx ny nz : Int) (w : World)
    (q1 : Hid (Gw w 123 #[.agg #[.int .i64 bx, .int .i64 yb, .int .i64 bz], .agg #[.int .i64 ax, .int .i64 ay, .int .i64 az]] (.agg #[.int .i64 ux, .int .i64 uy, .int .i64 uz])))
    (q2 : Hid (Gw w 123 #[.agg #[.int .i64 cx, .int .i64 cy, .int .i64 cz], .agg #[.int .i64 ax, .int .i64 ay, .int .i64 az]] (.agg #[.int .i64 vx, .int .i64 vy, .int .i64 vz])))
    (q3 : Hid (Gw w 122 #[.agg #[.int .i64 ux, .int .i64 uy, .int .i64 uz], .agg #[.int .i64 vx, .int .i64 vy, .int .i64 vz]] (.agg #[.int .i64 nx, .int .i64 ny, .int .i64 nz]))) :
    Calls Tryz.prog 95 #[.agg #[.int .i64 ax, .int .i64 ay, .int .i64 az], .agg #[.int .i64 bx, .int .i64 yb, .int .i64 bz], .agg #[.int .i64 cx, .int .i64 cy, .int .i64 cz]] w fun e w' => e = .returned (.agg #[.int .i64 nx, .int .i64 ny, .int .i64 nz]) ∧ Kp [] w w' := by
  have ha := SpB.made 56 w ax ay az
  replace ha := ha.alloc (.cells #[.int .i64 bx, .int .i64 yb, .int .i64 bz] 56 (0, 0))
  replace ha := ha.alloc (.cells #[.int .i64 cx, .int .i64 cy, .int .i64 cz] 56 (0, 0))
  have hb := SpB.made 56 (w.alloc (.cells #[.int .i64 ax, .int .i64 ay, .int .i64 az] 56 (0, 0))) bx yb bz
  replace hb := hb.alloc (.cells #[.int .i64 cx, .int .i64 cy, .int .i64 cz] 56 (0, 0))
  have hc := SpB.made 56 ((w.alloc (.cells #[.int .i64 ax, .int .i64 ay, .int .i64 az] 56 (0, 0))).alloc (.cells #[.int .i64 bx, .int .i64 yb, .int .i64 bz] 56 (0, 0))) cx cy cz
  have hz := SpB.made 56 (((w.alloc (.cells #[.int .i64 ax, .int .i64 ay, .int .i64 az] 56 (0, 0))).alloc (.cells #[.int .i64 bx, .int .i64 yb, .int .i64 bz] 56 (0, 0))).alloc (.cells #[.int .i64 cx, .int .i64 cy, .int .i64 cz] 56 (0, 0))) 0 0 0
  simp only [World.size_alloc] at ha hb hc hz
  have sa0 : SpB 56 (World.drew ((((w.alloc (.cells #[.int .i64 ax, .int .i64 ay, .int .i64 az] 56 (0, 0))).alloc (.cells #[.int .i64 bx, .int .i64 yb, .int .i64 bz] 56 (0, 0))).alloc (.cells #[.int .i64 cx, .int .i64 cy, .int .i64 cz] 56 (0, 0))).alloc (.cells #[.int .i64 0, .int .i64 0, .int .i64 0] 56 (0, 0)))) (w.heap.size) ax ay az := ha.alloc (.cells #[.int .i64 0, .int .i64 0, .int .i64 0] 56 (0, 0))
  have sb0 : SpB 56 (World.drew ((((w.alloc (.cells #[.int .i64 ax, .int .i64 ay, .int .i64 az] 56 (0, 0))).alloc (.cells #[.int .i64 bx, .int .i64 yb, .int .i64 bz] 56 (0, 0))).alloc (.cells #[.int .i64 cx, .int .i64 cy, .int .i64 cz] 56 (0, 0))).alloc (.cells #[.int .i64 0, .int .i64 0, .int .i64 0] 56 (0, 0)))) (w.heap.size + 1) bx yb bz := hb.alloc (.cells #[.int .i64 0, .int .i64 0, .int .i64 0] 56 (0, 0))
  have sc0 : SpB 56 (World.drew ((((w.alloc (.cells #[.int .i64 ax, .int .i64 ay, .int .i64 az] 56 (0, 0))).alloc (.cells #[.int .i64 bx, .int .i64 yb, .int .i64 bz] 56 (0, 0))).alloc (.cells #[.int .i64 cx, .int .i64 cy, .int .i64 cz] 56 (0, 0))).alloc (.cells #[.int .i64 0, .int .i64 0, .int .i64 0] 56 (0, 0)))) (w.heap.size + 1 + 1) cx cy cz := hc.alloc (.cells #[.int .i64 0, .int .i64 0, .int .i64 0] 56 (0, 0))
  have z0 : SpB 56 (World.drew ((((w.alloc (.cells #[.int .i64 ax, .int .i64 ay, .int .i64 az] 56 (0, 0))).alloc (.cells #[.int .i64 bx, .int .i64 yb, .int .i64 bz] 56 (0, 0))).alloc (.cells #[.int .i64 cx, .int .i64 cy, .int .i64 cz] 56 (0, 0))).alloc (.cells #[.int .i64 0, .int .i64 0, .int .i64 0] 56 (0, 0)))) (w.heap.size + 1 + 1 + 1) 0 0 0 := hz
  have kk0 : Kp [] w (World.drew ((((w.alloc (.cells #[.int .i64 ax, .int .i64 ay, .int .i64 az] 56 (0, 0))).alloc (.cells #[.int .i64 bx, .int .i64 yb, .int .i64 bz] 56 (0, 0))).alloc (.cells #[.int .i64 cx, .int .i64 cy, .int .i64 cz] 56 (0, 0))).alloc (.cells #[.int .i64 0, .int .i64 0, .int .i64 0] 56 (0, 0)))) := ((((Kp.refl _ _).alloc _).alloc _).alloc _).alloc _ |>.drew
  have xa0 := (ha.alloc (.cells #[.int .i64 0, .int .i64 0, .int .i64 0] 56 (0, 0))).c0
  have xa1 := (ha.alloc (.cells #[.int .i64 0, .int .i64 0, .int .i64 0] 56 (0, 0))).c1
  have xa2 := (ha.alloc (.cells #[.int .i64 0, .int .i64 0, .int .i64 0] 56 (0, 0))).c2
  have xb0 := (hb.alloc (.cells #[.int .i64 0, .int .i64 0, .int .i64 0] 56 (0, 0))).c0
  have xb1 := (hb.alloc (.cells #[.int .i64 0, .int .i64 0, .int .i64 0] 56 (0, 0))).c1
  have xb2 := (hb.alloc (.cells #[.int .i64 0, .int .i64 0, .int .i64 0] 56 (0, 0))).c2
  have xc0 := (hc.alloc (.cells #[.int .i64 0, .int .i64 0, .int .i64 0] 56 (0, 0))).c0
  have xc1 := (hc.alloc (.cells #[.int .i64 0, .int .i64 0, .int .i64 0] 56 (0, 0))).c1
  have xc2 := (hc.alloc (.cells #[.int .i64 0, .int .i64 0, .int .i64 0] 56 (0, 0))).c2
  have la : w.heap.size < w.heap.size + 1 + 1 + 1 := by omega
  have lb : w.heap.size + 1 < w.heap.size + 1 + 1 + 1 := by omega
  have lc : w.heap.size + 1 + 1 < w.heap.size + 1 + 1 + 1 := by omega
  clear ha hb hc hz
  unfold Gw at q1 q2 q3
  go_enter Tryz.func95, Tryz.ntmps95
  go_wp2_with fail
  go_region_held3 (fun w' => w'.cell? ⟨w.heap.size, 0, none⟩ = some (.int .i64 ax) ∧ w'.cell? ⟨w.heap.size, 1, none⟩ = some (.int .i64 ay) ∧ w'.cell? ⟨w.heap.size, 2, none⟩ = some (.int .i64 az) ∧ w'.cell? ⟨w.heap.size + 1, 0, none⟩ = some (.int .i64 bx) ∧ w'.cell? ⟨w.heap.size + 1, 1, none⟩ = some (.int .i64 yb) ∧ w'.cell? ⟨w.heap.size + 1, 2, none⟩ = some (.int .i64 bz) ∧ w'.cell? ⟨w.heap.size + 1 + 1, 0, none⟩ = some (.int .i64 cx) ∧ w'.cell? ⟨w.heap.size + 1 + 1, 1, none⟩ = some (.int .i64 cy) ∧ w'.cell? ⟨w.heap.size + 1 + 1, 2, none⟩ = some (.int .i64 cz))
    (first
      | exact ⟨(SpB.far3 sa3 (Nat.ne_of_lt la) _ _ _).c0, (SpB.far3 sa3 (Nat.ne_of_lt la) _ _ _).c1, (SpB.far3 sa3 (Nat.ne_of_lt la) _ _ _).c2, (SpB.far3 sb3 (Nat.ne_of_lt lb) _ _ _).c0, (SpB.far3 sb3 (Nat.ne_of_lt lb) _ _ _).c1, (SpB.far3 sb3 (Nat.ne_of_lt lb) _ _ _).c2, (SpB.far3 sc3 (Nat.ne_of_lt lc) _ _ _).c0, (SpB.far3 sc3 (Nat.ne_of_lt lc) _ _ _).c1, (SpB.far3 sc3 (Nat.ne_of_lt lc) _ _ _).c2⟩
      | exact ⟨sa3.c0, sa3.c1, sa3.c2, sb3.c0, sb3.c1, sb3.c2, sc3.c0, sc3.c1, sc3.c2⟩
      | exact ⟨sa2.c0, sa2.c1, sa2.c2, sb2.c0, sb2.c1, sb2.c2, sc2.c0, sc2.c1, sc2.c2⟩
      | exact ⟨sa1.c0, sa1.c1, sa1.c2, sb1.c0, sb1.c1, sb1.c2, sc1.c0, sc1.c1, sc1.c2⟩
      | go_keep)
    (first
      | (go_at_call 123; with_reducible refine (q1.out _ kk0).mono ?_; rintro x w1 ⟨rfl, k1⟩; have sa1 := SpB.kept sa0 k1 (by simp); have sb1 := SpB.kept sb0 k1 (by simp); have sc1 := SpB.kept sc0 k1 (by simp); have z1 := SpB.kept z0 k1 (by simp); have kk1 := Kp.trans kk0 k1)
      | (go_at_call 123; with_reducible refine (q2.out _ kk1).mono ?_; rintro x w2 ⟨rfl, k2⟩; have sa2 := SpB.kept sa1 k2 (by simp); have sb2 := SpB.kept sb1 k2 (by simp); have sc2 := SpB.kept sc1 k2 (by simp); have z2 := SpB.kept z1 k2 (by simp); have kk2 := Kp.trans kk1 k2)
      | (go_at_call 122; with_reducible refine (q3.out _ kk2).mono ?_; rintro x w3 ⟨rfl, k3⟩; have sa3 := SpB.kept sa2 k3 (by simp); have sb3 := SpB.kept sb2 k3 (by simp); have sc3 := SpB.kept sc2 k3 (by simp); have z3 := SpB.kept z2 k3 (by simp); have kk3 := Kp.trans kk2 k3; have f0 := z3.f 0; have c0 := z3.c0; have f1 := z3.f 1; have c1 := z3.c1; have f2 := z3.f 2; have c2 := z3.c2))
  have s3 := z3.set3 nx ny nz
  have e0 := s3.c0
  have e1 := s3.c1
  have e2 := s3.c2
  have kk := kp_sp3 kk3 (b := w.heap.size + 1 + 1 + 1) (by omega) (.int .i64 nx) (.int .i64 ny) (.int .i64 nz)
  go_wp2
  refine bodyPost_ret (v := .agg #[.int .i64 nx, .int .i64 ny, .int .i64 nz]) (by simp [results, Tryz.results95, go_sem, e0, e1, e2]) rfl ?_
  exact ⟨rfl, kk⟩

end Go.Proofs.YtcgilcmhandgfaaGreatDoor

/- The reference of layer 7 in space: Volume, SquareSpace, Normal. -/
namespace Go.Proofs.YtcgilcmhandgfaaGreatDoor
open Go.RowKit
open Go.Lib (nDigits itoa decDigits)

set_option maxRecDepth 100000 in
set_option maxHeartbeats 4000000 in
theorem rVolume_0 (ax ay az bx yb bz cx cy cz dx dy dz : Int) (w : World)
    (q0 : Hid (Gw w 80 #[.agg #[.int .i64 ax, .int .i64 ay, .int .i64 az]] (.bool false))) :
    Calls Tryz.prog 39 #[.agg #[.int .i64 ax, .int .i64 ay, .int .i64 az], .agg #[.int .i64 bx, .int .i64 yb, .int .i64 bz], .agg #[.int .i64 cx, .int .i64 cy, .int .i64 cz], .agg #[.int .i64 dx, .int .i64 dy, .int .i64 dz]] w fun e w' => e = .returned (.tuple #[.int .i64 0, .int .i64 2]) ∧ Kp [] w w' := by
  unfold Gw at q0
  have sa := SpB.made 56 w ax ay az
  replace sa := sa.alloc (.cells #[.int .i64 bx, .int .i64 yb, .int .i64 bz] 56 (0, 0))
  replace sa := sa.alloc (.cells #[.int .i64 cx, .int .i64 cy, .int .i64 cz] 56 (0, 0))
  replace sa := sa.alloc (.cells #[.int .i64 dx, .int .i64 dy, .int .i64 dz] 56 (0, 0))
  have sb := SpB.made 56 (w.alloc (.cells #[.int .i64 ax, .int .i64 ay, .int .i64 az] 56 (0, 0))) bx yb bz
  replace sb := sb.alloc (.cells #[.int .i64 cx, .int .i64 cy, .int .i64 cz] 56 (0, 0))
  replace sb := sb.alloc (.cells #[.int .i64 dx, .int .i64 dy, .int .i64 dz] 56 (0, 0))
  have sc := SpB.made 56 ((w.alloc (.cells #[.int .i64 ax, .int .i64 ay, .int .i64 az] 56 (0, 0))).alloc (.cells #[.int .i64 bx, .int .i64 yb, .int .i64 bz] 56 (0, 0))) cx cy cz
  replace sc := sc.alloc (.cells #[.int .i64 dx, .int .i64 dy, .int .i64 dz] 56 (0, 0))
  have sd := SpB.made 56 (((w.alloc (.cells #[.int .i64 ax, .int .i64 ay, .int .i64 az] 56 (0, 0))).alloc (.cells #[.int .i64 bx, .int .i64 yb, .int .i64 bz] 56 (0, 0))).alloc (.cells #[.int .i64 cx, .int .i64 cy, .int .i64 cz] 56 (0, 0))) dx dy dz
  simp only [World.size_alloc] at *
  have kk : Kp [] w ((((w.alloc (.cells #[.int .i64 ax, .int .i64 ay, .int .i64 az] 56 (0, 0))).alloc (.cells #[.int .i64 bx, .int .i64 yb, .int .i64 bz] 56 (0, 0))).alloc (.cells #[.int .i64 cx, .int .i64 cy, .int .i64 cz] 56 (0, 0))).alloc (.cells #[.int .i64 dx, .int .i64 dy, .int .i64 dz] 56 (0, 0))) := ((((Kp.refl _ _).alloc _).alloc _).alloc _).alloc _
  have xa0 := sa.c0
  have xa1 := sa.c1
  have xa2 := sa.c2
  have xb0 := sb.c0
  have xb1 := sb.c1
  have xb2 := sb.c2
  have xc0 := sc.c0
  have xc1 := sc.c1
  have xc2 := sc.c2
  have xd0 := sd.c0
  have xd1 := sd.c1
  have xd2 := sd.c2
  go_enter Tryz.func39, Tryz.ntmps39
  go_wp2_with fail
  with_reducible refine (q0.out _ kk).mono ?_
  rintro e w1 ⟨rfl, k⟩
  replace sa := sa.kept k (by simp)
  replace sb := sb.kept k (by simp)
  replace sc := sc.kept k (by simp)
  replace sd := sd.kept k (by simp)
  clear xa0 xa1 xa2 xb0 xb1 xb2 xc0 xc1 xc2 xd0 xd1 xd2
  have xa0 := sa.c0
  have xa1 := sa.c1
  have xa2 := sa.c2
  have xb0 := sb.c0
  have xb1 := sb.c1
  have xb2 := sb.c2
  have xc0 := sc.c0
  have xc1 := sc.c1
  have xc2 := sc.c2
  have xd0 := sd.c0
  have xd1 := sd.c1
  have xd2 := sd.c2
  replace kk := kk.trans k
  clear k
  clear sa sb sc sd xa0 xa1 xa2 xb0 xb1 xb2 xc0 xc1 xc2 xd0 xd1 xd2
  go_wp2
  go_ret2
  exact ⟨rfl, kk⟩

set_option maxRecDepth 100000 in
set_option maxHeartbeats 4000000 in
theorem rVolume_1 (ax ay az bx yb bz cx cy cz dx dy dz : Int) (w : World)
    (q0 : Hid (Gw w 80 #[.agg #[.int .i64 ax, .int .i64 ay, .int .i64 az]] (.bool true)))
    (q1 : Hid (Gw w 80 #[.agg #[.int .i64 bx, .int .i64 yb, .int .i64 bz]] (.bool false))) :
    Calls Tryz.prog 39 #[.agg #[.int .i64 ax, .int .i64 ay, .int .i64 az], .agg #[.int .i64 bx, .int .i64 yb, .int .i64 bz], .agg #[.int .i64 cx, .int .i64 cy, .int .i64 cz], .agg #[.int .i64 dx, .int .i64 dy, .int .i64 dz]] w fun e w' => e = .returned (.tuple #[.int .i64 0, .int .i64 2]) ∧ Kp [] w w' := by
  unfold Gw at q0 q1
  have sa := SpB.made 56 w ax ay az
  replace sa := sa.alloc (.cells #[.int .i64 bx, .int .i64 yb, .int .i64 bz] 56 (0, 0))
  replace sa := sa.alloc (.cells #[.int .i64 cx, .int .i64 cy, .int .i64 cz] 56 (0, 0))
  replace sa := sa.alloc (.cells #[.int .i64 dx, .int .i64 dy, .int .i64 dz] 56 (0, 0))
  have sb := SpB.made 56 (w.alloc (.cells #[.int .i64 ax, .int .i64 ay, .int .i64 az] 56 (0, 0))) bx yb bz
  replace sb := sb.alloc (.cells #[.int .i64 cx, .int .i64 cy, .int .i64 cz] 56 (0, 0))
  replace sb := sb.alloc (.cells #[.int .i64 dx, .int .i64 dy, .int .i64 dz] 56 (0, 0))
  have sc := SpB.made 56 ((w.alloc (.cells #[.int .i64 ax, .int .i64 ay, .int .i64 az] 56 (0, 0))).alloc (.cells #[.int .i64 bx, .int .i64 yb, .int .i64 bz] 56 (0, 0))) cx cy cz
  replace sc := sc.alloc (.cells #[.int .i64 dx, .int .i64 dy, .int .i64 dz] 56 (0, 0))
  have sd := SpB.made 56 (((w.alloc (.cells #[.int .i64 ax, .int .i64 ay, .int .i64 az] 56 (0, 0))).alloc (.cells #[.int .i64 bx, .int .i64 yb, .int .i64 bz] 56 (0, 0))).alloc (.cells #[.int .i64 cx, .int .i64 cy, .int .i64 cz] 56 (0, 0))) dx dy dz
  simp only [World.size_alloc] at *
  have kk : Kp [] w ((((w.alloc (.cells #[.int .i64 ax, .int .i64 ay, .int .i64 az] 56 (0, 0))).alloc (.cells #[.int .i64 bx, .int .i64 yb, .int .i64 bz] 56 (0, 0))).alloc (.cells #[.int .i64 cx, .int .i64 cy, .int .i64 cz] 56 (0, 0))).alloc (.cells #[.int .i64 dx, .int .i64 dy, .int .i64 dz] 56 (0, 0))) := ((((Kp.refl _ _).alloc _).alloc _).alloc _).alloc _
  have xa0 := sa.c0
  have xa1 := sa.c1
  have xa2 := sa.c2
  have xb0 := sb.c0
  have xb1 := sb.c1
  have xb2 := sb.c2
  have xc0 := sc.c0
  have xc1 := sc.c1
  have xc2 := sc.c2
  have xd0 := sd.c0
  have xd1 := sd.c1
  have xd2 := sd.c2
  go_enter Tryz.func39, Tryz.ntmps39
  go_wp2_with fail
  with_reducible refine (q0.out _ kk).mono ?_
  rintro e w1 ⟨rfl, k⟩
  replace sa := sa.kept k (by simp)
  replace sb := sb.kept k (by simp)
  replace sc := sc.kept k (by simp)
  replace sd := sd.kept k (by simp)
  clear xa0 xa1 xa2 xb0 xb1 xb2 xc0 xc1 xc2 xd0 xd1 xd2
  have xa0 := sa.c0
  have xa1 := sa.c1
  have xa2 := sa.c2
  have xb0 := sb.c0
  have xb1 := sb.c1
  have xb2 := sb.c2
  have xc0 := sc.c0
  have xc1 := sc.c1
  have xc2 := sc.c2
  have xd0 := sd.c0
  have xd1 := sd.c1
  have xd2 := sd.c2
  replace kk := kk.trans k
  clear k
  go_wp2_with fail
  with_reducible refine (q1.out _ kk).mono ?_
  rintro e w2 ⟨rfl, k⟩
  replace sa := sa.kept k (by simp)
  replace sb := sb.kept k (by simp)
  replace sc := sc.kept k (by simp)
  replace sd := sd.kept k (by simp)
  clear xa0 xa1 xa2 xb0 xb1 xb2 xc0 xc1 xc2 xd0 xd1 xd2
  have xa0 := sa.c0
  have xa1 := sa.c1
  have xa2 := sa.c2
  have xb0 := sb.c0
  have xb1 := sb.c1
  have xb2 := sb.c2
  have xc0 := sc.c0
  have xc1 := sc.c1
  have xc2 := sc.c2
  have xd0 := sd.c0
  have xd1 := sd.c1
  have xd2 := sd.c2
  replace kk := kk.trans k
  clear k
  clear sa sb sc sd xa0 xa1 xa2 xb0 xb1 xb2 xc0 xc1 xc2 xd0 xd1 xd2
  go_wp2
  go_ret2
  exact ⟨rfl, kk⟩

set_option maxRecDepth 100000 in
set_option maxHeartbeats 4000000 in
theorem rVolume_2 (ax ay az bx yb bz cx cy cz dx dy dz : Int) (w : World)
    (q0 : Hid (Gw w 80 #[.agg #[.int .i64 ax, .int .i64 ay, .int .i64 az]] (.bool true)))
    (q1 : Hid (Gw w 80 #[.agg #[.int .i64 bx, .int .i64 yb, .int .i64 bz]] (.bool true)))
    (q2 : Hid (Gw w 80 #[.agg #[.int .i64 cx, .int .i64 cy, .int .i64 cz]] (.bool false))) :
    Calls Tryz.prog 39 #[.agg #[.int .i64 ax, .int .i64 ay, .int .i64 az], .agg #[.int .i64 bx, .int .i64 yb, .int .i64 bz], .agg #[.int .i64 cx, .int .i64 cy, .int .i64 cz], .agg #[.int .i64 dx, .int .i64 dy, .int .i64 dz]] w fun e w' => e = .returned (.tuple #[.int .i64 0, .int .i64 2]) ∧ Kp [] w w' := by
  unfold Gw at q0 q1 q2
  have sa := SpB.made 56 w ax ay az
  replace sa := sa.alloc (.cells #[.int .i64 bx, .int .i64 yb, .int .i64 bz] 56 (0, 0))
  replace sa := sa.alloc (.cells #[.int .i64 cx, .int .i64 cy, .int .i64 cz] 56 (0, 0))
  replace sa := sa.alloc (.cells #[.int .i64 dx, .int .i64 dy, .int .i64 dz] 56 (0, 0))
  have sb := SpB.made 56 (w.alloc (.cells #[.int .i64 ax, .int .i64 ay, .int .i64 az] 56 (0, 0))) bx yb bz
  replace sb := sb.alloc (.cells #[.int .i64 cx, .int .i64 cy, .int .i64 cz] 56 (0, 0))
  replace sb := sb.alloc (.cells #[.int .i64 dx, .int .i64 dy, .int .i64 dz] 56 (0, 0))
  have sc := SpB.made 56 ((w.alloc (.cells #[.int .i64 ax, .int .i64 ay, .int .i64 az] 56 (0, 0))).alloc (.cells #[.int .i64 bx, .int .i64 yb, .int .i64 bz] 56 (0, 0))) cx cy cz
  replace sc := sc.alloc (.cells #[.int .i64 dx, .int .i64 dy, .int .i64 dz] 56 (0, 0))
  have sd := SpB.made 56 (((w.alloc (.cells #[.int .i64 ax, .int .i64 ay, .int .i64 az] 56 (0, 0))).alloc (.cells #[.int .i64 bx, .int .i64 yb, .int .i64 bz] 56 (0, 0))).alloc (.cells #[.int .i64 cx, .int .i64 cy, .int .i64 cz] 56 (0, 0))) dx dy dz
  simp only [World.size_alloc] at *
  have kk : Kp [] w ((((w.alloc (.cells #[.int .i64 ax, .int .i64 ay, .int .i64 az] 56 (0, 0))).alloc (.cells #[.int .i64 bx, .int .i64 yb, .int .i64 bz] 56 (0, 0))).alloc (.cells #[.int .i64 cx, .int .i64 cy, .int .i64 cz] 56 (0, 0))).alloc (.cells #[.int .i64 dx, .int .i64 dy, .int .i64 dz] 56 (0, 0))) := ((((Kp.refl _ _).alloc _).alloc _).alloc _).alloc _
  have xa0 := sa.c0
  have xa1 := sa.c1
  have xa2 := sa.c2
  have xb0 := sb.c0
  have xb1 := sb.c1
  have xb2 := sb.c2
  have xc0 := sc.c0
  have xc1 := sc.c1
  have xc2 := sc.c2
  have xd0 := sd.c0
  have xd1 := sd.c1
  have xd2 := sd.c2
  go_enter Tryz.func39, Tryz.ntmps39
  go_wp2_with fail
  with_reducible refine (q0.out _ kk).mono ?_
  rintro e w1 ⟨rfl, k⟩
  replace sa := sa.kept k (by simp)
  replace sb := sb.kept k (by simp)
  replace sc := sc.kept k (by simp)
  replace sd := sd.kept k (by simp)
  clear xa0 xa1 xa2 xb0 xb1 xb2 xc0 xc1 xc2 xd0 xd1 xd2
  have xa0 := sa.c0
  have xa1 := sa.c1
  have xa2 := sa.c2
  have xb0 := sb.c0
  have xb1 := sb.c1
  have xb2 := sb.c2
  have xc0 := sc.c0
  have xc1 := sc.c1
  have xc2 := sc.c2
  have xd0 := sd.c0
  have xd1 := sd.c1
  have xd2 := sd.c2
  replace kk := kk.trans k
  clear k
  go_wp2_with fail
  with_reducible refine (q1.out _ kk).mono ?_
  rintro e w2 ⟨rfl, k⟩
  replace sa := sa.kept k (by simp)
  replace sb := sb.kept k (by simp)
  replace sc := sc.kept k (by simp)
  replace sd := sd.kept k (by simp)
  clear xa0 xa1 xa2 xb0 xb1 xb2 xc0 xc1 xc2 xd0 xd1 xd2
  have xa0 := sa.c0
  have xa1 := sa.c1
  have xa2 := sa.c2
  have xb0 := sb.c0
  have xb1 := sb.c1
  have xb2 := sb.c2
  have xc0 := sc.c0
  have xc1 := sc.c1
  have xc2 := sc.c2
  have xd0 := sd.c0
  have xd1 := sd.c1
  have xd2 := sd.c2
  replace kk := kk.trans k
  clear k
  go_wp2_with fail
  with_reducible refine (q2.out _ kk).mono ?_
  rintro e w3 ⟨rfl, k⟩
  replace sa := sa.kept k (by simp)
  replace sb := sb.kept k (by simp)
  replace sc := sc.kept k (by simp)
  replace sd := sd.kept k (by simp)
  clear xa0 xa1 xa2 xb0 xb1 xb2 xc0 xc1 xc2 xd0 xd1 xd2
  have xa0 := sa.c0
  have xa1 := sa.c1
  have xa2 := sa.c2
  have xb0 := sb.c0
  have xb1 := sb.c1
  have xb2 := sb.c2
  have xc0 := sc.c0
  have xc1 := sc.c1
  have xc2 := sc.c2
  have xd0 := sd.c0
  have xd1 := sd.c1
  have xd2 := sd.c2
  replace kk := kk.trans k
  clear k
  clear sa sb sc sd xa0 xa1 xa2 xb0 xb1 xb2 xc0 xc1 xc2 xd0 xd1 xd2
  go_wp2
  go_ret2
  exact ⟨rfl, kk⟩

set_option maxRecDepth 100000 in
set_option maxHeartbeats 4000000 in
theorem rVolume_3 (ax ay az bx yb bz cx cy cz dx dy dz : Int) (w : World)
    (q0 : Hid (Gw w 80 #[.agg #[.int .i64 ax, .int .i64 ay, .int .i64 az]] (.bool true)))
    (q1 : Hid (Gw w 80 #[.agg #[.int .i64 bx, .int .i64 yb, .int .i64 bz]] (.bool true)))
    (q2 : Hid (Gw w 80 #[.agg #[.int .i64 cx, .int .i64 cy, .int .i64 cz]] (.bool true)))
    (q3 : Hid (Gw w 80 #[.agg #[.int .i64 dx, .int .i64 dy, .int .i64 dz]] (.bool false))) :
    Calls Tryz.prog 39 #[.agg #[.int .i64 ax, .int .i64 ay, .int .i64 az], .agg #[.int .i64 bx, .int .i64 yb, .int .i64 bz], .agg #[.int .i64 cx, .int .i64 cy, .int .i64 cz], .agg #[.int .i64 dx, .int .i64 dy, .int .i64 dz]] w fun e w' => e = .returned (.tuple #[.int .i64 0, .int .i64 2]) ∧ Kp [] w w' := by
  unfold Gw at q0 q1 q2 q3
  have sa := SpB.made 56 w ax ay az
  replace sa := sa.alloc (.cells #[.int .i64 bx, .int .i64 yb, .int .i64 bz] 56 (0, 0))
  replace sa := sa.alloc (.cells #[.int .i64 cx, .int .i64 cy, .int .i64 cz] 56 (0, 0))
  replace sa := sa.alloc (.cells #[.int .i64 dx, .int .i64 dy, .int .i64 dz] 56 (0, 0))
  have sb := SpB.made 56 (w.alloc (.cells #[.int .i64 ax, .int .i64 ay, .int .i64 az] 56 (0, 0))) bx yb bz
  replace sb := sb.alloc (.cells #[.int .i64 cx, .int .i64 cy, .int .i64 cz] 56 (0, 0))
  replace sb := sb.alloc (.cells #[.int .i64 dx, .int .i64 dy, .int .i64 dz] 56 (0, 0))
  have sc := SpB.made 56 ((w.alloc (.cells #[.int .i64 ax, .int .i64 ay, .int .i64 az] 56 (0, 0))).alloc (.cells #[.int .i64 bx, .int .i64 yb, .int .i64 bz] 56 (0, 0))) cx cy cz
  replace sc := sc.alloc (.cells #[.int .i64 dx, .int .i64 dy, .int .i64 dz] 56 (0, 0))
  have sd := SpB.made 56 (((w.alloc (.cells #[.int .i64 ax, .int .i64 ay, .int .i64 az] 56 (0, 0))).alloc (.cells #[.int .i64 bx, .int .i64 yb, .int .i64 bz] 56 (0, 0))).alloc (.cells #[.int .i64 cx, .int .i64 cy, .int .i64 cz] 56 (0, 0))) dx dy dz
  simp only [World.size_alloc] at *
  have kk : Kp [] w ((((w.alloc (.cells #[.int .i64 ax, .int .i64 ay, .int .i64 az] 56 (0, 0))).alloc (.cells #[.int .i64 bx, .int .i64 yb, .int .i64 bz] 56 (0, 0))).alloc (.cells #[.int .i64 cx, .int .i64 cy, .int .i64 cz] 56 (0, 0))).alloc (.cells #[.int .i64 dx, .int .i64 dy, .int .i64 dz] 56 (0, 0))) := ((((Kp.refl _ _).alloc _).alloc _).alloc _).alloc _
  have xa0 := sa.c0
  have xa1 := sa.c1
  have xa2 := sa.c2
  have xb0 := sb.c0
  have xb1 := sb.c1
  have xb2 := sb.c2
  have xc0 := sc.c0
  have xc1 := sc.c1
  have xc2 := sc.c2
  have xd0 := sd.c0
  have xd1 := sd.c1
  have xd2 := sd.c2
  go_enter Tryz.func39, Tryz.ntmps39
  go_wp2_with fail
  with_reducible refine (q0.out _ kk).mono ?_
  rintro e w1 ⟨rfl, k⟩
  replace sa := sa.kept k (by simp)
  replace sb := sb.kept k (by simp)
  replace sc := sc.kept k (by simp)
  replace sd := sd.kept k (by simp)
  clear xa0 xa1 xa2 xb0 xb1 xb2 xc0 xc1 xc2 xd0 xd1 xd2
  have xa0 := sa.c0
  have xa1 := sa.c1
  have xa2 := sa.c2
  have xb0 := sb.c0
  have xb1 := sb.c1
  have xb2 := sb.c2
  have xc0 := sc.c0
  have xc1 := sc.c1
  have xc2 := sc.c2
  have xd0 := sd.c0
  have xd1 := sd.c1
  have xd2 := sd.c2
  replace kk := kk.trans k
  clear k
  go_wp2_with fail
  with_reducible refine (q1.out _ kk).mono ?_
  rintro e w2 ⟨rfl, k⟩
  replace sa := sa.kept k (by simp)
  replace sb := sb.kept k (by simp)
  replace sc := sc.kept k (by simp)
  replace sd := sd.kept k (by simp)
  clear xa0 xa1 xa2 xb0 xb1 xb2 xc0 xc1 xc2 xd0 xd1 xd2
  have xa0 := sa.c0
  have xa1 := sa.c1
  have xa2 := sa.c2
  have xb0 := sb.c0
  have xb1 := sb.c1
  have xb2 := sb.c2
  have xc0 := sc.c0
  have xc1 := sc.c1
  have xc2 := sc.c2
  have xd0 := sd.c0
  have xd1 := sd.c1
  have xd2 := sd.c2
  replace kk := kk.trans k
  clear k
  go_wp2_with fail
  with_reducible refine (q2.out _ kk).mono ?_
  rintro e w3 ⟨rfl, k⟩
  replace sa := sa.kept k (by simp)
  replace sb := sb.kept k (by simp)
  replace sc := sc.kept k (by simp)
  replace sd := sd.kept k (by simp)
  clear xa0 xa1 xa2 xb0 xb1 xb2 xc0 xc1 xc2 xd0 xd1 xd2
  have xa0 := sa.c0
  have xa1 := sa.c1
  have xa2 := sa.c2
  have xb0 := sb.c0
  have xb1 := sb.c1
  have xb2 := sb.c2
  have xc0 := sc.c0
  have xc1 := sc.c1
  have xc2 := sc.c2
  have xd0 := sd.c0
  have xd1 := sd.c1
  have xd2 := sd.c2
  replace kk := kk.trans k
  clear k
  go_wp2_with fail
  with_reducible refine (q3.out _ kk).mono ?_
  rintro e w4 ⟨rfl, k⟩
  replace sa := sa.kept k (by simp)
  replace sb := sb.kept k (by simp)
  replace sc := sc.kept k (by simp)
  replace sd := sd.kept k (by simp)
  clear xa0 xa1 xa2 xb0 xb1 xb2 xc0 xc1 xc2 xd0 xd1 xd2
  have xa0 := sa.c0
  have xa1 := sa.c1
  have xa2 := sa.c2
  have xb0 := sb.c0
  have xb1 := sb.c1
  have xb2 := sb.c2
  have xc0 := sc.c0
  have xc1 := sc.c1
  have xc2 := sc.c2
  have xd0 := sd.c0
  have xd1 := sd.c1
  have xd2 := sd.c2
  replace kk := kk.trans k
  clear k
  clear sa sb sc sd xa0 xa1 xa2 xb0 xb1 xb2 xc0 xc1 xc2 xd0 xd1 xd2
  go_wp2
  go_ret2
  exact ⟨rfl, kk⟩

set_option maxRecDepth 100000 in
set_option maxHeartbeats 4000000 in
theorem rVolume_4 (ax ay az bx yb bz cx cy cz dx dy dz v : Int) (w : World)
    (q0 : Hid (Gw w 80 #[.agg #[.int .i64 ax, .int .i64 ay, .int .i64 az]] (.bool true)))
    (q1 : Hid (Gw w 80 #[.agg #[.int .i64 bx, .int .i64 yb, .int .i64 bz]] (.bool true)))
    (q2 : Hid (Gw w 80 #[.agg #[.int .i64 cx, .int .i64 cy, .int .i64 cz]] (.bool true)))
    (q3 : Hid (Gw w 80 #[.agg #[.int .i64 dx, .int .i64 dy, .int .i64 dz]] (.bool true)))
    (q4 : Hid (Gw w 97 #[.agg #[.int .i64 ax, .int .i64 ay, .int .i64 az], .agg #[.int .i64 bx, .int .i64 yb, .int .i64 bz], .agg #[.int .i64 cx, .int .i64 cy, .int .i64 cz], .agg #[.int .i64 dx, .int .i64 dy, .int .i64 dz]] (.int .i64 v))) :
    Calls Tryz.prog 39 #[.agg #[.int .i64 ax, .int .i64 ay, .int .i64 az], .agg #[.int .i64 bx, .int .i64 yb, .int .i64 bz], .agg #[.int .i64 cx, .int .i64 cy, .int .i64 cz], .agg #[.int .i64 dx, .int .i64 dy, .int .i64 dz]] w fun e w' => e = .returned (.tuple #[.int .i64 v, .int .i64 0]) ∧ Kp [] w w' := by
  unfold Gw at q0 q1 q2 q3 q4
  have sa := SpB.made 56 w ax ay az
  replace sa := sa.alloc (.cells #[.int .i64 bx, .int .i64 yb, .int .i64 bz] 56 (0, 0))
  replace sa := sa.alloc (.cells #[.int .i64 cx, .int .i64 cy, .int .i64 cz] 56 (0, 0))
  replace sa := sa.alloc (.cells #[.int .i64 dx, .int .i64 dy, .int .i64 dz] 56 (0, 0))
  have sb := SpB.made 56 (w.alloc (.cells #[.int .i64 ax, .int .i64 ay, .int .i64 az] 56 (0, 0))) bx yb bz
  replace sb := sb.alloc (.cells #[.int .i64 cx, .int .i64 cy, .int .i64 cz] 56 (0, 0))
  replace sb := sb.alloc (.cells #[.int .i64 dx, .int .i64 dy, .int .i64 dz] 56 (0, 0))
  have sc := SpB.made 56 ((w.alloc (.cells #[.int .i64 ax, .int .i64 ay, .int .i64 az] 56 (0, 0))).alloc (.cells #[.int .i64 bx, .int .i64 yb, .int .i64 bz] 56 (0, 0))) cx cy cz
  replace sc := sc.alloc (.cells #[.int .i64 dx, .int .i64 dy, .int .i64 dz] 56 (0, 0))
  have sd := SpB.made 56 (((w.alloc (.cells #[.int .i64 ax, .int .i64 ay, .int .i64 az] 56 (0, 0))).alloc (.cells #[.int .i64 bx, .int .i64 yb, .int .i64 bz] 56 (0, 0))).alloc (.cells #[.int .i64 cx, .int .i64 cy, .int .i64 cz] 56 (0, 0))) dx dy dz
  simp only [World.size_alloc] at *
  have kk : Kp [] w ((((w.alloc (.cells #[.int .i64 ax, .int .i64 ay, .int .i64 az] 56 (0, 0))).alloc (.cells #[.int .i64 bx, .int .i64 yb, .int .i64 bz] 56 (0, 0))).alloc (.cells #[.int .i64 cx, .int .i64 cy, .int .i64 cz] 56 (0, 0))).alloc (.cells #[.int .i64 dx, .int .i64 dy, .int .i64 dz] 56 (0, 0))) := ((((Kp.refl _ _).alloc _).alloc _).alloc _).alloc _
  have xa0 := sa.c0
  have xa1 := sa.c1
  have xa2 := sa.c2
  have xb0 := sb.c0
  have xb1 := sb.c1
  have xb2 := sb.c2
  have xc0 := sc.c0
  have xc1 := sc.c1
  have xc2 := sc.c2
  have xd0 := sd.c0
  have xd1 := sd.c1
  have xd2 := sd.c2
  go_enter Tryz.func39, Tryz.ntmps39
  go_wp2_with fail
  with_reducible refine (q0.out _ kk).mono ?_
  rintro e w1 ⟨rfl, k⟩
  replace sa := sa.kept k (by simp)
  replace sb := sb.kept k (by simp)
  replace sc := sc.kept k (by simp)
  replace sd := sd.kept k (by simp)
  clear xa0 xa1 xa2 xb0 xb1 xb2 xc0 xc1 xc2 xd0 xd1 xd2
  have xa0 := sa.c0
  have xa1 := sa.c1
  have xa2 := sa.c2
  have xb0 := sb.c0
  have xb1 := sb.c1
  have xb2 := sb.c2
  have xc0 := sc.c0
  have xc1 := sc.c1
  have xc2 := sc.c2
  have xd0 := sd.c0
  have xd1 := sd.c1
  have xd2 := sd.c2
  replace kk := kk.trans k
  clear k
  go_wp2_with fail
  with_reducible refine (q1.out _ kk).mono ?_
  rintro e w2 ⟨rfl, k⟩
  replace sa := sa.kept k (by simp)
  replace sb := sb.kept k (by simp)
  replace sc := sc.kept k (by simp)
  replace sd := sd.kept k (by simp)
  clear xa0 xa1 xa2 xb0 xb1 xb2 xc0 xc1 xc2 xd0 xd1 xd2
  have xa0 := sa.c0
  have xa1 := sa.c1
  have xa2 := sa.c2
  have xb0 := sb.c0
  have xb1 := sb.c1
  have xb2 := sb.c2
  have xc0 := sc.c0
  have xc1 := sc.c1
  have xc2 := sc.c2
  have xd0 := sd.c0
  have xd1 := sd.c1
  have xd2 := sd.c2
  replace kk := kk.trans k
  clear k
  go_wp2_with fail
  with_reducible refine (q2.out _ kk).mono ?_
  rintro e w3 ⟨rfl, k⟩
  replace sa := sa.kept k (by simp)
  replace sb := sb.kept k (by simp)
  replace sc := sc.kept k (by simp)
  replace sd := sd.kept k (by simp)
  clear xa0 xa1 xa2 xb0 xb1 xb2 xc0 xc1 xc2 xd0 xd1 xd2
  have xa0 := sa.c0
  have xa1 := sa.c1
  have xa2 := sa.c2
  have xb0 := sb.c0
  have xb1 := sb.c1
  have xb2 := sb.c2
  have xc0 := sc.c0
  have xc1 := sc.c1
  have xc2 := sc.c2
  have xd0 := sd.c0
  have xd1 := sd.c1
  have xd2 := sd.c2
  replace kk := kk.trans k
  clear k
  go_wp2_with fail
  with_reducible refine (q3.out _ kk).mono ?_
  rintro e w4 ⟨rfl, k⟩
  replace sa := sa.kept k (by simp)
  replace sb := sb.kept k (by simp)
  replace sc := sc.kept k (by simp)
  replace sd := sd.kept k (by simp)
  clear xa0 xa1 xa2 xb0 xb1 xb2 xc0 xc1 xc2 xd0 xd1 xd2
  have xa0 := sa.c0
  have xa1 := sa.c1
  have xa2 := sa.c2
  have xb0 := sb.c0
  have xb1 := sb.c1
  have xb2 := sb.c2
  have xc0 := sc.c0
  have xc1 := sc.c1
  have xc2 := sc.c2
  have xd0 := sd.c0
  have xd1 := sd.c1
  have xd2 := sd.c2
  replace kk := kk.trans k
  clear k
  go_wp2_with fail
  with_reducible refine (q4.out _ kk).mono ?_
  rintro e w5 ⟨rfl, k⟩
  replace sa := sa.kept k (by simp)
  replace sb := sb.kept k (by simp)
  replace sc := sc.kept k (by simp)
  replace sd := sd.kept k (by simp)
  clear xa0 xa1 xa2 xb0 xb1 xb2 xc0 xc1 xc2 xd0 xd1 xd2
  have xa0 := sa.c0
  have xa1 := sa.c1
  have xa2 := sa.c2
  have xb0 := sb.c0
  have xb1 := sb.c1
  have xb2 := sb.c2
  have xc0 := sc.c0
  have xc1 := sc.c1
  have xc2 := sc.c2
  have xd0 := sd.c0
  have xd1 := sd.c1
  have xd2 := sd.c2
  replace kk := kk.trans k
  clear k
  clear sa sb sc sd xa0 xa1 xa2 xb0 xb1 xb2 xc0 xc1 xc2 xd0 xd1 xd2
  go_wp2
  go_ret2
  exact ⟨rfl, kk⟩

set_option maxRecDepth 100000 in
set_option maxHeartbeats 4000000 in
theorem rSquareSpace_0 (ax ay az bx yb bz : Int) (w : World)
    (q0 : Hid (Gw w 80 #[.agg #[.int .i64 ax, .int .i64 ay, .int .i64 az]] (.bool false))) :
    Calls Tryz.prog 41 #[.agg #[.int .i64 ax, .int .i64 ay, .int .i64 az], .agg #[.int .i64 bx, .int .i64 yb, .int .i64 bz]] w fun e w' => e = .returned (.tuple #[.int .i64 0, .int .i64 2]) ∧ Kp [] w w' := by
  unfold Gw at q0
  have sa := SpB.made 56 w ax ay az
  replace sa := sa.alloc (.cells #[.int .i64 bx, .int .i64 yb, .int .i64 bz] 56 (0, 0))
  have sb := SpB.made 56 (w.alloc (.cells #[.int .i64 ax, .int .i64 ay, .int .i64 az] 56 (0, 0))) bx yb bz
  simp only [World.size_alloc] at *
  have kk : Kp [] w ((w.alloc (.cells #[.int .i64 ax, .int .i64 ay, .int .i64 az] 56 (0, 0))).alloc (.cells #[.int .i64 bx, .int .i64 yb, .int .i64 bz] 56 (0, 0))) := ((Kp.refl _ _).alloc _).alloc _
  have xa0 := sa.c0
  have xa1 := sa.c1
  have xa2 := sa.c2
  have xb0 := sb.c0
  have xb1 := sb.c1
  have xb2 := sb.c2
  go_enter Tryz.func41, Tryz.ntmps41
  go_wp2_with fail
  with_reducible refine (q0.out _ kk).mono ?_
  rintro e w1 ⟨rfl, k⟩
  replace sa := sa.kept k (by simp)
  replace sb := sb.kept k (by simp)
  clear xa0 xa1 xa2 xb0 xb1 xb2
  have xa0 := sa.c0
  have xa1 := sa.c1
  have xa2 := sa.c2
  have xb0 := sb.c0
  have xb1 := sb.c1
  have xb2 := sb.c2
  replace kk := kk.trans k
  clear k
  clear sa sb xa0 xa1 xa2 xb0 xb1 xb2
  go_wp2
  go_ret2
  exact ⟨rfl, kk⟩

set_option maxRecDepth 100000 in
set_option maxHeartbeats 4000000 in
theorem rSquareSpace_1 (ax ay az bx yb bz : Int) (w : World)
    (q0 : Hid (Gw w 80 #[.agg #[.int .i64 ax, .int .i64 ay, .int .i64 az]] (.bool true)))
    (q1 : Hid (Gw w 80 #[.agg #[.int .i64 bx, .int .i64 yb, .int .i64 bz]] (.bool false))) :
    Calls Tryz.prog 41 #[.agg #[.int .i64 ax, .int .i64 ay, .int .i64 az], .agg #[.int .i64 bx, .int .i64 yb, .int .i64 bz]] w fun e w' => e = .returned (.tuple #[.int .i64 0, .int .i64 2]) ∧ Kp [] w w' := by
  unfold Gw at q0 q1
  have sa := SpB.made 56 w ax ay az
  replace sa := sa.alloc (.cells #[.int .i64 bx, .int .i64 yb, .int .i64 bz] 56 (0, 0))
  have sb := SpB.made 56 (w.alloc (.cells #[.int .i64 ax, .int .i64 ay, .int .i64 az] 56 (0, 0))) bx yb bz
  simp only [World.size_alloc] at *
  have kk : Kp [] w ((w.alloc (.cells #[.int .i64 ax, .int .i64 ay, .int .i64 az] 56 (0, 0))).alloc (.cells #[.int .i64 bx, .int .i64 yb, .int .i64 bz] 56 (0, 0))) := ((Kp.refl _ _).alloc _).alloc _
  have xa0 := sa.c0
  have xa1 := sa.c1
  have xa2 := sa.c2
  have xb0 := sb.c0
  have xb1 := sb.c1
  have xb2 := sb.c2
  go_enter Tryz.func41, Tryz.ntmps41
  go_wp2_with fail
  with_reducible refine (q0.out _ kk).mono ?_
  rintro e w1 ⟨rfl, k⟩
  replace sa := sa.kept k (by simp)
  replace sb := sb.kept k (by simp)
  clear xa0 xa1 xa2 xb0 xb1 xb2
  have xa0 := sa.c0
  have xa1 := sa.c1
  have xa2 := sa.c2
  have xb0 := sb.c0
  have xb1 := sb.c1
  have xb2 := sb.c2
  replace kk := kk.trans k
  clear k
  go_wp2_with fail
  with_reducible refine (q1.out _ kk).mono ?_
  rintro e w2 ⟨rfl, k⟩
  replace sa := sa.kept k (by simp)
  replace sb := sb.kept k (by simp)
  clear xa0 xa1 xa2 xb0 xb1 xb2
  have xa0 := sa.c0
  have xa1 := sa.c1
  have xa2 := sa.c2
  have xb0 := sb.c0
  have xb1 := sb.c1
  have xb2 := sb.c2
  replace kk := kk.trans k
  clear k
  clear sa sb xa0 xa1 xa2 xb0 xb1 xb2
  go_wp2
  go_ret2
  exact ⟨rfl, kk⟩

set_option maxRecDepth 100000 in
set_option maxHeartbeats 4000000 in
theorem rSquareSpace_2 (ax ay az bx yb bz v : Int) (w : World)
    (q0 : Hid (Gw w 80 #[.agg #[.int .i64 ax, .int .i64 ay, .int .i64 az]] (.bool true)))
    (q1 : Hid (Gw w 80 #[.agg #[.int .i64 bx, .int .i64 yb, .int .i64 bz]] (.bool true)))
    (q2 : Hid (Gw w 99 #[.agg #[.int .i64 ax, .int .i64 ay, .int .i64 az], .agg #[.int .i64 bx, .int .i64 yb, .int .i64 bz]] (.int .i64 v))) :
    Calls Tryz.prog 41 #[.agg #[.int .i64 ax, .int .i64 ay, .int .i64 az], .agg #[.int .i64 bx, .int .i64 yb, .int .i64 bz]] w fun e w' => e = .returned (.tuple #[.int .i64 v, .int .i64 0]) ∧ Kp [] w w' := by
  unfold Gw at q0 q1 q2
  have sa := SpB.made 56 w ax ay az
  replace sa := sa.alloc (.cells #[.int .i64 bx, .int .i64 yb, .int .i64 bz] 56 (0, 0))
  have sb := SpB.made 56 (w.alloc (.cells #[.int .i64 ax, .int .i64 ay, .int .i64 az] 56 (0, 0))) bx yb bz
  simp only [World.size_alloc] at *
  have kk : Kp [] w ((w.alloc (.cells #[.int .i64 ax, .int .i64 ay, .int .i64 az] 56 (0, 0))).alloc (.cells #[.int .i64 bx, .int .i64 yb, .int .i64 bz] 56 (0, 0))) := ((Kp.refl _ _).alloc _).alloc _
  have xa0 := sa.c0
  have xa1 := sa.c1
  have xa2 := sa.c2
  have xb0 := sb.c0
  have xb1 := sb.c1
  have xb2 := sb.c2
  go_enter Tryz.func41, Tryz.ntmps41
  go_wp2_with fail
  with_reducible refine (q0.out _ kk).mono ?_
  rintro e w1 ⟨rfl, k⟩
  replace sa := sa.kept k (by simp)
  replace sb := sb.kept k (by simp)
  clear xa0 xa1 xa2 xb0 xb1 xb2
  have xa0 := sa.c0
  have xa1 := sa.c1
  have xa2 := sa.c2
  have xb0 := sb.c0
  have xb1 := sb.c1
  have xb2 := sb.c2
  replace kk := kk.trans k
  clear k
  go_wp2_with fail
  with_reducible refine (q1.out _ kk).mono ?_
  rintro e w2 ⟨rfl, k⟩
  replace sa := sa.kept k (by simp)
  replace sb := sb.kept k (by simp)
  clear xa0 xa1 xa2 xb0 xb1 xb2
  have xa0 := sa.c0
  have xa1 := sa.c1
  have xa2 := sa.c2
  have xb0 := sb.c0
  have xb1 := sb.c1
  have xb2 := sb.c2
  replace kk := kk.trans k
  clear k
  go_wp2_with fail
  with_reducible refine (q2.out _ kk).mono ?_
  rintro e w3 ⟨rfl, k⟩
  replace sa := sa.kept k (by simp)
  replace sb := sb.kept k (by simp)
  clear xa0 xa1 xa2 xb0 xb1 xb2
  have xa0 := sa.c0
  have xa1 := sa.c1
  have xa2 := sa.c2
  have xb0 := sb.c0
  have xb1 := sb.c1
  have xb2 := sb.c2
  replace kk := kk.trans k
  clear k
  clear sa sb xa0 xa1 xa2 xb0 xb1 xb2
  go_wp2
  go_ret2
  exact ⟨rfl, kk⟩

set_option maxRecDepth 100000 in
set_option maxHeartbeats 4000000 in
theorem rNormal_0 (ax ay az bx yb bz cx cy cz : Int) (w : World)
    (q0 : Hid (Gw w 80 #[.agg #[.int .i64 ax, .int .i64 ay, .int .i64 az]] (.bool false))) :
    Calls Tryz.prog 37 #[.agg #[.int .i64 ax, .int .i64 ay, .int .i64 az], .agg #[.int .i64 bx, .int .i64 yb, .int .i64 bz], .agg #[.int .i64 cx, .int .i64 cy, .int .i64 cz]] w fun e w' => e = .returned (.tuple #[.agg #[.int .i64 0, .int .i64 0, .int .i64 0], .int .i64 2]) ∧ Kp [] w w' := by
  unfold Gw at q0
  have sa := SpB.made 56 w ax ay az
  replace sa := sa.alloc (.cells #[.int .i64 bx, .int .i64 yb, .int .i64 bz] 56 (0, 0))
  replace sa := sa.alloc (.cells #[.int .i64 cx, .int .i64 cy, .int .i64 cz] 56 (0, 0))
  have sb := SpB.made 56 (w.alloc (.cells #[.int .i64 ax, .int .i64 ay, .int .i64 az] 56 (0, 0))) bx yb bz
  replace sb := sb.alloc (.cells #[.int .i64 cx, .int .i64 cy, .int .i64 cz] 56 (0, 0))
  have sc := SpB.made 56 ((w.alloc (.cells #[.int .i64 ax, .int .i64 ay, .int .i64 az] 56 (0, 0))).alloc (.cells #[.int .i64 bx, .int .i64 yb, .int .i64 bz] 56 (0, 0))) cx cy cz
  simp only [World.size_alloc] at *
  have kk : Kp [] w (((w.alloc (.cells #[.int .i64 ax, .int .i64 ay, .int .i64 az] 56 (0, 0))).alloc (.cells #[.int .i64 bx, .int .i64 yb, .int .i64 bz] 56 (0, 0))).alloc (.cells #[.int .i64 cx, .int .i64 cy, .int .i64 cz] 56 (0, 0))) := (((Kp.refl _ _).alloc _).alloc _).alloc _
  have xa0 := sa.c0
  have xa1 := sa.c1
  have xa2 := sa.c2
  have xb0 := sb.c0
  have xb1 := sb.c1
  have xb2 := sb.c2
  have xc0 := sc.c0
  have xc1 := sc.c1
  have xc2 := sc.c2
  replace kk := kk.alloc (.cells #[.int .i64 0, .int .i64 0, .int .i64 0] 58 (0, 0))
  clear xa0 xa1 xa2 xb0 xb1 xb2 xc0 xc1 xc2
  replace sa := sa.alloc (.cells #[.int .i64 0, .int .i64 0, .int .i64 0] 58 (0, 0))
  replace sb := sb.alloc (.cells #[.int .i64 0, .int .i64 0, .int .i64 0] 58 (0, 0))
  replace sc := sc.alloc (.cells #[.int .i64 0, .int .i64 0, .int .i64 0] 58 (0, 0))
  have sz := SpB.made 58 (((w.alloc (.cells #[.int .i64 ax, .int .i64 ay, .int .i64 az] 56 (0, 0))).alloc (.cells #[.int .i64 bx, .int .i64 yb, .int .i64 bz] 56 (0, 0))).alloc (.cells #[.int .i64 cx, .int .i64 cy, .int .i64 cz] 56 (0, 0))) 0 0 0
  simp only [World.size_alloc] at sz
  have xa0 := sa.c0
  have xa1 := sa.c1
  have xa2 := sa.c2
  have xb0 := sb.c0
  have xb1 := sb.c1
  have xb2 := sb.c2
  have xc0 := sc.c0
  have xc1 := sc.c1
  have xc2 := sc.c2
  go_enter Tryz.func37, Tryz.ntmps37
  go_wp2_with fail
  with_reducible refine (q0.out _ kk).mono ?_
  rintro e w1 ⟨rfl, k⟩
  replace sa := sa.kept k (by simp)
  replace sb := sb.kept k (by simp)
  replace sc := sc.kept k (by simp)
  clear xa0 xa1 xa2 xb0 xb1 xb2 xc0 xc1 xc2
  have xa0 := sa.c0
  have xa1 := sa.c1
  have xa2 := sa.c2
  have xb0 := sb.c0
  have xb1 := sb.c1
  have xb2 := sb.c2
  have xc0 := sc.c0
  have xc1 := sc.c1
  have xc2 := sc.c2
  replace sz := sz.kept k (by simp)
  replace kk := kk.trans k
  clear k
  have c0 := sz.c0
  have f0 := sz.f 0
  have c1 := sz.c1
  have f1 := sz.f 1
  have c2 := sz.c2
  have f2 := sz.f 2
  have z2 := sz.set3 0 0 0
  have e0 := z2.c0
  have e1 := z2.c1
  have e2 := z2.c2
  replace kk := kp_sp3 kk (b := w.heap.size + 1 + 1 + 1) (by omega) (.int .i64 0) (.int .i64 0) (.int .i64 0)
  clear sz z2 sa sb sc xa0 xa1 xa2 xb0 xb1 xb2 xc0 xc1 xc2
  go_wp2
  refine bodyPost_ret (v := .tuple #[.agg #[.int .i64 0, .int .i64 0, .int .i64 0], .int .i64 2]) (by simp [results, Tryz.results37, go_sem, e0, e1, e2]) rfl ?_
  exact ⟨rfl, kk⟩

set_option maxRecDepth 100000 in
set_option maxHeartbeats 4000000 in
theorem rNormal_1 (ax ay az bx yb bz cx cy cz : Int) (w : World)
    (q0 : Hid (Gw w 80 #[.agg #[.int .i64 ax, .int .i64 ay, .int .i64 az]] (.bool true)))
    (q1 : Hid (Gw w 80 #[.agg #[.int .i64 bx, .int .i64 yb, .int .i64 bz]] (.bool false))) :
    Calls Tryz.prog 37 #[.agg #[.int .i64 ax, .int .i64 ay, .int .i64 az], .agg #[.int .i64 bx, .int .i64 yb, .int .i64 bz], .agg #[.int .i64 cx, .int .i64 cy, .int .i64 cz]] w fun e w' => e = .returned (.tuple #[.agg #[.int .i64 0, .int .i64 0, .int .i64 0], .int .i64 2]) ∧ Kp [] w w' := by
  unfold Gw at q0 q1
  have sa := SpB.made 56 w ax ay az
  replace sa := sa.alloc (.cells #[.int .i64 bx, .int .i64 yb, .int .i64 bz] 56 (0, 0))
  replace sa := sa.alloc (.cells #[.int .i64 cx, .int .i64 cy, .int .i64 cz] 56 (0, 0))
  have sb := SpB.made 56 (w.alloc (.cells #[.int .i64 ax, .int .i64 ay, .int .i64 az] 56 (0, 0))) bx yb bz
  replace sb := sb.alloc (.cells #[.int .i64 cx, .int .i64 cy, .int .i64 cz] 56 (0, 0))
  have sc := SpB.made 56 ((w.alloc (.cells #[.int .i64 ax, .int .i64 ay, .int .i64 az] 56 (0, 0))).alloc (.cells #[.int .i64 bx, .int .i64 yb, .int .i64 bz] 56 (0, 0))) cx cy cz
  simp only [World.size_alloc] at *
  have kk : Kp [] w (((w.alloc (.cells #[.int .i64 ax, .int .i64 ay, .int .i64 az] 56 (0, 0))).alloc (.cells #[.int .i64 bx, .int .i64 yb, .int .i64 bz] 56 (0, 0))).alloc (.cells #[.int .i64 cx, .int .i64 cy, .int .i64 cz] 56 (0, 0))) := (((Kp.refl _ _).alloc _).alloc _).alloc _
  have xa0 := sa.c0
  have xa1 := sa.c1
  have xa2 := sa.c2
  have xb0 := sb.c0
  have xb1 := sb.c1
  have xb2 := sb.c2
  have xc0 := sc.c0
  have xc1 := sc.c1
  have xc2 := sc.c2
  replace kk := kk.alloc (.cells #[.int .i64 0, .int .i64 0, .int .i64 0] 58 (0, 0))
  clear xa0 xa1 xa2 xb0 xb1 xb2 xc0 xc1 xc2
  replace sa := sa.alloc (.cells #[.int .i64 0, .int .i64 0, .int .i64 0] 58 (0, 0))
  replace sb := sb.alloc (.cells #[.int .i64 0, .int .i64 0, .int .i64 0] 58 (0, 0))
  replace sc := sc.alloc (.cells #[.int .i64 0, .int .i64 0, .int .i64 0] 58 (0, 0))
  have sz := SpB.made 58 (((w.alloc (.cells #[.int .i64 ax, .int .i64 ay, .int .i64 az] 56 (0, 0))).alloc (.cells #[.int .i64 bx, .int .i64 yb, .int .i64 bz] 56 (0, 0))).alloc (.cells #[.int .i64 cx, .int .i64 cy, .int .i64 cz] 56 (0, 0))) 0 0 0
  simp only [World.size_alloc] at sz
  have xa0 := sa.c0
  have xa1 := sa.c1
  have xa2 := sa.c2
  have xb0 := sb.c0
  have xb1 := sb.c1
  have xb2 := sb.c2
  have xc0 := sc.c0
  have xc1 := sc.c1
  have xc2 := sc.c2
  go_enter Tryz.func37, Tryz.ntmps37
  go_wp2_with fail
  with_reducible refine (q0.out _ kk).mono ?_
  rintro e w1 ⟨rfl, k⟩
  replace sa := sa.kept k (by simp)
  replace sb := sb.kept k (by simp)
  replace sc := sc.kept k (by simp)
  clear xa0 xa1 xa2 xb0 xb1 xb2 xc0 xc1 xc2
  have xa0 := sa.c0
  have xa1 := sa.c1
  have xa2 := sa.c2
  have xb0 := sb.c0
  have xb1 := sb.c1
  have xb2 := sb.c2
  have xc0 := sc.c0
  have xc1 := sc.c1
  have xc2 := sc.c2
  replace sz := sz.kept k (by simp)
  replace kk := kk.trans k
  clear k
  go_wp2_with fail
  with_reducible refine (q1.out _ kk).mono ?_
  rintro e w2 ⟨rfl, k⟩
  replace sa := sa.kept k (by simp)
  replace sb := sb.kept k (by simp)
  replace sc := sc.kept k (by simp)
  clear xa0 xa1 xa2 xb0 xb1 xb2 xc0 xc1 xc2
  have xa0 := sa.c0
  have xa1 := sa.c1
  have xa2 := sa.c2
  have xb0 := sb.c0
  have xb1 := sb.c1
  have xb2 := sb.c2
  have xc0 := sc.c0
  have xc1 := sc.c1
  have xc2 := sc.c2
  replace sz := sz.kept k (by simp)
  replace kk := kk.trans k
  clear k
  have c0 := sz.c0
  have f0 := sz.f 0
  have c1 := sz.c1
  have f1 := sz.f 1
  have c2 := sz.c2
  have f2 := sz.f 2
  have z2 := sz.set3 0 0 0
  have e0 := z2.c0
  have e1 := z2.c1
  have e2 := z2.c2
  replace kk := kp_sp3 kk (b := w.heap.size + 1 + 1 + 1) (by omega) (.int .i64 0) (.int .i64 0) (.int .i64 0)
  clear sz z2 sa sb sc xa0 xa1 xa2 xb0 xb1 xb2 xc0 xc1 xc2
  go_wp2
  refine bodyPost_ret (v := .tuple #[.agg #[.int .i64 0, .int .i64 0, .int .i64 0], .int .i64 2]) (by simp [results, Tryz.results37, go_sem, e0, e1, e2]) rfl ?_
  exact ⟨rfl, kk⟩

set_option maxRecDepth 100000 in
set_option maxHeartbeats 4000000 in
theorem rNormal_2 (ax ay az bx yb bz cx cy cz : Int) (w : World)
    (q0 : Hid (Gw w 80 #[.agg #[.int .i64 ax, .int .i64 ay, .int .i64 az]] (.bool true)))
    (q1 : Hid (Gw w 80 #[.agg #[.int .i64 bx, .int .i64 yb, .int .i64 bz]] (.bool true)))
    (q2 : Hid (Gw w 80 #[.agg #[.int .i64 cx, .int .i64 cy, .int .i64 cz]] (.bool false))) :
    Calls Tryz.prog 37 #[.agg #[.int .i64 ax, .int .i64 ay, .int .i64 az], .agg #[.int .i64 bx, .int .i64 yb, .int .i64 bz], .agg #[.int .i64 cx, .int .i64 cy, .int .i64 cz]] w fun e w' => e = .returned (.tuple #[.agg #[.int .i64 0, .int .i64 0, .int .i64 0], .int .i64 2]) ∧ Kp [] w w' := by
  unfold Gw at q0 q1 q2
  have sa := SpB.made 56 w ax ay az
  replace sa := sa.alloc (.cells #[.int .i64 bx, .int .i64 yb, .int .i64 bz] 56 (0, 0))
  replace sa := sa.alloc (.cells #[.int .i64 cx, .int .i64 cy, .int .i64 cz] 56 (0, 0))
  have sb := SpB.made 56 (w.alloc (.cells #[.int .i64 ax, .int .i64 ay, .int .i64 az] 56 (0, 0))) bx yb bz
  replace sb := sb.alloc (.cells #[.int .i64 cx, .int .i64 cy, .int .i64 cz] 56 (0, 0))
  have sc := SpB.made 56 ((w.alloc (.cells #[.int .i64 ax, .int .i64 ay, .int .i64 az] 56 (0, 0))).alloc (.cells #[.int .i64 bx, .int .i64 yb, .int .i64 bz] 56 (0, 0))) cx cy cz
  simp only [World.size_alloc] at *
  have kk : Kp [] w (((w.alloc (.cells #[.int .i64 ax, .int .i64 ay, .int .i64 az] 56 (0, 0))).alloc (.cells #[.int .i64 bx, .int .i64 yb, .int .i64 bz] 56 (0, 0))).alloc (.cells #[.int .i64 cx, .int .i64 cy, .int .i64 cz] 56 (0, 0))) := (((Kp.refl _ _).alloc _).alloc _).alloc _
  have xa0 := sa.c0
  have xa1 := sa.c1
  have xa2 := sa.c2
  have xb0 := sb.c0
  have xb1 := sb.c1
  have xb2 := sb.c2
  have xc0 := sc.c0
  have xc1 := sc.c1
  have xc2 := sc.c2
  replace kk := kk.alloc (.cells #[.int .i64 0, .int .i64 0, .int .i64 0] 58 (0, 0))
  clear xa0 xa1 xa2 xb0 xb1 xb2 xc0 xc1 xc2
  replace sa := sa.alloc (.cells #[.int .i64 0, .int .i64 0, .int .i64 0] 58 (0, 0))
  replace sb := sb.alloc (.cells #[.int .i64 0, .int .i64 0, .int .i64 0] 58 (0, 0))
  replace sc := sc.alloc (.cells #[.int .i64 0, .int .i64 0, .int .i64 0] 58 (0, 0))
  have sz := SpB.made 58 (((w.alloc (.cells #[.int .i64 ax, .int .i64 ay, .int .i64 az] 56 (0, 0))).alloc (.cells #[.int .i64 bx, .int .i64 yb, .int .i64 bz] 56 (0, 0))).alloc (.cells #[.int .i64 cx, .int .i64 cy, .int .i64 cz] 56 (0, 0))) 0 0 0
  simp only [World.size_alloc] at sz
  have xa0 := sa.c0
  have xa1 := sa.c1
  have xa2 := sa.c2
  have xb0 := sb.c0
  have xb1 := sb.c1
  have xb2 := sb.c2
  have xc0 := sc.c0
  have xc1 := sc.c1
  have xc2 := sc.c2
  go_enter Tryz.func37, Tryz.ntmps37
  go_wp2_with fail
  with_reducible refine (q0.out _ kk).mono ?_
  rintro e w1 ⟨rfl, k⟩
  replace sa := sa.kept k (by simp)
  replace sb := sb.kept k (by simp)
  replace sc := sc.kept k (by simp)
  clear xa0 xa1 xa2 xb0 xb1 xb2 xc0 xc1 xc2
  have xa0 := sa.c0
  have xa1 := sa.c1
  have xa2 := sa.c2
  have xb0 := sb.c0
  have xb1 := sb.c1
  have xb2 := sb.c2
  have xc0 := sc.c0
  have xc1 := sc.c1
  have xc2 := sc.c2
  replace sz := sz.kept k (by simp)
  replace kk := kk.trans k
  clear k
  go_wp2_with fail
  with_reducible refine (q1.out _ kk).mono ?_
  rintro e w2 ⟨rfl, k⟩
  replace sa := sa.kept k (by simp)
  replace sb := sb.kept k (by simp)
  replace sc := sc.kept k (by simp)
  clear xa0 xa1 xa2 xb0 xb1 xb2 xc0 xc1 xc2
  have xa0 := sa.c0
  have xa1 := sa.c1
  have xa2 := sa.c2
  have xb0 := sb.c0
  have xb1 := sb.c1
  have xb2 := sb.c2
  have xc0 := sc.c0
  have xc1 := sc.c1
  have xc2 := sc.c2
  replace sz := sz.kept k (by simp)
  replace kk := kk.trans k
  clear k
  go_wp2_with fail
  with_reducible refine (q2.out _ kk).mono ?_
  rintro e w3 ⟨rfl, k⟩
  replace sa := sa.kept k (by simp)
  replace sb := sb.kept k (by simp)
  replace sc := sc.kept k (by simp)
  clear xa0 xa1 xa2 xb0 xb1 xb2 xc0 xc1 xc2
  have xa0 := sa.c0
  have xa1 := sa.c1
  have xa2 := sa.c2
  have xb0 := sb.c0
  have xb1 := sb.c1
  have xb2 := sb.c2
  have xc0 := sc.c0
  have xc1 := sc.c1
  have xc2 := sc.c2
  replace sz := sz.kept k (by simp)
  replace kk := kk.trans k
  clear k
  have c0 := sz.c0
  have f0 := sz.f 0
  have c1 := sz.c1
  have f1 := sz.f 1
  have c2 := sz.c2
  have f2 := sz.f 2
  have z2 := sz.set3 0 0 0
  have e0 := z2.c0
  have e1 := z2.c1
  have e2 := z2.c2
  replace kk := kp_sp3 kk (b := w.heap.size + 1 + 1 + 1) (by omega) (.int .i64 0) (.int .i64 0) (.int .i64 0)
  clear sz z2 sa sb sc xa0 xa1 xa2 xb0 xb1 xb2 xc0 xc1 xc2
  go_wp2
  refine bodyPost_ret (v := .tuple #[.agg #[.int .i64 0, .int .i64 0, .int .i64 0], .int .i64 2]) (by simp [results, Tryz.results37, go_sem, e0, e1, e2]) rfl ?_
  exact ⟨rfl, kk⟩

set_option maxRecDepth 100000 in
set_option maxHeartbeats 4000000 in
theorem rNormal_3 (ax ay az bx yb bz cx cy cz nx ny nz : Int) (w : World)
    (q0 : Hid (Gw w 80 #[.agg #[.int .i64 ax, .int .i64 ay, .int .i64 az]] (.bool true)))
    (q1 : Hid (Gw w 80 #[.agg #[.int .i64 bx, .int .i64 yb, .int .i64 bz]] (.bool true)))
    (q2 : Hid (Gw w 80 #[.agg #[.int .i64 cx, .int .i64 cy, .int .i64 cz]] (.bool true)))
    (q3 : Hid (Gw w 95 #[.agg #[.int .i64 ax, .int .i64 ay, .int .i64 az], .agg #[.int .i64 bx, .int .i64 yb, .int .i64 bz], .agg #[.int .i64 cx, .int .i64 cy, .int .i64 cz]] (.agg #[.int .i64 nx, .int .i64 ny, .int .i64 nz]))) :
    Calls Tryz.prog 37 #[.agg #[.int .i64 ax, .int .i64 ay, .int .i64 az], .agg #[.int .i64 bx, .int .i64 yb, .int .i64 bz], .agg #[.int .i64 cx, .int .i64 cy, .int .i64 cz]] w fun e w' => e = .returned (.tuple #[.agg #[.int .i64 nx, .int .i64 ny, .int .i64 nz], .int .i64 0]) ∧ Kp [] w w' := by
  unfold Gw at q0 q1 q2 q3
  have sa := SpB.made 56 w ax ay az
  replace sa := sa.alloc (.cells #[.int .i64 bx, .int .i64 yb, .int .i64 bz] 56 (0, 0))
  replace sa := sa.alloc (.cells #[.int .i64 cx, .int .i64 cy, .int .i64 cz] 56 (0, 0))
  have sb := SpB.made 56 (w.alloc (.cells #[.int .i64 ax, .int .i64 ay, .int .i64 az] 56 (0, 0))) bx yb bz
  replace sb := sb.alloc (.cells #[.int .i64 cx, .int .i64 cy, .int .i64 cz] 56 (0, 0))
  have sc := SpB.made 56 ((w.alloc (.cells #[.int .i64 ax, .int .i64 ay, .int .i64 az] 56 (0, 0))).alloc (.cells #[.int .i64 bx, .int .i64 yb, .int .i64 bz] 56 (0, 0))) cx cy cz
  simp only [World.size_alloc] at *
  have kk : Kp [] w (((w.alloc (.cells #[.int .i64 ax, .int .i64 ay, .int .i64 az] 56 (0, 0))).alloc (.cells #[.int .i64 bx, .int .i64 yb, .int .i64 bz] 56 (0, 0))).alloc (.cells #[.int .i64 cx, .int .i64 cy, .int .i64 cz] 56 (0, 0))) := (((Kp.refl _ _).alloc _).alloc _).alloc _
  have xa0 := sa.c0
  have xa1 := sa.c1
  have xa2 := sa.c2
  have xb0 := sb.c0
  have xb1 := sb.c1
  have xb2 := sb.c2
  have xc0 := sc.c0
  have xc1 := sc.c1
  have xc2 := sc.c2
  replace kk := kk.alloc (.cells #[.int .i64 0, .int .i64 0, .int .i64 0] 58 (0, 0))
  clear xa0 xa1 xa2 xb0 xb1 xb2 xc0 xc1 xc2
  replace sa := sa.alloc (.cells #[.int .i64 0, .int .i64 0, .int .i64 0] 58 (0, 0))
  replace sb := sb.alloc (.cells #[.int .i64 0, .int .i64 0, .int .i64 0] 58 (0, 0))
  replace sc := sc.alloc (.cells #[.int .i64 0, .int .i64 0, .int .i64 0] 58 (0, 0))
  have sz := SpB.made 58 (((w.alloc (.cells #[.int .i64 ax, .int .i64 ay, .int .i64 az] 56 (0, 0))).alloc (.cells #[.int .i64 bx, .int .i64 yb, .int .i64 bz] 56 (0, 0))).alloc (.cells #[.int .i64 cx, .int .i64 cy, .int .i64 cz] 56 (0, 0))) 0 0 0
  simp only [World.size_alloc] at sz
  have xa0 := sa.c0
  have xa1 := sa.c1
  have xa2 := sa.c2
  have xb0 := sb.c0
  have xb1 := sb.c1
  have xb2 := sb.c2
  have xc0 := sc.c0
  have xc1 := sc.c1
  have xc2 := sc.c2
  go_enter Tryz.func37, Tryz.ntmps37
  go_wp2_with fail
  with_reducible refine (q0.out _ kk).mono ?_
  rintro e w1 ⟨rfl, k⟩
  replace sa := sa.kept k (by simp)
  replace sb := sb.kept k (by simp)
  replace sc := sc.kept k (by simp)
  clear xa0 xa1 xa2 xb0 xb1 xb2 xc0 xc1 xc2
  have xa0 := sa.c0
  have xa1 := sa.c1
  have xa2 := sa.c2
  have xb0 := sb.c0
  have xb1 := sb.c1
  have xb2 := sb.c2
  have xc0 := sc.c0
  have xc1 := sc.c1
  have xc2 := sc.c2
  replace sz := sz.kept k (by simp)
  replace kk := kk.trans k
  clear k
  go_wp2_with fail
  with_reducible refine (q1.out _ kk).mono ?_
  rintro e w2 ⟨rfl, k⟩
  replace sa := sa.kept k (by simp)
  replace sb := sb.kept k (by simp)
  replace sc := sc.kept k (by simp)
  clear xa0 xa1 xa2 xb0 xb1 xb2 xc0 xc1 xc2
  have xa0 := sa.c0
  have xa1 := sa.c1
  have xa2 := sa.c2
  have xb0 := sb.c0
  have xb1 := sb.c1
  have xb2 := sb.c2
  have xc0 := sc.c0
  have xc1 := sc.c1
  have xc2 := sc.c2
  replace sz := sz.kept k (by simp)
  replace kk := kk.trans k
  clear k
  go_wp2_with fail
  with_reducible refine (q2.out _ kk).mono ?_
  rintro e w3 ⟨rfl, k⟩
  replace sa := sa.kept k (by simp)
  replace sb := sb.kept k (by simp)
  replace sc := sc.kept k (by simp)
  clear xa0 xa1 xa2 xb0 xb1 xb2 xc0 xc1 xc2
  have xa0 := sa.c0
  have xa1 := sa.c1
  have xa2 := sa.c2
  have xb0 := sb.c0
  have xb1 := sb.c1
  have xb2 := sb.c2
  have xc0 := sc.c0
  have xc1 := sc.c1
  have xc2 := sc.c2
  replace sz := sz.kept k (by simp)
  replace kk := kk.trans k
  clear k
  go_wp2_with fail
  with_reducible refine (q3.out _ kk).mono ?_
  rintro e w4 ⟨rfl, k⟩
  replace sa := sa.kept k (by simp)
  replace sb := sb.kept k (by simp)
  replace sc := sc.kept k (by simp)
  clear xa0 xa1 xa2 xb0 xb1 xb2 xc0 xc1 xc2
  have xa0 := sa.c0
  have xa1 := sa.c1
  have xa2 := sa.c2
  have xb0 := sb.c0
  have xb1 := sb.c1
  have xb2 := sb.c2
  have xc0 := sc.c0
  have xc1 := sc.c1
  have xc2 := sc.c2
  replace sz := sz.kept k (by simp)
  replace kk := kk.trans k
  clear k
  clear xa0 xa1 xa2 xb0 xb1 xb2 xc0 xc1 xc2
  replace sa := sa.alloc (.cells #[.int .i64 nx, .int .i64 ny, .int .i64 nz] 56 (0, 0))
  replace sb := sb.alloc (.cells #[.int .i64 nx, .int .i64 ny, .int .i64 nz] 56 (0, 0))
  replace sc := sc.alloc (.cells #[.int .i64 nx, .int .i64 ny, .int .i64 nz] 56 (0, 0))
  have sn := SpB.made 56 w4 nx ny nz
  replace kk := kk.alloc (.cells #[.int .i64 nx, .int .i64 ny, .int .i64 nz] 56 (0, 0))
  have xa0 := sa.c0
  have xa1 := sa.c1
  have xa2 := sa.c2
  have xb0 := sb.c0
  have xb1 := sb.c1
  have xb2 := sb.c2
  have xc0 := sc.c0
  have xc1 := sc.c1
  have xc2 := sc.c2
  have xn0 := sn.c0
  have xn1 := sn.c1
  have xn2 := sn.c2
  replace sz := sz.alloc (.cells #[.int .i64 nx, .int .i64 ny, .int .i64 nz] 56 (0, 0))
  have c0 := sz.c0
  have f0 := sz.f 0
  have c1 := sz.c1
  have f1 := sz.f 1
  have c2 := sz.c2
  have f2 := sz.f 2
  have z2 := sz.set3 nx ny nz
  have e0 := z2.c0
  have e1 := z2.c1
  have e2 := z2.c2
  replace kk := kp_sp3 kk (b := w.heap.size + 1 + 1 + 1) (by omega) (.int .i64 nx) (.int .i64 ny) (.int .i64 nz)
  clear sz z2 sa sb sc
  go_wp2
  refine bodyPost_ret (v := .tuple #[.agg #[.int .i64 nx, .int .i64 ny, .int .i64 nz], .int .i64 0]) (by simp [results, Tryz.results37, go_sem, e0, e1, e2]) rfl ?_
  exact ⟨rfl, kk⟩

end Go.Proofs.YtcgilcmhandgfaaGreatDoor

/- The reference of layer 7 in space: Long, FromPlane, ToPlane. -/
namespace Go.Proofs.YtcgilcmhandgfaaGreatDoor
open Go.RowKit
open Go.Lib (nDigits itoa decDigits)

theorem op_bsN3 {a : Act} {w : World} {o : Oper} {x y z : Operand} {u v t : Int} (h : o.op = .buildSlice 34 3 #[(0, x), (1, y), (2, z)]) (hx : a.eval x = .int .i64 u) (hy : a.eval y = .int .i64 v) (hz : a.eval z = .int .i64 t) :
    (execOp a.eval o).run Tryz.prog w = .ok (.value (.slice (some ⟨w.heap.size, 0, none⟩) 3 3)) (w.alloc (.cells #[.int .i64 u, .int .i64 v, .int .i64 t] 3 (0, 0))) := by
  generalize a.eval = r at *
  simp [execOp, h, hx, hy, hz, go_sem]

set_option maxRecDepth 100000 in
set_option maxHeartbeats 4000000 in
theorem rLong_core (nx ny nz : Int) (l : List Int) (R : ByteArray) (w : World) (hlen : Hid (l.length = 3)) (HB : Hid (∀ n ∈ l, n.natAbs ≤ 1000000000000000000))
    (HS : Hid (Nums ((w.alloc (.cells #[.int .i64 nx, .int .i64 ny, .int .i64 nz] 56 (0, 0))).alloc (.cells #[.int .i64 nx, .int .i64 ny, .int .i64 nz] 3 (0, 0))) (w.heap.size + 1) 0 l)) (HE : Hid (S (sqs (l.take 3)) = R))
    (qo : Hid (∀ (z : Int) (W : World), z.natAbs ≤ 1000000000000000000 → Calls Tryz.prog 112 #[.int .i64 z] W fun e w' => e = .returned (.string (S z)) ∧ Kp [] W w'))
    (qt : Hid (∀ (z : Int) (W : World), z.natAbs ≤ 1000000000000000000 → Calls Tryz.prog 131 #[.string (S z), .string (S z)] W fun e w' => e = .returned (.string (S (z * z))) ∧ Kp [] W w'))
    (qp : Hid (∀ (k : Nat) (W : World) (h : k < l.length), Calls Tryz.prog 165 #[.string (S (sqs (l.take k))), .string (S (l[k] * l[k]))] W fun e w' => e = .returned (.string (S (sqs (l.take (k + 1))))) ∧ Kp [] W w')) :
    Calls Tryz.prog 132 #[.agg #[.int .i64 nx, .int .i64 ny, .int .i64 nz]] w fun e w' => e = .returned (.string R) ∧ Kp [] w w' := by
  have s0 := SpB.made 56 w nx ny nz
  have x0 := s0.c0
  have x1 := s0.c1
  have x2 := s0.c2
  have kk : Kp [] w ((w.alloc (.cells #[.int .i64 nx, .int .i64 ny, .int .i64 nz] 56 (0, 0))).alloc (.cells #[.int .i64 nx, .int .i64 ny, .int .i64 nz] 3 (0, 0))) := ((Kp.refl _ _).alloc _).alloc _
  have hlt : w.heap.size + 1 < ((w.alloc (.cells #[.int .i64 nx, .int .i64 ny, .int .i64 nz] 56 (0, 0))).alloc (.cells #[.int .i64 nx, .int .i64 ny, .int .i64 nz] 3 (0, 0))).heap.size := by simp
  have HL := Lib.hid hlt
  have l0 : sqs (l.take 0) = 0 := rfl
  have z0 : S 0 = ⟨#[48]⟩ := S_zero
  clear s0 hlt
  go_enter Tryz.func132, Tryz.ntmps132
  go_wp2_with (refine wpList_stepN rfl (op_bsN3 rfl rfl rfl rfl) (by simp only [Act.put, World.size_alloc, List.setIfInBounds_toArray, List.set_cons_succ, List.set_cons_zero]; rfl) ?_)
  go_loopw [3, 14] (fun s3 s14 wr => ∃ (k : Nat), k ≤ 3 ∧ s14 = .int .i64 k ∧ s3 = .string (S (sqs (l.take k))) ∧ Kp [] ((w.alloc (.cells #[.int .i64 nx, .int .i64 ny, .int .i64 nz] 56 (0, 0))).alloc (.cells #[.int .i64 nx, .int .i64 ny, .int .i64 nz] 3 (0, 0))) wr)
    (fun _ s14 _ => 3 - (intOf s14).toNat)
  case atStart => exact ⟨0, by omega, rfl, by rw [l0, z0], Kp.refl _ _⟩
  case round =>
    obtain ⟨k, hk1, rfl, rfl, hkp⟩ := hrel
    by_cases hlt : k < 3
    · have hk : k < l.length := by rw [hlen.out]; exact hlt
      have c0 : wr.cell? ⟨w.heap.size + 1, k, none⟩ = some (.int .i64 l[k]) := by
        have e := HS.out k hk
        rw [Nat.zero_add] at e
        unfold World.cell? at e ⊢
        simp only [hkp.block (w.heap.size + 1) HL.out (by simp)]
        exact e
      have hlt' : (k : Int) < 3 := by omega
      have hz1' : 0 ≤ (k : Int) := by omega
      have q1 := Lib.hid fun W => qo.out l[k] W (HB.out _ (List.getElem_mem hk))
      have q2 := Lib.hid fun W => qt.out l[k] W (HB.out _ (List.getElem_mem hk))
      have q3 := Lib.hid fun W => qp.out k W hk
      have HT := Lib.hid hlt
      generalize hY : S (sqs (l.take (k + 1))) = Y at *
      have HY := Lib.hid hY
      generalize S (sqs (l.take k)) = X at *
      generalize S (l[k] * l[k]) = N2 at *
      generalize S l[k] = N1 at *
      generalize l[k] = x at *
      clear hlt hk qo qt qp l0 z0 hY x0 x1 x2
      go_wp2_with fail
      with_reducible refine (q1.out _).mono ?_
      rintro e w1 ⟨rfl, k1⟩
      replace hkp := hkp.trans k1; clear k1 c0
      go_wp2_with fail
      with_reducible refine (q1.out _).mono ?_
      rintro e w2 ⟨rfl, k1⟩
      replace hkp := hkp.trans k1; clear k1
      go_wp2_with fail
      with_reducible refine (q2.out _).mono ?_
      rintro e w3 ⟨rfl, k1⟩
      replace hkp := hkp.trans k1; clear k1
      go_wp2_with fail
      with_reducible refine (q3.out _).mono ?_
      rintro e w4 ⟨rfl, k1⟩
      replace hkp := hkp.trans k1; clear k1
      go_wp2
      have hlt := HT.out
      go_roundw
      case rel => exact ⟨k + 1, by omega, by go_num, by rw [HY.out], hkp⟩
      case measure => simp [intOf]; omega
    · obtain rfl : k = 3 := by omega
      rw [HE.out]
      clear qo qt qp hlt l0 z0 x0 x1 x2
      go_wp2
      go_ret
      exact ⟨rfl, kk.trans hkp⟩

theorem rLong (nx ny nz : Int) (w : World) (b1 : nx.natAbs ≤ 1000000000000000000) (b2 : ny.natAbs ≤ 1000000000000000000) (b3 : nz.natAbs ≤ 1000000000000000000) :
    Calls Tryz.prog 132 #[.agg #[.int .i64 nx, .int .i64 ny, .int .i64 nz]] w fun e w' => e = .returned (.string (S (sqs [nx, ny, nz]))) ∧ Kp [] w w' := by
  have hb : ∀ n ∈ [nx, ny, nz], n.natAbs ≤ 1000000000000000000 := by
    intro n hn
    rcases List.mem_cons.1 hn with rfl | hn
    · exact b1
    · rcases List.mem_cons.1 hn with rfl | hn
      · exact b2
      · rw [List.mem_singleton.1 hn]; exact b3
  have hN := heap_alloc_new (w.alloc (.cells #[.int .i64 nx, .int .i64 ny, .int .i64 nz] 56 (0, 0))) (.cells #[.int .i64 nx, .int .i64 ny, .int .i64 nz] 3 (0, 0))
  rw [World.size_alloc] at hN
  refine rLong_core nx ny nz [nx, ny, nz] _ w rfl hb (fun i hi => ?_) rfl (fun z W h => of_any z W (by omega) (by omega)) (fun z W h => times_ref z z W (Nat.le_trans (ok_pow (k := 20) (z := z) (by omega) (by omega)) (by omega)) (Nat.le_trans (ok_pow (k := 20) (z := z) (by omega) (by omega)) (by omega))) (fun k W h => ?_)
  · rcases i with _ | _ | _ | i
    · exact (new_cell hN _).trans rfl
    · exact (new_cell hN _).trans rfl
    · exact (new_cell hN _).trans rfl
    · exact absurd hi (by simp)
  · have h1 : (sqs ([nx, ny, nz].take k)).natAbs ≤ k * (1000000000000000000 * 1000000000000000000) := sqs_le [nx, ny, nz] 1000000000000000000 hb k (Nat.le_of_lt h)
    have h2 := hb _ (List.getElem_mem h)
    have h3 := mul_bd h2 h2
    have hk : k ≤ 3 := Nat.le_of_lt h
    have h4 : k * (1000000000000000000 * 1000000000000000000) ≤ 3 * (1000000000000000000 * 1000000000000000000) := Nat.mul_le_mul_right _ hk
    have q := plus_all (sqs ([nx, ny, nz].take k)) ([nx, ny, nz][k] * [nx, ny, nz][k]) W (ok_pow (k := 40) (by omega) (by omega)) (ok_pow (k := 40) (by omega) (by omega))
    rwa [← sqs_take [nx, ny, nz] k h] at q

def vrfp_s : RSt := ⟨10, 25, 4, fun i => ([16, 17, 18, 19, 20, 21, 22, 23, 24, 8] : List Nat).getD i 0, fun i => ([0, 0, 1, 0, 0, 0, 1, 1, 1, 0] : List Nat).getD i 0, fun i => ([0, 0, 0, 0, 0, 0, 1, 2, 3, 0] : List Nat).getD i 0, fun i => ([10, 10, 10, 10, 10, 10, 10, 10, 9, 10, 10, 10, 10, 10, 10, 10, 0, 1, 2, 3, 4, 5, 6, 7, 8, 10] : List Nat).getD i 10, fun i => ([2, 6, 7, 8] : List Nat).getD i 0, fun _ => false, fun _ => true, fun _ => 0, fun _ => false⟩
def vrfp_y : RSy := ⟨vrfp_s, fun i => ([.at 3, .at 3, .at 4, .at 5, .at 6, .at 7, .at 8, .at 9, .at 10, .at 10] : List SV).getD i .un, [(5, .at 0), (6, .at 1), (7, .at 2), (9, .at 3)], fun i => ([false, false, true, false, false, false, true, true, true, false] : List Bool).getD i false⟩
def vrfp_ca : List (Nat × Nat × List SV) := [(2, 131, [.at 3, .at 3]), (6, 95, [.at 5, .at 6, .at 7]), (7, 132, [.at 8]), (8, 130, [.at 4, .at 9])]
theorem vrfp_ok : reflOk (opsOf 2 Tryz.f101) vrfp_y [3, 4, 5] vrfp_ca [] [] = true := by kernel_rfl
set_option maxRecDepth 100000 in
set_option maxHeartbeats 4000000 in
theorem rFromPlane (px py pz ax ay az bx yb bz cx cy cz v nx ny nz : Int) (x xx y r : ByteArray) (w : World)
    (q1 : Hid (Gw w 97 #[.agg #[.int .i64 ax, .int .i64 ay, .int .i64 az], .agg #[.int .i64 bx, .int .i64 yb, .int .i64 bz], .agg #[.int .i64 cx, .int .i64 cy, .int .i64 cz], .agg #[.int .i64 px, .int .i64 py, .int .i64 pz]] (.int .i64 v)))
    (q2 : Hid (Gw w 112 #[.int .i64 v] (.string x)))
    (q3 : Hid (Gw w 131 #[.string x, .string x] (.string xx)))
    (q4 : Hid (Gw w 95 #[.agg #[.int .i64 ax, .int .i64 ay, .int .i64 az], .agg #[.int .i64 bx, .int .i64 yb, .int .i64 bz], .agg #[.int .i64 cx, .int .i64 cy, .int .i64 cz]] (.agg #[.int .i64 nx, .int .i64 ny, .int .i64 nz])))
    (q5 : Hid (Gw w 132 #[.agg #[.int .i64 nx, .int .i64 ny, .int .i64 nz]] (.string y)))
    (q6 : Hid (Gw w 130 #[.string xx, .string y] (.string r))) :
    Calls Tryz.prog 101 #[.agg #[.int .i64 px, .int .i64 py, .int .i64 pz], .agg #[.int .i64 ax, .int .i64 ay, .int .i64 az], .agg #[.int .i64 bx, .int .i64 yb, .int .i64 bz], .agg #[.int .i64 cx, .int .i64 cy, .int .i64 cz]] w fun e w' => e = .returned (.string r) ∧ Kp [] w w' := by
  unfold Gw at q1 q2 q3 q4 q5 q6
  have sp := SpB.made 56 w px py pz
  replace sp := sp.alloc (.cells #[.int .i64 ax, .int .i64 ay, .int .i64 az] 56 (0, 0))
  replace sp := sp.alloc (.cells #[.int .i64 bx, .int .i64 yb, .int .i64 bz] 56 (0, 0))
  replace sp := sp.alloc (.cells #[.int .i64 cx, .int .i64 cy, .int .i64 cz] 56 (0, 0))
  have sa := SpB.made 56 (w.alloc (.cells #[.int .i64 px, .int .i64 py, .int .i64 pz] 56 (0, 0))) ax ay az
  replace sa := sa.alloc (.cells #[.int .i64 bx, .int .i64 yb, .int .i64 bz] 56 (0, 0))
  replace sa := sa.alloc (.cells #[.int .i64 cx, .int .i64 cy, .int .i64 cz] 56 (0, 0))
  have sb := SpB.made 56 ((w.alloc (.cells #[.int .i64 px, .int .i64 py, .int .i64 pz] 56 (0, 0))).alloc (.cells #[.int .i64 ax, .int .i64 ay, .int .i64 az] 56 (0, 0))) bx yb bz
  replace sb := sb.alloc (.cells #[.int .i64 cx, .int .i64 cy, .int .i64 cz] 56 (0, 0))
  have sc := SpB.made 56 (((w.alloc (.cells #[.int .i64 px, .int .i64 py, .int .i64 pz] 56 (0, 0))).alloc (.cells #[.int .i64 ax, .int .i64 ay, .int .i64 az] 56 (0, 0))).alloc (.cells #[.int .i64 bx, .int .i64 yb, .int .i64 bz] 56 (0, 0))) cx cy cz
  simp only [World.size_alloc] at *
  have kk : Kp [] w ((((w.alloc (.cells #[.int .i64 px, .int .i64 py, .int .i64 pz] 56 (0, 0))).alloc (.cells #[.int .i64 ax, .int .i64 ay, .int .i64 az] 56 (0, 0))).alloc (.cells #[.int .i64 bx, .int .i64 yb, .int .i64 bz] 56 (0, 0))).alloc (.cells #[.int .i64 cx, .int .i64 cy, .int .i64 cz] 56 (0, 0))) := ((((Kp.refl _ _).alloc _).alloc _).alloc _).alloc _
  have xp0 := sp.c0
  have xp1 := sp.c1
  have xp2 := sp.c2
  have xa0 := sa.c0
  have xa1 := sa.c1
  have xa2 := sa.c2
  have xb0 := sb.c0
  have xb1 := sb.c1
  have xb2 := sb.c2
  have xc0 := sc.c0
  have xc1 := sc.c1
  have xc2 := sc.c2
  go_enter Tryz.func101, Tryz.ntmps101
  go_wp2_with fail
  with_reducible refine (q1.out _ kk).mono ?_
  rintro e w1 ⟨rfl, k⟩
  replace sp := sp.kept k (by simp)
  replace sa := sa.kept k (by simp)
  replace sb := sb.kept k (by simp)
  replace sc := sc.kept k (by simp)
  clear xp0 xp1 xp2 xa0 xa1 xa2 xb0 xb1 xb2 xc0 xc1 xc2
  have xp0 := sp.c0
  have xp1 := sp.c1
  have xp2 := sp.c2
  have xa0 := sa.c0
  have xa1 := sa.c1
  have xa2 := sa.c2
  have xb0 := sb.c0
  have xb1 := sb.c1
  have xb2 := sb.c2
  have xc0 := sc.c0
  have xc1 := sc.c1
  have xc2 := sc.c2
  replace kk := kk.trans k
  clear k
  go_wp2_with fail
  with_reducible refine (q2.out _ kk).mono ?_
  rintro e w2 ⟨rfl, k⟩
  replace sp := sp.kept k (by simp)
  replace sa := sa.kept k (by simp)
  replace sb := sb.kept k (by simp)
  replace sc := sc.kept k (by simp)
  clear xp0 xp1 xp2 xa0 xa1 xa2 xb0 xb1 xb2 xc0 xc1 xc2
  have xp0 := sp.c0
  have xp1 := sp.c1
  have xp2 := sp.c2
  have xa0 := sa.c0
  have xa1 := sa.c1
  have xa2 := sa.c2
  have xb0 := sb.c0
  have xb1 := sb.c1
  have xb2 := sb.c2
  have xc0 := sc.c0
  have xc1 := sc.c1
  have xc2 := sc.c2
  replace kk := kk.trans k
  clear k
  go_wp2_with fail
  rw [frame_lit]
  refine reg_refl vrfp_y (fun k => ([.pointer (some ⟨w.heap.size + 1, 0, none⟩), .pointer (some ⟨w.heap.size + 1 + 1, 0, none⟩), .pointer (some ⟨w.heap.size + 1 + 1 + 1, 0, none⟩), .string x, .string xx, .agg #[.int .i64 ax, .int .i64 ay, .int .i64 az], .agg #[.int .i64 bx, .int .i64 yb, .int .i64 bz], .agg #[.int .i64 cx, .int .i64 cy, .int .i64 cz], .agg #[.int .i64 nx, .int .i64 ny, .int .i64 nz], .string y, .string r] : List Value).getD k undef) [] (fun _ _ _ => True) (opsOf 2 Tryz.f101) [3, 4, 5] vrfp_ca [] [] (by kernel_rfl) (by kernel_rfl) vrfp_ok ⟨rfl, rfl, rfl, rfl, trivial⟩ ?sp ?ca ?cx (by decide) ?fr (fun _ _ _ _ h _ => h) ?rest
  case sp =>
    refine ⟨?_, ?_, ?_, trivial⟩
    · intro T wz H o ho; have he : o.op = .load 56 (.tmp 5) := Option.some.inj ((congrArg (fun z => z.map Oper.op) ho).symm.trans (show ((opsOf 2 Tryz.f101)[3]?).map Oper.op = some (.load 56 (.tmp 5)) by kernel_rfl)); exact op_ldSp he (H.ev (.tmp 5) (.at 0) (by kernel_rfl)) (SpB.kept (L := []) (show SpB 56 (World.drew w2) _ _ _ _ from sa) H.kp (by simp))
    · intro T wz H o ho; have he : o.op = .load 56 (.tmp 6) := Option.some.inj ((congrArg (fun z => z.map Oper.op) ho).symm.trans (show ((opsOf 2 Tryz.f101)[4]?).map Oper.op = some (.load 56 (.tmp 6)) by kernel_rfl)); exact op_ldSp he (H.ev (.tmp 6) (.at 1) (by kernel_rfl)) (SpB.kept (L := []) (show SpB 56 (World.drew w2) _ _ _ _ from sb) H.kp (by simp))
    · intro T wz H o ho; have he : o.op = .load 56 (.tmp 7) := Option.some.inj ((congrArg (fun z => z.map Oper.op) ho).symm.trans (show ((opsOf 2 Tryz.f101)[5]?).map Oper.op = some (.load 56 (.tmp 7)) by kernel_rfl)); exact op_ldSp he (H.ev (.tmp 7) (.at 2) (by kernel_rfl)) (SpB.kept (L := []) (show SpB 56 (World.drew w2) _ _ _ _ from sc) H.kp (by simp))
  case ca =>
    refine ⟨?_, ?_, ?_, ?_, trivial⟩
    · exact ⟨(enters_of Tryz.func131 (by kernel_rfl) rfl), fun wz hk => (q3.out wz (kk.drew.trans hk)).mono fun x w2 ⟨h1, h2⟩ => ⟨_, h1, h2, fun _ => rfl⟩⟩
    · exact ⟨(enters_of Tryz.func95 (by kernel_rfl) rfl), fun wz hk => (q4.out wz (kk.drew.trans hk)).mono fun x w2 ⟨h1, h2⟩ => ⟨_, h1, h2, fun _ => rfl⟩⟩
    · exact ⟨(enters_of Tryz.func132 (by kernel_rfl) rfl), fun wz hk => (q5.out wz (kk.drew.trans hk)).mono fun x w2 ⟨h1, h2⟩ => ⟨_, h1, h2, fun _ => rfl⟩⟩
    · exact ⟨(enters_of Tryz.func130 (by kernel_rfl) rfl), fun wz hk => (q6.out wz (kk.drew.trans hk)).mono fun x w2 ⟨h1, h2⟩ => ⟨_, h1, h2, fun _ => rfl⟩⟩
  case cx =>
    exact trivial
  case fr =>
    exact trivial
  case rest =>
    intro T w3 hout hval k hF
    rw [show frameOf vrfp_y.st.N T = (⟨#[T 0, T 1, T 2, T 3, T 4, T 5, T 6, T 7, T 8, T 9, T 10, T 11, T 12, T 13, T 14, T 15, T 16, T 17, T 18, T 19, T 20, T 21, T 22, T 23, T 24], []⟩ : Act) from frame_list 25 T]
    rw [show T 8 = .string r from hval 9 (by decide : 9 < 10) (.inl rfl)]
    replace sp := sp.kept k (by simp)
    replace sa := sa.kept k (by simp)
    replace sb := sb.kept k (by simp)
    replace sc := sc.kept k (by simp)
    clear xp0 xp1 xp2 xa0 xa1 xa2 xb0 xb1 xb2 xc0 xc1 xc2
    have xp0 := sp.c0
    have xp1 := sp.c1
    have xp2 := sp.c2
    have xa0 := sa.c0
    have xa1 := sa.c1
    have xa2 := sa.c2
    have xb0 := sb.c0
    have xb1 := sb.c1
    have xb2 := sb.c2
    have xc0 := sc.c0
    have xc1 := sc.c1
    have xc2 := sc.c2
    replace kk := kk.trans k
    clear k hout hval hF
    clear sp sa sb sc xp0 xp1 xp2 xa0 xa1 xa2 xb0 xb1 xb2 xc0 xc1 xc2
    go_wp2
    go_ret
    exact ⟨rfl, kk⟩

theorem eqS (ax ay az bx yb bz : Int) (W : World) : (Op.equalIn 10000 56 (.agg #[.int .i64 ax, .int .i64 ay, .int .i64 az]) (.agg #[.int .i64 bx, .int .i64 yb, .int .i64 bz])).run Tryz.prog W = .ok (ax == bx && (ay == yb && az == bz)) W := by
  have u3 := Tryz.underlying3
  have a3 := Tryz.isAgg3
  have z3 := Tryz.sizeOf3
  have hS : Tryz.prog.underlying 56 = some (.struct (Tryz.prog.fieldsOf 56)) := by kernel_rfl
  rw [show (10000 : Nat) = 9999 + 1 from rfl, run_equalIn_agg W 9999 56 _ _ hS (by kernel_rfl)]
  simp only [Program.fieldsOf, Tryz.underlying56]
  go_simp
  by_cases h1 : ax = bx <;> by_cases h2 : ay = yb <;> by_cases h3 : az = bz <;> simp [h1, h2, h3]

set_option maxRecDepth 100000 in
set_option maxHeartbeats 4000000 in
theorem rToPlane_0 (px py pz ax ay az bx yb bz cx cy cz : Int) (w : World)
    (q0 : Hid (Gw w 80 #[.agg #[.int .i64 px, .int .i64 py, .int .i64 pz]] (.bool false))) :
    Calls Tryz.prog 43 #[.agg #[.int .i64 px, .int .i64 py, .int .i64 pz], .agg #[.int .i64 ax, .int .i64 ay, .int .i64 az], .agg #[.int .i64 bx, .int .i64 yb, .int .i64 bz], .agg #[.int .i64 cx, .int .i64 cy, .int .i64 cz]] w fun e w' => e = .returned (.tuple #[.string ⟨#[]⟩, .int .i64 2]) ∧ Kp [] w w' := by
  unfold Gw at q0
  have sp := SpB.made 56 w px py pz
  replace sp := sp.alloc (.cells #[.int .i64 ax, .int .i64 ay, .int .i64 az] 56 (0, 0))
  replace sp := sp.alloc (.cells #[.int .i64 bx, .int .i64 yb, .int .i64 bz] 56 (0, 0))
  replace sp := sp.alloc (.cells #[.int .i64 cx, .int .i64 cy, .int .i64 cz] 56 (0, 0))
  have sa := SpB.made 56 (w.alloc (.cells #[.int .i64 px, .int .i64 py, .int .i64 pz] 56 (0, 0))) ax ay az
  replace sa := sa.alloc (.cells #[.int .i64 bx, .int .i64 yb, .int .i64 bz] 56 (0, 0))
  replace sa := sa.alloc (.cells #[.int .i64 cx, .int .i64 cy, .int .i64 cz] 56 (0, 0))
  have sb := SpB.made 56 ((w.alloc (.cells #[.int .i64 px, .int .i64 py, .int .i64 pz] 56 (0, 0))).alloc (.cells #[.int .i64 ax, .int .i64 ay, .int .i64 az] 56 (0, 0))) bx yb bz
  replace sb := sb.alloc (.cells #[.int .i64 cx, .int .i64 cy, .int .i64 cz] 56 (0, 0))
  have sc := SpB.made 56 (((w.alloc (.cells #[.int .i64 px, .int .i64 py, .int .i64 pz] 56 (0, 0))).alloc (.cells #[.int .i64 ax, .int .i64 ay, .int .i64 az] 56 (0, 0))).alloc (.cells #[.int .i64 bx, .int .i64 yb, .int .i64 bz] 56 (0, 0))) cx cy cz
  simp only [World.size_alloc] at *
  have kk : Kp [] w ((((w.alloc (.cells #[.int .i64 px, .int .i64 py, .int .i64 pz] 56 (0, 0))).alloc (.cells #[.int .i64 ax, .int .i64 ay, .int .i64 az] 56 (0, 0))).alloc (.cells #[.int .i64 bx, .int .i64 yb, .int .i64 bz] 56 (0, 0))).alloc (.cells #[.int .i64 cx, .int .i64 cy, .int .i64 cz] 56 (0, 0))) := ((((Kp.refl _ _).alloc _).alloc _).alloc _).alloc _
  have xp0 := sp.c0
  have xp1 := sp.c1
  have xp2 := sp.c2
  have xa0 := sa.c0
  have xa1 := sa.c1
  have xa2 := sa.c2
  have xb0 := sb.c0
  have xb1 := sb.c1
  have xb2 := sb.c2
  have xc0 := sc.c0
  have xc1 := sc.c1
  have xc2 := sc.c2
  go_enter Tryz.func43, Tryz.ntmps43
  go_wp2_with fail
  with_reducible refine (q0.out _ kk).mono ?_
  rintro e w1 ⟨rfl, k⟩
  replace sp := sp.kept k (by simp)
  replace sa := sa.kept k (by simp)
  replace sb := sb.kept k (by simp)
  replace sc := sc.kept k (by simp)
  clear xp0 xp1 xp2 xa0 xa1 xa2 xb0 xb1 xb2 xc0 xc1 xc2
  have xp0 := sp.c0
  have xp1 := sp.c1
  have xp2 := sp.c2
  have xa0 := sa.c0
  have xa1 := sa.c1
  have xa2 := sa.c2
  have xb0 := sb.c0
  have xb1 := sb.c1
  have xb2 := sb.c2
  have xc0 := sc.c0
  have xc1 := sc.c1
  have xc2 := sc.c2
  replace kk := kk.trans k
  clear k
  clear sp sa sb sc xp0 xp1 xp2 xa0 xa1 xa2 xb0 xb1 xb2 xc0 xc1 xc2
  go_wp2
  go_ret2
  exact ⟨rfl, kk⟩

set_option maxRecDepth 100000 in
set_option maxHeartbeats 4000000 in
theorem rToPlane_1 (px py pz ax ay az bx yb bz cx cy cz : Int) (w : World)
    (q0 : Hid (Gw w 80 #[.agg #[.int .i64 px, .int .i64 py, .int .i64 pz]] (.bool true)))
    (q1 : Hid (Gw w 80 #[.agg #[.int .i64 ax, .int .i64 ay, .int .i64 az]] (.bool false))) :
    Calls Tryz.prog 43 #[.agg #[.int .i64 px, .int .i64 py, .int .i64 pz], .agg #[.int .i64 ax, .int .i64 ay, .int .i64 az], .agg #[.int .i64 bx, .int .i64 yb, .int .i64 bz], .agg #[.int .i64 cx, .int .i64 cy, .int .i64 cz]] w fun e w' => e = .returned (.tuple #[.string ⟨#[]⟩, .int .i64 2]) ∧ Kp [] w w' := by
  unfold Gw at q0 q1
  have sp := SpB.made 56 w px py pz
  replace sp := sp.alloc (.cells #[.int .i64 ax, .int .i64 ay, .int .i64 az] 56 (0, 0))
  replace sp := sp.alloc (.cells #[.int .i64 bx, .int .i64 yb, .int .i64 bz] 56 (0, 0))
  replace sp := sp.alloc (.cells #[.int .i64 cx, .int .i64 cy, .int .i64 cz] 56 (0, 0))
  have sa := SpB.made 56 (w.alloc (.cells #[.int .i64 px, .int .i64 py, .int .i64 pz] 56 (0, 0))) ax ay az
  replace sa := sa.alloc (.cells #[.int .i64 bx, .int .i64 yb, .int .i64 bz] 56 (0, 0))
  replace sa := sa.alloc (.cells #[.int .i64 cx, .int .i64 cy, .int .i64 cz] 56 (0, 0))
  have sb := SpB.made 56 ((w.alloc (.cells #[.int .i64 px, .int .i64 py, .int .i64 pz] 56 (0, 0))).alloc (.cells #[.int .i64 ax, .int .i64 ay, .int .i64 az] 56 (0, 0))) bx yb bz
  replace sb := sb.alloc (.cells #[.int .i64 cx, .int .i64 cy, .int .i64 cz] 56 (0, 0))
  have sc := SpB.made 56 (((w.alloc (.cells #[.int .i64 px, .int .i64 py, .int .i64 pz] 56 (0, 0))).alloc (.cells #[.int .i64 ax, .int .i64 ay, .int .i64 az] 56 (0, 0))).alloc (.cells #[.int .i64 bx, .int .i64 yb, .int .i64 bz] 56 (0, 0))) cx cy cz
  simp only [World.size_alloc] at *
  have kk : Kp [] w ((((w.alloc (.cells #[.int .i64 px, .int .i64 py, .int .i64 pz] 56 (0, 0))).alloc (.cells #[.int .i64 ax, .int .i64 ay, .int .i64 az] 56 (0, 0))).alloc (.cells #[.int .i64 bx, .int .i64 yb, .int .i64 bz] 56 (0, 0))).alloc (.cells #[.int .i64 cx, .int .i64 cy, .int .i64 cz] 56 (0, 0))) := ((((Kp.refl _ _).alloc _).alloc _).alloc _).alloc _
  have xp0 := sp.c0
  have xp1 := sp.c1
  have xp2 := sp.c2
  have xa0 := sa.c0
  have xa1 := sa.c1
  have xa2 := sa.c2
  have xb0 := sb.c0
  have xb1 := sb.c1
  have xb2 := sb.c2
  have xc0 := sc.c0
  have xc1 := sc.c1
  have xc2 := sc.c2
  go_enter Tryz.func43, Tryz.ntmps43
  go_wp2_with fail
  with_reducible refine (q0.out _ kk).mono ?_
  rintro e w1 ⟨rfl, k⟩
  replace sp := sp.kept k (by simp)
  replace sa := sa.kept k (by simp)
  replace sb := sb.kept k (by simp)
  replace sc := sc.kept k (by simp)
  clear xp0 xp1 xp2 xa0 xa1 xa2 xb0 xb1 xb2 xc0 xc1 xc2
  have xp0 := sp.c0
  have xp1 := sp.c1
  have xp2 := sp.c2
  have xa0 := sa.c0
  have xa1 := sa.c1
  have xa2 := sa.c2
  have xb0 := sb.c0
  have xb1 := sb.c1
  have xb2 := sb.c2
  have xc0 := sc.c0
  have xc1 := sc.c1
  have xc2 := sc.c2
  replace kk := kk.trans k
  clear k
  go_wp2_with fail
  with_reducible refine (q1.out _ kk).mono ?_
  rintro e w2 ⟨rfl, k⟩
  replace sp := sp.kept k (by simp)
  replace sa := sa.kept k (by simp)
  replace sb := sb.kept k (by simp)
  replace sc := sc.kept k (by simp)
  clear xp0 xp1 xp2 xa0 xa1 xa2 xb0 xb1 xb2 xc0 xc1 xc2
  have xp0 := sp.c0
  have xp1 := sp.c1
  have xp2 := sp.c2
  have xa0 := sa.c0
  have xa1 := sa.c1
  have xa2 := sa.c2
  have xb0 := sb.c0
  have xb1 := sb.c1
  have xb2 := sb.c2
  have xc0 := sc.c0
  have xc1 := sc.c1
  have xc2 := sc.c2
  replace kk := kk.trans k
  clear k
  clear sp sa sb sc xp0 xp1 xp2 xa0 xa1 xa2 xb0 xb1 xb2 xc0 xc1 xc2
  go_wp2
  go_ret2
  exact ⟨rfl, kk⟩

set_option maxRecDepth 100000 in
set_option maxHeartbeats 4000000 in
theorem rToPlane_2 (px py pz ax ay az bx yb bz cx cy cz : Int) (w : World)
    (q0 : Hid (Gw w 80 #[.agg #[.int .i64 px, .int .i64 py, .int .i64 pz]] (.bool true)))
    (q1 : Hid (Gw w 80 #[.agg #[.int .i64 ax, .int .i64 ay, .int .i64 az]] (.bool true)))
    (q2 : Hid (Gw w 80 #[.agg #[.int .i64 bx, .int .i64 yb, .int .i64 bz]] (.bool false))) :
    Calls Tryz.prog 43 #[.agg #[.int .i64 px, .int .i64 py, .int .i64 pz], .agg #[.int .i64 ax, .int .i64 ay, .int .i64 az], .agg #[.int .i64 bx, .int .i64 yb, .int .i64 bz], .agg #[.int .i64 cx, .int .i64 cy, .int .i64 cz]] w fun e w' => e = .returned (.tuple #[.string ⟨#[]⟩, .int .i64 2]) ∧ Kp [] w w' := by
  unfold Gw at q0 q1 q2
  have sp := SpB.made 56 w px py pz
  replace sp := sp.alloc (.cells #[.int .i64 ax, .int .i64 ay, .int .i64 az] 56 (0, 0))
  replace sp := sp.alloc (.cells #[.int .i64 bx, .int .i64 yb, .int .i64 bz] 56 (0, 0))
  replace sp := sp.alloc (.cells #[.int .i64 cx, .int .i64 cy, .int .i64 cz] 56 (0, 0))
  have sa := SpB.made 56 (w.alloc (.cells #[.int .i64 px, .int .i64 py, .int .i64 pz] 56 (0, 0))) ax ay az
  replace sa := sa.alloc (.cells #[.int .i64 bx, .int .i64 yb, .int .i64 bz] 56 (0, 0))
  replace sa := sa.alloc (.cells #[.int .i64 cx, .int .i64 cy, .int .i64 cz] 56 (0, 0))
  have sb := SpB.made 56 ((w.alloc (.cells #[.int .i64 px, .int .i64 py, .int .i64 pz] 56 (0, 0))).alloc (.cells #[.int .i64 ax, .int .i64 ay, .int .i64 az] 56 (0, 0))) bx yb bz
  replace sb := sb.alloc (.cells #[.int .i64 cx, .int .i64 cy, .int .i64 cz] 56 (0, 0))
  have sc := SpB.made 56 (((w.alloc (.cells #[.int .i64 px, .int .i64 py, .int .i64 pz] 56 (0, 0))).alloc (.cells #[.int .i64 ax, .int .i64 ay, .int .i64 az] 56 (0, 0))).alloc (.cells #[.int .i64 bx, .int .i64 yb, .int .i64 bz] 56 (0, 0))) cx cy cz
  simp only [World.size_alloc] at *
  have kk : Kp [] w ((((w.alloc (.cells #[.int .i64 px, .int .i64 py, .int .i64 pz] 56 (0, 0))).alloc (.cells #[.int .i64 ax, .int .i64 ay, .int .i64 az] 56 (0, 0))).alloc (.cells #[.int .i64 bx, .int .i64 yb, .int .i64 bz] 56 (0, 0))).alloc (.cells #[.int .i64 cx, .int .i64 cy, .int .i64 cz] 56 (0, 0))) := ((((Kp.refl _ _).alloc _).alloc _).alloc _).alloc _
  have xp0 := sp.c0
  have xp1 := sp.c1
  have xp2 := sp.c2
  have xa0 := sa.c0
  have xa1 := sa.c1
  have xa2 := sa.c2
  have xb0 := sb.c0
  have xb1 := sb.c1
  have xb2 := sb.c2
  have xc0 := sc.c0
  have xc1 := sc.c1
  have xc2 := sc.c2
  go_enter Tryz.func43, Tryz.ntmps43
  go_wp2_with fail
  with_reducible refine (q0.out _ kk).mono ?_
  rintro e w1 ⟨rfl, k⟩
  replace sp := sp.kept k (by simp)
  replace sa := sa.kept k (by simp)
  replace sb := sb.kept k (by simp)
  replace sc := sc.kept k (by simp)
  clear xp0 xp1 xp2 xa0 xa1 xa2 xb0 xb1 xb2 xc0 xc1 xc2
  have xp0 := sp.c0
  have xp1 := sp.c1
  have xp2 := sp.c2
  have xa0 := sa.c0
  have xa1 := sa.c1
  have xa2 := sa.c2
  have xb0 := sb.c0
  have xb1 := sb.c1
  have xb2 := sb.c2
  have xc0 := sc.c0
  have xc1 := sc.c1
  have xc2 := sc.c2
  replace kk := kk.trans k
  clear k
  go_wp2_with fail
  with_reducible refine (q1.out _ kk).mono ?_
  rintro e w2 ⟨rfl, k⟩
  replace sp := sp.kept k (by simp)
  replace sa := sa.kept k (by simp)
  replace sb := sb.kept k (by simp)
  replace sc := sc.kept k (by simp)
  clear xp0 xp1 xp2 xa0 xa1 xa2 xb0 xb1 xb2 xc0 xc1 xc2
  have xp0 := sp.c0
  have xp1 := sp.c1
  have xp2 := sp.c2
  have xa0 := sa.c0
  have xa1 := sa.c1
  have xa2 := sa.c2
  have xb0 := sb.c0
  have xb1 := sb.c1
  have xb2 := sb.c2
  have xc0 := sc.c0
  have xc1 := sc.c1
  have xc2 := sc.c2
  replace kk := kk.trans k
  clear k
  go_wp2_with fail
  with_reducible refine (q2.out _ kk).mono ?_
  rintro e w3 ⟨rfl, k⟩
  replace sp := sp.kept k (by simp)
  replace sa := sa.kept k (by simp)
  replace sb := sb.kept k (by simp)
  replace sc := sc.kept k (by simp)
  clear xp0 xp1 xp2 xa0 xa1 xa2 xb0 xb1 xb2 xc0 xc1 xc2
  have xp0 := sp.c0
  have xp1 := sp.c1
  have xp2 := sp.c2
  have xa0 := sa.c0
  have xa1 := sa.c1
  have xa2 := sa.c2
  have xb0 := sb.c0
  have xb1 := sb.c1
  have xb2 := sb.c2
  have xc0 := sc.c0
  have xc1 := sc.c1
  have xc2 := sc.c2
  replace kk := kk.trans k
  clear k
  clear sp sa sb sc xp0 xp1 xp2 xa0 xa1 xa2 xb0 xb1 xb2 xc0 xc1 xc2
  go_wp2
  go_ret2
  exact ⟨rfl, kk⟩

set_option maxRecDepth 100000 in
set_option maxHeartbeats 4000000 in
theorem rToPlane_3 (px py pz ax ay az bx yb bz cx cy cz : Int) (w : World)
    (q0 : Hid (Gw w 80 #[.agg #[.int .i64 px, .int .i64 py, .int .i64 pz]] (.bool true)))
    (q1 : Hid (Gw w 80 #[.agg #[.int .i64 ax, .int .i64 ay, .int .i64 az]] (.bool true)))
    (q2 : Hid (Gw w 80 #[.agg #[.int .i64 bx, .int .i64 yb, .int .i64 bz]] (.bool true)))
    (q3 : Hid (Gw w 80 #[.agg #[.int .i64 cx, .int .i64 cy, .int .i64 cz]] (.bool false))) :
    Calls Tryz.prog 43 #[.agg #[.int .i64 px, .int .i64 py, .int .i64 pz], .agg #[.int .i64 ax, .int .i64 ay, .int .i64 az], .agg #[.int .i64 bx, .int .i64 yb, .int .i64 bz], .agg #[.int .i64 cx, .int .i64 cy, .int .i64 cz]] w fun e w' => e = .returned (.tuple #[.string ⟨#[]⟩, .int .i64 2]) ∧ Kp [] w w' := by
  unfold Gw at q0 q1 q2 q3
  have sp := SpB.made 56 w px py pz
  replace sp := sp.alloc (.cells #[.int .i64 ax, .int .i64 ay, .int .i64 az] 56 (0, 0))
  replace sp := sp.alloc (.cells #[.int .i64 bx, .int .i64 yb, .int .i64 bz] 56 (0, 0))
  replace sp := sp.alloc (.cells #[.int .i64 cx, .int .i64 cy, .int .i64 cz] 56 (0, 0))
  have sa := SpB.made 56 (w.alloc (.cells #[.int .i64 px, .int .i64 py, .int .i64 pz] 56 (0, 0))) ax ay az
  replace sa := sa.alloc (.cells #[.int .i64 bx, .int .i64 yb, .int .i64 bz] 56 (0, 0))
  replace sa := sa.alloc (.cells #[.int .i64 cx, .int .i64 cy, .int .i64 cz] 56 (0, 0))
  have sb := SpB.made 56 ((w.alloc (.cells #[.int .i64 px, .int .i64 py, .int .i64 pz] 56 (0, 0))).alloc (.cells #[.int .i64 ax, .int .i64 ay, .int .i64 az] 56 (0, 0))) bx yb bz
  replace sb := sb.alloc (.cells #[.int .i64 cx, .int .i64 cy, .int .i64 cz] 56 (0, 0))
  have sc := SpB.made 56 (((w.alloc (.cells #[.int .i64 px, .int .i64 py, .int .i64 pz] 56 (0, 0))).alloc (.cells #[.int .i64 ax, .int .i64 ay, .int .i64 az] 56 (0, 0))).alloc (.cells #[.int .i64 bx, .int .i64 yb, .int .i64 bz] 56 (0, 0))) cx cy cz
  simp only [World.size_alloc] at *
  have kk : Kp [] w ((((w.alloc (.cells #[.int .i64 px, .int .i64 py, .int .i64 pz] 56 (0, 0))).alloc (.cells #[.int .i64 ax, .int .i64 ay, .int .i64 az] 56 (0, 0))).alloc (.cells #[.int .i64 bx, .int .i64 yb, .int .i64 bz] 56 (0, 0))).alloc (.cells #[.int .i64 cx, .int .i64 cy, .int .i64 cz] 56 (0, 0))) := ((((Kp.refl _ _).alloc _).alloc _).alloc _).alloc _
  have xp0 := sp.c0
  have xp1 := sp.c1
  have xp2 := sp.c2
  have xa0 := sa.c0
  have xa1 := sa.c1
  have xa2 := sa.c2
  have xb0 := sb.c0
  have xb1 := sb.c1
  have xb2 := sb.c2
  have xc0 := sc.c0
  have xc1 := sc.c1
  have xc2 := sc.c2
  go_enter Tryz.func43, Tryz.ntmps43
  go_wp2_with fail
  with_reducible refine (q0.out _ kk).mono ?_
  rintro e w1 ⟨rfl, k⟩
  replace sp := sp.kept k (by simp)
  replace sa := sa.kept k (by simp)
  replace sb := sb.kept k (by simp)
  replace sc := sc.kept k (by simp)
  clear xp0 xp1 xp2 xa0 xa1 xa2 xb0 xb1 xb2 xc0 xc1 xc2
  have xp0 := sp.c0
  have xp1 := sp.c1
  have xp2 := sp.c2
  have xa0 := sa.c0
  have xa1 := sa.c1
  have xa2 := sa.c2
  have xb0 := sb.c0
  have xb1 := sb.c1
  have xb2 := sb.c2
  have xc0 := sc.c0
  have xc1 := sc.c1
  have xc2 := sc.c2
  replace kk := kk.trans k
  clear k
  go_wp2_with fail
  with_reducible refine (q1.out _ kk).mono ?_
  rintro e w2 ⟨rfl, k⟩
  replace sp := sp.kept k (by simp)
  replace sa := sa.kept k (by simp)
  replace sb := sb.kept k (by simp)
  replace sc := sc.kept k (by simp)
  clear xp0 xp1 xp2 xa0 xa1 xa2 xb0 xb1 xb2 xc0 xc1 xc2
  have xp0 := sp.c0
  have xp1 := sp.c1
  have xp2 := sp.c2
  have xa0 := sa.c0
  have xa1 := sa.c1
  have xa2 := sa.c2
  have xb0 := sb.c0
  have xb1 := sb.c1
  have xb2 := sb.c2
  have xc0 := sc.c0
  have xc1 := sc.c1
  have xc2 := sc.c2
  replace kk := kk.trans k
  clear k
  go_wp2_with fail
  with_reducible refine (q2.out _ kk).mono ?_
  rintro e w3 ⟨rfl, k⟩
  replace sp := sp.kept k (by simp)
  replace sa := sa.kept k (by simp)
  replace sb := sb.kept k (by simp)
  replace sc := sc.kept k (by simp)
  clear xp0 xp1 xp2 xa0 xa1 xa2 xb0 xb1 xb2 xc0 xc1 xc2
  have xp0 := sp.c0
  have xp1 := sp.c1
  have xp2 := sp.c2
  have xa0 := sa.c0
  have xa1 := sa.c1
  have xa2 := sa.c2
  have xb0 := sb.c0
  have xb1 := sb.c1
  have xb2 := sb.c2
  have xc0 := sc.c0
  have xc1 := sc.c1
  have xc2 := sc.c2
  replace kk := kk.trans k
  clear k
  go_wp2_with fail
  with_reducible refine (q3.out _ kk).mono ?_
  rintro e w4 ⟨rfl, k⟩
  replace sp := sp.kept k (by simp)
  replace sa := sa.kept k (by simp)
  replace sb := sb.kept k (by simp)
  replace sc := sc.kept k (by simp)
  clear xp0 xp1 xp2 xa0 xa1 xa2 xb0 xb1 xb2 xc0 xc1 xc2
  have xp0 := sp.c0
  have xp1 := sp.c1
  have xp2 := sp.c2
  have xa0 := sa.c0
  have xa1 := sa.c1
  have xa2 := sa.c2
  have xb0 := sb.c0
  have xb1 := sb.c1
  have xb2 := sb.c2
  have xc0 := sc.c0
  have xc1 := sc.c1
  have xc2 := sc.c2
  replace kk := kk.trans k
  clear k
  clear sp sa sb sc xp0 xp1 xp2 xa0 xa1 xa2 xb0 xb1 xb2 xc0 xc1 xc2
  go_wp2
  go_ret2
  exact ⟨rfl, kk⟩

set_option maxRecDepth 100000 in
set_option maxHeartbeats 4000000 in
theorem rToPlane_z (px py pz ax ay az bx yb bz cx cy cz nx ny nz : Int) (w : World)
    (hz : (nx == 0 && (ny == 0 && nz == 0)) = true)
    (q0 : Hid (Gw w 80 #[.agg #[.int .i64 px, .int .i64 py, .int .i64 pz]] (.bool true)))
    (q1 : Hid (Gw w 80 #[.agg #[.int .i64 ax, .int .i64 ay, .int .i64 az]] (.bool true)))
    (q2 : Hid (Gw w 80 #[.agg #[.int .i64 bx, .int .i64 yb, .int .i64 bz]] (.bool true)))
    (q3 : Hid (Gw w 80 #[.agg #[.int .i64 cx, .int .i64 cy, .int .i64 cz]] (.bool true)))
    (q4 : Hid (Gw w 95 #[.agg #[.int .i64 ax, .int .i64 ay, .int .i64 az], .agg #[.int .i64 bx, .int .i64 yb, .int .i64 bz], .agg #[.int .i64 cx, .int .i64 cy, .int .i64 cz]] (.agg #[.int .i64 nx, .int .i64 ny, .int .i64 nz]))) :
    Calls Tryz.prog 43 #[.agg #[.int .i64 px, .int .i64 py, .int .i64 pz], .agg #[.int .i64 ax, .int .i64 ay, .int .i64 az], .agg #[.int .i64 bx, .int .i64 yb, .int .i64 bz], .agg #[.int .i64 cx, .int .i64 cy, .int .i64 cz]] w fun e w' => e = .returned (.tuple #[.string ⟨#[]⟩, .int .i64 10]) ∧ Kp [] w w' := by
  unfold Gw at q0 q1 q2 q3 q4
  have sp := SpB.made 56 w px py pz
  replace sp := sp.alloc (.cells #[.int .i64 ax, .int .i64 ay, .int .i64 az] 56 (0, 0))
  replace sp := sp.alloc (.cells #[.int .i64 bx, .int .i64 yb, .int .i64 bz] 56 (0, 0))
  replace sp := sp.alloc (.cells #[.int .i64 cx, .int .i64 cy, .int .i64 cz] 56 (0, 0))
  have sa := SpB.made 56 (w.alloc (.cells #[.int .i64 px, .int .i64 py, .int .i64 pz] 56 (0, 0))) ax ay az
  replace sa := sa.alloc (.cells #[.int .i64 bx, .int .i64 yb, .int .i64 bz] 56 (0, 0))
  replace sa := sa.alloc (.cells #[.int .i64 cx, .int .i64 cy, .int .i64 cz] 56 (0, 0))
  have sb := SpB.made 56 ((w.alloc (.cells #[.int .i64 px, .int .i64 py, .int .i64 pz] 56 (0, 0))).alloc (.cells #[.int .i64 ax, .int .i64 ay, .int .i64 az] 56 (0, 0))) bx yb bz
  replace sb := sb.alloc (.cells #[.int .i64 cx, .int .i64 cy, .int .i64 cz] 56 (0, 0))
  have sc := SpB.made 56 (((w.alloc (.cells #[.int .i64 px, .int .i64 py, .int .i64 pz] 56 (0, 0))).alloc (.cells #[.int .i64 ax, .int .i64 ay, .int .i64 az] 56 (0, 0))).alloc (.cells #[.int .i64 bx, .int .i64 yb, .int .i64 bz] 56 (0, 0))) cx cy cz
  simp only [World.size_alloc] at *
  have kk : Kp [] w ((((w.alloc (.cells #[.int .i64 px, .int .i64 py, .int .i64 pz] 56 (0, 0))).alloc (.cells #[.int .i64 ax, .int .i64 ay, .int .i64 az] 56 (0, 0))).alloc (.cells #[.int .i64 bx, .int .i64 yb, .int .i64 bz] 56 (0, 0))).alloc (.cells #[.int .i64 cx, .int .i64 cy, .int .i64 cz] 56 (0, 0))) := ((((Kp.refl _ _).alloc _).alloc _).alloc _).alloc _
  have xp0 := sp.c0
  have xp1 := sp.c1
  have xp2 := sp.c2
  have xa0 := sa.c0
  have xa1 := sa.c1
  have xa2 := sa.c2
  have xb0 := sb.c0
  have xb1 := sb.c1
  have xb2 := sb.c2
  have xc0 := sc.c0
  have xc1 := sc.c1
  have xc2 := sc.c2
  have hA : ∀ W : World, (Op.equalIn 10000 56 (.agg #[.int .i64 nx, .int .i64 ny, .int .i64 nz]) (.agg #[.int .i64 0, .int .i64 0, .int .i64 0])).run Tryz.prog W = .ok true W := fun W => by rw [eqS, hz]
  go_enter Tryz.func43, Tryz.ntmps43
  go_wp2_with fail
  with_reducible refine (q0.out _ kk).mono ?_
  rintro e w1 ⟨rfl, k⟩
  replace sp := sp.kept k (by simp)
  replace sa := sa.kept k (by simp)
  replace sb := sb.kept k (by simp)
  replace sc := sc.kept k (by simp)
  clear xp0 xp1 xp2 xa0 xa1 xa2 xb0 xb1 xb2 xc0 xc1 xc2
  have xp0 := sp.c0
  have xp1 := sp.c1
  have xp2 := sp.c2
  have xa0 := sa.c0
  have xa1 := sa.c1
  have xa2 := sa.c2
  have xb0 := sb.c0
  have xb1 := sb.c1
  have xb2 := sb.c2
  have xc0 := sc.c0
  have xc1 := sc.c1
  have xc2 := sc.c2
  replace kk := kk.trans k
  clear k
  go_wp2_with fail
  with_reducible refine (q1.out _ kk).mono ?_
  rintro e w2 ⟨rfl, k⟩
  replace sp := sp.kept k (by simp)
  replace sa := sa.kept k (by simp)
  replace sb := sb.kept k (by simp)
  replace sc := sc.kept k (by simp)
  clear xp0 xp1 xp2 xa0 xa1 xa2 xb0 xb1 xb2 xc0 xc1 xc2
  have xp0 := sp.c0
  have xp1 := sp.c1
  have xp2 := sp.c2
  have xa0 := sa.c0
  have xa1 := sa.c1
  have xa2 := sa.c2
  have xb0 := sb.c0
  have xb1 := sb.c1
  have xb2 := sb.c2
  have xc0 := sc.c0
  have xc1 := sc.c1
  have xc2 := sc.c2
  replace kk := kk.trans k
  clear k
  go_wp2_with fail
  with_reducible refine (q2.out _ kk).mono ?_
  rintro e w3 ⟨rfl, k⟩
  replace sp := sp.kept k (by simp)
  replace sa := sa.kept k (by simp)
  replace sb := sb.kept k (by simp)
  replace sc := sc.kept k (by simp)
  clear xp0 xp1 xp2 xa0 xa1 xa2 xb0 xb1 xb2 xc0 xc1 xc2
  have xp0 := sp.c0
  have xp1 := sp.c1
  have xp2 := sp.c2
  have xa0 := sa.c0
  have xa1 := sa.c1
  have xa2 := sa.c2
  have xb0 := sb.c0
  have xb1 := sb.c1
  have xb2 := sb.c2
  have xc0 := sc.c0
  have xc1 := sc.c1
  have xc2 := sc.c2
  replace kk := kk.trans k
  clear k
  go_wp2_with fail
  with_reducible refine (q3.out _ kk).mono ?_
  rintro e w4 ⟨rfl, k⟩
  replace sp := sp.kept k (by simp)
  replace sa := sa.kept k (by simp)
  replace sb := sb.kept k (by simp)
  replace sc := sc.kept k (by simp)
  clear xp0 xp1 xp2 xa0 xa1 xa2 xb0 xb1 xb2 xc0 xc1 xc2
  have xp0 := sp.c0
  have xp1 := sp.c1
  have xp2 := sp.c2
  have xa0 := sa.c0
  have xa1 := sa.c1
  have xa2 := sa.c2
  have xb0 := sb.c0
  have xb1 := sb.c1
  have xb2 := sb.c2
  have xc0 := sc.c0
  have xc1 := sc.c1
  have xc2 := sc.c2
  replace kk := kk.trans k
  clear k
  go_wp2_with fail
  with_reducible refine (q4.out _ kk).mono ?_
  rintro e w5 ⟨rfl, k⟩
  replace sp := sp.kept k (by simp)
  replace sa := sa.kept k (by simp)
  replace sb := sb.kept k (by simp)
  replace sc := sc.kept k (by simp)
  clear xp0 xp1 xp2 xa0 xa1 xa2 xb0 xb1 xb2 xc0 xc1 xc2
  have xp0 := sp.c0
  have xp1 := sp.c1
  have xp2 := sp.c2
  have xa0 := sa.c0
  have xa1 := sa.c1
  have xa2 := sa.c2
  have xb0 := sb.c0
  have xb1 := sb.c1
  have xb2 := sb.c2
  have xc0 := sc.c0
  have xc1 := sc.c1
  have xc2 := sc.c2
  replace kk := kk.trans k
  clear k
  clear sp sa sb sc xp0 xp1 xp2 xa0 xa1 xa2 xb0 xb1 xb2 xc0 xc1 xc2
  go_wp2
  go_ret2
  exact ⟨rfl, kk⟩

set_option maxRecDepth 100000 in
set_option maxHeartbeats 4000000 in
theorem rToPlane_ok (px py pz ax ay az bx yb bz cx cy cz nx ny nz : Int) (r : ByteArray) (w : World)
    (hz : (nx == 0 && (ny == 0 && nz == 0)) = false)
    (q0 : Hid (Gw w 80 #[.agg #[.int .i64 px, .int .i64 py, .int .i64 pz]] (.bool true)))
    (q1 : Hid (Gw w 80 #[.agg #[.int .i64 ax, .int .i64 ay, .int .i64 az]] (.bool true)))
    (q2 : Hid (Gw w 80 #[.agg #[.int .i64 bx, .int .i64 yb, .int .i64 bz]] (.bool true)))
    (q3 : Hid (Gw w 80 #[.agg #[.int .i64 cx, .int .i64 cy, .int .i64 cz]] (.bool true)))
    (q4 : Hid (Gw w 95 #[.agg #[.int .i64 ax, .int .i64 ay, .int .i64 az], .agg #[.int .i64 bx, .int .i64 yb, .int .i64 bz], .agg #[.int .i64 cx, .int .i64 cy, .int .i64 cz]] (.agg #[.int .i64 nx, .int .i64 ny, .int .i64 nz])))
    (q5 : Hid (Gw w 101 #[.agg #[.int .i64 px, .int .i64 py, .int .i64 pz], .agg #[.int .i64 ax, .int .i64 ay, .int .i64 az], .agg #[.int .i64 bx, .int .i64 yb, .int .i64 bz], .agg #[.int .i64 cx, .int .i64 cy, .int .i64 cz]] (.string r))) :
    Calls Tryz.prog 43 #[.agg #[.int .i64 px, .int .i64 py, .int .i64 pz], .agg #[.int .i64 ax, .int .i64 ay, .int .i64 az], .agg #[.int .i64 bx, .int .i64 yb, .int .i64 bz], .agg #[.int .i64 cx, .int .i64 cy, .int .i64 cz]] w fun e w' => e = .returned (.tuple #[.string r, .int .i64 0]) ∧ Kp [] w w' := by
  unfold Gw at q0 q1 q2 q3 q4 q5
  have sp := SpB.made 56 w px py pz
  replace sp := sp.alloc (.cells #[.int .i64 ax, .int .i64 ay, .int .i64 az] 56 (0, 0))
  replace sp := sp.alloc (.cells #[.int .i64 bx, .int .i64 yb, .int .i64 bz] 56 (0, 0))
  replace sp := sp.alloc (.cells #[.int .i64 cx, .int .i64 cy, .int .i64 cz] 56 (0, 0))
  have sa := SpB.made 56 (w.alloc (.cells #[.int .i64 px, .int .i64 py, .int .i64 pz] 56 (0, 0))) ax ay az
  replace sa := sa.alloc (.cells #[.int .i64 bx, .int .i64 yb, .int .i64 bz] 56 (0, 0))
  replace sa := sa.alloc (.cells #[.int .i64 cx, .int .i64 cy, .int .i64 cz] 56 (0, 0))
  have sb := SpB.made 56 ((w.alloc (.cells #[.int .i64 px, .int .i64 py, .int .i64 pz] 56 (0, 0))).alloc (.cells #[.int .i64 ax, .int .i64 ay, .int .i64 az] 56 (0, 0))) bx yb bz
  replace sb := sb.alloc (.cells #[.int .i64 cx, .int .i64 cy, .int .i64 cz] 56 (0, 0))
  have sc := SpB.made 56 (((w.alloc (.cells #[.int .i64 px, .int .i64 py, .int .i64 pz] 56 (0, 0))).alloc (.cells #[.int .i64 ax, .int .i64 ay, .int .i64 az] 56 (0, 0))).alloc (.cells #[.int .i64 bx, .int .i64 yb, .int .i64 bz] 56 (0, 0))) cx cy cz
  simp only [World.size_alloc] at *
  have kk : Kp [] w ((((w.alloc (.cells #[.int .i64 px, .int .i64 py, .int .i64 pz] 56 (0, 0))).alloc (.cells #[.int .i64 ax, .int .i64 ay, .int .i64 az] 56 (0, 0))).alloc (.cells #[.int .i64 bx, .int .i64 yb, .int .i64 bz] 56 (0, 0))).alloc (.cells #[.int .i64 cx, .int .i64 cy, .int .i64 cz] 56 (0, 0))) := ((((Kp.refl _ _).alloc _).alloc _).alloc _).alloc _
  have xp0 := sp.c0
  have xp1 := sp.c1
  have xp2 := sp.c2
  have xa0 := sa.c0
  have xa1 := sa.c1
  have xa2 := sa.c2
  have xb0 := sb.c0
  have xb1 := sb.c1
  have xb2 := sb.c2
  have xc0 := sc.c0
  have xc1 := sc.c1
  have xc2 := sc.c2
  have hA : ∀ W : World, (Op.equalIn 10000 56 (.agg #[.int .i64 nx, .int .i64 ny, .int .i64 nz]) (.agg #[.int .i64 0, .int .i64 0, .int .i64 0])).run Tryz.prog W = .ok false W := fun W => by rw [eqS, hz]
  go_enter Tryz.func43, Tryz.ntmps43
  go_wp2_with fail
  with_reducible refine (q0.out _ kk).mono ?_
  rintro e w1 ⟨rfl, k⟩
  replace sp := sp.kept k (by simp)
  replace sa := sa.kept k (by simp)
  replace sb := sb.kept k (by simp)
  replace sc := sc.kept k (by simp)
  clear xp0 xp1 xp2 xa0 xa1 xa2 xb0 xb1 xb2 xc0 xc1 xc2
  have xp0 := sp.c0
  have xp1 := sp.c1
  have xp2 := sp.c2
  have xa0 := sa.c0
  have xa1 := sa.c1
  have xa2 := sa.c2
  have xb0 := sb.c0
  have xb1 := sb.c1
  have xb2 := sb.c2
  have xc0 := sc.c0
  have xc1 := sc.c1
  have xc2 := sc.c2
  replace kk := kk.trans k
  clear k
  go_wp2_with fail
  with_reducible refine (q1.out _ kk).mono ?_
  rintro e w2 ⟨rfl, k⟩
  replace sp := sp.kept k (by simp)
  replace sa := sa.kept k (by simp)
  replace sb := sb.kept k (by simp)
  replace sc := sc.kept k (by simp)
  clear xp0 xp1 xp2 xa0 xa1 xa2 xb0 xb1 xb2 xc0 xc1 xc2
  have xp0 := sp.c0
  have xp1 := sp.c1
  have xp2 := sp.c2
  have xa0 := sa.c0
  have xa1 := sa.c1
  have xa2 := sa.c2
  have xb0 := sb.c0
  have xb1 := sb.c1
  have xb2 := sb.c2
  have xc0 := sc.c0
  have xc1 := sc.c1
  have xc2 := sc.c2
  replace kk := kk.trans k
  clear k
  go_wp2_with fail
  with_reducible refine (q2.out _ kk).mono ?_
  rintro e w3 ⟨rfl, k⟩
  replace sp := sp.kept k (by simp)
  replace sa := sa.kept k (by simp)
  replace sb := sb.kept k (by simp)
  replace sc := sc.kept k (by simp)
  clear xp0 xp1 xp2 xa0 xa1 xa2 xb0 xb1 xb2 xc0 xc1 xc2
  have xp0 := sp.c0
  have xp1 := sp.c1
  have xp2 := sp.c2
  have xa0 := sa.c0
  have xa1 := sa.c1
  have xa2 := sa.c2
  have xb0 := sb.c0
  have xb1 := sb.c1
  have xb2 := sb.c2
  have xc0 := sc.c0
  have xc1 := sc.c1
  have xc2 := sc.c2
  replace kk := kk.trans k
  clear k
  go_wp2_with fail
  with_reducible refine (q3.out _ kk).mono ?_
  rintro e w4 ⟨rfl, k⟩
  replace sp := sp.kept k (by simp)
  replace sa := sa.kept k (by simp)
  replace sb := sb.kept k (by simp)
  replace sc := sc.kept k (by simp)
  clear xp0 xp1 xp2 xa0 xa1 xa2 xb0 xb1 xb2 xc0 xc1 xc2
  have xp0 := sp.c0
  have xp1 := sp.c1
  have xp2 := sp.c2
  have xa0 := sa.c0
  have xa1 := sa.c1
  have xa2 := sa.c2
  have xb0 := sb.c0
  have xb1 := sb.c1
  have xb2 := sb.c2
  have xc0 := sc.c0
  have xc1 := sc.c1
  have xc2 := sc.c2
  replace kk := kk.trans k
  clear k
  go_wp2_with fail
  with_reducible refine (q4.out _ kk).mono ?_
  rintro e w5 ⟨rfl, k⟩
  replace sp := sp.kept k (by simp)
  replace sa := sa.kept k (by simp)
  replace sb := sb.kept k (by simp)
  replace sc := sc.kept k (by simp)
  clear xp0 xp1 xp2 xa0 xa1 xa2 xb0 xb1 xb2 xc0 xc1 xc2
  have xp0 := sp.c0
  have xp1 := sp.c1
  have xp2 := sp.c2
  have xa0 := sa.c0
  have xa1 := sa.c1
  have xa2 := sa.c2
  have xb0 := sb.c0
  have xb1 := sb.c1
  have xb2 := sb.c2
  have xc0 := sc.c0
  have xc1 := sc.c1
  have xc2 := sc.c2
  replace kk := kk.trans k
  clear k
  go_wp2_with fail
  with_reducible refine (q5.out _ kk).mono ?_
  rintro e w6 ⟨rfl, k⟩
  replace sp := sp.kept k (by simp)
  replace sa := sa.kept k (by simp)
  replace sb := sb.kept k (by simp)
  replace sc := sc.kept k (by simp)
  clear xp0 xp1 xp2 xa0 xa1 xa2 xb0 xb1 xb2 xc0 xc1 xc2
  have xp0 := sp.c0
  have xp1 := sp.c1
  have xp2 := sp.c2
  have xa0 := sa.c0
  have xa1 := sa.c1
  have xa2 := sa.c2
  have xb0 := sb.c0
  have xb1 := sb.c1
  have xb2 := sb.c2
  have xc0 := sc.c0
  have xc1 := sc.c1
  have xc2 := sc.c2
  replace kk := kk.trans k
  clear k
  clear sp sa sb sc xp0 xp1 xp2 xa0 xa1 xa2 xb0 xb1 xb2 xc0 xc1 xc2
  go_wp2
  go_ret2
  exact ⟨rfl, kk⟩

end Go.Proofs.YtcgilcmhandgfaaGreatDoor

/- Normal, Volume, SquareSpace and ToPlane of package vector and of the reference of layer 7 answer alike. -/
namespace Go.Proofs.YtcgilcmhandgfaaGreatDoor
open Go.RowKit
open Go.Lib (nDigits itoa decDigits)

theorem ckS_eq (ps : List P3) (h : ps.length ≤ 64) : ckS ps = if ps.all inS = true then 0 else 2 := by unfold ckS; rw [if_neg (by omega)]
theorem rrightS_c {x y z : Int} {b : Bool} {w : World} (h : inS ⟨x, y, z⟩ = b) : Hid (Gw w 80 #[.agg #[.int .i64 x, .int .i64 y, .int .i64 z]] (.bool b)) := gw_of fun W => by
  have q := rrightS x y z W
  rwa [h] at q
theorem inS_in {x y z : Int} (h : inS ⟨x, y, z⟩ = true) : x.natAbs ≤ 100000 ∧ y.natAbs ≤ 100000 ∧ z.natAbs ≤ 100000 := by
  unfold inS at h
  rw [Bool.and_eq_true, Bool.and_eq_true, inB_iff, inB_iff, inB_iff] at h
  dsimp only at h
  omega
theorem ckS_all {ps : List P3} (h : ckS ps = 0) : ps.all inS = true := by
  unfold ckS at h
  split at h
  · cases h
  · split at h
    · assumption
    · cases h

theorem across_r (ax ay az bx yb bz cx cy cz : Int) (w : World) (h : ckS ([⟨ax, ay, az⟩, ⟨bx, yb, bz⟩, ⟨cx, cy, cz⟩] : List P3) = 0) :
    Calls Tryz.prog 95 #[.agg #[.int .i64 ax, .int .i64 ay, .int .i64 az], .agg #[.int .i64 bx, .int .i64 yb, .int .i64 bz], .agg #[.int .i64 cx, .int .i64 cy, .int .i64 cz]] w fun e w' => e = .returned (.agg #[.int .i64 (nrX ay az yb bz cy cz), .int .i64 (nrX az ax bz bx cz cx), .int .i64 (nrX ax ay bx yb cx cy)]) ∧ Kp [] w w' := by
  obtain ⟨ha1, ha2, ha3⟩ := ckS_in h ⟨ax, ay, az⟩ (by simp)
  obtain ⟨hb1, hb2, hb3⟩ := ckS_in h ⟨bx, yb, bz⟩ (by simp)
  obtain ⟨hc1, hc2, hc3⟩ := ckS_in h ⟨cx, cy, cz⟩ (by simp)
  dsimp only at ha1 ha2 ha3 hb1 hb2 hb3 hc1 hc2 hc3
  exact rAcross ax ay az bx yb bz cx cy cz _ _ _ _ _ _ _ _ _ w (gw_of fun W => rLessS bx yb bz ax ay az W (by omega) (by omega) (by omega) (by omega) (by omega) (by omega)) (gw_of fun W => rLessS cx cy cz ax ay az W (by omega) (by omega) (by omega) (by omega) (by omega) (by omega)) (gw_of fun W => rVectorS _ _ _ _ _ _ W (by omega) (by omega) (by omega) (by omega) (by omega) (by omega))

theorem six_r (ax ay az bx yb bz cx cy cz dx dy dz : Int) (w : World) (h : ckS ([⟨ax, ay, az⟩, ⟨bx, yb, bz⟩, ⟨cx, cy, cz⟩, ⟨dx, dy, dz⟩] : List P3) = 0) :
    Calls Tryz.prog 97 #[.agg #[.int .i64 ax, .int .i64 ay, .int .i64 az], .agg #[.int .i64 bx, .int .i64 yb, .int .i64 bz], .agg #[.int .i64 cx, .int .i64 cy, .int .i64 cz], .agg #[.int .i64 dx, .int .i64 dy, .int .i64 dz]] w fun e w' => e = .returned (.int .i64 (voV ax ay az bx yb bz cx cy cz dx dy dz)) ∧ Kp [] w w' := by
  have h3 : ckS ([⟨ax, ay, az⟩, ⟨bx, yb, bz⟩, ⟨cx, cy, cz⟩] : List P3) = 0 := by
    have := ckS_all h
    rw [ckS_eq _ (by simp)]
    simp at this ⊢
    exact ⟨this.1, this.2.1, this.2.2.1⟩
  obtain ⟨ha1, ha2, ha3⟩ := ckS_in h ⟨ax, ay, az⟩ (by simp)
  obtain ⟨hb1, hb2, hb3⟩ := ckS_in h ⟨bx, yb, bz⟩ (by simp)
  obtain ⟨hc1, hc2, hc3⟩ := ckS_in h ⟨cx, cy, cz⟩ (by simp)
  obtain ⟨hd1, hd2, hd3⟩ := ckS_in h ⟨dx, dy, dz⟩ (by simp)
  dsimp only at ha1 ha2 ha3 hb1 hb2 hb3 hc1 hc2 hc3 hd1 hd2 hd3
  have b1 := nr_le ay az yb bz cy cz ha2 ha3 hb2 hb3 hc2 hc3
  have b2 := nr_le az ax bz bx cz cx ha3 ha1 hb3 hb1 hc3 hc1
  have b3 := nr_le ax ay bx yb cx cy ha1 ha2 hb1 hb2 hc1 hc2
  have q1 : Hid (Gw w 95 #[.agg #[.int .i64 ax, .int .i64 ay, .int .i64 az], .agg #[.int .i64 bx, .int .i64 yb, .int .i64 bz], .agg #[.int .i64 cx, .int .i64 cy, .int .i64 cz]] (.agg #[.int .i64 (nrX ay az yb bz cy cz), .int .i64 (nrX az ax bz bx cz cx), .int .i64 (nrX ax ay bx yb cx cy)])) := gw_of fun W => across_r ax ay az bx yb bz cx cy cz W h3
  have q2 : Hid (Gw w 123 #[.agg #[.int .i64 dx, .int .i64 dy, .int .i64 dz], .agg #[.int .i64 ax, .int .i64 ay, .int .i64 az]] (.agg #[.int .i64 (dx - ax), .int .i64 (dy - ay), .int .i64 (dz - az)])) := gw_of fun W => rLessS dx dy dz ax ay az W (Nat.le_trans hd1 (by decide)) (Nat.le_trans hd2 (by decide)) (Nat.le_trans hd3 (by decide)) (Nat.le_trans ha1 (by decide)) (Nat.le_trans ha2 (by decide)) (Nat.le_trans ha3 (by decide))
  unfold voV
  generalize nrX ay az yb bz cy cz = n1 at *
  generalize nrX az ax bz bx cz cx = n2 at *
  generalize nrX ax ay bx yb cx cy = n3 at *
  exact rSix ax ay az bx yb bz cx cy cz dx dy dz n1 n2 n3 (dx - ax) (dy - ay) (dz - az) _ w q1 q2 (gw_of fun W => rTimesS n1 n2 n3 (dx - ax) (dy - ay) (dz - az) W (Nat.le_trans b1 (by decide)) (Nat.le_trans b2 (by decide)) (Nat.le_trans b3 (by decide)) (Nat.le_trans (sub_bd hd1 ha1) (by decide)) (Nat.le_trans (sub_bd hd2 ha2) (by decide)) (Nat.le_trans (sub_bd hd3 ha3) (by decide)))

theorem volume_p (ax ay az bx yb bz cx cy cz dx dy dz : Int) (w : World) : Calls Tryz.prog 38 #[.agg #[.int .i64 ax, .int .i64 ay, .int .i64 az], .agg #[.int .i64 bx, .int .i64 yb, .int .i64 bz], .agg #[.int .i64 cx, .int .i64 cy, .int .i64 cz], .agg #[.int .i64 dx, .int .i64 dy, .int .i64 dz]] w fun e w' => e = .returned (.tuple #[.int .i64 (bP (ckS ([⟨ax, ay, az⟩, ⟨bx, yb, bz⟩, ⟨cx, cy, cz⟩, ⟨dx, dy, dz⟩] : List P3)) (voV ax ay az bx yb bz cx cy cz dx dy dz)), .int .i64 (ckS ([⟨ax, ay, az⟩, ⟨bx, yb, bz⟩, ⟨cx, cy, cz⟩, ⟨dx, dy, dz⟩] : List P3))]) ∧ Kp [] w w' := by
  have q := vVolume ax ay az bx yb bz cx cy cz dx dy dz (voV ax ay az bx yb bz cx cy cz dx dy dz) w (fun h ba bb bc bd W ha hb hc hd => Lib.hid (volume_in ba bb bc bd ax ay az bx yb bz cx cy cz dx dy dz W ha hb hc hd h))
  rw [ck_id] at q
  exact q

theorem volume_r (ax ay az bx yb bz cx cy cz dx dy dz : Int) (w : World) : Calls Tryz.prog 39 #[.agg #[.int .i64 ax, .int .i64 ay, .int .i64 az], .agg #[.int .i64 bx, .int .i64 yb, .int .i64 bz], .agg #[.int .i64 cx, .int .i64 cy, .int .i64 cz], .agg #[.int .i64 dx, .int .i64 dy, .int .i64 dz]] w fun e w' => e = .returned (.tuple #[.int .i64 (bP (ckS ([⟨ax, ay, az⟩, ⟨bx, yb, bz⟩, ⟨cx, cy, cz⟩, ⟨dx, dy, dz⟩] : List P3)) (voV ax ay az bx yb bz cx cy cz dx dy dz)), .int .i64 (ckS ([⟨ax, ay, az⟩, ⟨bx, yb, bz⟩, ⟨cx, cy, cz⟩, ⟨dx, dy, dz⟩] : List P3))]) ∧ Kp [] w w' := by
  cases h0 : inS ⟨ax, ay, az⟩ with
  | false =>
    have e : ckS ([⟨ax, ay, az⟩, ⟨bx, yb, bz⟩, ⟨cx, cy, cz⟩, ⟨dx, dy, dz⟩] : List P3) = 2 := by rw [ckS_eq _ (by simp)]; simp [h0]
    rw [e, show bP 2 (voV ax ay az bx yb bz cx cy cz dx dy dz) = 0 from rfl]
    exact rVolume_0 ax ay az bx yb bz cx cy cz dx dy dz w (rrightS_c h0)
  | true =>
    cases h1 : inS ⟨bx, yb, bz⟩ with
    | false =>
      have e : ckS ([⟨ax, ay, az⟩, ⟨bx, yb, bz⟩, ⟨cx, cy, cz⟩, ⟨dx, dy, dz⟩] : List P3) = 2 := by rw [ckS_eq _ (by simp)]; simp [h0, h1]
      rw [e, show bP 2 (voV ax ay az bx yb bz cx cy cz dx dy dz) = 0 from rfl]
      exact rVolume_1 ax ay az bx yb bz cx cy cz dx dy dz w (rrightS_c h0) (rrightS_c h1)
    | true =>
      cases h2 : inS ⟨cx, cy, cz⟩ with
      | false =>
        have e : ckS ([⟨ax, ay, az⟩, ⟨bx, yb, bz⟩, ⟨cx, cy, cz⟩, ⟨dx, dy, dz⟩] : List P3) = 2 := by rw [ckS_eq _ (by simp)]; simp [h0, h1, h2]
        rw [e, show bP 2 (voV ax ay az bx yb bz cx cy cz dx dy dz) = 0 from rfl]
        exact rVolume_2 ax ay az bx yb bz cx cy cz dx dy dz w (rrightS_c h0) (rrightS_c h1) (rrightS_c h2)
      | true =>
        cases h3 : inS ⟨dx, dy, dz⟩ with
        | false =>
          have e : ckS ([⟨ax, ay, az⟩, ⟨bx, yb, bz⟩, ⟨cx, cy, cz⟩, ⟨dx, dy, dz⟩] : List P3) = 2 := by rw [ckS_eq _ (by simp)]; simp [h0, h1, h2, h3]
          rw [e, show bP 2 (voV ax ay az bx yb bz cx cy cz dx dy dz) = 0 from rfl]
          exact rVolume_3 ax ay az bx yb bz cx cy cz dx dy dz w (rrightS_c h0) (rrightS_c h1) (rrightS_c h2) (rrightS_c h3)
        | true =>
          have h : ckS ([⟨ax, ay, az⟩, ⟨bx, yb, bz⟩, ⟨cx, cy, cz⟩, ⟨dx, dy, dz⟩] : List P3) = 0 := by rw [ckS_eq _ (by simp)]; simp [h0, h1, h2, h3]
          rw [h, show bP 0 (voV ax ay az bx yb bz cx cy cz dx dy dz) = voV ax ay az bx yb bz cx cy cz dx dy dz from rfl]
          exact rVolume_4 ax ay az bx yb bz cx cy cz dx dy dz _ w (rrightS_c h0) (rrightS_c h1) (rrightS_c h2) (rrightS_c h3) (gw_of fun W => six_r ax ay az bx yb bz cx cy cz dx dy dz W h)

theorem squareSpace_p (ax ay az bx yb bz : Int) (w : World) : Calls Tryz.prog 40 #[.agg #[.int .i64 ax, .int .i64 ay, .int .i64 az], .agg #[.int .i64 bx, .int .i64 yb, .int .i64 bz]] w fun e w' => e = .returned (.tuple #[.int .i64 (bP (ckS ([⟨ax, ay, az⟩, ⟨bx, yb, bz⟩] : List P3)) ((bx - ax) * (bx - ax) + (yb - ay) * (yb - ay) + (bz - az) * (bz - az))), .int .i64 (ckS ([⟨ax, ay, az⟩, ⟨bx, yb, bz⟩] : List P3))]) ∧ Kp [] w w' := by
  have q := vSquareSpace ax ay az bx yb bz ((bx - ax) * (bx - ax) + (yb - ay) * (yb - ay) + (bz - az) * (bz - az)) w (fun h ba bb W ha hb => by
    obtain ⟨ha1, ha2, ha3⟩ := ckS_in h ⟨ax, ay, az⟩ (by simp)
    obtain ⟨hb1, hb2, hb3⟩ := ckS_in h ⟨bx, yb, bz⟩ (by simp)
    dsimp only at ha1 ha2 ha3 hb1 hb2 hb3
    exact Lib.hid (vSquareSpace_in ba bb ax ay az bx yb bz (bx - ax) (yb - ay) (bz - az) _ W ha hb (Lib.hid fun W => vbetween ax ay az bx yb bz W (by omega) (by omega) (by omega) (by omega) (by omega) (by omega)) (Lib.hid fun W => vdotSpace _ _ _ _ _ _ W (by omega) (by omega) (by omega) (by omega) (by omega) (by omega))))
  rw [ck_id] at q
  exact q

theorem squareSpace_r (ax ay az bx yb bz : Int) (w : World) : Calls Tryz.prog 41 #[.agg #[.int .i64 ax, .int .i64 ay, .int .i64 az], .agg #[.int .i64 bx, .int .i64 yb, .int .i64 bz]] w fun e w' => e = .returned (.tuple #[.int .i64 (bP (ckS ([⟨ax, ay, az⟩, ⟨bx, yb, bz⟩] : List P3)) ((bx - ax) * (bx - ax) + (yb - ay) * (yb - ay) + (bz - az) * (bz - az))), .int .i64 (ckS ([⟨ax, ay, az⟩, ⟨bx, yb, bz⟩] : List P3))]) ∧ Kp [] w w' := by
  cases h0 : inS ⟨ax, ay, az⟩ with
  | false =>
    have e : ckS ([⟨ax, ay, az⟩, ⟨bx, yb, bz⟩] : List P3) = 2 := by rw [ckS_eq _ (by simp)]; simp [h0]
    rw [e, show bP 2 ((bx - ax) * (bx - ax) + (yb - ay) * (yb - ay) + (bz - az) * (bz - az)) = 0 from rfl]
    exact rSquareSpace_0 ax ay az bx yb bz w (rrightS_c h0)
  | true =>
    cases h1 : inS ⟨bx, yb, bz⟩ with
    | false =>
      have e : ckS ([⟨ax, ay, az⟩, ⟨bx, yb, bz⟩] : List P3) = 2 := by rw [ckS_eq _ (by simp)]; simp [h0, h1]
      rw [e, show bP 2 ((bx - ax) * (bx - ax) + (yb - ay) * (yb - ay) + (bz - az) * (bz - az)) = 0 from rfl]
      exact rSquareSpace_1 ax ay az bx yb bz w (rrightS_c h0) (rrightS_c h1)
    | true =>
      have h : ckS ([⟨ax, ay, az⟩, ⟨bx, yb, bz⟩] : List P3) = 0 := by rw [ckS_eq _ (by simp)]; simp [h0, h1]
      rw [h, show bP 0 ((bx - ax) * (bx - ax) + (yb - ay) * (yb - ay) + (bz - az) * (bz - az)) = ((bx - ax) * (bx - ax) + (yb - ay) * (yb - ay) + (bz - az) * (bz - az)) from rfl]
      obtain ⟨ha1, ha2, ha3⟩ := inS_in h0
      obtain ⟨hb1, hb2, hb3⟩ := inS_in h1
      rw [sq_swap bx ax, sq_swap yb ay, sq_swap bz az]
      exact rSquareSpace_2 ax ay az bx yb bz _ w (rrightS_c h0) (rrightS_c h1) (gw_of fun W => rFarS ax ay az bx yb bz (ax - bx) (ay - yb) (az - bz) _ W (gw_of fun W => rLessS ax ay az bx yb bz W (by omega) (by omega) (by omega) (by omega) (by omega) (by omega)) (gw_of fun W => rTimesS _ _ _ _ _ _ W (by omega) (by omega) (by omega) (by omega) (by omega) (by omega)))

theorem normal_p (ax ay az bx yb bz cx cy cz : Int) (w : World) : Calls Tryz.prog 36 #[.agg #[.int .i64 ax, .int .i64 ay, .int .i64 az], .agg #[.int .i64 bx, .int .i64 yb, .int .i64 bz], .agg #[.int .i64 cx, .int .i64 cy, .int .i64 cz]] w fun e w' => e = .returned (.tuple #[.agg #[.int .i64 (bP (ckS ([⟨ax, ay, az⟩, ⟨bx, yb, bz⟩, ⟨cx, cy, cz⟩] : List P3)) (nrX ay az yb bz cy cz)), .int .i64 (bP (ckS ([⟨ax, ay, az⟩, ⟨bx, yb, bz⟩, ⟨cx, cy, cz⟩] : List P3)) (nrX az ax bz bx cz cx)), .int .i64 (bP (ckS ([⟨ax, ay, az⟩, ⟨bx, yb, bz⟩, ⟨cx, cy, cz⟩] : List P3)) (nrX ax ay bx yb cx cy))], .int .i64 (ckS ([⟨ax, ay, az⟩, ⟨bx, yb, bz⟩, ⟨cx, cy, cz⟩] : List P3))]) ∧ Kp [] w w' := by
  by_cases h : ckS ([⟨ax, ay, az⟩, ⟨bx, yb, bz⟩, ⟨cx, cy, cz⟩] : List P3) = 0
  · rw [h]
    exact normal_c ax ay az bx yb bz cx cy cz w h
  · have e : ∀ v, bP (ckS ([⟨ax, ay, az⟩, ⟨bx, yb, bz⟩, ⟨cx, cy, cz⟩] : List P3)) v = 0 := fun v => if_neg h
    rw [e, e, e]
    exact vNormal_e ax ay az bx yb bz cx cy cz w (by simp [h])

theorem normal_r (ax ay az bx yb bz cx cy cz : Int) (w : World) : Calls Tryz.prog 37 #[.agg #[.int .i64 ax, .int .i64 ay, .int .i64 az], .agg #[.int .i64 bx, .int .i64 yb, .int .i64 bz], .agg #[.int .i64 cx, .int .i64 cy, .int .i64 cz]] w fun e w' => e = .returned (.tuple #[.agg #[.int .i64 (bP (ckS ([⟨ax, ay, az⟩, ⟨bx, yb, bz⟩, ⟨cx, cy, cz⟩] : List P3)) (nrX ay az yb bz cy cz)), .int .i64 (bP (ckS ([⟨ax, ay, az⟩, ⟨bx, yb, bz⟩, ⟨cx, cy, cz⟩] : List P3)) (nrX az ax bz bx cz cx)), .int .i64 (bP (ckS ([⟨ax, ay, az⟩, ⟨bx, yb, bz⟩, ⟨cx, cy, cz⟩] : List P3)) (nrX ax ay bx yb cx cy))], .int .i64 (ckS ([⟨ax, ay, az⟩, ⟨bx, yb, bz⟩, ⟨cx, cy, cz⟩] : List P3))]) ∧ Kp [] w w' := by
  cases h0 : inS ⟨ax, ay, az⟩ with
  | false =>
    have e : ckS ([⟨ax, ay, az⟩, ⟨bx, yb, bz⟩, ⟨cx, cy, cz⟩] : List P3) = 2 := by rw [ckS_eq _ (by simp)]; simp [h0]
    rw [e, show bP 2 (nrX ay az yb bz cy cz) = 0 from rfl, show bP 2 (nrX az ax bz bx cz cx) = 0 from rfl, show bP 2 (nrX ax ay bx yb cx cy) = 0 from rfl]
    exact rNormal_0 ax ay az bx yb bz cx cy cz w (rrightS_c h0)
  | true =>
    cases h1 : inS ⟨bx, yb, bz⟩ with
    | false =>
      have e : ckS ([⟨ax, ay, az⟩, ⟨bx, yb, bz⟩, ⟨cx, cy, cz⟩] : List P3) = 2 := by rw [ckS_eq _ (by simp)]; simp [h0, h1]
      rw [e, show bP 2 (nrX ay az yb bz cy cz) = 0 from rfl, show bP 2 (nrX az ax bz bx cz cx) = 0 from rfl, show bP 2 (nrX ax ay bx yb cx cy) = 0 from rfl]
      exact rNormal_1 ax ay az bx yb bz cx cy cz w (rrightS_c h0) (rrightS_c h1)
    | true =>
      cases h2 : inS ⟨cx, cy, cz⟩ with
      | false =>
        have e : ckS ([⟨ax, ay, az⟩, ⟨bx, yb, bz⟩, ⟨cx, cy, cz⟩] : List P3) = 2 := by rw [ckS_eq _ (by simp)]; simp [h0, h1, h2]
        rw [e, show bP 2 (nrX ay az yb bz cy cz) = 0 from rfl, show bP 2 (nrX az ax bz bx cz cx) = 0 from rfl, show bP 2 (nrX ax ay bx yb cx cy) = 0 from rfl]
        exact rNormal_2 ax ay az bx yb bz cx cy cz w (rrightS_c h0) (rrightS_c h1) (rrightS_c h2)
      | true =>
        have h : ckS ([⟨ax, ay, az⟩, ⟨bx, yb, bz⟩, ⟨cx, cy, cz⟩] : List P3) = 0 := by rw [ckS_eq _ (by simp)]; simp [h0, h1, h2]
        rw [h, show bP 0 (nrX ay az yb bz cy cz) = nrX ay az yb bz cy cz from rfl, show bP 0 (nrX az ax bz bx cz cx) = nrX az ax bz bx cz cx from rfl, show bP 0 (nrX ax ay bx yb cx cy) = nrX ax ay bx yb cx cy from rfl]
        exact rNormal_3 ax ay az bx yb bz cx cy cz _ _ _ w (rrightS_c h0) (rrightS_c h1) (rrightS_c h2) (gw_of fun W => across_r ax ay az bx yb bz cx cy cz W h)

/-- the distance from a plane: text and error -/
def plT (ax ay az bx yb bz cx cy cz px py pz : Int) : ByteArray := if sqs [(nrX ay az yb bz cy cz), (nrX az ax bz bx cz cx), (nrX ax ay bx yb cx cy)] = 0 then ⟨#[]⟩ else RS ((voV ax ay az bx yb bz cx cy cz px py pz * voV ax ay az bx yb bz cx cy cz px py pz : Int) / (sqs [(nrX ay az yb bz cy cz), (nrX az ax bz bx cz cx), (nrX ax ay bx yb cx cy)] : Int) : Rat)
def plE (ax ay az bx yb bz cx cy cz : Int) : Int := if sqs [(nrX ay az yb bz cy cz), (nrX az ax bz bx cz cx), (nrX ax ay bx yb cx cy)] = 0 then 10 else 0
theorem sqs3_eq (x y z : Int) : sqs [x, y, z] = x * x + y * y + z * z := by unfold sqs; simp
theorem sqs3_zero {x y z : Int} : sqs [x, y, z] = 0 ↔ x = 0 ∧ y = 0 ∧ z = 0 := by
  rw [sqs3_eq]
  constructor
  · intro h
    have h1 := sq_nn x
    have h2 := sq_nn y
    have h3 := sq_nn z
    exact ⟨sq_z (by omega), sq_z (by omega), sq_z (by omega)⟩
  · rintro ⟨rfl, rfl, rfl⟩; rfl

theorem toPlane_z (ax ay az bx yb bz cx cy cz px py pz : Int) (w : World) (h : ckS ([⟨ax, ay, az⟩, ⟨bx, yb, bz⟩, ⟨cx, cy, cz⟩, ⟨px, py, pz⟩] : List P3) = 0) (h0 : sqs [(nrX ay az yb bz cy cz), (nrX az ax bz bx cz cx), (nrX ax ay bx yb cx cy)] = 0) (hT : Tab w) :
    Calls Tryz.prog 42 #[.agg #[.int .i64 px, .int .i64 py, .int .i64 pz], .agg #[.int .i64 ax, .int .i64 ay, .int .i64 az], .agg #[.int .i64 bx, .int .i64 yb, .int .i64 bz], .agg #[.int .i64 cx, .int .i64 cy, .int .i64 cz]] w fun e w' => e = .returned (.tuple #[.string ⟨#[]⟩, .int .i64 10]) ∧ Kp [] w w' := by
  have hv := vo_le h
  obtain ⟨ha1, ha2, ha3⟩ := ckS_in h ⟨ax, ay, az⟩ (by simp)
  obtain ⟨hb1, hb2, hb3⟩ := ckS_in h ⟨bx, yb, bz⟩ (by simp)
  obtain ⟨hc1, hc2, hc3⟩ := ckS_in h ⟨cx, cy, cz⟩ (by simp)
  obtain ⟨hp1, hp2, hp3⟩ := ckS_in h ⟨px, py, pz⟩ (by simp)
  dsimp only at ha1 ha2 ha3 hb1 hb2 hb3 hc1 hc2 hc3 hp1 hp2 hp3
  have b1 := nr_le ay az yb bz cy cz ha2 ha3 hb2 hb3 hc2 hc3
  have b2 := nr_le az ax bz bx cz cx ha3 ha1 hb3 hb1 hc3 hc1
  have b3 := nr_le ax ay bx yb cx cy ha1 ha2 hb1 hb2 hc1 hc2
  have q1 : (Hid (∀ W : World, Calls Tryz.prog 74 #[.agg #[.int .i64 ax, .int .i64 ay, .int .i64 az], .agg #[.int .i64 bx, .int .i64 yb, .int .i64 bz]] W fun e w' => e = .returned (.agg #[.int .i64 (bx - ax), .int .i64 (yb - ay), .int .i64 (bz - az)]) ∧ Kp [] W w')) := (Lib.hid fun W => vbetween ax ay az bx yb bz W (Nat.le_trans ha1 (by decide)) (Nat.le_trans ha2 (by decide)) (Nat.le_trans ha3 (by decide)) (Nat.le_trans hb1 (by decide)) (Nat.le_trans hb2 (by decide)) (Nat.le_trans hb3 (by decide)))
  have q2 : (Hid (∀ W : World, Calls Tryz.prog 74 #[.agg #[.int .i64 ax, .int .i64 ay, .int .i64 az], .agg #[.int .i64 cx, .int .i64 cy, .int .i64 cz]] W fun e w' => e = .returned (.agg #[.int .i64 (cx - ax), .int .i64 (cy - ay), .int .i64 (cz - az)]) ∧ Kp [] W w')) := (Lib.hid fun W => vbetween ax ay az cx cy cz W (Nat.le_trans ha1 (by decide)) (Nat.le_trans ha2 (by decide)) (Nat.le_trans ha3 (by decide)) (Nat.le_trans hc1 (by decide)) (Nat.le_trans hc2 (by decide)) (Nat.le_trans hc3 (by decide)))
  have q3 : (Hid (∀ W : World, Calls Tryz.prog 75 #[.agg #[.int .i64 (bx - ax), .int .i64 (yb - ay), .int .i64 (bz - az)], .agg #[.int .i64 (cx - ax), .int .i64 (cy - ay), .int .i64 (cz - az)]] W fun e w' => e = .returned (.agg #[.int .i64 (nrX ay az yb bz cy cz), .int .i64 (nrX az ax bz bx cz cx), .int .i64 (nrX ax ay bx yb cx cy)]) ∧ Kp [] W w')) := (Lib.hid fun W => vcrossSpace _ _ _ _ _ _ W (Nat.le_trans (sub_bd hb1 ha1) (by decide)) (Nat.le_trans (sub_bd hb2 ha2) (by decide)) (Nat.le_trans (sub_bd hb3 ha3) (by decide)) (Nat.le_trans (sub_bd hc1 ha1) (by decide)) (Nat.le_trans (sub_bd hc2 ha2) (by decide)) (Nat.le_trans (sub_bd hc3 ha3) (by decide)))
  have qv : (Hid (∀ W : World, Calls Tryz.prog 38 #[.agg #[.int .i64 ax, .int .i64 ay, .int .i64 az], .agg #[.int .i64 bx, .int .i64 yb, .int .i64 bz], .agg #[.int .i64 cx, .int .i64 cy, .int .i64 cz], .agg #[.int .i64 px, .int .i64 py, .int .i64 pz]] W fun e w' => e = .returned (.tuple #[.int .i64 (voV ax ay az bx yb bz cx cy cz px py pz), .int .i64 0]) ∧ Kp [] W w')) := Lib.hid fun W => volume_c ax ay az bx yb bz cx cy cz px py pz W h
  clear ha1 ha2 ha3 hb1 hb2 hb3 hc1 hc2 hc3 hp1 hp2 hp3
  generalize (nrX ay az yb bz cy cz) = n1 at *
  generalize (nrX az ax bz bx cz cx) = n2 at *
  generalize (nrX ax ay bx yb cx cy) = n3 at *
  generalize voV ax ay az bx yb bz cx cy cz px py pz = v at *
  refine vToPlane_0 px py pz ax ay az bx yb bz cx cy cz v _ _ _ _ _ _ n1 n2 n3 10 _ w qv q1 q2 q3 (Lib.hid fun W gl kW hN => ?_)
  have q := vdistance_z v gl 3 [n1, n2, n3] W hv
    (fun i hi => by
      rcases i with _ | _ | _ | i
      · exact (new_cell hN _).trans rfl
      · exact (new_cell hN _).trans rfl
      · exact (new_cell hN _).trans rfl
      · exact absurd hi (by simp)) (Array.getElem?_eq_some_iff.1 hN).1
    (fun n hn => by
      rcases List.mem_cons.1 hn with rfl | hn
      · exact Nat.le_trans b1 (by decide)
      · rcases List.mem_cons.1 hn with rfl | hn
        · exact Nat.le_trans b2 (by decide)
        · rw [List.mem_singleton.1 hn]; exact Nat.le_trans b3 (by decide)) (by simp) (by simp) h0 (tab_kp hT kW)
  exact q

theorem toPlane_p (px py pz ax ay az bx yb bz cx cy cz : Int) (w : World) (hT : Tab w) : Calls Tryz.prog 42 #[.agg #[.int .i64 px, .int .i64 py, .int .i64 pz], .agg #[.int .i64 ax, .int .i64 ay, .int .i64 az], .agg #[.int .i64 bx, .int .i64 yb, .int .i64 bz], .agg #[.int .i64 cx, .int .i64 cy, .int .i64 cz]] w fun e w' => e = .returned (.tuple #[.string (tkP (ckS ([⟨ax, ay, az⟩, ⟨bx, yb, bz⟩, ⟨cx, cy, cz⟩, ⟨px, py, pz⟩] : List P3)) (plT ax ay az bx yb bz cx cy cz px py pz)), .int .i64 (ekP (ckS ([⟨ax, ay, az⟩, ⟨bx, yb, bz⟩, ⟨cx, cy, cz⟩, ⟨px, py, pz⟩] : List P3)) (plE ax ay az bx yb bz cx cy cz))]) ∧ Kp [] w w' := by
  by_cases h : ckS ([⟨ax, ay, az⟩, ⟨bx, yb, bz⟩, ⟨cx, cy, cz⟩, ⟨px, py, pz⟩] : List P3) = 0
  · unfold tkP ekP
    rw [if_pos h, if_pos h]
    unfold plT plE
    by_cases h0 : sqs [(nrX ay az yb bz cy cz), (nrX az ax bz bx cz cx), (nrX ax ay bx yb cx cy)] = 0
    · rw [if_pos h0, if_pos h0]
      exact toPlane_z ax ay az bx yb bz cx cy cz px py pz w h h0 hT
    · rw [if_neg h0, if_neg h0]
      exact toPlane_c ax ay az bx yb bz cx cy cz px py pz w h h0 hT
  · unfold tkP ekP
    rw [if_neg h, if_neg h]
    exact vToPlane_e px py pz ax ay az bx yb bz cx cy cz _ _ w (by simp [h]) (Lib.hid fun W => volume_p ax ay az bx yb bz cx cy cz px py pz W)

theorem fromPlane_r (px py pz ax ay az bx yb bz cx cy cz : Int) (w : World) (h : ckS ([⟨ax, ay, az⟩, ⟨bx, yb, bz⟩, ⟨cx, cy, cz⟩, ⟨px, py, pz⟩] : List P3) = 0) (h0 : sqs [(nrX ay az yb bz cy cz), (nrX az ax bz bx cz cx), (nrX ax ay bx yb cx cy)] ≠ 0) :
    Calls Tryz.prog 101 #[.agg #[.int .i64 px, .int .i64 py, .int .i64 pz], .agg #[.int .i64 ax, .int .i64 ay, .int .i64 az], .agg #[.int .i64 bx, .int .i64 yb, .int .i64 bz], .agg #[.int .i64 cx, .int .i64 cy, .int .i64 cz]] w fun e w' => e = .returned (.string (RS ((voV ax ay az bx yb bz cx cy cz px py pz * voV ax ay az bx yb bz cx cy cz px py pz : Int) / (sqs [(nrX ay az yb bz cy cz), (nrX az ax bz bx cz cx), (nrX ax ay bx yb cx cy)] : Int) : Rat))) ∧ Kp [] w w' := by
  have hv := vo_le h
  have h3 : ckS ([⟨ax, ay, az⟩, ⟨bx, yb, bz⟩, ⟨cx, cy, cz⟩] : List P3) = 0 := by
    have := ckS_all h
    rw [ckS_eq _ (by simp)]
    simp at this ⊢
    exact ⟨this.1, this.2.1, this.2.2.1⟩
  have q1 : Hid (Gw w 97 #[.agg #[.int .i64 ax, .int .i64 ay, .int .i64 az], .agg #[.int .i64 bx, .int .i64 yb, .int .i64 bz], .agg #[.int .i64 cx, .int .i64 cy, .int .i64 cz], .agg #[.int .i64 px, .int .i64 py, .int .i64 pz]] (.int .i64 (voV ax ay az bx yb bz cx cy cz px py pz))) := gw_of fun W => six_r ax ay az bx yb bz cx cy cz px py pz W h
  have q4 : Hid (Gw w 95 #[.agg #[.int .i64 ax, .int .i64 ay, .int .i64 az], .agg #[.int .i64 bx, .int .i64 yb, .int .i64 bz], .agg #[.int .i64 cx, .int .i64 cy, .int .i64 cz]] (.agg #[.int .i64 (nrX ay az yb bz cy cz), .int .i64 (nrX az ax bz bx cz cx), .int .i64 (nrX ax ay bx yb cx cy)])) := gw_of fun W => across_r ax ay az bx yb bz cx cy cz W h3
  obtain ⟨ha1, ha2, ha3⟩ := ckS_in h ⟨ax, ay, az⟩ (by simp)
  obtain ⟨hb1, hb2, hb3⟩ := ckS_in h ⟨bx, yb, bz⟩ (by simp)
  obtain ⟨hc1, hc2, hc3⟩ := ckS_in h ⟨cx, cy, cz⟩ (by simp)
  dsimp only at ha1 ha2 ha3 hb1 hb2 hb3 hc1 hc2 hc3
  have b1 := nr_le ay az yb bz cy cz ha2 ha3 hb2 hb3 hc2 hc3
  have b2 := nr_le az ax bz bx cz cx ha3 ha1 hb3 hb1 hc3 hc1
  have b3 := nr_le ax ay bx yb cx cy ha1 ha2 hb1 hb2 hc1 hc2
  clear ha1 ha2 ha3 hb1 hb2 hb3 hc1 hc2 hc3 h h3
  generalize nrX ay az yb bz cy cz = n1 at *
  generalize nrX az ax bz bx cz cx = n2 at *
  generalize nrX ax ay bx yb cx cy = n3 at *
  generalize voV ax ay az bx yb bz cx cy cz px py pz = v at *
  have hs : Ok (sqs [n1, n2, n3]) := by
    have m1 := mul_bd b1 b1
    have m2 := mul_bd b2 b2
    have m3 := mul_bd b3 b3
    refine ok_pow (k := 40) ?_ (by omega)
    rw [sqs3_eq]
    generalize n1 * n1 = x at *
    generalize n2 * n2 = y at *
    generalize n3 * n3 = z at *
    omega
  have hvv : Ok (v * v) := ok_pow (k := 40) (by have := mul_bd hv hv; omega) (by omega)
  have q6 : Hid (Gw w 130 #[.string (S (v * v)), .string (S (sqs [n1, n2, n3]))] (.string (RS ((v * v : Int) / (sqs [n1, n2, n3] : Int) : Rat)))) := gw_of fun W => by
    have q := lowest_S hvv hs h0 W
    rwa [div_ofInt _ _] at q
  exact rFromPlane px py pz ax ay az bx yb bz cx cy cz v n1 n2 n3 (S v) (S (v * v)) (S (sqs [n1, n2, n3])) _ w q1 (gw_of fun W => of_any v W (by omega) (by omega)) (gw_of fun W => times_ref v v W (nd_small hv) (nd_small hv)) q4 (gw_of fun W => rLong n1 n2 n3 W (Nat.le_trans b1 (by decide)) (Nat.le_trans b2 (by decide)) (Nat.le_trans b3 (by decide))) q6

theorem toPlane_r (px py pz ax ay az bx yb bz cx cy cz : Int) (w : World) : Calls Tryz.prog 43 #[.agg #[.int .i64 px, .int .i64 py, .int .i64 pz], .agg #[.int .i64 ax, .int .i64 ay, .int .i64 az], .agg #[.int .i64 bx, .int .i64 yb, .int .i64 bz], .agg #[.int .i64 cx, .int .i64 cy, .int .i64 cz]] w fun e w' => e = .returned (.tuple #[.string (tkP (ckS ([⟨ax, ay, az⟩, ⟨bx, yb, bz⟩, ⟨cx, cy, cz⟩, ⟨px, py, pz⟩] : List P3)) (plT ax ay az bx yb bz cx cy cz px py pz)), .int .i64 (ekP (ckS ([⟨ax, ay, az⟩, ⟨bx, yb, bz⟩, ⟨cx, cy, cz⟩, ⟨px, py, pz⟩] : List P3)) (plE ax ay az bx yb bz cx cy cz))]) ∧ Kp [] w w' := by
  cases h0 : inS ⟨px, py, pz⟩ with
  | false =>
    have e : ckS ([⟨ax, ay, az⟩, ⟨bx, yb, bz⟩, ⟨cx, cy, cz⟩, ⟨px, py, pz⟩] : List P3) = 2 := by rw [ckS_eq _ (by simp)]; simp [h0]
    rw [e, show tkP 2 (plT ax ay az bx yb bz cx cy cz px py pz) = ⟨#[]⟩ from rfl, show ekP 2 (plE ax ay az bx yb bz cx cy cz) = 2 from rfl]
    exact rToPlane_0 px py pz ax ay az bx yb bz cx cy cz w (rrightS_c h0)
  | true =>
    cases h1 : inS ⟨ax, ay, az⟩ with
    | false =>
      have e : ckS ([⟨ax, ay, az⟩, ⟨bx, yb, bz⟩, ⟨cx, cy, cz⟩, ⟨px, py, pz⟩] : List P3) = 2 := by rw [ckS_eq _ (by simp)]; simp [h0, h1]
      rw [e, show tkP 2 (plT ax ay az bx yb bz cx cy cz px py pz) = ⟨#[]⟩ from rfl, show ekP 2 (plE ax ay az bx yb bz cx cy cz) = 2 from rfl]
      exact rToPlane_1 px py pz ax ay az bx yb bz cx cy cz w (rrightS_c h0) (rrightS_c h1)
    | true =>
      cases h2 : inS ⟨bx, yb, bz⟩ with
      | false =>
        have e : ckS ([⟨ax, ay, az⟩, ⟨bx, yb, bz⟩, ⟨cx, cy, cz⟩, ⟨px, py, pz⟩] : List P3) = 2 := by rw [ckS_eq _ (by simp)]; simp [h0, h1, h2]
        rw [e, show tkP 2 (plT ax ay az bx yb bz cx cy cz px py pz) = ⟨#[]⟩ from rfl, show ekP 2 (plE ax ay az bx yb bz cx cy cz) = 2 from rfl]
        exact rToPlane_2 px py pz ax ay az bx yb bz cx cy cz w (rrightS_c h0) (rrightS_c h1) (rrightS_c h2)
      | true =>
        cases h3 : inS ⟨cx, cy, cz⟩ with
        | false =>
          have e : ckS ([⟨ax, ay, az⟩, ⟨bx, yb, bz⟩, ⟨cx, cy, cz⟩, ⟨px, py, pz⟩] : List P3) = 2 := by rw [ckS_eq _ (by simp)]; simp [h0, h1, h2, h3]
          rw [e, show tkP 2 (plT ax ay az bx yb bz cx cy cz px py pz) = ⟨#[]⟩ from rfl, show ekP 2 (plE ax ay az bx yb bz cx cy cz) = 2 from rfl]
          exact rToPlane_3 px py pz ax ay az bx yb bz cx cy cz w (rrightS_c h0) (rrightS_c h1) (rrightS_c h2) (rrightS_c h3)
        | true =>
          have h : ckS ([⟨ax, ay, az⟩, ⟨bx, yb, bz⟩, ⟨cx, cy, cz⟩, ⟨px, py, pz⟩] : List P3) = 0 := by rw [ckS_eq _ (by simp)]; simp [h0, h1, h2, h3]
          have h3c : ckS ([⟨ax, ay, az⟩, ⟨bx, yb, bz⟩, ⟨cx, cy, cz⟩] : List P3) = 0 := by rw [ckS_eq _ (by simp)]; simp [h1, h2, h3]
          unfold tkP ekP
          rw [if_pos h, if_pos h]
          unfold plT plE
          by_cases h0c : sqs [(nrX ay az yb bz cy cz), (nrX az ax bz bx cz cx), (nrX ax ay bx yb cx cy)] = 0
          · rw [if_pos h0c, if_pos h0c]
            obtain ⟨e1, e2, e3⟩ := sqs3_zero.1 h0c
            exact rToPlane_z px py pz ax ay az bx yb bz cx cy cz _ _ _ w (by simp [e1, e2, e3]) (rrightS_c h0) (rrightS_c h1) (rrightS_c h2) (rrightS_c h3) (gw_of fun W => across_r ax ay az bx yb bz cx cy cz W h3c)
          · rw [if_neg h0c, if_neg h0c]
            refine rToPlane_ok px py pz ax ay az bx yb bz cx cy cz _ _ _ _ w ?_ (rrightS_c h0) (rrightS_c h1) (rrightS_c h2) (rrightS_c h3) (gw_of fun W => across_r ax ay az bx yb bz cx cy cz W h3c) (gw_of fun W => fromPlane_r px py pz ax ay az bx yb bz cx cy cz W h h0c)
            have hne : ¬ (nrX ay az yb bz cy cz = 0 ∧ nrX az ax bz bx cz cx = 0 ∧ nrX ax ay bx yb cx cy = 0) := fun e => h0c (sqs3_zero.2 e)
            generalize nrX ay az yb bz cy cz = n1 at *
            generalize nrX az ax bz bx cz cx = n2 at *
            generalize nrX ax ay bx yb cx cy = n3 at *
            by_cases a1 : n1 = 0 <;> by_cases a2 : n2 = 0 <;> by_cases a3 : n3 = 0 <;> simp_all

end Go.Proofs.YtcgilcmhandgfaaGreatDoor

/- VectorSolids returns true for every input. -/
namespace Go.Proofs.YtcgilcmhandgfaaGreatDoor
open Go.RowKit
open Go.Lib (nDigits itoa decDigits)

/-- a block of ints -/
def ArB (T : TypeId) (w : World) (b : Nat) (l : List Int) : Prop := w.heap[b]? = some (.cells (l.map fun z => Value.int .i64 z).toArray T (0, 0))
section
variable {T : TypeId} {w w' : World} {b : Nat} {l : List Int} {L : List Nat}
theorem ArB.lt (h : ArB T w b l) : b < w.heap.size := (Array.getElem?_eq_some_iff.1 h).1
theorem ArB.kept (h : ArB T w b l) (k : Kp L w w') (hb : b ∉ L) : ArB T w' b l := (k.block b h.lt hb).trans h
theorem ArB.alloc (h : ArB T w b l) (o : Obj) : ArB T (w.alloc o) b l := (Below.heap_alloc w o b h.lt).trans h
theorem ArB.f (h : ArB T w b l) (i : Nat) : w.frozen? ⟨b, i, none⟩ = false := by unfold ArB at h; simp [World.frozen?, h]
theorem ArB.c (h : ArB T w b l) {i : Nat} {z : Int} (hz : l[i]? = some z) : w.cell? ⟨b, i, none⟩ = some (.int .i64 z) := by
  unfold ArB at h
  have : (l.map fun z => Value.int .i64 z)[i]? = some (.int .i64 z) := by rw [List.getElem?_map, hz]; rfl
  simp [World.cell?, h, this]
theorem ArB.made (T : TypeId) (w : World) (l : List Int) : ArB T (w.alloc (.cells (l.map fun z => Value.int .i64 z).toArray T (0, 0))) w.heap.size l := heap_alloc_new w _
end
theorem eqA3 (a b c : Int) (w : World) : (Op.equalIn 10000 58 (.agg #[.int .i64 a, .int .i64 b, .int .i64 c]) (.agg #[.int .i64 a, .int .i64 b, .int .i64 c])).run Tryz.prog w = .ok true w := by
  have u3 := Tryz.underlying3
  have a3 := Tryz.isAgg3
  have z3 := Tryz.sizeOf3
  rw [show (10000 : Nat) = 9999 + 1 from rfl, Op.equalIn]
  simp only [Sem.run_bind, run_underlying Tryz.underlying58, Result.andThen_ok]
  simp only [Std.Legacy.Range.forIn_eq_forIn_range', Std.Legacy.Range.size, Nat.sub_zero, Nat.add_sub_cancel, Nat.div_one, List.range'_succ, List.range'_zero, List.forIn_cons, List.forIn_nil]
  go_simp

set_option maxRecDepth 100000 in
set_option maxHeartbeats 4000000 in
theorem solids_core (ax ay az bx yb bz cx cy cz dx dy dz n1 n2 n3 e c g m i k0 : Int) (x : ByteArray) (w : World)
    (qn1 : Hid (Gw w 36 #[.agg #[.int .i64 ax, .int .i64 ay, .int .i64 az], .agg #[.int .i64 bx, .int .i64 yb, .int .i64 bz], .agg #[.int .i64 cx, .int .i64 cy, .int .i64 cz]] (.tuple #[.agg #[.int .i64 n1, .int .i64 n2, .int .i64 n3], .int .i64 e])))
    (qn2 : Hid (Gw w 37 #[.agg #[.int .i64 ax, .int .i64 ay, .int .i64 az], .agg #[.int .i64 bx, .int .i64 yb, .int .i64 bz], .agg #[.int .i64 cx, .int .i64 cy, .int .i64 cz]] (.tuple #[.agg #[.int .i64 n1, .int .i64 n2, .int .i64 n3], .int .i64 e])))
    (qc1 : Hid (Gw w 38 #[.agg #[.int .i64 ax, .int .i64 ay, .int .i64 az], .agg #[.int .i64 bx, .int .i64 yb, .int .i64 bz], .agg #[.int .i64 cx, .int .i64 cy, .int .i64 cz], .agg #[.int .i64 dx, .int .i64 dy, .int .i64 dz]] (.tuple #[.int .i64 c, .int .i64 g])))
    (qc2 : Hid (Gw w 39 #[.agg #[.int .i64 ax, .int .i64 ay, .int .i64 az], .agg #[.int .i64 bx, .int .i64 yb, .int .i64 bz], .agg #[.int .i64 cx, .int .i64 cy, .int .i64 cz], .agg #[.int .i64 dx, .int .i64 dy, .int .i64 dz]] (.tuple #[.int .i64 c, .int .i64 g])))
    (qm1 : Hid (Gw w 40 #[.agg #[.int .i64 ax, .int .i64 ay, .int .i64 az], .agg #[.int .i64 bx, .int .i64 yb, .int .i64 bz]] (.tuple #[.int .i64 m, .int .i64 i])))
    (qm2 : Hid (Gw w 41 #[.agg #[.int .i64 ax, .int .i64 ay, .int .i64 az], .agg #[.int .i64 bx, .int .i64 yb, .int .i64 bz]] (.tuple #[.int .i64 m, .int .i64 i])))
    (qx1 : Hid (Gw w 42 #[.agg #[.int .i64 dx, .int .i64 dy, .int .i64 dz], .agg #[.int .i64 ax, .int .i64 ay, .int .i64 az], .agg #[.int .i64 bx, .int .i64 yb, .int .i64 bz], .agg #[.int .i64 cx, .int .i64 cy, .int .i64 cz]] (.tuple #[.string x, .int .i64 k0])))
    (qx2 : Hid (Gw w 43 #[.agg #[.int .i64 dx, .int .i64 dy, .int .i64 dz], .agg #[.int .i64 ax, .int .i64 ay, .int .i64 az], .agg #[.int .i64 bx, .int .i64 yb, .int .i64 bz], .agg #[.int .i64 cx, .int .i64 cy, .int .i64 cz]] (.tuple #[.string x, .int .i64 k0])))
    (aw : Hid (Gw w 13 #[] (.bool true))) :
    Calls Tryz.prog 6 #[.agg #[.int .i64 ax, .int .i64 ay, .int .i64 az, .int .i64 bx, .int .i64 yb, .int .i64 bz, .int .i64 cx, .int .i64 cy, .int .i64 cz, .int .i64 dx, .int .i64 dy, .int .i64 dz]] w fun e w' => e = .returned (.bool true) ∧ Kp [] w w' := by
  have s := ArB.made 57 w [ax, ay, az, bx, yb, bz, cx, cy, cz, dx, dy, dz]
  have kk : Kp [] w (w.alloc (.cells #[.int .i64 ax, .int .i64 ay, .int .i64 az, .int .i64 bx, .int .i64 yb, .int .i64 bz, .int .i64 cx, .int .i64 cy, .int .i64 cz, .int .i64 dx, .int .i64 dy, .int .i64 dz] 57 (0, 0))) := (Kp.refl _ _).alloc _
  have x0 := s.c (i := 0) rfl
  have x1 := s.c (i := 1) rfl
  have x2 := s.c (i := 2) rfl
  have x3 := s.c (i := 3) rfl
  have x4 := s.c (i := 4) rfl
  have x5 := s.c (i := 5) rfl
  have x6 := s.c (i := 6) rfl
  have x7 := s.c (i := 7) rfl
  have x8 := s.c (i := 8) rfl
  have x9 := s.c (i := 9) rfl
  have x10 := s.c (i := 10) rfl
  have x11 := s.c (i := 11) rfl
  unfold Gw at qn1 qn2 qc1 qc2 qm1 qm2 qx1 qx2 aw
  have hA := eqA3 n1 n2 n3
  go_enter Tryz.func6, Tryz.ntmps6
  go_wp2_with fail
  with_reducible refine (qn1.out _ kk).mono ?_
  rintro e w1 ⟨rfl, k⟩
  replace s := s.kept k (by simp)
  clear x0 x1 x2 x3 x4 x5 x6 x7 x8 x9 x10 x11
  replace kk := kk.trans k
  clear k
  replace s := s.alloc (.cells #[.int .i64 n1, .int .i64 n2, .int .i64 n3] 58 (0, 0))
  have t1 := SpB.made 58 w1 n1 n2 n3
  replace kk := kk.alloc (.cells #[.int .i64 n1, .int .i64 n2, .int .i64 n3] 58 (0, 0))
  have x0 := s.c (i := 0) rfl
  have x1 := s.c (i := 1) rfl
  have x2 := s.c (i := 2) rfl
  have x3 := s.c (i := 3) rfl
  have x4 := s.c (i := 4) rfl
  have x5 := s.c (i := 5) rfl
  have x6 := s.c (i := 6) rfl
  have x7 := s.c (i := 7) rfl
  have x8 := s.c (i := 8) rfl
  have x9 := s.c (i := 9) rfl
  have x10 := s.c (i := 10) rfl
  have x11 := s.c (i := 11) rfl
  go_wp2_with fail
  with_reducible refine (qn2.out _ kk).mono ?_
  rintro e w2 ⟨rfl, k⟩
  replace s := s.kept k (by simp)
  clear x0 x1 x2 x3 x4 x5 x6 x7 x8 x9 x10 x11
  replace kk := kk.trans k
  replace t1 := t1.kept k (by simp)
  clear k
  replace s := s.alloc (.cells #[.int .i64 n1, .int .i64 n2, .int .i64 n3] 58 (0, 0))
  replace t1 := t1.alloc (.cells #[.int .i64 n1, .int .i64 n2, .int .i64 n3] 58 (0, 0))
  have t2 := SpB.made 58 w2 n1 n2 n3
  replace kk := kk.alloc (.cells #[.int .i64 n1, .int .i64 n2, .int .i64 n3] 58 (0, 0))
  have x0 := s.c (i := 0) rfl
  have x1 := s.c (i := 1) rfl
  have x2 := s.c (i := 2) rfl
  have x3 := s.c (i := 3) rfl
  have x4 := s.c (i := 4) rfl
  have x5 := s.c (i := 5) rfl
  have x6 := s.c (i := 6) rfl
  have x7 := s.c (i := 7) rfl
  have x8 := s.c (i := 8) rfl
  have x9 := s.c (i := 9) rfl
  have x10 := s.c (i := 10) rfl
  have x11 := s.c (i := 11) rfl
  go_wp2_with fail
  with_reducible refine (qc1.out _ kk).mono ?_
  rintro e w3 ⟨rfl, k⟩
  replace s := s.kept k (by simp)
  clear x0 x1 x2 x3 x4 x5 x6 x7 x8 x9 x10 x11
  replace kk := kk.trans k
  replace t1 := t1.kept k (by simp)
  replace t2 := t2.kept k (by simp)
  clear k
  have x0 := s.c (i := 0) rfl
  have x1 := s.c (i := 1) rfl
  have x2 := s.c (i := 2) rfl
  have x3 := s.c (i := 3) rfl
  have x4 := s.c (i := 4) rfl
  have x5 := s.c (i := 5) rfl
  have x6 := s.c (i := 6) rfl
  have x7 := s.c (i := 7) rfl
  have x8 := s.c (i := 8) rfl
  have x9 := s.c (i := 9) rfl
  have x10 := s.c (i := 10) rfl
  have x11 := s.c (i := 11) rfl
  go_wp2_with fail
  with_reducible refine (qc2.out _ kk).mono ?_
  rintro e w4 ⟨rfl, k⟩
  replace s := s.kept k (by simp)
  clear x0 x1 x2 x3 x4 x5 x6 x7 x8 x9 x10 x11
  replace kk := kk.trans k
  replace t1 := t1.kept k (by simp)
  replace t2 := t2.kept k (by simp)
  clear k
  have x0 := s.c (i := 0) rfl
  have x1 := s.c (i := 1) rfl
  have x2 := s.c (i := 2) rfl
  have x3 := s.c (i := 3) rfl
  have x4 := s.c (i := 4) rfl
  have x5 := s.c (i := 5) rfl
  have x6 := s.c (i := 6) rfl
  have x7 := s.c (i := 7) rfl
  have x8 := s.c (i := 8) rfl
  have x9 := s.c (i := 9) rfl
  have x10 := s.c (i := 10) rfl
  have x11 := s.c (i := 11) rfl
  go_wp2_with fail
  with_reducible refine (qm1.out _ kk).mono ?_
  rintro e w5 ⟨rfl, k⟩
  replace s := s.kept k (by simp)
  clear x0 x1 x2 x3 x4 x5 x6 x7 x8 x9 x10 x11
  replace kk := kk.trans k
  replace t1 := t1.kept k (by simp)
  replace t2 := t2.kept k (by simp)
  clear k
  have x0 := s.c (i := 0) rfl
  have x1 := s.c (i := 1) rfl
  have x2 := s.c (i := 2) rfl
  have x3 := s.c (i := 3) rfl
  have x4 := s.c (i := 4) rfl
  have x5 := s.c (i := 5) rfl
  have x6 := s.c (i := 6) rfl
  have x7 := s.c (i := 7) rfl
  have x8 := s.c (i := 8) rfl
  have x9 := s.c (i := 9) rfl
  have x10 := s.c (i := 10) rfl
  have x11 := s.c (i := 11) rfl
  go_wp2_with fail
  with_reducible refine (qm2.out _ kk).mono ?_
  rintro e w6 ⟨rfl, k⟩
  replace s := s.kept k (by simp)
  clear x0 x1 x2 x3 x4 x5 x6 x7 x8 x9 x10 x11
  replace kk := kk.trans k
  replace t1 := t1.kept k (by simp)
  replace t2 := t2.kept k (by simp)
  clear k
  have x0 := s.c (i := 0) rfl
  have x1 := s.c (i := 1) rfl
  have x2 := s.c (i := 2) rfl
  have x3 := s.c (i := 3) rfl
  have x4 := s.c (i := 4) rfl
  have x5 := s.c (i := 5) rfl
  have x6 := s.c (i := 6) rfl
  have x7 := s.c (i := 7) rfl
  have x8 := s.c (i := 8) rfl
  have x9 := s.c (i := 9) rfl
  have x10 := s.c (i := 10) rfl
  have x11 := s.c (i := 11) rfl
  go_wp2_with fail
  with_reducible refine (qx1.out _ kk).mono ?_
  rintro e w7 ⟨rfl, k⟩
  replace s := s.kept k (by simp)
  clear x0 x1 x2 x3 x4 x5 x6 x7 x8 x9 x10 x11
  replace kk := kk.trans k
  replace t1 := t1.kept k (by simp)
  replace t2 := t2.kept k (by simp)
  clear k
  have x0 := s.c (i := 0) rfl
  have x1 := s.c (i := 1) rfl
  have x2 := s.c (i := 2) rfl
  have x3 := s.c (i := 3) rfl
  have x4 := s.c (i := 4) rfl
  have x5 := s.c (i := 5) rfl
  have x6 := s.c (i := 6) rfl
  have x7 := s.c (i := 7) rfl
  have x8 := s.c (i := 8) rfl
  have x9 := s.c (i := 9) rfl
  have x10 := s.c (i := 10) rfl
  have x11 := s.c (i := 11) rfl
  go_wp2_with fail
  with_reducible refine (qx2.out _ kk).mono ?_
  rintro e w8 ⟨rfl, k⟩
  replace s := s.kept k (by simp)
  clear x0 x1 x2 x3 x4 x5 x6 x7 x8 x9 x10 x11
  replace kk := kk.trans k
  replace t1 := t1.kept k (by simp)
  replace t2 := t2.kept k (by simp)
  clear k
  have x0 := s.c (i := 0) rfl
  have x1 := s.c (i := 1) rfl
  have x2 := s.c (i := 2) rfl
  have x3 := s.c (i := 3) rfl
  have x4 := s.c (i := 4) rfl
  have x5 := s.c (i := 5) rfl
  have x6 := s.c (i := 6) rfl
  have x7 := s.c (i := 7) rfl
  have x8 := s.c (i := 8) rfl
  have x9 := s.c (i := 9) rfl
  have x10 := s.c (i := 10) rfl
  have x11 := s.c (i := 11) rfl
  clear x0 x1 x2 x3 x4 x5 x6 x7 x8 x9 x10 x11
  clear s
  go_wp2_with fail
  with_reducible refine (aw.out _ kk).mono ?_
  rintro e w9 ⟨rfl, k⟩
  replace kk := kk.trans k
  replace t1 := t1.kept k (by simp)
  have t1c0 := t1.c0
  have t1c1 := t1.c1
  have t1c2 := t1.c2
  replace t2 := t2.kept k (by simp)
  have t2c0 := t2.c0
  have t2c1 := t2.c1
  have t2c2 := t2.c2
  clear k t1 t2
  go_wp2
  go_ret
  exact ⟨rfl, kk⟩

theorem Solids_any (ax ay az bx yb bz cx cy cz dx dy dz : Int) (w : World) (hT : Tab w) :
    Calls Tryz.prog 6 #[.agg #[.int .i64 ax, .int .i64 ay, .int .i64 az, .int .i64 bx, .int .i64 yb, .int .i64 bz, .int .i64 cx, .int .i64 cy, .int .i64 cz, .int .i64 dx, .int .i64 dy, .int .i64 dz]] w fun e w' => e = .returned (.bool true) ∧ Kp [] w w' :=
  solids_core ax ay az bx yb bz cx cy cz dx dy dz _ _ _ _ _ _ _ _ _ _ w (gw_of fun W => normal_p ax ay az bx yb bz cx cy cz W) (gw_of fun W => normal_r ax ay az bx yb bz cx cy cz W) (gw_of fun W => volume_p ax ay az bx yb bz cx cy cz dx dy dz W) (gw_of fun W => volume_r ax ay az bx yb bz cx cy cz dx dy dz W) (gw_of fun W => squareSpace_p ax ay az bx yb bz W) (gw_of fun W => squareSpace_r ax ay az bx yb bz W) (fun W k => toPlane_p dx dy dz ax ay az bx yb bz cx cy cz W (tab_kp hT k)) (gw_of fun W => toPlane_r dx dy dz ax ay az bx yb bz cx cy cz W) (fun W k => vawake W (tab_kp hT k))

end Go.Proofs.YtcgilcmhandgfaaGreatDoor
