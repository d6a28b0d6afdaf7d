/- Texts Vref7, Vref8, Vref9, Vec17, Vsol: each says in its own first comment what it proves. -/
import Derived.Test.YtegamkilhgekjaaGreatDoorM61
import Derived.Test.YtegamkilhgekjaaGreatDoorM59
import Derived.Test.YtegamkilhgekjaaGreatDoorM60
import Derived.Deep.RegionHeld3
import Derived.Test.YtegamkilhgekjaaGreatDoorM62
import Derived.Laws.StructEq
/- The reference of layer 7 in space: RightSpot, Less, TimesSpace, Vector, FarSpace, Across, Six. -/
namespace Go.Proofs.YtegamkilhgekjaaGreatDoor
open Go.RowKit
open Go.Lib (nDigits itoa decDigits)

set_option maxRecDepth 100000 in
set_option maxHeartbeats 4000000 in
theorem rRightS_0 (ax ay az : Int) (w : World)
    (q0 : Hid (Gw w 119 #[.int .i64 ax] (.bool false))) :
    Calls Tryz.prog 80 #[.agg #[.int .i64 ax, .int .i64 ay, .int .i64 az]] w fun e w' => e = .returned (.bool false) ∧ Kp [] w w' := by
  unfold Gw at q0
  have sa := SpB.made 56 w ax ay az
  have kk : Kp [] w (w.alloc (.cells #[.int .i64 ax, .int .i64 ay, .int .i64 az] 56 (0, 0))) := (Kp.refl _ _).alloc _
  have xa0 := sa.c0
  have xa1 := sa.c1
  have xa2 := sa.c2
  go_enter Tryz.func80, Tryz.ntmps80
  go_wp2_with fail
  with_reducible refine (q0.out _ kk).mono ?_
  rintro e w1 ⟨rfl, k⟩
  replace sa := sa.kept k (by simp)
  clear xa0 xa1 xa2
  have xa0 := sa.c0
  have xa1 := sa.c1
  have xa2 := sa.c2
  replace kk := kk.trans k
  clear k
  clear sa xa0 xa1 xa2
  go_wp2
  go_ret
  exact ⟨rfl, kk⟩

set_option maxRecDepth 100000 in
set_option maxHeartbeats 4000000 in
theorem rRightS_1 (ax ay az : Int) (w : World)
    (q0 : Hid (Gw w 119 #[.int .i64 ax] (.bool true)))
    (q1 : Hid (Gw w 119 #[.int .i64 ay] (.bool false))) :
    Calls Tryz.prog 80 #[.agg #[.int .i64 ax, .int .i64 ay, .int .i64 az]] w fun e w' => e = .returned (.bool false) ∧ Kp [] w w' := by
  unfold Gw at q0 q1
  have sa := SpB.made 56 w ax ay az
  have kk : Kp [] w (w.alloc (.cells #[.int .i64 ax, .int .i64 ay, .int .i64 az] 56 (0, 0))) := (Kp.refl _ _).alloc _
  have xa0 := sa.c0
  have xa1 := sa.c1
  have xa2 := sa.c2
  go_enter Tryz.func80, Tryz.ntmps80
  go_wp2_with fail
  with_reducible refine (q0.out _ kk).mono ?_
  rintro e w1 ⟨rfl, k⟩
  replace sa := sa.kept k (by simp)
  clear xa0 xa1 xa2
  have xa0 := sa.c0
  have xa1 := sa.c1
  have xa2 := sa.c2
  replace kk := kk.trans k
  clear k
  go_wp2_with fail
  with_reducible refine (q1.out _ kk).mono ?_
  rintro e w2 ⟨rfl, k⟩
  replace sa := sa.kept k (by simp)
  clear xa0 xa1 xa2
  have xa0 := sa.c0
  have xa1 := sa.c1
  have xa2 := sa.c2
  replace kk := kk.trans k
  clear k
  clear sa xa0 xa1 xa2
  go_wp2
  go_ret
  exact ⟨rfl, kk⟩

set_option maxRecDepth 100000 in
set_option maxHeartbeats 4000000 in
theorem rRightS_2 (ax ay az : Int) (w : World)
    (q0 : Hid (Gw w 119 #[.int .i64 ax] (.bool true)))
    (q1 : Hid (Gw w 119 #[.int .i64 ay] (.bool true)))
    (q2 : Hid (Gw w 119 #[.int .i64 az] (.bool false))) :
    Calls Tryz.prog 80 #[.agg #[.int .i64 ax, .int .i64 ay, .int .i64 az]] w fun e w' => e = .returned (.bool false) ∧ Kp [] w w' := by
  unfold Gw at q0 q1 q2
  have sa := SpB.made 56 w ax ay az
  have kk : Kp [] w (w.alloc (.cells #[.int .i64 ax, .int .i64 ay, .int .i64 az] 56 (0, 0))) := (Kp.refl _ _).alloc _
  have xa0 := sa.c0
  have xa1 := sa.c1
  have xa2 := sa.c2
  go_enter Tryz.func80, Tryz.ntmps80
  go_wp2_with fail
  with_reducible refine (q0.out _ kk).mono ?_
  rintro e w1 ⟨rfl, k⟩
  replace sa := sa.kept k (by simp)
  clear xa0 xa1 xa2
  have xa0 := sa.c0
  have xa1 := sa.c1
  have xa2 := sa.c2
  replace kk := kk.trans k
  clear k
  go_wp2_with fail
  with_reducible refine (q1.out _ kk).mono ?_
  rintro e w2 ⟨rfl, k⟩
  replace sa := sa.kept k (by simp)
  clear xa0 xa1 xa2
  have xa0 := sa.c0
  have xa1 := sa.c1
  have xa2 := sa.c2
  replace kk := kk.trans k
  clear k
  go_wp2_with fail
  with_reducible refine (q2.out _ kk).mono ?_
  rintro e w3 ⟨rfl, k⟩
  replace sa := sa.kept k (by simp)
  clear xa0 xa1 xa2
  have xa0 := sa.c0
  have xa1 := sa.c1
  have xa2 := sa.c2
  replace kk := kk.trans k
  clear k
  clear sa xa0 xa1 xa2
  go_wp2
  go_ret
  exact ⟨rfl, kk⟩

set_option maxRecDepth 100000 in
set_option maxHeartbeats 4000000 in
theorem rRightS_3 (ax ay az : Int) (w : World)
    (q0 : Hid (Gw w 119 #[.int .i64 ax] (.bool true)))
    (q1 : Hid (Gw w 119 #[.int .i64 ay] (.bool true)))
    (q2 : Hid (Gw w 119 #[.int .i64 az] (.bool true))) :
    Calls Tryz.prog 80 #[.agg #[.int .i64 ax, .int .i64 ay, .int .i64 az]] w fun e w' => e = .returned (.bool true) ∧ Kp [] w w' := by
  unfold Gw at q0 q1 q2
  have sa := SpB.made 56 w ax ay az
  have kk : Kp [] w (w.alloc (.cells #[.int .i64 ax, .int .i64 ay, .int .i64 az] 56 (0, 0))) := (Kp.refl _ _).alloc _
  have xa0 := sa.c0
  have xa1 := sa.c1
  have xa2 := sa.c2
  go_enter Tryz.func80, Tryz.ntmps80
  go_wp2_with fail
  with_reducible refine (q0.out _ kk).mono ?_
  rintro e w1 ⟨rfl, k⟩
  replace sa := sa.kept k (by simp)
  clear xa0 xa1 xa2
  have xa0 := sa.c0
  have xa1 := sa.c1
  have xa2 := sa.c2
  replace kk := kk.trans k
  clear k
  go_wp2_with fail
  with_reducible refine (q1.out _ kk).mono ?_
  rintro e w2 ⟨rfl, k⟩
  replace sa := sa.kept k (by simp)
  clear xa0 xa1 xa2
  have xa0 := sa.c0
  have xa1 := sa.c1
  have xa2 := sa.c2
  replace kk := kk.trans k
  clear k
  go_wp2_with fail
  with_reducible refine (q2.out _ kk).mono ?_
  rintro e w3 ⟨rfl, k⟩
  replace sa := sa.kept k (by simp)
  clear xa0 xa1 xa2
  have xa0 := sa.c0
  have xa1 := sa.c1
  have xa2 := sa.c2
  replace kk := kk.trans k
  clear k
  clear sa xa0 xa1 xa2
  go_wp2
  go_ret
  exact ⟨rfl, kk⟩

theorem rrightS (ax ay az : Int) (w : World) : Calls Tryz.prog 80 #[.agg #[.int .i64 ax, .int .i64 ay, .int .i64 az]] w fun e w' => e = .returned (.bool (inS ⟨ax, ay, az⟩)) ∧ Kp [] w w' := by
  have e : inS ⟨ax, ay, az⟩ = (inB ax && inB ay && inB az) := rfl
  rw [e]
  have g : ∀ (z : Int) (b : Bool), inB z = b → Hid (Gw w 119 #[.int .i64 z] (.bool b)) := fun z b h => gw_of fun W => by
    have q := rin7 z W
    rwa [h] at q
  cases h1 : inB ax with
  | false => exact rRightS_0 ax ay az w (g _ _ h1)
  | true =>
    cases h2 : inB ay with
    | false => exact rRightS_1 ax ay az w (g _ _ h1) (g _ _ h2)
    | true =>
      cases h3 : inB az with
      | false => exact rRightS_2 ax ay az w (g _ _ h1) (g _ _ h2) (g _ _ h3)
      | true => exact rRightS_3 ax ay az w (g _ _ h1) (g _ _ h2) (g _ _ h3)

set_option maxRecDepth 100000 in
set_option maxHeartbeats 4000000 in
theorem rTimesS (ax ay az bx yb bz : Int) (w : World) (hax : ax.natAbs ≤ 1000000000000) (hay : ay.natAbs ≤ 1000000000000) (haz : az.natAbs ≤ 1000000000000) (hbx : bx.natAbs ≤ 1000000) (hyb : yb.natAbs ≤ 1000000) (hbz : bz.natAbs ≤ 1000000) :
    Calls Tryz.prog 124 #[.agg #[.int .i64 ax, .int .i64 ay, .int .i64 az], .agg #[.int .i64 bx, .int .i64 yb, .int .i64 bz]] w fun e w' => e = .returned (.int .i64 (ax * bx + ay * yb + az * bz)) ∧ Kp [] w w' := by
  have m0 := mul_bd hax hbx
  have m1 := mul_bd hay hyb
  have m2 := mul_bd haz hbz
  have p0 : -1000000000000000000 ≤ ax * bx ∧ ax * bx ≤ 1000000000000000000 := by omega
  have p1 : -1000000000000000000 ≤ ay * yb ∧ ay * yb ≤ 1000000000000000000 := by omega
  have p2 : -1000000000000000000 ≤ az * bz ∧ az * bz ≤ 1000000000000000000 := by omega
  obtain ⟨p01, p02⟩ := p0
  obtain ⟨p11, p12⟩ := p1
  obtain ⟨p21, p22⟩ := p2
  clear hax hay haz hbx hyb hbz m0 m1 m2
  have s0 := (SpB.made 56 w ax ay az).alloc (.cells #[.int .i64 bx, .int .i64 yb, .int .i64 bz] 56 (0, 0))
  have s1 := SpB.made 56 (w.alloc (.cells #[.int .i64 ax, .int .i64 ay, .int .i64 az] 56 (0, 0))) bx yb bz
  simp only [World.size_alloc] at s1
  have c0 := s0.c0
  have d0 := s1.c0
  have c1 := s0.c1
  have d1 := s1.c1
  have c2 := s0.c2
  have d2 := s1.c2
  clear s0 s1
  have kk : Kp [] w ((w.alloc (.cells #[.int .i64 ax, .int .i64 ay, .int .i64 az] 56 (0, 0))).alloc (.cells #[.int .i64 bx, .int .i64 yb, .int .i64 bz] 56 (0, 0))) := ((Kp.refl [] w).alloc _).alloc _
  go_enter Tryz.func124, Tryz.ntmps124
  go_wp2
  go_ret
  exact ⟨rfl, kk⟩

set_option maxRecDepth 100000 in
set_option maxHeartbeats 4000000 in
theorem rVectorS (ax ay az bx yb bz : Int) (w : World) (hax : ax.natAbs ≤ 1000000) (hay : ay.natAbs ≤ 1000000) (haz : az.natAbs ≤ 1000000) (hbx : bx.natAbs ≤ 1000000) (hyb : yb.natAbs ≤ 1000000) (hbz : bz.natAbs ≤ 1000000) :
    Calls Tryz.prog 122 #[.agg #[.int .i64 ax, .int .i64 ay, .int .i64 az], .agg #[.int .i64 bx, .int .i64 yb, .int .i64 bz]] w fun e w' => e = .returned (.agg #[.int .i64 (ay * bz - az * yb), .int .i64 (az * bx - ax * bz), .int .i64 (ax * yb - ay * bx)]) ∧ Kp [] w w' := by
  have m0 := mul_bd hay hbz
  have m1 := mul_bd haz hyb
  have m2 := mul_bd haz hbx
  have m3 := mul_bd hax hbz
  have m4 := mul_bd hax hyb
  have m5 := mul_bd hay hbx
  have p0 : -1000000000000 ≤ ay * bz ∧ ay * bz ≤ 1000000000000 := by omega
  have p1 : -1000000000000 ≤ az * yb ∧ az * yb ≤ 1000000000000 := by omega
  have p2 : -1000000000000 ≤ az * bx ∧ az * bx ≤ 1000000000000 := by omega
  have p3 : -1000000000000 ≤ ax * bz ∧ ax * bz ≤ 1000000000000 := by omega
  have p4 : -1000000000000 ≤ ax * yb ∧ ax * yb ≤ 1000000000000 := by omega
  have p5 : -1000000000000 ≤ ay * bx ∧ ay * bx ≤ 1000000000000 := by omega
  obtain ⟨p01, p02⟩ := p0
  obtain ⟨p11, p12⟩ := p1
  obtain ⟨p21, p22⟩ := p2
  obtain ⟨p31, p32⟩ := p3
  obtain ⟨p41, p42⟩ := p4
  obtain ⟨p51, p52⟩ := p5
  clear hax hay haz hbx hyb hbz m0 m1 m2 m3 m4 m5
  have s0 := (SpB.made 56 w ax ay az).alloc (.cells #[.int .i64 bx, .int .i64 yb, .int .i64 bz] 56 (0, 0))
  have s1 := SpB.made 56 (w.alloc (.cells #[.int .i64 ax, .int .i64 ay, .int .i64 az] 56 (0, 0))) bx yb bz
  simp only [World.size_alloc] at s1
  replace s0 := s0.alloc (.cells #[.int .i64 0, .int .i64 0, .int .i64 0] 56 (0, 0))
  replace s1 := s1.alloc (.cells #[.int .i64 0, .int .i64 0, .int .i64 0] 56 (0, 0))
  have c0 := s0.c0
  have d0 := s1.c0
  have c1 := s0.c1
  have d1 := s1.c1
  have c2 := s0.c2
  have d2 := s1.c2
  clear s0 s1
  have kk : Kp [] w (((w.alloc (.cells #[.int .i64 ax, .int .i64 ay, .int .i64 az] 56 (0, 0))).alloc (.cells #[.int .i64 bx, .int .i64 yb, .int .i64 bz] 56 (0, 0))).alloc (.cells #[.int .i64 (ay * bz - az * yb), .int .i64 (az * bx - ax * bz), .int .i64 (ax * yb - ay * bx)] 56 (0, 0))) := (((Kp.refl [] w).alloc _).alloc _).alloc _
  go_enter Tryz.func122, Tryz.ntmps122
  go_wp2
  refine bodyPost_ret (v := .agg #[.int .i64 (ay * bz - az * yb), .int .i64 (az * bx - ax * bz), .int .i64 (ax * yb - ay * bx)]) (by simp [results, Tryz.results122, go_sem]) rfl ?_
  exact ⟨rfl, kk⟩

set_option maxRecDepth 100000 in
set_option maxHeartbeats 4000000 in
theorem rLessS (ax ay az bx yb bz : Int) (w : World) (hax : ax.natAbs ≤ 1000000) (hay : ay.natAbs ≤ 1000000) (haz : az.natAbs ≤ 1000000) (hbx : bx.natAbs ≤ 1000000) (hyb : yb.natAbs ≤ 1000000) (hbz : bz.natAbs ≤ 1000000) :
    Calls Tryz.prog 123 #[.agg #[.int .i64 ax, .int .i64 ay, .int .i64 az], .agg #[.int .i64 bx, .int .i64 yb, .int .i64 bz]] w fun e w' => e = .returned (.agg #[.int .i64 (ax - bx), .int .i64 (ay - yb), .int .i64 (az - bz)]) ∧ Kp [] w w' := by
  have bax : -1000000 ≤ ax ∧ ax ≤ 1000000 := by omega
  have bay : -1000000 ≤ ay ∧ ay ≤ 1000000 := by omega
  have baz : -1000000 ≤ az ∧ az ≤ 1000000 := by omega
  have bbx : -1000000 ≤ bx ∧ bx ≤ 1000000 := by omega
  have byb : -1000000 ≤ yb ∧ yb ≤ 1000000 := by omega
  have bbz : -1000000 ≤ bz ∧ bz ≤ 1000000 := by omega
  obtain ⟨bax1, bax2⟩ := bax
  obtain ⟨bay1, bay2⟩ := bay
  obtain ⟨baz1, baz2⟩ := baz
  obtain ⟨bbx1, bbx2⟩ := bbx
  obtain ⟨byb1, byb2⟩ := byb
  obtain ⟨bbz1, bbz2⟩ := bbz
  clear hax hay haz hbx hyb hbz
  have s0 := (SpB.made 56 w ax ay az).alloc (.cells #[.int .i64 bx, .int .i64 yb, .int .i64 bz] 56 (0, 0))
  have s1 := SpB.made 56 (w.alloc (.cells #[.int .i64 ax, .int .i64 ay, .int .i64 az] 56 (0, 0))) bx yb bz
  simp only [World.size_alloc] at s1
  replace s0 := s0.alloc (.cells #[.int .i64 0, .int .i64 0, .int .i64 0] 56 (0, 0))
  replace s1 := s1.alloc (.cells #[.int .i64 0, .int .i64 0, .int .i64 0] 56 (0, 0))
  have c0 := s0.c0
  have d0 := s1.c0
  have c1 := s0.c1
  have d1 := s1.c1
  have c2 := s0.c2
  have d2 := s1.c2
  clear s0 s1
  have kk : Kp [] w (((w.alloc (.cells #[.int .i64 ax, .int .i64 ay, .int .i64 az] 56 (0, 0))).alloc (.cells #[.int .i64 bx, .int .i64 yb, .int .i64 bz] 56 (0, 0))).alloc (.cells #[.int .i64 (ax - bx), .int .i64 (ay - yb), .int .i64 (az - bz)] 56 (0, 0))) := (((Kp.refl [] w).alloc _).alloc _).alloc _
  go_enter Tryz.func123, Tryz.ntmps123
  go_wp2
  refine bodyPost_ret (v := .agg #[.int .i64 (ax - bx), .int .i64 (ay - yb), .int .i64 (az - bz)]) (by simp [results, Tryz.results123, go_sem]) rfl ?_
  exact ⟨rfl, kk⟩

def vrsx_s : RSt := ⟨9, 17, 3, fun i => ([9, 10, 11, 12, 13, 14, 15, 16, 8] : List Nat).getD i 0, fun i => ([0, 0, 0, 1, 0, 0, 1, 1, 0] : List Nat).getD i 0, fun i => ([0, 0, 0, 0, 0, 0, 1, 2, 0] : List Nat).getD i 0, fun i => ([9, 9, 9, 9, 9, 9, 9, 9, 8, 0, 1, 2, 3, 4, 5, 6, 7, 9] : List Nat).getD i 9, fun i => ([3, 6, 7] : List Nat).getD i 0, fun _ => false, fun _ => true, fun _ => 0, fun _ => false⟩
def vrsx_y : RSy := ⟨vrsx_s, fun i => ([.at 4, .at 5, .at 6, .at 7, .at 8, .at 4, .at 9, .at 10, .at 10] : List SV).getD i .un, [(4, .at 0), (5, .at 1), (6, .at 2), (7, .at 3)], fun i => ([false, false, false, true, false, false, true, true, false] : List Bool).getD i false⟩
def vrsx_ca : List (Nat × Nat × List SV) := [(3, 95, [.at 4, .at 5, .at 6]), (6, 123, [.at 8, .at 4]), (7, 124, [.at 7, .at 9])]
theorem vrsx_ok : reflOk (opsOf 1 Tryz.f97) vrsx_y [0, 1, 2, 4, 5] vrsx_ca [] [] = true := by kernel_rfl
set_option maxRecDepth 100000 in
set_option maxHeartbeats 4000000 in
theorem rSix (ax ay az bx yb bz cx cy cz dx dy dz nx ny nz ux uy uz v : Int) (w : World)
    (q1 : Hid (Gw w 95 #[.agg #[.int .i64 ax, .int .i64 ay, .int .i64 az], .agg #[.int .i64 bx, .int .i64 yb, .int .i64 bz], .agg #[.int .i64 cx, .int .i64 cy, .int .i64 cz]] (.agg #[.int .i64 nx, .int .i64 ny, .int .i64 nz])))
    (q2 : Hid (Gw w 123 #[.agg #[.int .i64 dx, .int .i64 dy, .int .i64 dz], .agg #[.int .i64 ax, .int .i64 ay, .int .i64 az]] (.agg #[.int .i64 ux, .int .i64 uy, .int .i64 uz])))
    (q3 : Hid (Gw w 124 #[.agg #[.int .i64 nx, .int .i64 ny, .int .i64 nz], .agg #[.int .i64 ux, .int .i64 uy, .int .i64 uz]] (.int .i64 v))) :
    Calls Tryz.prog 97 #[.agg #[.int .i64 ax, .int .i64 ay, .int .i64 az], .agg #[.int .i64 bx, .int .i64 yb, .int .i64 bz], .agg #[.int .i64 cx, .int .i64 cy, .int .i64 cz], .agg #[.int .i64 dx, .int .i64 dy, .int .i64 dz]] w fun e w' => e = .returned (.int .i64 v) ∧ Kp [] w w' := by
  unfold Gw at q1 q2 q3
  have sa := SpB.made 56 w ax ay az
  replace sa := sa.alloc (.cells #[.int .i64 bx, .int .i64 yb, .int .i64 bz] 56 (0, 0))
  replace sa := sa.alloc (.cells #[.int .i64 cx, .int .i64 cy, .int .i64 cz] 56 (0, 0))
  replace sa := sa.alloc (.cells #[.int .i64 dx, .int .i64 dy, .int .i64 dz] 56 (0, 0))
  have sb := SpB.made 56 (w.alloc (.cells #[.int .i64 ax, .int .i64 ay, .int .i64 az] 56 (0, 0))) bx yb bz
  replace sb := sb.alloc (.cells #[.int .i64 cx, .int .i64 cy, .int .i64 cz] 56 (0, 0))
  replace sb := sb.alloc (.cells #[.int .i64 dx, .int .i64 dy, .int .i64 dz] 56 (0, 0))
  have sc := SpB.made 56 ((w.alloc (.cells #[.int .i64 ax, .int .i64 ay, .int .i64 az] 56 (0, 0))).alloc (.cells #[.int .i64 bx, .int .i64 yb, .int .i64 bz] 56 (0, 0))) cx cy cz
  replace sc := sc.alloc (.cells #[.int .i64 dx, .int .i64 dy, .int .i64 dz] 56 (0, 0))
  have sd := SpB.made 56 (((w.alloc (.cells #[.int .i64 ax, .int .i64 ay, .int .i64 az] 56 (0, 0))).alloc (.cells #[.int .i64 bx, .int .i64 yb, .int .i64 bz] 56 (0, 0))).alloc (.cells #[.int .i64 cx, .int .i64 cy, .int .i64 cz] 56 (0, 0))) dx dy dz
  simp only [World.size_alloc] at *
  have kk : Kp [] w ((((w.alloc (.cells #[.int .i64 ax, .int .i64 ay, .int .i64 az] 56 (0, 0))).alloc (.cells #[.int .i64 bx, .int .i64 yb, .int .i64 bz] 56 (0, 0))).alloc (.cells #[.int .i64 cx, .int .i64 cy, .int .i64 cz] 56 (0, 0))).alloc (.cells #[.int .i64 dx, .int .i64 dy, .int .i64 dz] 56 (0, 0))) := ((((Kp.refl _ _).alloc _).alloc _).alloc _).alloc _
  have xa0 := sa.c0
  have xa1 := sa.c1
  have xa2 := sa.c2
  have xb0 := sb.c0
  have xb1 := sb.c1
  have xb2 := sb.c2
  have xc0 := sc.c0
  have xc1 := sc.c1
  have xc2 := sc.c2
  have xd0 := sd.c0
  have xd1 := sd.c1
  have xd2 := sd.c2
  go_enter Tryz.func97, Tryz.ntmps97
  go_wp2_with fail
  rw [frame_lit]
  refine reg_refl vrsx_y (fun k => ([.pointer (some ⟨w.heap.size, 0, none⟩), .pointer (some ⟨w.heap.size + 1, 0, none⟩), .pointer (some ⟨w.heap.size + 1 + 1, 0, none⟩), .pointer (some ⟨w.heap.size + 1 + 1 + 1, 0, none⟩), .agg #[.int .i64 ax, .int .i64 ay, .int .i64 az], .agg #[.int .i64 bx, .int .i64 yb, .int .i64 bz], .agg #[.int .i64 cx, .int .i64 cy, .int .i64 cz], .agg #[.int .i64 nx, .int .i64 ny, .int .i64 nz], .agg #[.int .i64 dx, .int .i64 dy, .int .i64 dz], .agg #[.int .i64 ux, .int .i64 uy, .int .i64 uz], .int .i64 v] : List Value).getD k undef) [] (fun _ _ _ => True) (opsOf 1 Tryz.f97) [0, 1, 2, 4, 5] vrsx_ca [] [] (by kernel_rfl) (by kernel_rfl) vrsx_ok ⟨rfl, rfl, rfl, rfl, trivial⟩ ?sp ?ca ?cx (by decide) ?fr (fun _ _ _ _ h _ => h) ?rest
  case sp =>
    refine ⟨?_, ?_, ?_, ?_, ?_, trivial⟩
    · intro T wz H o ho; have he : o.op = .load 56 (.tmp 4) := Option.some.inj ((congrArg (fun z => z.map Oper.op) ho).symm.trans (show ((opsOf 1 Tryz.f97)[0]?).map Oper.op = some (.load 56 (.tmp 4)) by kernel_rfl)); exact op_ldSp he (H.ev (.tmp 4) (.at 0) (by kernel_rfl)) (SpB.kept (L := []) (show SpB 56 (World.drew ((((w.alloc (.cells #[.int .i64 ax, .int .i64 ay, .int .i64 az] 56 (0, 0))).alloc (.cells #[.int .i64 bx, .int .i64 yb, .int .i64 bz] 56 (0, 0))).alloc (.cells #[.int .i64 cx, .int .i64 cy, .int .i64 cz] 56 (0, 0))).alloc (.cells #[.int .i64 dx, .int .i64 dy, .int .i64 dz] 56 (0, 0)))) _ _ _ _ from sa) H.kp (by simp))
    · intro T wz H o ho; have he : o.op = .load 56 (.tmp 5) := Option.some.inj ((congrArg (fun z => z.map Oper.op) ho).symm.trans (show ((opsOf 1 Tryz.f97)[1]?).map Oper.op = some (.load 56 (.tmp 5)) by kernel_rfl)); exact op_ldSp he (H.ev (.tmp 5) (.at 1) (by kernel_rfl)) (SpB.kept (L := []) (show SpB 56 (World.drew ((((w.alloc (.cells #[.int .i64 ax, .int .i64 ay, .int .i64 az] 56 (0, 0))).alloc (.cells #[.int .i64 bx, .int .i64 yb, .int .i64 bz] 56 (0, 0))).alloc (.cells #[.int .i64 cx, .int .i64 cy, .int .i64 cz] 56 (0, 0))).alloc (.cells #[.int .i64 dx, .int .i64 dy, .int .i64 dz] 56 (0, 0)))) _ _ _ _ from sb) H.kp (by simp))
    · intro T wz H o ho; have he : o.op = .load 56 (.tmp 6) := Option.some.inj ((congrArg (fun z => z.map Oper.op) ho).symm.trans (show ((opsOf 1 Tryz.f97)[2]?).map Oper.op = some (.load 56 (.tmp 6)) by kernel_rfl)); exact op_ldSp he (H.ev (.tmp 6) (.at 2) (by kernel_rfl)) (SpB.kept (L := []) (show SpB 56 (World.drew ((((w.alloc (.cells #[.int .i64 ax, .int .i64 ay, .int .i64 az] 56 (0, 0))).alloc (.cells #[.int .i64 bx, .int .i64 yb, .int .i64 bz] 56 (0, 0))).alloc (.cells #[.int .i64 cx, .int .i64 cy, .int .i64 cz] 56 (0, 0))).alloc (.cells #[.int .i64 dx, .int .i64 dy, .int .i64 dz] 56 (0, 0)))) _ _ _ _ from sc) H.kp (by simp))
    · intro T wz H o ho; have he : o.op = .load 56 (.tmp 7) := Option.some.inj ((congrArg (fun z => z.map Oper.op) ho).symm.trans (show ((opsOf 1 Tryz.f97)[4]?).map Oper.op = some (.load 56 (.tmp 7)) by kernel_rfl)); exact op_ldSp he (H.ev (.tmp 7) (.at 3) (by kernel_rfl)) (SpB.kept (L := []) (show SpB 56 (World.drew ((((w.alloc (.cells #[.int .i64 ax, .int .i64 ay, .int .i64 az] 56 (0, 0))).alloc (.cells #[.int .i64 bx, .int .i64 yb, .int .i64 bz] 56 (0, 0))).alloc (.cells #[.int .i64 cx, .int .i64 cy, .int .i64 cz] 56 (0, 0))).alloc (.cells #[.int .i64 dx, .int .i64 dy, .int .i64 dz] 56 (0, 0)))) _ _ _ _ from sd) H.kp (by simp))
    · intro T wz H o ho; have he : o.op = .load 56 (.tmp 4) := Option.some.inj ((congrArg (fun z => z.map Oper.op) ho).symm.trans (show ((opsOf 1 Tryz.f97)[5]?).map Oper.op = some (.load 56 (.tmp 4)) by kernel_rfl)); exact op_ldSp he (H.ev (.tmp 4) (.at 0) (by kernel_rfl)) (SpB.kept (L := []) (show SpB 56 (World.drew ((((w.alloc (.cells #[.int .i64 ax, .int .i64 ay, .int .i64 az] 56 (0, 0))).alloc (.cells #[.int .i64 bx, .int .i64 yb, .int .i64 bz] 56 (0, 0))).alloc (.cells #[.int .i64 cx, .int .i64 cy, .int .i64 cz] 56 (0, 0))).alloc (.cells #[.int .i64 dx, .int .i64 dy, .int .i64 dz] 56 (0, 0)))) _ _ _ _ from sa) H.kp (by simp))
  case ca =>
    refine ⟨?_, ?_, ?_, trivial⟩
    · exact ⟨(enters_of Tryz.func95 (by kernel_rfl) rfl), fun wz hk => (q1.out wz (kk.drew.trans hk)).mono fun x w2 ⟨h1, h2⟩ => ⟨_, h1, h2, fun _ => rfl⟩⟩
    · exact ⟨(enters_of Tryz.func123 (by kernel_rfl) rfl), fun wz hk => (q2.out wz (kk.drew.trans hk)).mono fun x w2 ⟨h1, h2⟩ => ⟨_, h1, h2, fun _ => rfl⟩⟩
    · exact ⟨(enters_of Tryz.func124 (by kernel_rfl) rfl), fun wz hk => (q3.out wz (kk.drew.trans hk)).mono fun x w2 ⟨h1, h2⟩ => ⟨_, h1, h2, fun _ => rfl⟩⟩
  case cx =>
    exact trivial
  case fr =>
    exact trivial
  case rest =>
    intro T w1 hout hval k hF
    rw [show frameOf vrsx_y.st.N T = (⟨#[T 0, T 1, T 2, T 3, T 4, T 5, T 6, T 7, T 8, T 9, T 10, T 11, T 12, T 13, T 14, T 15, T 16], []⟩ : Act) from frame_list 17 T]
    rw [show T 8 = .int .i64 v from hval 8 (by decide : 8 < 9) (.inl rfl)]
    replace sa := sa.kept k (by simp)
    replace sb := sb.kept k (by simp)
    replace sc := sc.kept k (by simp)
    replace sd := sd.kept k (by simp)
    clear xa0 xa1 xa2 xb0 xb1 xb2 xc0 xc1 xc2 xd0 xd1 xd2
    have xa0 := sa.c0
    have xa1 := sa.c1
    have xa2 := sa.c2
    have xb0 := sb.c0
    have xb1 := sb.c1
    have xb2 := sb.c2
    have xc0 := sc.c0
    have xc1 := sc.c1
    have xc2 := sc.c2
    have xd0 := sd.c0
    have xd1 := sd.c1
    have xd2 := sd.c2
    replace kk := kk.trans k
    clear k hout hval hF
    clear sa sb sc sd xa0 xa1 xa2 xb0 xb1 xb2 xc0 xc1 xc2 xd0 xd1 xd2
    go_wp2
    go_ret
    exact ⟨rfl, kk⟩

set_option maxRecDepth 100000 in
set_option maxHeartbeats 4000000 in
theorem rAcross (ax ay az bx yb bz cx cy cz ux uy uz vx vy vz nx ny nz : Int) (w : World)
    (q1 : Hid (Gw w 123 #[.agg #[.int .i64 bx, .int .i64 yb, .int .i64 bz], .agg #[.int .i64 ax, .int .i64 ay, .int .i64 az]] (.agg #[.int .i64 ux, .int .i64 uy, .int .i64 uz])))
    (q2 : Hid (Gw w 123 #[.agg #[.int .i64 cx, .int .i64 cy, .int .i64 cz], .agg #[.int .i64 ax, .int .i64 ay, .int .i64 az]] (.agg #[.int .i64 vx, .int .i64 vy, .int .i64 vz])))
    (q3 : Hid (Gw w 122 #[.agg #[.int .i64 ux, .int .i64 uy, .int .i64 uz], .agg #[.int .i64 vx, .int .i64 vy, .int .i64 vz]] (.agg #[.int .i64 nx, .int .i64 ny, .int .i64 nz]))) :
    Calls Tryz.prog 95 #[.agg #[.int .i64 ax, .int .i64 ay, .int .i64 az], .agg #[.int .i64 bx, .int .i64 yb, .int .i64 bz], .agg #[.int .i64 cx, .int .i64 cy, .int .i64 cz]] w fun e w' => e = .returned (.agg #[.int .i64 nx, .int .i64 ny, .int .i64 nz]) ∧ Kp [] w w' := by
  have ha := SpB.made 56 w ax ay az
  replace ha := ha.alloc (.cells #[.int .i64 bx, .int .i64 yb, .int .i64 bz] 56 (0, 0))
  replace ha := ha.alloc (.cells #[.int .i64 cx, .int .i64 cy, .int .i64 cz] 56 (0, 0))
  have hb := SpB.made 56 (w.alloc (.cells #[.int .i64 ax, .int .i64 ay, .int .i64 az] 56 (0, 0))) bx yb bz
  replace hb := hb.alloc (.cells #[.int .i64 cx, .int .i64 cy, .int .i64 cz] 56 (0, 0))
  have hc := SpB.made 56 ((w.alloc (.cells #[.int .i64 ax, .int .i64 ay, .int .i64 az] 56 (0, 0))).alloc (.cells #[.int .i64 bx, .int .i64 yb, .int .i64 bz] 56 (0, 0))) cx cy cz
  have hz := SpB.made 56 (((w.alloc (.cells #[.int .i64 ax, .int .i64 ay, .int .i64 az] 56 (0, 0))).alloc (.cells #[.int .i64 bx, .int .i64 yb, .int .i64 bz] 56 (0, 0))).alloc (.cells #[.int .i64 cx, .int .i64 cy, .int .i64 cz] 56 (0, 0))) 0 0 0
  simp only [World.size_alloc] at ha hb hc hz
  have sa0 : SpB 56 (World.drew ((((w.alloc (.cells #[.int .i64 ax, .int .i64 ay, .int .i64 az] 56 (0, 0))).alloc (.cells #[.int .i64 bx, .int .i64 yb, .int .i64 bz] 56 (0, 0))).alloc (.cells #[.int .i64 cx, .int .i64 cy, .int .i64 cz] 56 (0, 0))).alloc (.cells #[.int .i64 0, .int .i64 0, .int .i64 0] 56 (0, 0)))) (w.heap.size) ax ay az := ha.alloc (.cells #[.int .i64 0, .int .i64 0, .int .i64 0] 56 (0, 0))
  have sb0 : SpB 56 (World.drew ((((w.alloc (.cells #[.int .i64 ax, .int .i64 ay, .int .i64 az] 56 (0, 0))).alloc (.cells #[.int .i64 bx, .int .i64 yb, .int .i64 bz] 56 (0, 0))).alloc (.cells #[.int .i64 cx, .int .i64 cy, .int .i64 cz] 56 (0, 0))).alloc (.cells #[.int .i64 0, .int .i64 0, .int .i64 0] 56 (0, 0)))) (w.heap.size + 1) bx yb bz := hb.alloc (.cells #[.int .i64 0, .int .i64 0, .int .i64 0] 56 (0, 0))
  have sc0 : SpB 56 (World.drew ((((w.alloc (.cells #[.int .i64 ax, .int .i64 ay, .int .i64 az] 56 (0, 0))).alloc (.cells #[.int .i64 bx, .int .i64 yb, .int .i64 bz] 56 (0, 0))).alloc (.cells #[.int .i64 cx, .int .i64 cy, .int .i64 cz] 56 (0, 0))).alloc (.cells #[.int .i64 0, .int .i64 0, .int .i64 0] 56 (0, 0)))) (w.heap.size + 1 + 1) cx cy cz := hc.alloc (.cells #[.int .i64 0, .int .i64 0, .int .i64 0] 56 (0, 0))
  have z0 : SpB 56 (World.drew ((((w.alloc (.cells #[.int .i64 ax, .int .i64 ay, .int .i64 az] 56 (0, 0))).alloc (.cells #[.int .i64 bx, .int .i64 yb, .int .i64 bz] 56 (0, 0))).alloc (.cells #[.int .i64 cx, .int .i64 cy, .int .i64 cz] 56 (0, 0))).alloc (.cells #[.int .i64 0, .int .i64 0, .int .i64 0] 56 (0, 0)))) (w.heap.size + 1 + 1 + 1) 0 0 0 := hz
  have kk0 : Kp [] w (World.drew ((((w.alloc (.cells #[.int .i64 ax, .int .i64 ay, .int .i64 az] 56 (0, 0))).alloc (.cells #[.int .i64 bx, .int .i64 yb, .int .i64 bz] 56 (0, 0))).alloc (.cells #[.int .i64 cx, .int .i64 cy, .int .i64 cz] 56 (0, 0))).alloc (.cells #[.int .i64 0, .int .i64 0, .int .i64 0] 56 (0, 0)))) := ((((Kp.refl _ _).alloc _).alloc _).alloc _).alloc _ |>.drew
  have xa0 := (ha.alloc (.cells #[.int .i64 0, .int .i64 0, .int .i64 0] 56 (0, 0))).c0
  have xa1 := (ha.alloc (.cells #[.int .i64 0, .int .i64 0, .int .i64 0] 56 (0, 0))).c1
  have xa2 := (ha.alloc (.cells #[.int .i64 0, .int .i64 0, .int .i64 0] 56 (0, 0))).c2
  have xb0 := (hb.alloc (.cells #[.int .i64 0, .int .i64 0, .int .i64 0] 56 (0, 0))).c0
  have xb1 := (hb.alloc (.cells #[.int .i64 0, .int .i64 0, .int .i64 0] 56 (0, 0))).c1
  have xb2 := (hb.alloc (.cells #[.int .i64 0, .int .i64 0, .int .i64 0] 56 (0, 0))).c2
  have xc0 := (hc.alloc (.cells #[.int .i64 0, .int .i64 0, .int .i64 0] 56 (0, 0))).c0
  have xc1 := (hc.alloc (.cells #[.int .i64 0, .int .i64 0, .int .i64 0] 56 (0, 0))).c1
  have xc2 := (hc.alloc (.cells #[.int .i64 0, .int .i64 0, .int .i64 0] 56 (0, 0))).c2
  have la : w.heap.size < w.heap.size + 1 + 1 + 1 := by omega
  have lb : w.heap.size + 1 < w.heap.size + 1 + 1 + 1 := by omega
  have lc : w.heap.size + 1 + 1 < w.heap.size + 1 + 1 + 1 := by omega
  clear ha hb hc hz
  unfold Gw at q1 q2 q3
  go_enter Tryz.func95, Tryz.ntmps95
  go_wp2_with fail
  go_region_held3 (fun w' => w'.cell? ⟨w.heap.size, 0, none⟩ = some (.int .i64 ax) ∧ w'.cell? ⟨w.heap.size, 1, none⟩ = some (.int .i64 ay) ∧ w'.cell? ⟨w.heap.size, 2, none⟩ = some (.int .i64 az) ∧ w'.cell? ⟨w.heap.size + 1, 0, none⟩ = some (.int .i64 bx) ∧ w'.cell? ⟨w.heap.size + 1, 1, none⟩ = some (.int .i64 yb) ∧ w'.cell? ⟨w.heap.size + 1, 2, none⟩ = some (.int .i64 bz) ∧ w'.cell? ⟨w.heap.size + 1 + 1, 0, none⟩ = some (.int .i64 cx) ∧ w'.cell? ⟨w.heap.size + 1 + 1, 1, none⟩ = some (.int .i64 cy) ∧ w'.cell? ⟨w.heap.size + 1 + 1, 2, none⟩ = some (.int .i64 cz))
    (first
      | exact ⟨(SpB.far3 sa3 (Nat.ne_of_lt la) _ _ _).c0, (SpB.far3 sa3 (Nat.ne_of_lt la) _ _ _).c1, (SpB.far3 sa3 (Nat.ne_of_lt la) _ _ _).c2, (SpB.far3 sb3 (Nat.ne_of_lt lb) _ _ _).c0, (SpB.far3 sb3 (Nat.ne_of_lt lb) _ _ _).c1, (SpB.far3 sb3 (Nat.ne_of_lt lb) _ _ _).c2, (SpB.far3 sc3 (Nat.ne_of_lt lc) _ _ _).c0, (SpB.far3 sc3 (Nat.ne_of_lt lc) _ _ _).c1, (SpB.far3 sc3 (Nat.ne_of_lt lc) _ _ _).c2⟩
      | exact ⟨sa3.c0, sa3.c1, sa3.c2, sb3.c0, sb3.c1, sb3.c2, sc3.c0, sc3.c1, sc3.c2⟩
      | exact ⟨sa2.c0, sa2.c1, sa2.c2, sb2.c0, sb2.c1, sb2.c2, sc2.c0, sc2.c1, sc2.c2⟩
      | exact ⟨sa1.c0, sa1.c1, sa1.c2, sb1.c0, sb1.c1, sb1.c2, sc1.c0, sc1.c1, sc1.c2⟩
      | go_keep)
    (first
      | (go_at_call 123; with_reducible refine (q1.out _ kk0).mono ?_; rintro x w1 ⟨rfl, k1⟩; have sa1 := SpB.kept sa0 k1 (by simp); have sb1 := SpB.kept sb0 k1 (by simp); have sc1 := SpB.kept sc0 k1 (by simp); have z1 := SpB.kept z0 k1 (by simp); have kk1 := Kp.trans kk0 k1)
      | (go_at_call 123; with_reducible refine (q2.out _ kk1).mono ?_; rintro x w2 ⟨rfl, k2⟩; have sa2 := SpB.kept sa1 k2 (by simp); have sb2 := SpB.kept sb1 k2 (by simp); have sc2 := SpB.kept sc1 k2 (by simp); have z2 := SpB.kept z1 k2 (by simp); have kk2 := Kp.trans kk1 k2)
      | (go_at_call 122; with_reducible refine (q3.out _ kk2).mono ?_; rintro x w3 ⟨rfl, k3⟩; have sa3 := SpB.kept sa2 k3 (by simp); have sb3 := SpB.kept sb2 k3 (by simp); have sc3 := SpB.kept sc2 k3 (by simp); have z3 := SpB.kept z2 k3 (by simp); have kk3 := Kp.trans kk2 k3; have f0 := z3.f 0; have c0 := z3.c0; have f1 := z3.f 1; have c1 := z3.c1; have f2 := z3.f 2; have c2 := z3.c2))
  have s3 := z3.set3 nx ny nz
  have e0 := s3.c0
  have e1 := s3.c1
  have e2 := s3.c2
  have kk := kp_sp3 kk3 (b := w.heap.size + 1 + 1 + 1) (by omega) (.int .i64 nx) (.int .i64 ny) (.int .i64 nz)
  go_wp2
  refine bodyPost_ret (v := .agg #[.int .i64 nx, .int .i64 ny, .int .i64 nz]) (by simp [results, Tryz.results95, go_sem, e0, e1, e2]) rfl ?_
  exact ⟨rfl, kk⟩

end Go.Proofs.YtegamkilhgekjaaGreatDoor

/- The reference of layer 7 in space: Volume, SquareSpace, Normal. -/
namespace Go.Proofs.YtegamkilhgekjaaGreatDoor
open Go.RowKit
open Go.Lib (nDigits itoa decDigits)

end Go.Proofs.YtegamkilhgekjaaGreatDoor

/- The reference of layer 7 in space: Long, FromPlane, ToPlane. -/
namespace Go.Proofs.YtegamkilhgekjaaGreatDoor
open Go.RowKit
open Go.Lib (nDigits itoa decDigits)

end Go.Proofs.YtegamkilhgekjaaGreatDoor

/- Normal, Volume, SquareSpace and ToPlane of package vector and of the reference of layer 7 answer alike. -/
namespace Go.Proofs.YtegamkilhgekjaaGreatDoor
open Go.RowKit
open Go.Lib (nDigits itoa decDigits)

theorem ckS_eq (ps : List P3) (h : ps.length ≤ 64) : ckS ps = if ps.all inS = true then 0 else 2 := by unfold ckS; rw [if_neg (by omega)]
theorem rrightS_c {x y z : Int} {b : Bool} {w : World} (h : inS ⟨x, y, z⟩ = b) : Hid (Gw w 80 #[.agg #[.int .i64 x, .int .i64 y, .int .i64 z]] (.bool b)) := gw_of fun W => by
  have q := rrightS x y z W
  rwa [h] at q
theorem ckS_all {ps : List P3} (h : ckS ps = 0) : ps.all inS = true := by
  unfold ckS at h
  split at h
  · cases h
  · split at h
    · assumption
    · cases h

theorem across_r (ax ay az bx yb bz cx cy cz : Int) (w : World) (h : ckS ([⟨ax, ay, az⟩, ⟨bx, yb, bz⟩, ⟨cx, cy, cz⟩] : List P3) = 0) :
    Calls Tryz.prog 95 #[.agg #[.int .i64 ax, .int .i64 ay, .int .i64 az], .agg #[.int .i64 bx, .int .i64 yb, .int .i64 bz], .agg #[.int .i64 cx, .int .i64 cy, .int .i64 cz]] w fun e w' => e = .returned (.agg #[.int .i64 (nrX ay az yb bz cy cz), .int .i64 (nrX az ax bz bx cz cx), .int .i64 (nrX ax ay bx yb cx cy)]) ∧ Kp [] w w' := by
  obtain ⟨ha1, ha2, ha3⟩ := ckS_in h ⟨ax, ay, az⟩ (by simp)
  obtain ⟨hb1, hb2, hb3⟩ := ckS_in h ⟨bx, yb, bz⟩ (by simp)
  obtain ⟨hc1, hc2, hc3⟩ := ckS_in h ⟨cx, cy, cz⟩ (by simp)
  dsimp only at ha1 ha2 ha3 hb1 hb2 hb3 hc1 hc2 hc3
  exact rAcross ax ay az bx yb bz cx cy cz _ _ _ _ _ _ _ _ _ w (gw_of fun W => rLessS bx yb bz ax ay az W (by omega) (by omega) (by omega) (by omega) (by omega) (by omega)) (gw_of fun W => rLessS cx cy cz ax ay az W (by omega) (by omega) (by omega) (by omega) (by omega) (by omega)) (gw_of fun W => rVectorS _ _ _ _ _ _ W (by omega) (by omega) (by omega) (by omega) (by omega) (by omega))

theorem six_r (ax ay az bx yb bz cx cy cz dx dy dz : Int) (w : World) (h : ckS ([⟨ax, ay, az⟩, ⟨bx, yb, bz⟩, ⟨cx, cy, cz⟩, ⟨dx, dy, dz⟩] : List P3) = 0) :
    Calls Tryz.prog 97 #[.agg #[.int .i64 ax, .int .i64 ay, .int .i64 az], .agg #[.int .i64 bx, .int .i64 yb, .int .i64 bz], .agg #[.int .i64 cx, .int .i64 cy, .int .i64 cz], .agg #[.int .i64 dx, .int .i64 dy, .int .i64 dz]] w fun e w' => e = .returned (.int .i64 (voV ax ay az bx yb bz cx cy cz dx dy dz)) ∧ Kp [] w w' := by
  have h3 : ckS ([⟨ax, ay, az⟩, ⟨bx, yb, bz⟩, ⟨cx, cy, cz⟩] : List P3) = 0 := by
    have := ckS_all h
    rw [ckS_eq _ (by simp)]
    simp at this ⊢
    exact ⟨this.1, this.2.1, this.2.2.1⟩
  obtain ⟨ha1, ha2, ha3⟩ := ckS_in h ⟨ax, ay, az⟩ (by simp)
  obtain ⟨hb1, hb2, hb3⟩ := ckS_in h ⟨bx, yb, bz⟩ (by simp)
  obtain ⟨hc1, hc2, hc3⟩ := ckS_in h ⟨cx, cy, cz⟩ (by simp)
  obtain ⟨hd1, hd2, hd3⟩ := ckS_in h ⟨dx, dy, dz⟩ (by simp)
  dsimp only at ha1 ha2 ha3 hb1 hb2 hb3 hc1 hc2 hc3 hd1 hd2 hd3
  have b1 := nr_le ay az yb bz cy cz ha2 ha3 hb2 hb3 hc2 hc3
  have b2 := nr_le az ax bz bx cz cx ha3 ha1 hb3 hb1 hc3 hc1
  have b3 := nr_le ax ay bx yb cx cy ha1 ha2 hb1 hb2 hc1 hc2
  have q1 : Hid (Gw w 95 #[.agg #[.int .i64 ax, .int .i64 ay, .int .i64 az], .agg #[.int .i64 bx, .int .i64 yb, .int .i64 bz], .agg #[.int .i64 cx, .int .i64 cy, .int .i64 cz]] (.agg #[.int .i64 (nrX ay az yb bz cy cz), .int .i64 (nrX az ax bz bx cz cx), .int .i64 (nrX ax ay bx yb cx cy)])) := gw_of fun W => across_r ax ay az bx yb bz cx cy cz W h3
  have q2 : Hid (Gw w 123 #[.agg #[.int .i64 dx, .int .i64 dy, .int .i64 dz], .agg #[.int .i64 ax, .int .i64 ay, .int .i64 az]] (.agg #[.int .i64 (dx - ax), .int .i64 (dy - ay), .int .i64 (dz - az)])) := gw_of fun W => rLessS dx dy dz ax ay az W (Nat.le_trans hd1 (by decide)) (Nat.le_trans hd2 (by decide)) (Nat.le_trans hd3 (by decide)) (Nat.le_trans ha1 (by decide)) (Nat.le_trans ha2 (by decide)) (Nat.le_trans ha3 (by decide))
  unfold voV
  generalize nrX ay az yb bz cy cz = n1 at *
  generalize nrX az ax bz bx cz cx = n2 at *
  generalize nrX ax ay bx yb cx cy = n3 at *
  exact rSix ax ay az bx yb bz cx cy cz dx dy dz n1 n2 n3 (dx - ax) (dy - ay) (dz - az) _ w q1 q2 (gw_of fun W => rTimesS n1 n2 n3 (dx - ax) (dy - ay) (dz - az) W (Nat.le_trans b1 (by decide)) (Nat.le_trans b2 (by decide)) (Nat.le_trans b3 (by decide)) (Nat.le_trans (sub_bd hd1 ha1) (by decide)) (Nat.le_trans (sub_bd hd2 ha2) (by decide)) (Nat.le_trans (sub_bd hd3 ha3) (by decide)))

end Go.Proofs.YtegamkilhgekjaaGreatDoor

/- VectorSolids returns true for every input. -/
namespace Go.Proofs.YtegamkilhgekjaaGreatDoor
open Go.RowKit
open Go.Lib (nDigits itoa decDigits)

/-- a block of ints -/
def ArB (T : TypeId) (w : World) (b : Nat) (l : List Int) : Prop := w.heap[b]? = some (.cells (l.map fun z => Value.int .i64 z).toArray T (0, 0))
section
variable {T : TypeId} {w w' : World} {b : Nat} {l : List Int} {L : List Nat}
theorem ArB.lt (h : ArB T w b l) : b < w.heap.size := (Array.getElem?_eq_some_iff.1 h).1
theorem ArB.kept (h : ArB T w b l) (k : Kp L w w') (hb : b ∉ L) : ArB T w' b l := (k.block b h.lt hb).trans h
theorem ArB.alloc (h : ArB T w b l) (o : Obj) : ArB T (w.alloc o) b l := (Below.heap_alloc w o b h.lt).trans h
theorem ArB.f (h : ArB T w b l) (i : Nat) : w.frozen? ⟨b, i, none⟩ = false := by unfold ArB at h; simp [World.frozen?, h]
theorem ArB.c (h : ArB T w b l) {i : Nat} {z : Int} (hz : l[i]? = some z) : w.cell? ⟨b, i, none⟩ = some (.int .i64 z) := by
  unfold ArB at h
  have : (l.map fun z => Value.int .i64 z)[i]? = some (.int .i64 z) := by rw [List.getElem?_map, hz]; rfl
  simp [World.cell?, h, this]
theorem ArB.made (T : TypeId) (w : World) (l : List Int) : ArB T (w.alloc (.cells (l.map fun z => Value.int .i64 z).toArray T (0, 0))) w.heap.size l := heap_alloc_new w _
end
end Go.Proofs.YtegamkilhgekjaaGreatDoor
