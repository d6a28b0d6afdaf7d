/- VectorProducts returns true for every input. -/
import Derived.Test.YtcgilcmhandgfaaGreatDoorM65
namespace Go.Proofs.YtcgilcmhandgfaaGreatDoor
open Go.RowKit
open Go.Lib (nDigits itoa decDigits)

set_option maxRecDepth 100000 in
set_option maxHeartbeats 4000000 in
theorem products_core (ax ay bx yb cx yc x e p g s i m k0 : Int) (w : World)
    (qx1 : Hid (Gw w 28 #[.agg #[.int .i64 ax, .int .i64 ay], .agg #[.int .i64 bx, .int .i64 yb]] (.tuple #[.int .i64 x, .int .i64 e])))
    (qx2 : Hid (Gw w 29 #[.agg #[.int .i64 ax, .int .i64 ay], .agg #[.int .i64 bx, .int .i64 yb]] (.tuple #[.int .i64 x, .int .i64 e])))
    (qp1 : Hid (Gw w 30 #[.agg #[.int .i64 ax, .int .i64 ay], .agg #[.int .i64 bx, .int .i64 yb], .agg #[.int .i64 cx, .int .i64 yc]] (.tuple #[.int .i64 p, .int .i64 g])))
    (qp2 : Hid (Gw w 31 #[.agg #[.int .i64 ax, .int .i64 ay], .agg #[.int .i64 bx, .int .i64 yb], .agg #[.int .i64 cx, .int .i64 yc]] (.tuple #[.int .i64 p, .int .i64 g])))
    (qs1 : Hid (Gw w 32 #[.agg #[.int .i64 ax, .int .i64 ay], .agg #[.int .i64 bx, .int .i64 yb], .agg #[.int .i64 cx, .int .i64 yc]] (.tuple #[.int .i64 s, .int .i64 i])))
    (qs2 : Hid (Gw w 33 #[.agg #[.int .i64 ax, .int .i64 ay], .agg #[.int .i64 bx, .int .i64 yb], .agg #[.int .i64 cx, .int .i64 yc]] (.tuple #[.int .i64 s, .int .i64 i])))
    (qm1 : Hid (Gw w 34 #[.agg #[.int .i64 ax, .int .i64 ay], .agg #[.int .i64 bx, .int .i64 yb]] (.tuple #[.int .i64 m, .int .i64 k0])))
    (qm2 : Hid (Gw w 35 #[.agg #[.int .i64 ax, .int .i64 ay], .agg #[.int .i64 bx, .int .i64 yb]] (.tuple #[.int .i64 m, .int .i64 k0])))
    (aw : Hid (Gw w 13 #[] (.bool true))) :
    Calls Tryz.prog 5 #[.agg #[.int .i64 ax, .int .i64 ay], .agg #[.int .i64 bx, .int .i64 yb], .agg #[.int .i64 cx, .int .i64 yc]] w fun e w' => e = .returned (.bool true) ∧ Kp [] w w' := by
  unfold Gw at qx1 qx2 qp1 qp2 qs1 qs2 qm1 qm2 aw
  have sa := PtB.made w ax ay
  replace sa := sa.alloc (.cells #[.int .i64 bx, .int .i64 yb] 49 (0, 0))
  replace sa := sa.alloc (.cells #[.int .i64 cx, .int .i64 yc] 49 (0, 0))
  have sb := PtB.made (w.alloc (.cells #[.int .i64 ax, .int .i64 ay] 49 (0, 0))) bx yb
  replace sb := sb.alloc (.cells #[.int .i64 cx, .int .i64 yc] 49 (0, 0))
  have sc := PtB.made ((w.alloc (.cells #[.int .i64 ax, .int .i64 ay] 49 (0, 0))).alloc (.cells #[.int .i64 bx, .int .i64 yb] 49 (0, 0))) cx yc
  simp only [World.size_alloc] at *
  have xa0 := sa.c0
  have xa1 := sa.c1
  have xb0 := sb.c0
  have xb1 := sb.c1
  have xc0 := sc.c0
  have xc1 := sc.c1
  have kk : Kp [] w (((w.alloc (.cells #[.int .i64 ax, .int .i64 ay] 49 (0, 0))).alloc (.cells #[.int .i64 bx, .int .i64 yb] 49 (0, 0))).alloc (.cells #[.int .i64 cx, .int .i64 yc] 49 (0, 0))) := (((Kp.refl _ _).alloc _).alloc _).alloc _
  go_enter Tryz.func5, Tryz.ntmps5
  go_wp2_with fail
  with_reducible refine (qx1.out _ kk).mono ?_
  rintro e w1 ⟨rfl, k⟩
  replace sa := sa.kept k (by simp)
  clear xa0 xa1
  have xa0 := sa.c0
  have xa1 := sa.c1
  replace sb := sb.kept k (by simp)
  clear xb0 xb1
  have xb0 := sb.c0
  have xb1 := sb.c1
  replace sc := sc.kept k (by simp)
  clear xc0 xc1
  have xc0 := sc.c0
  have xc1 := sc.c1
  replace kk := kk.trans k
  clear k
  go_wp2_with fail
  with_reducible refine (qx2.out _ kk).mono ?_
  rintro e w2 ⟨rfl, k⟩
  replace sa := sa.kept k (by simp)
  clear xa0 xa1
  have xa0 := sa.c0
  have xa1 := sa.c1
  replace sb := sb.kept k (by simp)
  clear xb0 xb1
  have xb0 := sb.c0
  have xb1 := sb.c1
  replace sc := sc.kept k (by simp)
  clear xc0 xc1
  have xc0 := sc.c0
  have xc1 := sc.c1
  replace kk := kk.trans k
  clear k
  go_wp2_with fail
  with_reducible refine (qp1.out _ kk).mono ?_
  rintro e w3 ⟨rfl, k⟩
  replace sa := sa.kept k (by simp)
  clear xa0 xa1
  have xa0 := sa.c0
  have xa1 := sa.c1
  replace sb := sb.kept k (by simp)
  clear xb0 xb1
  have xb0 := sb.c0
  have xb1 := sb.c1
  replace sc := sc.kept k (by simp)
  clear xc0 xc1
  have xc0 := sc.c0
  have xc1 := sc.c1
  replace kk := kk.trans k
  clear k
  go_wp2_with fail
  with_reducible refine (qp2.out _ kk).mono ?_
  rintro e w4 ⟨rfl, k⟩
  replace sa := sa.kept k (by simp)
  clear xa0 xa1
  have xa0 := sa.c0
  have xa1 := sa.c1
  replace sb := sb.kept k (by simp)
  clear xb0 xb1
  have xb0 := sb.c0
  have xb1 := sb.c1
  replace sc := sc.kept k (by simp)
  clear xc0 xc1
  have xc0 := sc.c0
  have xc1 := sc.c1
  replace kk := kk.trans k
  clear k
  go_wp2_with fail
  with_reducible refine (qs1.out _ kk).mono ?_
  rintro e w5 ⟨rfl, k⟩
  replace sa := sa.kept k (by simp)
  clear xa0 xa1
  have xa0 := sa.c0
  have xa1 := sa.c1
  replace sb := sb.kept k (by simp)
  clear xb0 xb1
  have xb0 := sb.c0
  have xb1 := sb.c1
  replace sc := sc.kept k (by simp)
  clear xc0 xc1
  have xc0 := sc.c0
  have xc1 := sc.c1
  replace kk := kk.trans k
  clear k
  go_wp2_with fail
  with_reducible refine (qs2.out _ kk).mono ?_
  rintro e w6 ⟨rfl, k⟩
  replace sa := sa.kept k (by simp)
  clear xa0 xa1
  have xa0 := sa.c0
  have xa1 := sa.c1
  replace sb := sb.kept k (by simp)
  clear xb0 xb1
  have xb0 := sb.c0
  have xb1 := sb.c1
  replace sc := sc.kept k (by simp)
  clear xc0 xc1
  have xc0 := sc.c0
  have xc1 := sc.c1
  replace kk := kk.trans k
  clear k
  go_wp2_with fail
  with_reducible refine (qm1.out _ kk).mono ?_
  rintro e w7 ⟨rfl, k⟩
  replace sa := sa.kept k (by simp)
  clear xa0 xa1
  have xa0 := sa.c0
  have xa1 := sa.c1
  replace sb := sb.kept k (by simp)
  clear xb0 xb1
  have xb0 := sb.c0
  have xb1 := sb.c1
  replace sc := sc.kept k (by simp)
  clear xc0 xc1
  have xc0 := sc.c0
  have xc1 := sc.c1
  replace kk := kk.trans k
  clear k
  go_wp2_with fail
  with_reducible refine (qm2.out _ kk).mono ?_
  rintro e w8 ⟨rfl, k⟩
  replace sa := sa.kept k (by simp)
  clear xa0 xa1
  have xa0 := sa.c0
  have xa1 := sa.c1
  replace sb := sb.kept k (by simp)
  clear xb0 xb1
  have xb0 := sb.c0
  have xb1 := sb.c1
  replace sc := sc.kept k (by simp)
  clear xc0 xc1
  have xc0 := sc.c0
  have xc1 := sc.c1
  replace kk := kk.trans k
  clear k
  clear sa xa0 xa1 sb xb0 xb1 sc xc0 xc1
  go_wp2_with fail
  with_reducible refine (aw.out _ kk).mono ?_
  rintro e w9 ⟨rfl, k⟩
  replace kk := kk.trans k
  clear k
  go_wp2
  go_ret
  exact ⟨rfl, kk⟩

theorem Products_any (ax ay bx yb cx yc : Int) (w : World) (hT : Tab w) :
    Calls Tryz.prog 5 #[.agg #[.int .i64 ax, .int .i64 ay], .agg #[.int .i64 bx, .int .i64 yb], .agg #[.int .i64 cx, .int .i64 yc]] w fun e w' => e = .returned (.bool true) ∧ Kp [] w w' :=
  products_core ax ay bx yb cx yc _ _ _ _ _ _ _ _ w (gw_of fun W => dot_p ax ay bx yb W) (gw_of fun W => dot_r ax ay bx yb W) (gw_of fun W => cross_p ax ay bx yb cx yc W) (gw_of fun W => cross_r ax ay bx yb cx yc W) (gw_of fun W => side_p ax ay bx yb cx yc W) (gw_of fun W => side_r ax ay bx yb cx yc W) (gw_of fun W => square_p ax ay bx yb W) (gw_of fun W => square_r ax ay bx yb W) (fun W k => vawake W (tab_kp hT k))

end Go.Proofs.YtcgilcmhandgfaaGreatDoor
