/- VectorDistances returns true for every input. -/
import Derived.Test.YtcgilcmhandgfaaGreatDoorM62
namespace Go.Proofs.YtcgilcmhandgfaaGreatDoor
open Go.RowKit
open Go.Lib (nDigits itoa decDigits)

set_option maxRecDepth 100000 in
set_option maxHeartbeats 4000000 in
theorem distances_core (px py ax ay bx yb e g : Int) (x z : ByteArray) (w : World)
    (qx1 : Hid (Gw w 44 #[.agg #[.int .i64 px, .int .i64 py], .agg #[.int .i64 ax, .int .i64 ay], .agg #[.int .i64 bx, .int .i64 yb]] (.tuple #[.string x, .int .i64 e])))
    (qx2 : Hid (Gw w 45 #[.agg #[.int .i64 px, .int .i64 py], .agg #[.int .i64 ax, .int .i64 ay], .agg #[.int .i64 bx, .int .i64 yb]] (.tuple #[.string x, .int .i64 e])))
    (qz1 : Hid (Gw w 46 #[.agg #[.int .i64 px, .int .i64 py], .agg #[.int .i64 ax, .int .i64 ay], .agg #[.int .i64 bx, .int .i64 yb]] (.tuple #[.string z, .int .i64 g])))
    (qz2 : Hid (Gw w 47 #[.agg #[.int .i64 px, .int .i64 py], .agg #[.int .i64 ax, .int .i64 ay], .agg #[.int .i64 bx, .int .i64 yb]] (.tuple #[.string z, .int .i64 g])))
    (aw : Hid (Gw w 13 #[] (.bool true))) :
    Calls Tryz.prog 7 #[.agg #[.int .i64 px, .int .i64 py], .agg #[.int .i64 ax, .int .i64 ay], .agg #[.int .i64 bx, .int .i64 yb]] w fun e w' => e = .returned (.bool true) ∧ Kp [] w w' := by
  unfold Gw at qx1 qx2 qz1 qz2 aw
  have sp := PtB.made w px py
  replace sp := sp.alloc (.cells #[.int .i64 ax, .int .i64 ay] 49 (0, 0))
  replace sp := sp.alloc (.cells #[.int .i64 bx, .int .i64 yb] 49 (0, 0))
  have sa := PtB.made (w.alloc (.cells #[.int .i64 px, .int .i64 py] 49 (0, 0))) ax ay
  replace sa := sa.alloc (.cells #[.int .i64 bx, .int .i64 yb] 49 (0, 0))
  have sb := PtB.made ((w.alloc (.cells #[.int .i64 px, .int .i64 py] 49 (0, 0))).alloc (.cells #[.int .i64 ax, .int .i64 ay] 49 (0, 0))) bx yb
  simp only [World.size_alloc] at *
  have xp0 := sp.c0
  have xp1 := sp.c1
  have xa0 := sa.c0
  have xa1 := sa.c1
  have xb0 := sb.c0
  have xb1 := sb.c1
  have kk : Kp [] w (((w.alloc (.cells #[.int .i64 px, .int .i64 py] 49 (0, 0))).alloc (.cells #[.int .i64 ax, .int .i64 ay] 49 (0, 0))).alloc (.cells #[.int .i64 bx, .int .i64 yb] 49 (0, 0))) := (((Kp.refl _ _).alloc _).alloc _).alloc _
  go_enter Tryz.func7, Tryz.ntmps7
  go_wp2_with fail
  with_reducible refine (qx1.out _ kk).mono ?_
  rintro e w1 ⟨rfl, k⟩
  replace sp := sp.kept k (by simp)
  clear xp0 xp1
  have xp0 := sp.c0
  have xp1 := sp.c1
  replace sa := sa.kept k (by simp)
  clear xa0 xa1
  have xa0 := sa.c0
  have xa1 := sa.c1
  replace sb := sb.kept k (by simp)
  clear xb0 xb1
  have xb0 := sb.c0
  have xb1 := sb.c1
  replace kk := kk.trans k
  clear k
  go_wp2_with fail
  with_reducible refine (qx2.out _ kk).mono ?_
  rintro e w2 ⟨rfl, k⟩
  replace sp := sp.kept k (by simp)
  clear xp0 xp1
  have xp0 := sp.c0
  have xp1 := sp.c1
  replace sa := sa.kept k (by simp)
  clear xa0 xa1
  have xa0 := sa.c0
  have xa1 := sa.c1
  replace sb := sb.kept k (by simp)
  clear xb0 xb1
  have xb0 := sb.c0
  have xb1 := sb.c1
  replace kk := kk.trans k
  clear k
  go_wp2_with fail
  with_reducible refine (qz1.out _ kk).mono ?_
  rintro e w3 ⟨rfl, k⟩
  replace sp := sp.kept k (by simp)
  clear xp0 xp1
  have xp0 := sp.c0
  have xp1 := sp.c1
  replace sa := sa.kept k (by simp)
  clear xa0 xa1
  have xa0 := sa.c0
  have xa1 := sa.c1
  replace sb := sb.kept k (by simp)
  clear xb0 xb1
  have xb0 := sb.c0
  have xb1 := sb.c1
  replace kk := kk.trans k
  clear k
  go_wp2_with fail
  with_reducible refine (qz2.out _ kk).mono ?_
  rintro e w4 ⟨rfl, k⟩
  replace sp := sp.kept k (by simp)
  clear xp0 xp1
  have xp0 := sp.c0
  have xp1 := sp.c1
  replace sa := sa.kept k (by simp)
  clear xa0 xa1
  have xa0 := sa.c0
  have xa1 := sa.c1
  replace sb := sb.kept k (by simp)
  clear xb0 xb1
  have xb0 := sb.c0
  have xb1 := sb.c1
  replace kk := kk.trans k
  clear k
  clear sp xp0 xp1 sa xa0 xa1 sb xb0 xb1
  go_wp2_with fail
  with_reducible refine (aw.out _ kk).mono ?_
  rintro e w9 ⟨rfl, k⟩
  replace kk := kk.trans k
  clear k
  go_wp2
  go_ret
  exact ⟨rfl, kk⟩

theorem Distances_any (px py ax ay bx yb : Int) (w : World) (hT : Tab w) :
    Calls Tryz.prog 7 #[.agg #[.int .i64 px, .int .i64 py], .agg #[.int .i64 ax, .int .i64 ay], .agg #[.int .i64 bx, .int .i64 yb]] w fun e w' => e = .returned (.bool true) ∧ Kp [] w w' := by
  exact distances_core px py ax ay bx yb _ _ _ _ w (fun W k => toLine_p px py ax ay bx yb W (tab_kp hT k)) (fun W k => toLine_r px py ax ay bx yb W) (fun W k => toSegment_p px py ax ay bx yb W (tab_kp hT k)) (fun W k => toSegment_r px py ax ay bx yb W) (fun W k => vawake W (tab_kp hT k))

end Go.Proofs.YtcgilcmhandgfaaGreatDoor
