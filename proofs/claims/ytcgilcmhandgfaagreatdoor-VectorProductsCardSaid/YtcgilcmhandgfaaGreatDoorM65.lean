/- Texts Vref3, Vref4, Vec15: each says in its own first comment what it proves. -/
import Derived.Test.YtcgilcmhandgfaaGreatDoorM64
/- The reference of layer 7: Dot, Cross, Square, Side. -/
namespace Go.Proofs.YtcgilcmhandgfaaGreatDoor
open Go.RowKit
open Go.Lib (nDigits itoa decDigits)

set_option maxRecDepth 100000 in
set_option maxHeartbeats 4000000 in
theorem rDot7_e (ax ay bx yb E : Int) (w : World) (he : (E != 0) = true) (q : Hid (∀ W : World, Calls Tryz.prog 83 #[.agg #[.int .i64 ax, .int .i64 ay], .agg #[.int .i64 bx, .int .i64 yb]] W fun e w' => e = .returned (.int .i64 E) ∧ Kp [] W w')) :
    Calls Tryz.prog 29 #[.agg #[.int .i64 ax, .int .i64 ay], .agg #[.int .i64 bx, .int .i64 yb]] w fun e w' => e = .returned (.tuple #[.int .i64 0, .int .i64 E]) ∧ Kp [] w w' := by
  have sa := PtB.made w ax ay
  replace sa := sa.alloc (.cells #[.int .i64 bx, .int .i64 yb] 49 (0, 0))
  have sb := PtB.made (w.alloc (.cells #[.int .i64 ax, .int .i64 ay] 49 (0, 0))) bx yb
  simp only [World.size_alloc] at *
  have xa0 := sa.c0
  have xa1 := sa.c1
  have xb0 := sb.c0
  have xb1 := sb.c1
  have kk : Kp [] w ((w.alloc (.cells #[.int .i64 ax, .int .i64 ay] 49 (0, 0))).alloc (.cells #[.int .i64 bx, .int .i64 yb] 49 (0, 0))) := ((Kp.refl _ _).alloc _).alloc _
  go_enter Tryz.func29, Tryz.ntmps29
  go_wp2_with fail
  with_reducible refine (q.out _).mono ?_
  rintro e w1 ⟨rfl, k⟩
  replace sa := sa.kept k (by simp)
  clear xa0 xa1
  have xa0 := sa.c0
  have xa1 := sa.c1
  replace sb := sb.kept k (by simp)
  clear xb0 xb1
  have xb0 := sb.c0
  have xb1 := sb.c1
  replace kk := kk.trans k
  clear k
  clear sa sb
  go_wp2
  go_ret2
  exact ⟨rfl, kk⟩

set_option maxRecDepth 100000 in
set_option maxHeartbeats 4000000 in
theorem rDot7_0 (ax ay bx yb v : Int) (w : World) (q : Hid (∀ W : World, Calls Tryz.prog 83 #[.agg #[.int .i64 ax, .int .i64 ay], .agg #[.int .i64 bx, .int .i64 yb]] W fun e w' => e = .returned (.int .i64 0) ∧ Kp [] W w')) (q1 : Hid (∀ W : World, Calls Tryz.prog 84 #[.agg #[.int .i64 ax, .int .i64 ay], .agg #[.int .i64 bx, .int .i64 yb]] W fun e w' => e = .returned (.int .i64 v) ∧ Kp [] W w')) :
    Calls Tryz.prog 29 #[.agg #[.int .i64 ax, .int .i64 ay], .agg #[.int .i64 bx, .int .i64 yb]] w fun e w' => e = .returned (.tuple #[.int .i64 v, .int .i64 0]) ∧ Kp [] w w' := by
  have sa := PtB.made w ax ay
  replace sa := sa.alloc (.cells #[.int .i64 bx, .int .i64 yb] 49 (0, 0))
  have sb := PtB.made (w.alloc (.cells #[.int .i64 ax, .int .i64 ay] 49 (0, 0))) bx yb
  simp only [World.size_alloc] at *
  have xa0 := sa.c0
  have xa1 := sa.c1
  have xb0 := sb.c0
  have xb1 := sb.c1
  have kk : Kp [] w ((w.alloc (.cells #[.int .i64 ax, .int .i64 ay] 49 (0, 0))).alloc (.cells #[.int .i64 bx, .int .i64 yb] 49 (0, 0))) := ((Kp.refl _ _).alloc _).alloc _
  go_enter Tryz.func29, Tryz.ntmps29
  go_wp2_with fail
  with_reducible refine (q.out _).mono ?_
  rintro e w1 ⟨rfl, k⟩
  replace sa := sa.kept k (by simp)
  clear xa0 xa1
  have xa0 := sa.c0
  have xa1 := sa.c1
  replace sb := sb.kept k (by simp)
  clear xb0 xb1
  have xb0 := sb.c0
  have xb1 := sb.c1
  replace kk := kk.trans k
  clear k
  go_wp2_with fail
  with_reducible refine (q1.out _).mono ?_
  rintro e w2 ⟨rfl, k⟩
  replace sa := sa.kept k (by simp)
  clear xa0 xa1
  have xa0 := sa.c0
  have xa1 := sa.c1
  replace sb := sb.kept k (by simp)
  clear xb0 xb1
  have xb0 := sb.c0
  have xb1 := sb.c1
  replace kk := kk.trans k
  clear k
  clear sa sb
  go_wp2
  go_ret2
  exact ⟨rfl, kk⟩

set_option maxRecDepth 100000 in
set_option maxHeartbeats 4000000 in
theorem rCross7_e (ax ay bx yb cx yc E : Int) (w : World) (he : (E != 0) = true) (q : Hid (∀ W : World, Calls Tryz.prog 86 #[.agg #[.int .i64 ax, .int .i64 ay], .agg #[.int .i64 bx, .int .i64 yb], .agg #[.int .i64 cx, .int .i64 yc]] W fun e w' => e = .returned (.int .i64 E) ∧ Kp [] W w')) :
    Calls Tryz.prog 31 #[.agg #[.int .i64 ax, .int .i64 ay], .agg #[.int .i64 bx, .int .i64 yb], .agg #[.int .i64 cx, .int .i64 yc]] w fun e w' => e = .returned (.tuple #[.int .i64 0, .int .i64 E]) ∧ Kp [] w w' := by
  have sa := PtB.made w ax ay
  replace sa := sa.alloc (.cells #[.int .i64 bx, .int .i64 yb] 49 (0, 0))
  replace sa := sa.alloc (.cells #[.int .i64 cx, .int .i64 yc] 49 (0, 0))
  have sb := PtB.made (w.alloc (.cells #[.int .i64 ax, .int .i64 ay] 49 (0, 0))) bx yb
  replace sb := sb.alloc (.cells #[.int .i64 cx, .int .i64 yc] 49 (0, 0))
  have sc := PtB.made ((w.alloc (.cells #[.int .i64 ax, .int .i64 ay] 49 (0, 0))).alloc (.cells #[.int .i64 bx, .int .i64 yb] 49 (0, 0))) cx yc
  simp only [World.size_alloc] at *
  have xa0 := sa.c0
  have xa1 := sa.c1
  have xb0 := sb.c0
  have xb1 := sb.c1
  have xc0 := sc.c0
  have xc1 := sc.c1
  have kk : Kp [] w (((w.alloc (.cells #[.int .i64 ax, .int .i64 ay] 49 (0, 0))).alloc (.cells #[.int .i64 bx, .int .i64 yb] 49 (0, 0))).alloc (.cells #[.int .i64 cx, .int .i64 yc] 49 (0, 0))) := (((Kp.refl _ _).alloc _).alloc _).alloc _
  go_enter Tryz.func31, Tryz.ntmps31
  go_wp2_with fail
  with_reducible refine (q.out _).mono ?_
  rintro e w1 ⟨rfl, k⟩
  replace sa := sa.kept k (by simp)
  clear xa0 xa1
  have xa0 := sa.c0
  have xa1 := sa.c1
  replace sb := sb.kept k (by simp)
  clear xb0 xb1
  have xb0 := sb.c0
  have xb1 := sb.c1
  replace sc := sc.kept k (by simp)
  clear xc0 xc1
  have xc0 := sc.c0
  have xc1 := sc.c1
  replace kk := kk.trans k
  clear k
  clear sa sb sc
  go_wp2
  go_ret2
  exact ⟨rfl, kk⟩

set_option maxRecDepth 100000 in
set_option maxHeartbeats 4000000 in
theorem rCross7_0 (ax ay bx yb cx yc v : Int) (w : World) (q : Hid (∀ W : World, Calls Tryz.prog 86 #[.agg #[.int .i64 ax, .int .i64 ay], .agg #[.int .i64 bx, .int .i64 yb], .agg #[.int .i64 cx, .int .i64 yc]] W fun e w' => e = .returned (.int .i64 0) ∧ Kp [] W w')) (q1 : Hid (∀ W : World, Calls Tryz.prog 87 #[.agg #[.int .i64 ax, .int .i64 ay], .agg #[.int .i64 bx, .int .i64 yb], .agg #[.int .i64 cx, .int .i64 yc]] W fun e w' => e = .returned (.int .i64 v) ∧ Kp [] W w')) :
    Calls Tryz.prog 31 #[.agg #[.int .i64 ax, .int .i64 ay], .agg #[.int .i64 bx, .int .i64 yb], .agg #[.int .i64 cx, .int .i64 yc]] w fun e w' => e = .returned (.tuple #[.int .i64 v, .int .i64 0]) ∧ Kp [] w w' := by
  have sa := PtB.made w ax ay
  replace sa := sa.alloc (.cells #[.int .i64 bx, .int .i64 yb] 49 (0, 0))
  replace sa := sa.alloc (.cells #[.int .i64 cx, .int .i64 yc] 49 (0, 0))
  have sb := PtB.made (w.alloc (.cells #[.int .i64 ax, .int .i64 ay] 49 (0, 0))) bx yb
  replace sb := sb.alloc (.cells #[.int .i64 cx, .int .i64 yc] 49 (0, 0))
  have sc := PtB.made ((w.alloc (.cells #[.int .i64 ax, .int .i64 ay] 49 (0, 0))).alloc (.cells #[.int .i64 bx, .int .i64 yb] 49 (0, 0))) cx yc
  simp only [World.size_alloc] at *
  have xa0 := sa.c0
  have xa1 := sa.c1
  have xb0 := sb.c0
  have xb1 := sb.c1
  have xc0 := sc.c0
  have xc1 := sc.c1
  have kk : Kp [] w (((w.alloc (.cells #[.int .i64 ax, .int .i64 ay] 49 (0, 0))).alloc (.cells #[.int .i64 bx, .int .i64 yb] 49 (0, 0))).alloc (.cells #[.int .i64 cx, .int .i64 yc] 49 (0, 0))) := (((Kp.refl _ _).alloc _).alloc _).alloc _
  go_enter Tryz.func31, Tryz.ntmps31
  go_wp2_with fail
  with_reducible refine (q.out _).mono ?_
  rintro e w1 ⟨rfl, k⟩
  replace sa := sa.kept k (by simp)
  clear xa0 xa1
  have xa0 := sa.c0
  have xa1 := sa.c1
  replace sb := sb.kept k (by simp)
  clear xb0 xb1
  have xb0 := sb.c0
  have xb1 := sb.c1
  replace sc := sc.kept k (by simp)
  clear xc0 xc1
  have xc0 := sc.c0
  have xc1 := sc.c1
  replace kk := kk.trans k
  clear k
  go_wp2_with fail
  with_reducible refine (q1.out _).mono ?_
  rintro e w2 ⟨rfl, k⟩
  replace sa := sa.kept k (by simp)
  clear xa0 xa1
  have xa0 := sa.c0
  have xa1 := sa.c1
  replace sb := sb.kept k (by simp)
  clear xb0 xb1
  have xb0 := sb.c0
  have xb1 := sb.c1
  replace sc := sc.kept k (by simp)
  clear xc0 xc1
  have xc0 := sc.c0
  have xc1 := sc.c1
  replace kk := kk.trans k
  clear k
  clear sa sb sc
  go_wp2
  go_ret2
  exact ⟨rfl, kk⟩

set_option maxRecDepth 100000 in
set_option maxHeartbeats 4000000 in
theorem rSquare7_e (ax ay bx yb E : Int) (w : World) (he : (E != 0) = true) (q : Hid (∀ W : World, Calls Tryz.prog 83 #[.agg #[.int .i64 ax, .int .i64 ay], .agg #[.int .i64 bx, .int .i64 yb]] W fun e w' => e = .returned (.int .i64 E) ∧ Kp [] W w')) :
    Calls Tryz.prog 35 #[.agg #[.int .i64 ax, .int .i64 ay], .agg #[.int .i64 bx, .int .i64 yb]] w fun e w' => e = .returned (.tuple #[.int .i64 0, .int .i64 E]) ∧ Kp [] w w' := by
  have sa := PtB.made w ax ay
  replace sa := sa.alloc (.cells #[.int .i64 bx, .int .i64 yb] 49 (0, 0))
  have sb := PtB.made (w.alloc (.cells #[.int .i64 ax, .int .i64 ay] 49 (0, 0))) bx yb
  simp only [World.size_alloc] at *
  have xa0 := sa.c0
  have xa1 := sa.c1
  have xb0 := sb.c0
  have xb1 := sb.c1
  have kk : Kp [] w ((w.alloc (.cells #[.int .i64 ax, .int .i64 ay] 49 (0, 0))).alloc (.cells #[.int .i64 bx, .int .i64 yb] 49 (0, 0))) := ((Kp.refl _ _).alloc _).alloc _
  go_enter Tryz.func35, Tryz.ntmps35
  go_wp2_with fail
  with_reducible refine (q.out _).mono ?_
  rintro e w1 ⟨rfl, k⟩
  replace sa := sa.kept k (by simp)
  clear xa0 xa1
  have xa0 := sa.c0
  have xa1 := sa.c1
  replace sb := sb.kept k (by simp)
  clear xb0 xb1
  have xb0 := sb.c0
  have xb1 := sb.c1
  replace kk := kk.trans k
  clear k
  clear sa sb
  go_wp2
  go_ret2
  exact ⟨rfl, kk⟩

set_option maxRecDepth 100000 in
set_option maxHeartbeats 4000000 in
theorem rSquare7_0 (ax ay bx yb v : Int) (w : World) (q : Hid (∀ W : World, Calls Tryz.prog 83 #[.agg #[.int .i64 ax, .int .i64 ay], .agg #[.int .i64 bx, .int .i64 yb]] W fun e w' => e = .returned (.int .i64 0) ∧ Kp [] W w')) (q1 : Hid (∀ W : World, Calls Tryz.prog 92 #[.agg #[.int .i64 ax, .int .i64 ay], .agg #[.int .i64 bx, .int .i64 yb]] W fun e w' => e = .returned (.int .i64 v) ∧ Kp [] W w')) :
    Calls Tryz.prog 35 #[.agg #[.int .i64 ax, .int .i64 ay], .agg #[.int .i64 bx, .int .i64 yb]] w fun e w' => e = .returned (.tuple #[.int .i64 v, .int .i64 0]) ∧ Kp [] w w' := by
  have sa := PtB.made w ax ay
  replace sa := sa.alloc (.cells #[.int .i64 bx, .int .i64 yb] 49 (0, 0))
  have sb := PtB.made (w.alloc (.cells #[.int .i64 ax, .int .i64 ay] 49 (0, 0))) bx yb
  simp only [World.size_alloc] at *
  have xa0 := sa.c0
  have xa1 := sa.c1
  have xb0 := sb.c0
  have xb1 := sb.c1
  have kk : Kp [] w ((w.alloc (.cells #[.int .i64 ax, .int .i64 ay] 49 (0, 0))).alloc (.cells #[.int .i64 bx, .int .i64 yb] 49 (0, 0))) := ((Kp.refl _ _).alloc _).alloc _
  go_enter Tryz.func35, Tryz.ntmps35
  go_wp2_with fail
  with_reducible refine (q.out _).mono ?_
  rintro e w1 ⟨rfl, k⟩
  replace sa := sa.kept k (by simp)
  clear xa0 xa1
  have xa0 := sa.c0
  have xa1 := sa.c1
  replace sb := sb.kept k (by simp)
  clear xb0 xb1
  have xb0 := sb.c0
  have xb1 := sb.c1
  replace kk := kk.trans k
  clear k
  go_wp2_with fail
  with_reducible refine (q1.out _).mono ?_
  rintro e w2 ⟨rfl, k⟩
  replace sa := sa.kept k (by simp)
  clear xa0 xa1
  have xa0 := sa.c0
  have xa1 := sa.c1
  replace sb := sb.kept k (by simp)
  clear xb0 xb1
  have xb0 := sb.c0
  have xb1 := sb.c1
  replace kk := kk.trans k
  clear k
  clear sa sb
  go_wp2
  go_ret2
  exact ⟨rfl, kk⟩

set_option maxRecDepth 100000 in
set_option maxHeartbeats 4000000 in
theorem rSide7 (ax ay bx yb cx yc v E s : Int) (w : World) (q : Hid (∀ W : World, Calls Tryz.prog 31 #[.agg #[.int .i64 ax, .int .i64 ay], .agg #[.int .i64 bx, .int .i64 yb], .agg #[.int .i64 cx, .int .i64 yc]] W fun e w' => e = .returned (.tuple #[.int .i64 v, .int .i64 E]) ∧ Kp [] W w')) (q1 : Hid (∀ W : World, Calls Tryz.prog 89 #[.int .i64 v] W fun e w' => e = .returned (.int .i64 s) ∧ Kp [] W w')) :
    Calls Tryz.prog 33 #[.agg #[.int .i64 ax, .int .i64 ay], .agg #[.int .i64 bx, .int .i64 yb], .agg #[.int .i64 cx, .int .i64 yc]] w fun e w' => e = .returned (.tuple #[.int .i64 s, .int .i64 E]) ∧ Kp [] w w' := by
  have sa := PtB.made w ax ay
  replace sa := sa.alloc (.cells #[.int .i64 bx, .int .i64 yb] 49 (0, 0))
  replace sa := sa.alloc (.cells #[.int .i64 cx, .int .i64 yc] 49 (0, 0))
  have sb := PtB.made (w.alloc (.cells #[.int .i64 ax, .int .i64 ay] 49 (0, 0))) bx yb
  replace sb := sb.alloc (.cells #[.int .i64 cx, .int .i64 yc] 49 (0, 0))
  have sc := PtB.made ((w.alloc (.cells #[.int .i64 ax, .int .i64 ay] 49 (0, 0))).alloc (.cells #[.int .i64 bx, .int .i64 yb] 49 (0, 0))) cx yc
  simp only [World.size_alloc] at *
  have xa0 := sa.c0
  have xa1 := sa.c1
  have xb0 := sb.c0
  have xb1 := sb.c1
  have xc0 := sc.c0
  have xc1 := sc.c1
  have kk : Kp [] w (((w.alloc (.cells #[.int .i64 ax, .int .i64 ay] 49 (0, 0))).alloc (.cells #[.int .i64 bx, .int .i64 yb] 49 (0, 0))).alloc (.cells #[.int .i64 cx, .int .i64 yc] 49 (0, 0))) := (((Kp.refl _ _).alloc _).alloc _).alloc _
  go_enter Tryz.func33, Tryz.ntmps33
  go_wp2_with fail
  with_reducible refine (q.out _).mono ?_
  rintro e w1 ⟨rfl, k⟩
  replace sa := sa.kept k (by simp)
  clear xa0 xa1
  have xa0 := sa.c0
  have xa1 := sa.c1
  replace sb := sb.kept k (by simp)
  clear xb0 xb1
  have xb0 := sb.c0
  have xb1 := sb.c1
  replace sc := sc.kept k (by simp)
  clear xc0 xc1
  have xc0 := sc.c0
  have xc1 := sc.c1
  replace kk := kk.trans k
  clear k
  go_wp2_with fail
  with_reducible refine (q1.out _).mono ?_
  rintro e w2 ⟨rfl, k⟩
  replace sa := sa.kept k (by simp)
  clear xa0 xa1
  have xa0 := sa.c0
  have xa1 := sa.c1
  replace sb := sb.kept k (by simp)
  clear xb0 xb1
  have xb0 := sb.c0
  have xb1 := sb.c1
  replace sc := sc.kept k (by simp)
  clear xc0 xc1
  have xc0 := sc.c0
  have xc1 := sc.c1
  replace kk := kk.trans k
  clear k
  clear sa sb sc
  go_wp2
  go_ret2
  exact ⟨rfl, kk⟩

end Go.Proofs.YtcgilcmhandgfaaGreatDoor

/- The reference of layer 7: Left, Far. -/
namespace Go.Proofs.YtcgilcmhandgfaaGreatDoor
open Go.RowKit
open Go.Lib (nDigits itoa decDigits)

def vrf87_s : RSt := ⟨8, 14, 3, fun i => ([7, 8, 9, 10, 11, 12, 13, 6] : List Nat).getD i 0, fun i => ([0, 0, 1, 0, 0, 1, 1, 0] : List Nat).getD i 0, fun i => ([0, 0, 0, 0, 0, 1, 2, 0] : List Nat).getD i 0, fun i => ([8, 8, 8, 8, 8, 8, 7, 0, 1, 2, 3, 4, 5, 6, 8] : List Nat).getD i 8, fun i => ([2, 5, 6] : List Nat).getD i 0, fun _ => false, fun _ => true, fun _ => 0, fun _ => false⟩
def vrf87_y : RSy := ⟨vrf87_s, fun i => ([.at 3, .at 4, .at 5, .at 6, .at 4, .at 7, .at 8, .at 8] : List SV).getD i .un, [(3, .at 1), (4, .at 0), (5, .at 2)], fun i => ([false, false, true, false, false, true, true, false] : List Bool).getD i false⟩
def vrf87_ca : List (Nat × Nat × List SV) := [(2, 120, [.at 3, .at 4]), (5, 120, [.at 6, .at 4]), (6, 114, [.at 5, .at 7])]
theorem vrf87_ok : reflOk (opsOf 1 Tryz.f87) vrf87_y [0, 1, 3, 4] vrf87_ca [] [] = true := by kernel_rfl

set_option maxRecDepth 100000 in
set_option maxHeartbeats 4000000 in
theorem rLeft7 (ax ay bx yb cx yc ux uy vx vy v : Int) (w : World) (q1 : Hid (∀ W : World, Calls Tryz.prog 120 #[.agg #[.int .i64 bx, .int .i64 yb], .agg #[.int .i64 ax, .int .i64 ay]] W fun e w' => e = .returned (.agg #[.int .i64 ux, .int .i64 uy]) ∧ Kp [] W w'))
    (q2 : Hid (∀ W : World, Calls Tryz.prog 120 #[.agg #[.int .i64 cx, .int .i64 yc], .agg #[.int .i64 ax, .int .i64 ay]] W fun e w' => e = .returned (.agg #[.int .i64 vx, .int .i64 vy]) ∧ Kp [] W w'))
    (q3 : Hid (∀ W : World, Calls Tryz.prog 114 #[.agg #[.int .i64 ux, .int .i64 uy], .agg #[.int .i64 vx, .int .i64 vy]] W fun e w' => e = .returned (.int .i64 v) ∧ Kp [] W w')) :
    Calls Tryz.prog 87 #[.agg #[.int .i64 ax, .int .i64 ay], .agg #[.int .i64 bx, .int .i64 yb], .agg #[.int .i64 cx, .int .i64 yc]] w fun e w' => e = .returned (.int .i64 v) ∧ Kp [] w w' := by
  have sa := PtB.made w ax ay
  replace sa := sa.alloc (.cells #[.int .i64 bx, .int .i64 yb] 49 (0, 0))
  replace sa := sa.alloc (.cells #[.int .i64 cx, .int .i64 yc] 49 (0, 0))
  have sb := PtB.made (w.alloc (.cells #[.int .i64 ax, .int .i64 ay] 49 (0, 0))) bx yb
  replace sb := sb.alloc (.cells #[.int .i64 cx, .int .i64 yc] 49 (0, 0))
  have sc := PtB.made ((w.alloc (.cells #[.int .i64 ax, .int .i64 ay] 49 (0, 0))).alloc (.cells #[.int .i64 bx, .int .i64 yb] 49 (0, 0))) cx yc
  simp only [World.size_alloc] at *
  have xa0 := sa.c0
  have xa1 := sa.c1
  have xb0 := sb.c0
  have xb1 := sb.c1
  have xc0 := sc.c0
  have xc1 := sc.c1
  have kk : Kp [] w (((w.alloc (.cells #[.int .i64 ax, .int .i64 ay] 49 (0, 0))).alloc (.cells #[.int .i64 bx, .int .i64 yb] 49 (0, 0))).alloc (.cells #[.int .i64 cx, .int .i64 yc] 49 (0, 0))) := (((Kp.refl _ _).alloc _).alloc _).alloc _
  go_enter Tryz.func87, Tryz.ntmps87
  go_wp2_with fail
  rw [frame_lit]
  refine reg_refl vrf87_y (fun k => ([.pointer (some ⟨w.heap.size + 1, 0, none⟩), .pointer (some ⟨w.heap.size, 0, none⟩), .pointer (some ⟨w.heap.size + 1 + 1, 0, none⟩), .agg #[.int .i64 bx, .int .i64 yb], .agg #[.int .i64 ax, .int .i64 ay], .agg #[.int .i64 ux, .int .i64 uy], .agg #[.int .i64 cx, .int .i64 yc], .agg #[.int .i64 vx, .int .i64 vy], .int .i64 v] : List Value).getD k undef) [] (fun _ _ _ => True) (opsOf 1 Tryz.f87) [0, 1, 3, 4] vrf87_ca [] [] (by kernel_rfl) (by kernel_rfl) vrf87_ok ⟨rfl, rfl, rfl, trivial⟩ ?sp ?ca ?cx (by decide) ?fr (fun _ _ _ _ h _ => h) ?rest
  case sp =>
    refine ⟨?_, ?_, ?_, ?_, trivial⟩
    · intro T wz H o ho; have he : o.op = .load 49 (.tmp 4) := Option.some.inj ((congrArg (fun z => z.map Oper.op) ho).symm.trans (show ((opsOf 1 Tryz.f87)[0]?).map Oper.op = some (.load 49 (.tmp 4)) by kernel_rfl)); exact op_ldP he (H.ev (.tmp 4) (.at 0) (by kernel_rfl)) (PtB.kept (L := []) (show PtB (World.drew (((w.alloc (.cells #[.int .i64 ax, .int .i64 ay] 49 (0, 0))).alloc (.cells #[.int .i64 bx, .int .i64 yb] 49 (0, 0))).alloc (.cells #[.int .i64 cx, .int .i64 yc] 49 (0, 0)))) _ _ _ from sb) H.kp (by simp))
    · intro T wz H o ho; have he : o.op = .load 49 (.tmp 3) := Option.some.inj ((congrArg (fun z => z.map Oper.op) ho).symm.trans (show ((opsOf 1 Tryz.f87)[1]?).map Oper.op = some (.load 49 (.tmp 3)) by kernel_rfl)); exact op_ldP he (H.ev (.tmp 3) (.at 1) (by kernel_rfl)) (PtB.kept (L := []) (show PtB (World.drew (((w.alloc (.cells #[.int .i64 ax, .int .i64 ay] 49 (0, 0))).alloc (.cells #[.int .i64 bx, .int .i64 yb] 49 (0, 0))).alloc (.cells #[.int .i64 cx, .int .i64 yc] 49 (0, 0)))) _ _ _ from sa) H.kp (by simp))
    · intro T wz H o ho; have he : o.op = .load 49 (.tmp 5) := Option.some.inj ((congrArg (fun z => z.map Oper.op) ho).symm.trans (show ((opsOf 1 Tryz.f87)[3]?).map Oper.op = some (.load 49 (.tmp 5)) by kernel_rfl)); exact op_ldP he (H.ev (.tmp 5) (.at 2) (by kernel_rfl)) (PtB.kept (L := []) (show PtB (World.drew (((w.alloc (.cells #[.int .i64 ax, .int .i64 ay] 49 (0, 0))).alloc (.cells #[.int .i64 bx, .int .i64 yb] 49 (0, 0))).alloc (.cells #[.int .i64 cx, .int .i64 yc] 49 (0, 0)))) _ _ _ from sc) H.kp (by simp))
    · intro T wz H o ho; have he : o.op = .load 49 (.tmp 3) := Option.some.inj ((congrArg (fun z => z.map Oper.op) ho).symm.trans (show ((opsOf 1 Tryz.f87)[4]?).map Oper.op = some (.load 49 (.tmp 3)) by kernel_rfl)); exact op_ldP he (H.ev (.tmp 3) (.at 1) (by kernel_rfl)) (PtB.kept (L := []) (show PtB (World.drew (((w.alloc (.cells #[.int .i64 ax, .int .i64 ay] 49 (0, 0))).alloc (.cells #[.int .i64 bx, .int .i64 yb] 49 (0, 0))).alloc (.cells #[.int .i64 cx, .int .i64 yc] 49 (0, 0)))) _ _ _ from sa) H.kp (by simp))
  case ca =>
    refine ⟨?_, ?_, ?_, trivial⟩
    · exact ⟨(enters_of Tryz.func120 (by kernel_rfl) rfl), fun wz hk => (q1.out wz).mono fun x w2 ⟨h1, h2⟩ => ⟨_, h1, h2, fun _ => rfl⟩⟩
    · exact ⟨(enters_of Tryz.func120 (by kernel_rfl) rfl), fun wz hk => (q2.out wz).mono fun x w2 ⟨h1, h2⟩ => ⟨_, h1, h2, fun _ => rfl⟩⟩
    · exact ⟨(enters_of Tryz.func114 (by kernel_rfl) rfl), fun wz hk => (q3.out wz).mono fun x w2 ⟨h1, h2⟩ => ⟨_, h1, h2, fun _ => rfl⟩⟩
  case cx =>
    exact trivial
  case fr =>
    exact trivial
  case rest =>
    intro T w3 hout hval k hF
    rw [show frameOf vrf87_y.st.N T = (⟨#[T 0, T 1, T 2, T 3, T 4, T 5, T 6, T 7, T 8, T 9, T 10, T 11, T 12, T 13], []⟩ : Act) from frame_list 14 T]
    rw [show T 6 = .int .i64 v from hval 7 (by decide : 7 < 8) (.inl rfl)]
    replace kk := kk.trans k
    clear hout hval hF k q1 q2 q3 sa xa0 xa1 sb xb0 xb1 sc xc0 xc1
    go_wp2
    go_ret
    exact ⟨rfl, kk⟩

def vrf92_s : RSt := ⟨8, 12, 3, fun i => ([5, 6, 7, 8, 9, 10, 11, 4] : List Nat).getD i 0, fun i => ([0, 0, 1, 0, 0, 1, 1, 0] : List Nat).getD i 0, fun i => ([0, 0, 0, 0, 0, 1, 2, 0] : List Nat).getD i 0, fun i => ([8, 8, 8, 8, 7, 0, 1, 2, 3, 4, 5, 6, 8] : List Nat).getD i 8, fun i => ([2, 5, 6] : List Nat).getD i 0, fun _ => false, fun _ => true, fun _ => 0, fun _ => false⟩
def vrf92_y : RSy := ⟨vrf92_s, fun i => ([.at 2, .at 3, .at 4, .at 2, .at 3, .at 5, .at 6, .at 6] : List SV).getD i .un, [(2, .at 0), (3, .at 1)], fun i => ([false, false, true, false, false, true, true, false] : List Bool).getD i false⟩
def vrf92_ca : List (Nat × Nat × List SV) := [(2, 120, [.at 2, .at 3]), (5, 120, [.at 2, .at 3]), (6, 84, [.at 4, .at 5])]
theorem vrf92_ok : reflOk (opsOf 1 Tryz.f92) vrf92_y [0, 1, 3, 4] vrf92_ca [] [] = true := by kernel_rfl

set_option maxRecDepth 100000 in
set_option maxHeartbeats 4000000 in
theorem rFar7 (ax ay bx yb ux uy vx vy v : Int) (w : World) (q1 : Hid (∀ W : World, Calls Tryz.prog 120 #[.agg #[.int .i64 ax, .int .i64 ay], .agg #[.int .i64 bx, .int .i64 yb]] W fun e w' => e = .returned (.agg #[.int .i64 ux, .int .i64 uy]) ∧ Kp [] W w'))
    (q2 : Hid (∀ W : World, Calls Tryz.prog 120 #[.agg #[.int .i64 ax, .int .i64 ay], .agg #[.int .i64 bx, .int .i64 yb]] W fun e w' => e = .returned (.agg #[.int .i64 vx, .int .i64 vy]) ∧ Kp [] W w'))
    (q3 : Hid (∀ W : World, Calls Tryz.prog 84 #[.agg #[.int .i64 ux, .int .i64 uy], .agg #[.int .i64 vx, .int .i64 vy]] W fun e w' => e = .returned (.int .i64 v) ∧ Kp [] W w')) :
    Calls Tryz.prog 92 #[.agg #[.int .i64 ax, .int .i64 ay], .agg #[.int .i64 bx, .int .i64 yb]] w fun e w' => e = .returned (.int .i64 v) ∧ Kp [] w w' := by
  have sa := PtB.made w ax ay
  replace sa := sa.alloc (.cells #[.int .i64 bx, .int .i64 yb] 49 (0, 0))
  have sb := PtB.made (w.alloc (.cells #[.int .i64 ax, .int .i64 ay] 49 (0, 0))) bx yb
  simp only [World.size_alloc] at *
  have xa0 := sa.c0
  have xa1 := sa.c1
  have xb0 := sb.c0
  have xb1 := sb.c1
  have kk : Kp [] w ((w.alloc (.cells #[.int .i64 ax, .int .i64 ay] 49 (0, 0))).alloc (.cells #[.int .i64 bx, .int .i64 yb] 49 (0, 0))) := ((Kp.refl _ _).alloc _).alloc _
  go_enter Tryz.func92, Tryz.ntmps92
  go_wp2_with fail
  rw [frame_lit]
  refine reg_refl vrf92_y (fun k => ([.pointer (some ⟨w.heap.size, 0, none⟩), .pointer (some ⟨w.heap.size + 1, 0, none⟩), .agg #[.int .i64 ax, .int .i64 ay], .agg #[.int .i64 bx, .int .i64 yb], .agg #[.int .i64 ux, .int .i64 uy], .agg #[.int .i64 vx, .int .i64 vy], .int .i64 v] : List Value).getD k undef) [] (fun _ _ _ => True) (opsOf 1 Tryz.f92) [0, 1, 3, 4] vrf92_ca [] [] (by kernel_rfl) (by kernel_rfl) vrf92_ok ⟨rfl, rfl, trivial⟩ ?sp ?ca ?cx (by decide) ?fr (fun _ _ _ _ h _ => h) ?rest
  case sp =>
    refine ⟨?_, ?_, ?_, ?_, trivial⟩
    · intro T wz H o ho; have he : o.op = .load 49 (.tmp 2) := Option.some.inj ((congrArg (fun z => z.map Oper.op) ho).symm.trans (show ((opsOf 1 Tryz.f92)[0]?).map Oper.op = some (.load 49 (.tmp 2)) by kernel_rfl)); exact op_ldP he (H.ev (.tmp 2) (.at 0) (by kernel_rfl)) (PtB.kept (L := []) (show PtB (World.drew ((w.alloc (.cells #[.int .i64 ax, .int .i64 ay] 49 (0, 0))).alloc (.cells #[.int .i64 bx, .int .i64 yb] 49 (0, 0)))) _ _ _ from sa) H.kp (by simp))
    · intro T wz H o ho; have he : o.op = .load 49 (.tmp 3) := Option.some.inj ((congrArg (fun z => z.map Oper.op) ho).symm.trans (show ((opsOf 1 Tryz.f92)[1]?).map Oper.op = some (.load 49 (.tmp 3)) by kernel_rfl)); exact op_ldP he (H.ev (.tmp 3) (.at 1) (by kernel_rfl)) (PtB.kept (L := []) (show PtB (World.drew ((w.alloc (.cells #[.int .i64 ax, .int .i64 ay] 49 (0, 0))).alloc (.cells #[.int .i64 bx, .int .i64 yb] 49 (0, 0)))) _ _ _ from sb) H.kp (by simp))
    · intro T wz H o ho; have he : o.op = .load 49 (.tmp 2) := Option.some.inj ((congrArg (fun z => z.map Oper.op) ho).symm.trans (show ((opsOf 1 Tryz.f92)[3]?).map Oper.op = some (.load 49 (.tmp 2)) by kernel_rfl)); exact op_ldP he (H.ev (.tmp 2) (.at 0) (by kernel_rfl)) (PtB.kept (L := []) (show PtB (World.drew ((w.alloc (.cells #[.int .i64 ax, .int .i64 ay] 49 (0, 0))).alloc (.cells #[.int .i64 bx, .int .i64 yb] 49 (0, 0)))) _ _ _ from sa) H.kp (by simp))
    · intro T wz H o ho; have he : o.op = .load 49 (.tmp 3) := Option.some.inj ((congrArg (fun z => z.map Oper.op) ho).symm.trans (show ((opsOf 1 Tryz.f92)[4]?).map Oper.op = some (.load 49 (.tmp 3)) by kernel_rfl)); exact op_ldP he (H.ev (.tmp 3) (.at 1) (by kernel_rfl)) (PtB.kept (L := []) (show PtB (World.drew ((w.alloc (.cells #[.int .i64 ax, .int .i64 ay] 49 (0, 0))).alloc (.cells #[.int .i64 bx, .int .i64 yb] 49 (0, 0)))) _ _ _ from sb) H.kp (by simp))
  case ca =>
    refine ⟨?_, ?_, ?_, trivial⟩
    · exact ⟨(enters_of Tryz.func120 (by kernel_rfl) rfl), fun wz hk => (q1.out wz).mono fun x w2 ⟨h1, h2⟩ => ⟨_, h1, h2, fun _ => rfl⟩⟩
    · exact ⟨(enters_of Tryz.func120 (by kernel_rfl) rfl), fun wz hk => (q2.out wz).mono fun x w2 ⟨h1, h2⟩ => ⟨_, h1, h2, fun _ => rfl⟩⟩
    · exact ⟨(enters_of Tryz.func84 (by kernel_rfl) rfl), fun wz hk => (q3.out wz).mono fun x w2 ⟨h1, h2⟩ => ⟨_, h1, h2, fun _ => rfl⟩⟩
  case cx =>
    exact trivial
  case fr =>
    exact trivial
  case rest =>
    intro T w3 hout hval k hF
    rw [show frameOf vrf92_y.st.N T = (⟨#[T 0, T 1, T 2, T 3, T 4, T 5, T 6, T 7, T 8, T 9, T 10, T 11], []⟩ : Act) from frame_list 12 T]
    rw [show T 4 = .int .i64 v from hval 7 (by decide : 7 < 8) (.inl rfl)]
    replace kk := kk.trans k
    clear hout hval hF k q1 q2 q3 sa xa0 xa1 sb xb0 xb1
    go_wp2
    go_ret
    exact ⟨rfl, kk⟩

end Go.Proofs.YtcgilcmhandgfaaGreatDoor

/- Dot, Cross, Side, Square of package vector and of the reference of layer 7 answer alike. -/
namespace Go.Proofs.YtcgilcmhandgfaaGreatDoor
open Go.RowKit
open Go.Lib (nDigits itoa decDigits)

/-- a value behind the check of its points -/
def bP (E v : Int) : Int := if E = 0 then v else 0
theorem ck_id (E : Int) : (if E = 0 then 0 else E) = E := by split <;> simp_all
theorem ck2_eq (p q : Int × Int) : ckP [p, q] = if (inP p && inP q) = true then 0 else 2 := by simp [ckP]
theorem ck3_eq (p q r : Int × Int) : ckP [p, q, r] = if (inP p && (inP q && inP r)) = true then 0 else 2 := by simp [ckP]
theorem sq_swap (x y : Int) : (x - y) * (x - y) = (y - x) * (y - x) := by rw [← Int.neg_sub y x, Int.neg_mul_neg]

theorem rright_c {x y : Int} {b : Bool} (h : inP (x, y) = b) : Hid (∀ W : World, Calls Tryz.prog 72 #[.agg #[.int .i64 x, .int .i64 y]] W fun e w' => e = .returned (.bool b) ∧ Kp [] W w') := fun W => by
  have q := rRight7 x y W
  rwa [h] at q

theorem rpair_c (ax ay bx yb : Int) (w : World) :
    Calls Tryz.prog 83 #[.agg #[.int .i64 ax, .int .i64 ay], .agg #[.int .i64 bx, .int .i64 yb]] w fun e w' => e = .returned (.int .i64 (ckP [(ax, ay), (bx, yb)])) ∧ Kp [] w w' := by
  rw [ck2_eq]
  cases h1 : inP (ax, ay) with
  | false => exact rpair_0 ax ay bx yb w (rright_c h1)
  | true =>
    cases h2 : inP (bx, yb) with
    | false => exact rpair_1 ax ay bx yb w (rright_c h1) (rright_c h2)
    | true => exact rpair_2 ax ay bx yb w (rright_c h1) (rright_c h2)

theorem rthree_c (ax ay bx yb cx yc : Int) (w : World) :
    Calls Tryz.prog 86 #[.agg #[.int .i64 ax, .int .i64 ay], .agg #[.int .i64 bx, .int .i64 yb], .agg #[.int .i64 cx, .int .i64 yc]] w fun e w' => e = .returned (.int .i64 (ckP [(ax, ay), (bx, yb), (cx, yc)])) ∧ Kp [] w w' := by
  rw [ck3_eq]
  cases h1 : inP (ax, ay) with
  | false => exact rthree_0 ax ay bx yb cx yc w (rright_c h1)
  | true =>
    cases h2 : inP (bx, yb) with
    | false => exact rthree_1 ax ay bx yb cx yc w (rright_c h1) (rright_c h2)
    | true =>
      cases h3 : inP (cx, yc) with
      | false => exact rthree_2 ax ay bx yb cx yc w (rright_c h1) (rright_c h2) (rright_c h3)
      | true => exact rthree_3 ax ay bx yb cx yc w (rright_c h1) (rright_c h2) (rright_c h3)

section
variable (ax ay bx yb : Int) (w : World)
theorem dot_p : Calls Tryz.prog 28 #[.agg #[.int .i64 ax, .int .i64 ay], .agg #[.int .i64 bx, .int .i64 yb]] w fun e w' => e = .returned (.tuple #[.int .i64 (bP (ckP [(ax, ay), (bx, yb)]) (ax * bx + ay * yb)), .int .i64 (ckP [(ax, ay), (bx, yb)])]) ∧ Kp [] w w' := by
  have q := vDot ax ay bx yb (ax * bx + ay * yb) w (fun h => by
    obtain ⟨ha1, ha2⟩ := ckP_in h (ax, ay) (by simp)
    obtain ⟨hb1, hb2⟩ := ckP_in h (bx, yb) (by simp)
    exact Lib.hid fun W => vdot ax ay bx yb W (by omega) (by omega) (by omega) (by omega))
  rw [ck_id] at q
  exact q
theorem dot_r : Calls Tryz.prog 29 #[.agg #[.int .i64 ax, .int .i64 ay], .agg #[.int .i64 bx, .int .i64 yb]] w fun e w' => e = .returned (.tuple #[.int .i64 (bP (ckP [(ax, ay), (bx, yb)]) (ax * bx + ay * yb)), .int .i64 (ckP [(ax, ay), (bx, yb)])]) ∧ Kp [] w w' := by
  have qp := Lib.hid (rpair_c ax ay bx yb)
  by_cases h : ckP [(ax, ay), (bx, yb)] = 0
  · obtain ⟨ha1, ha2⟩ := ckP_in h (ax, ay) (by simp)
    obtain ⟨hb1, hb2⟩ := ckP_in h (bx, yb) (by simp)
    rw [h] at qp ⊢
    exact rDot7_0 ax ay bx yb _ w qp (Lib.hid fun W => rTimes7 ax ay bx yb W (by omega) (by omega) (by omega) (by omega))
  · have e : bP (ckP [(ax, ay), (bx, yb)]) (ax * bx + ay * yb) = 0 := if_neg h
    rw [e]
    exact rDot7_e ax ay bx yb _ w (by simp [h]) qp
theorem square_p : Calls Tryz.prog 34 #[.agg #[.int .i64 ax, .int .i64 ay], .agg #[.int .i64 bx, .int .i64 yb]] w fun e w' => e = .returned (.tuple #[.int .i64 (bP (ckP [(ax, ay), (bx, yb)]) ((bx - ax) * (bx - ax) + (yb - ay) * (yb - ay))), .int .i64 (ckP [(ax, ay), (bx, yb)])]) ∧ Kp [] w w' := by
  have q := vSquare ax ay bx yb ((bx - ax) * (bx - ax) + (yb - ay) * (yb - ay)) w (fun h => by
    obtain ⟨ha1, ha2⟩ := ckP_in h (ax, ay) (by simp)
    obtain ⟨hb1, hb2⟩ := ckP_in h (bx, yb) (by simp)
    exact Lib.hid fun W => square_c ax ay bx yb W ha1 ha2 hb1 hb2)
  rw [ck_id] at q
  exact q
theorem far_r (ha1 : ax.natAbs ≤ 100000) (ha2 : ay.natAbs ≤ 100000) (hb1 : bx.natAbs ≤ 100000) (hb2 : yb.natAbs ≤ 100000) :
    Calls Tryz.prog 92 #[.agg #[.int .i64 ax, .int .i64 ay], .agg #[.int .i64 bx, .int .i64 yb]] w fun e w' => e = .returned (.int .i64 ((bx - ax) * (bx - ax) + (yb - ay) * (yb - ay))) ∧ Kp [] w w' := by
  rw [sq_swap bx ax, sq_swap yb ay]
  exact rFar7 ax ay bx yb (ax - bx) (ay - yb) (ax - bx) (ay - yb) _ w (Lib.hid fun W => rMinus7 ax ay bx yb W (by omega) (by omega) (by omega) (by omega)) (Lib.hid fun W => rMinus7 ax ay bx yb W (by omega) (by omega) (by omega) (by omega)) (Lib.hid fun W => rTimes7 _ _ _ _ W (by omega) (by omega) (by omega) (by omega))
theorem square_r : Calls Tryz.prog 35 #[.agg #[.int .i64 ax, .int .i64 ay], .agg #[.int .i64 bx, .int .i64 yb]] w fun e w' => e = .returned (.tuple #[.int .i64 (bP (ckP [(ax, ay), (bx, yb)]) ((bx - ax) * (bx - ax) + (yb - ay) * (yb - ay))), .int .i64 (ckP [(ax, ay), (bx, yb)])]) ∧ Kp [] w w' := by
  have qp := Lib.hid (rpair_c ax ay bx yb)
  by_cases h : ckP [(ax, ay), (bx, yb)] = 0
  · obtain ⟨ha1, ha2⟩ := ckP_in h (ax, ay) (by simp)
    obtain ⟨hb1, hb2⟩ := ckP_in h (bx, yb) (by simp)
    rw [h] at qp ⊢
    exact rSquare7_0 ax ay bx yb _ w qp (Lib.hid fun W => far_r ax ay bx yb W ha1 ha2 hb1 hb2)
  · have e : bP (ckP [(ax, ay), (bx, yb)]) ((bx - ax) * (bx - ax) + (yb - ay) * (yb - ay)) = 0 := if_neg h
    rw [e]
    exact rSquare7_e ax ay bx yb _ w (by simp [h]) qp
end
section
variable (ax ay bx yb cx yc : Int) (w : World)
theorem cross_p : Calls Tryz.prog 30 #[.agg #[.int .i64 ax, .int .i64 ay], .agg #[.int .i64 bx, .int .i64 yb], .agg #[.int .i64 cx, .int .i64 yc]] w fun e w' => e = .returned (.tuple #[.int .i64 (bP (ckP [(ax, ay), (bx, yb), (cx, yc)]) (crV ax ay bx yb cx yc)), .int .i64 (ckP [(ax, ay), (bx, yb), (cx, yc)])]) ∧ Kp [] w w' := by
  have q := vCross ax ay bx yb cx yc (crV ax ay bx yb cx yc) w (fun h ba bb bc W ha hb hc => by
    obtain ⟨ha1, ha2⟩ := ckP_in h (ax, ay) (by simp)
    obtain ⟨hb1, hb2⟩ := ckP_in h (bx, yb) (by simp)
    obtain ⟨hc1, hc2⟩ := ckP_in h (cx, yc) (by simp)
    exact vCross_in ba bb bc ax ay bx yb cx yc (bx - ax) (yb - ay) (cx - ax) (yc - ay) _ W ha hb hc
      (Lib.hid fun W => vminus bx yb ax ay W (by omega) (by omega) (by omega) (by omega)) (Lib.hid fun W => vminus cx yc ax ay W (by omega) (by omega) (by omega) (by omega))
      (Lib.hid fun W => vcross _ _ _ _ W (by omega) (by omega) (by omega) (by omega)))
  rw [ck_id] at q
  exact q
theorem left_r (ha1 : ax.natAbs ≤ 100000) (ha2 : ay.natAbs ≤ 100000) (hb1 : bx.natAbs ≤ 100000) (hb2 : yb.natAbs ≤ 100000) (hc1 : cx.natAbs ≤ 100000) (hc2 : yc.natAbs ≤ 100000) :
    Calls Tryz.prog 87 #[.agg #[.int .i64 ax, .int .i64 ay], .agg #[.int .i64 bx, .int .i64 yb], .agg #[.int .i64 cx, .int .i64 yc]] w fun e w' => e = .returned (.int .i64 (crV ax ay bx yb cx yc)) ∧ Kp [] w w' :=
  rLeft7 ax ay bx yb cx yc (bx - ax) (yb - ay) (cx - ax) (yc - ay) _ w (Lib.hid fun W => rMinus7 bx yb ax ay W (by omega) (by omega) (by omega) (by omega)) (Lib.hid fun W => rMinus7 cx yc ax ay W (by omega) (by omega) (by omega) (by omega)) (Lib.hid fun W => rTurn7 _ _ _ _ W (by omega) (by omega) (by omega) (by omega))
theorem cross_r : Calls Tryz.prog 31 #[.agg #[.int .i64 ax, .int .i64 ay], .agg #[.int .i64 bx, .int .i64 yb], .agg #[.int .i64 cx, .int .i64 yc]] w fun e w' => e = .returned (.tuple #[.int .i64 (bP (ckP [(ax, ay), (bx, yb), (cx, yc)]) (crV ax ay bx yb cx yc)), .int .i64 (ckP [(ax, ay), (bx, yb), (cx, yc)])]) ∧ Kp [] w w' := by
  have qp := Lib.hid (rthree_c ax ay bx yb cx yc)
  by_cases h : ckP [(ax, ay), (bx, yb), (cx, yc)] = 0
  · obtain ⟨ha1, ha2⟩ := ckP_in h (ax, ay) (by simp)
    obtain ⟨hb1, hb2⟩ := ckP_in h (bx, yb) (by simp)
    obtain ⟨hc1, hc2⟩ := ckP_in h (cx, yc) (by simp)
    rw [h] at qp ⊢
    exact rCross7_0 ax ay bx yb cx yc _ w qp (Lib.hid fun W => left_r ax ay bx yb cx yc W ha1 ha2 hb1 hb2 hc1 hc2)
  · have e : bP (ckP [(ax, ay), (bx, yb), (cx, yc)]) (crV ax ay bx yb cx yc) = 0 := if_neg h
    rw [e]
    exact rCross7_e ax ay bx yb cx yc _ w (by simp [h]) qp
theorem side_p : Calls Tryz.prog 32 #[.agg #[.int .i64 ax, .int .i64 ay], .agg #[.int .i64 bx, .int .i64 yb], .agg #[.int .i64 cx, .int .i64 yc]] w fun e w' => e = .returned (.tuple #[.int .i64 (cmI (bP (ckP [(ax, ay), (bx, yb), (cx, yc)]) (crV ax ay bx yb cx yc)) 0), .int .i64 (ckP [(ax, ay), (bx, yb), (cx, yc)])]) ∧ Kp [] w w' :=
  vSide ax ay bx yb cx yc _ _ w (Lib.hid fun W => cross_p ax ay bx yb cx yc W)
theorem side_r : Calls Tryz.prog 33 #[.agg #[.int .i64 ax, .int .i64 ay], .agg #[.int .i64 bx, .int .i64 yb], .agg #[.int .i64 cx, .int .i64 yc]] w fun e w' => e = .returned (.tuple #[.int .i64 (cmI (bP (ckP [(ax, ay), (bx, yb), (cx, yc)]) (crV ax ay bx yb cx yc)) 0), .int .i64 (ckP [(ax, ay), (bx, yb), (cx, yc)])]) ∧ Kp [] w w' :=
  rSide7 ax ay bx yb cx yc _ _ _ w (Lib.hid fun W => cross_r ax ay bx yb cx yc W) (Lib.hid fun W => rSignum7 _ W)
end

end Go.Proofs.YtcgilcmhandgfaaGreatDoor
