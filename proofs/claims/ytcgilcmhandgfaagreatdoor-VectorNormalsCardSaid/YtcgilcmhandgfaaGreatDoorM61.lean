/- Texts Vec14, Vref1, Vref2, Vref3, Vref4, Vec15: each says in its own first comment what it proves. -/
import Derived.Test.YtcgilcmhandgfaaGreatDoorM60
import Derived.Test.YtcgilcmhandgfaaGreatDoorM55
/- cmp.Compare of ints, Side of package vector. -/
namespace Go.Proofs.YtcgilcmhandgfaaGreatDoor
open Go.RowKit
open Go.Lib (nDigits itoa decDigits)

set_option maxRecDepth 100000 in
set_option maxHeartbeats 4000000 in
theorem isnan_i (x : Int) (w : World) : Calls Tryz.prog 121 #[.int .i64 x] w fun e w' => e = .returned (.bool false) ∧ Kp [] w w' := by
  have kk := Kp.refl [] w
  go_enter Tryz.func121, Tryz.ntmps121
  go_wp2
  go_ret
  exact ⟨rfl, kk⟩
/-- how two ints compare -/
def cmI (x y : Int) : Int := if x < y then -1 else if y < x then 1 else 0

set_option maxRecDepth 100000 in
set_option maxHeartbeats 4000000 in
theorem compare_i (x y : Int) (w : World) : Calls Tryz.prog 88 #[.int .i64 x, .int .i64 y] w fun e w' => e = .returned (.int .i64 (cmI x y)) ∧ Kp [] w w' := by
  by_cases h1 : x < y
  · rw [show cmI x y = -1 from if_pos h1]
    go_enter Tryz.func88, Tryz.ntmps88
    go_wp2_with fail
    with_reducible refine (isnan_i _ _).mono ?_
    rintro e w1 ⟨rfl, k1⟩
    go_wp2_with fail
    with_reducible refine (isnan_i _ _).mono ?_
    rintro e w2 ⟨rfl, k2⟩
    go_wp2
    go_ret
    exact ⟨rfl, k1.trans k2⟩
  by_cases h2 : y < x
  · rw [show cmI x y = 1 from (if_neg h1).trans (if_pos h2)]
    go_enter Tryz.func88, Tryz.ntmps88
    go_wp2_with fail
    with_reducible refine (isnan_i _ _).mono ?_
    rintro e w1 ⟨rfl, k1⟩
    go_wp2_with fail
    with_reducible refine (isnan_i _ _).mono ?_
    rintro e w2 ⟨rfl, k2⟩
    go_wp2
    go_ret
    exact ⟨rfl, k1.trans k2⟩
  · rw [show cmI x y = 0 from (if_neg h1).trans (if_neg h2)]
    go_enter Tryz.func88, Tryz.ntmps88
    go_wp2_with fail
    with_reducible refine (isnan_i _ _).mono ?_
    rintro e w1 ⟨rfl, k1⟩
    go_wp2_with fail
    with_reducible refine (isnan_i _ _).mono ?_
    rintro e w2 ⟨rfl, k2⟩
    go_wp2
    go_ret
    exact ⟨rfl, k1.trans k2⟩

set_option maxRecDepth 100000 in
set_option maxHeartbeats 4000000 in
theorem vSide (ax ay bx yb cx yc v E : Int) (w : World) (q : Hid (∀ W : World, Calls Tryz.prog 30 #[.agg #[.int .i64 ax, .int .i64 ay], .agg #[.int .i64 bx, .int .i64 yb], .agg #[.int .i64 cx, .int .i64 yc]] W fun e w' => e = .returned (.tuple #[.int .i64 v, .int .i64 E]) ∧ Kp [] W w')) :
    Calls Tryz.prog 32 #[.agg #[.int .i64 ax, .int .i64 ay], .agg #[.int .i64 bx, .int .i64 yb], .agg #[.int .i64 cx, .int .i64 yc]] w fun e w' => e = .returned (.tuple #[.int .i64 (cmI v 0), .int .i64 E]) ∧ Kp [] w w' := by
  have s0 := ((PtB.made w ax ay).alloc (.cells #[.int .i64 bx, .int .i64 yb] 49 (0, 0))).alloc (.cells #[.int .i64 cx, .int .i64 yc] 49 (0, 0))
  have s1 := (PtB.made (w.alloc (.cells #[.int .i64 ax, .int .i64 ay] 49 (0, 0))) bx yb).alloc (.cells #[.int .i64 cx, .int .i64 yc] 49 (0, 0))
  have s2 := PtB.made ((w.alloc (.cells #[.int .i64 ax, .int .i64 ay] 49 (0, 0))).alloc (.cells #[.int .i64 bx, .int .i64 yb] 49 (0, 0))) cx yc
  simp only [World.size_alloc] at s1 s2
  have c00 := s0.c0
  have c01 := s0.c1
  have c10 := s1.c0
  have c11 := s1.c1
  have c20 := s2.c0
  have c21 := s2.c1
  have kk : Kp [] w (((w.alloc (.cells #[.int .i64 ax, .int .i64 ay] 49 (0, 0))).alloc (.cells #[.int .i64 bx, .int .i64 yb] 49 (0, 0))).alloc (.cells #[.int .i64 cx, .int .i64 yc] 49 (0, 0))) := (((Kp.refl _ _).alloc _).alloc _).alloc _
  have qc := Lib.hid (compare_i v 0)
  generalize cmI v 0 = u at *
  clear s0 s1 s2
  go_enter Tryz.func32, Tryz.ntmps32
  go_wp2_with fail
  with_reducible refine (q.out _).mono ?_
  rintro e w1 ⟨rfl, k⟩
  replace kk := kk.trans k
  clear k c00 c01 c10 c11 c20 c21
  go_wp2_with fail
  with_reducible refine (qc.out _).mono ?_
  rintro e w2 ⟨rfl, k⟩
  replace kk := kk.trans k
  clear k
  go_wp2
  go_ret2
  exact ⟨rfl, kk⟩

end Go.Proofs.YtcgilcmhandgfaaGreatDoor

/- The reference of layer 7: in, Right, Minus, Times, Turn. -/
namespace Go.Proofs.YtcgilcmhandgfaaGreatDoor
open Go.RowKit
open Go.Lib (nDigits itoa decDigits)

set_option maxRecDepth 100000 in
theorem rin7 (z : Int) (w : World) : Calls Tryz.prog 119 #[.int .i64 z] w fun e w' => e = .returned (.bool (inB z)) ∧ Kp [] w w' := by
  by_cases h1 : -100000 ≤ z
  · by_cases h2 : z ≤ 100000
    · rw [(inB_iff z).2 ⟨h1, h2⟩]
      go_enter Tryz.func119, Tryz.ntmps119
      go_wp2
      go_ret
      exact ⟨rfl, Kp.refl _ _⟩
    · have e : inB z = false := by unfold inB; rw [decide_eq_false h2, Bool.and_false]
      rw [e]
      go_enter Tryz.func119, Tryz.ntmps119
      go_wp2
      go_ret
      exact ⟨rfl, Kp.refl _ _⟩
  · have e : inB z = false := by unfold inB; rw [decide_eq_false h1, Bool.false_and]
    rw [e]
    go_enter Tryz.func119, Tryz.ntmps119
    go_wp2
    go_ret
    exact ⟨rfl, Kp.refl _ _⟩

set_option maxRecDepth 100000 in
theorem rRight7 (x y : Int) (w : World) : Calls Tryz.prog 72 #[.agg #[.int .i64 x, .int .i64 y]] w fun e w' => e = .returned (.bool (inP (x, y))) ∧ Kp [] w w' := by
  have s := PtB.made w x y
  have k0 : Kp [] w (w.alloc (.cells #[.int .i64 x, .int .i64 y] 49 (0, 0))) := (Kp.refl _ _).alloc _
  have c0 := s.c0
  have q1 := Lib.hid (rin7 x)
  have q2 := Lib.hid (rin7 y)
  have e : inP (x, y) = (inB x && inB y) := rfl
  rw [e]
  cases h1 : inB x with
  | false =>
    rw [h1] at q1
    clear s q2 h1 e
    go_enter Tryz.func72, Tryz.ntmps72
    go_wp2_with fail
    with_reducible refine (q1.out _).mono ?_
    rintro e w1 ⟨rfl, k⟩
    go_wp2
    go_ret
    exact ⟨rfl, k0.trans k⟩
  | true =>
    rw [h1] at q1
    generalize inB y = b at *
    clear h1 e
    go_enter Tryz.func72, Tryz.ntmps72
    go_wp2_with fail
    with_reducible refine (q1.out _).mono ?_
    rintro e w1 ⟨rfl, k⟩
    have c1 := (s.kept k (by simp)).c1
    have kk := k0.trans k
    clear s k c0 k0
    go_wp2_with fail
    with_reducible refine (q2.out _).mono ?_
    rintro e w2 ⟨rfl, k⟩
    go_wp2
    go_ret
    exact ⟨rfl, kk.trans k⟩

set_option maxRecDepth 100000 in
set_option maxHeartbeats 4000000 in
theorem rMinus7 (ax ay bx yb : Int) (w : World) (h1 : ax.natAbs ≤ 1000000) (h2 : ay.natAbs ≤ 1000000) (h3 : bx.natAbs ≤ 1000000) (h4 : yb.natAbs ≤ 1000000) :
    Calls Tryz.prog 120 #[.agg #[.int .i64 ax, .int .i64 ay], .agg #[.int .i64 bx, .int .i64 yb]] w fun e w' => e = .returned (.agg #[.int .i64 (ax - bx), .int .i64 (ay - yb)]) ∧ Kp [] w w' := by
  have b1 : -1000000 ≤ ax ∧ ax ≤ 1000000 := by omega
  have b2 : -1000000 ≤ ay ∧ ay ≤ 1000000 := by omega
  have b3 : -1000000 ≤ bx ∧ bx ≤ 1000000 := by omega
  have b4 : -1000000 ≤ yb ∧ yb ≤ 1000000 := by omega
  obtain ⟨b11, b12⟩ := b1
  obtain ⟨b21, b22⟩ := b2
  obtain ⟨b31, b32⟩ := b3
  obtain ⟨b41, b42⟩ := b4
  clear h1 h2 h3 h4
  have s0 := (PtB.made w ax ay).alloc (.cells #[.int .i64 bx, .int .i64 yb] 49 (0, 0))
  have s1 := PtB.made (w.alloc (.cells #[.int .i64 ax, .int .i64 ay] 49 (0, 0))) bx yb
  simp only [World.size_alloc] at s1
  have c0 := (s0.alloc (.cells #[.int .i64 0, .int .i64 0] 49 (0, 0))).c0
  have c1 := (s0.alloc (.cells #[.int .i64 0, .int .i64 0] 49 (0, 0))).c1
  have d0 := (s1.alloc (.cells #[.int .i64 0, .int .i64 0] 49 (0, 0))).c0
  have d1 := (s1.alloc (.cells #[.int .i64 0, .int .i64 0] 49 (0, 0))).c1
  have kk : Kp [] w (((w.alloc (.cells #[.int .i64 ax, .int .i64 ay] 49 (0, 0))).alloc (.cells #[.int .i64 bx, .int .i64 yb] 49 (0, 0))).alloc (.cells #[.int .i64 (ax - bx), .int .i64 (ay - yb)] 49 (0, 0))) := (((Kp.refl [] w).alloc _).alloc _).alloc _
  clear s0 s1
  go_enter Tryz.func120, Tryz.ntmps120
  go_wp2
  refine bodyPost_ret (v := .agg #[.int .i64 (ax - bx), .int .i64 (ay - yb)]) (by simp [results, Tryz.results120, go_sem]) rfl ?_
  exact ⟨rfl, kk⟩

set_option maxRecDepth 100000 in
set_option maxHeartbeats 4000000 in
theorem rTimes7 (ax ay bx yb : Int) (w : World) (h1 : ax.natAbs ≤ 1000000) (h2 : ay.natAbs ≤ 1000000) (h3 : bx.natAbs ≤ 1000000) (h4 : yb.natAbs ≤ 1000000) :
    Calls Tryz.prog 84 #[.agg #[.int .i64 ax, .int .i64 ay], .agg #[.int .i64 bx, .int .i64 yb]] w fun e w' => e = .returned (.int .i64 (ax * bx + ay * yb)) ∧ Kp [] w w' := by
  have m1 := mul_bd h1 h3
  have m2 := mul_bd h2 h4
  have b1 : -1000000000000 ≤ ax * bx ∧ ax * bx ≤ 1000000000000 := by omega
  have b2 : -1000000000000 ≤ ay * yb ∧ ay * yb ≤ 1000000000000 := by omega
  obtain ⟨b11, b12⟩ := b1
  obtain ⟨b21, b22⟩ := b2
  have kk : Kp [] w ((w.alloc (.cells #[.int .i64 ax, .int .i64 ay] 49 (0, 0))).alloc (.cells #[.int .i64 bx, .int .i64 yb] 49 (0, 0))) := ((Kp.refl _ _).alloc _).alloc _
  clear h1 h2 h3 h4 m1 m2
  have s0 := (PtB.made w ax ay).alloc (.cells #[.int .i64 bx, .int .i64 yb] 49 (0, 0))
  have s1 := PtB.made (w.alloc (.cells #[.int .i64 ax, .int .i64 ay] 49 (0, 0))) bx yb
  simp only [World.size_alloc] at s1
  have c0 := s0.c0
  have c1 := s0.c1
  have d0 := s1.c0
  have d1 := s1.c1
  clear s0 s1
  go_enter Tryz.func84, Tryz.ntmps84
  go_wp2
  go_ret
  exact ⟨rfl, kk⟩

set_option maxRecDepth 100000 in
set_option maxHeartbeats 4000000 in
theorem rTurn7 (ax ay bx yb : Int) (w : World) (h1 : ax.natAbs ≤ 1000000) (h2 : ay.natAbs ≤ 1000000) (h3 : bx.natAbs ≤ 1000000) (h4 : yb.natAbs ≤ 1000000) :
    Calls Tryz.prog 114 #[.agg #[.int .i64 ax, .int .i64 ay], .agg #[.int .i64 bx, .int .i64 yb]] w fun e w' => e = .returned (.int .i64 (ax * yb - ay * bx)) ∧ Kp [] w w' := by
  have m1 := mul_bd h1 h4
  have m2 := mul_bd h2 h3
  have b1 : -1000000000000 ≤ ax * yb ∧ ax * yb ≤ 1000000000000 := by omega
  have b2 : -1000000000000 ≤ ay * bx ∧ ay * bx ≤ 1000000000000 := by omega
  obtain ⟨b11, b12⟩ := b1
  obtain ⟨b21, b22⟩ := b2
  have kk : Kp [] w ((w.alloc (.cells #[.int .i64 ax, .int .i64 ay] 49 (0, 0))).alloc (.cells #[.int .i64 bx, .int .i64 yb] 49 (0, 0))) := ((Kp.refl _ _).alloc _).alloc _
  clear h1 h2 h3 h4 m1 m2
  have s0 := (PtB.made w ax ay).alloc (.cells #[.int .i64 bx, .int .i64 yb] 49 (0, 0))
  have s1 := PtB.made (w.alloc (.cells #[.int .i64 ax, .int .i64 ay] 49 (0, 0))) bx yb
  simp only [World.size_alloc] at s1
  have c0 := s0.c0
  have c1 := s0.c1
  have d0 := s1.c0
  have d1 := s1.c1
  clear s0 s1
  go_enter Tryz.func114, Tryz.ntmps114
  go_wp2
  go_ret
  exact ⟨rfl, kk⟩

end Go.Proofs.YtcgilcmhandgfaaGreatDoor

/- The reference of layer 7: pair, three, Signum. -/
namespace Go.Proofs.YtcgilcmhandgfaaGreatDoor
open Go.RowKit
open Go.Lib (nDigits itoa decDigits)

set_option maxRecDepth 100000 in
set_option maxHeartbeats 4000000 in
theorem rpair_0 (ax ay bx yb : Int) (w : World) (q0 : Hid (∀ W : World, Calls Tryz.prog 72 #[.agg #[.int .i64 ax, .int .i64 ay]] W fun e w' => e = .returned (.bool false) ∧ Kp [] W w')) :
    Calls Tryz.prog 83 #[.agg #[.int .i64 ax, .int .i64 ay], .agg #[.int .i64 bx, .int .i64 yb]] w fun e w' => e = .returned (.int .i64 2) ∧ Kp [] w w' := by
  have sa := PtB.made w ax ay
  replace sa := sa.alloc (.cells #[.int .i64 bx, .int .i64 yb] 49 (0, 0))
  have sb := PtB.made (w.alloc (.cells #[.int .i64 ax, .int .i64 ay] 49 (0, 0))) bx yb
  simp only [World.size_alloc] at *
  have xa0 := sa.c0
  have xa1 := sa.c1
  have xb0 := sb.c0
  have xb1 := sb.c1
  have kk : Kp [] w ((w.alloc (.cells #[.int .i64 ax, .int .i64 ay] 49 (0, 0))).alloc (.cells #[.int .i64 bx, .int .i64 yb] 49 (0, 0))) := ((Kp.refl _ _).alloc _).alloc _
  go_enter Tryz.func83, Tryz.ntmps83
  go_wp2_with fail
  with_reducible refine (q0.out _).mono ?_
  rintro e w1 ⟨rfl, k⟩
  replace sa := sa.kept k (by simp)
  clear xa0 xa1
  have xa0 := sa.c0
  have xa1 := sa.c1
  replace sb := sb.kept k (by simp)
  clear xb0 xb1
  have xb0 := sb.c0
  have xb1 := sb.c1
  replace kk := kk.trans k
  clear k
  clear sa sb
  go_wp2
  go_ret
  exact ⟨rfl, kk⟩

set_option maxRecDepth 100000 in
set_option maxHeartbeats 4000000 in
theorem rpair_1 (ax ay bx yb : Int) (w : World) (q0 : Hid (∀ W : World, Calls Tryz.prog 72 #[.agg #[.int .i64 ax, .int .i64 ay]] W fun e w' => e = .returned (.bool true) ∧ Kp [] W w')) (q1 : Hid (∀ W : World, Calls Tryz.prog 72 #[.agg #[.int .i64 bx, .int .i64 yb]] W fun e w' => e = .returned (.bool false) ∧ Kp [] W w')) :
    Calls Tryz.prog 83 #[.agg #[.int .i64 ax, .int .i64 ay], .agg #[.int .i64 bx, .int .i64 yb]] w fun e w' => e = .returned (.int .i64 2) ∧ Kp [] w w' := by
  have sa := PtB.made w ax ay
  replace sa := sa.alloc (.cells #[.int .i64 bx, .int .i64 yb] 49 (0, 0))
  have sb := PtB.made (w.alloc (.cells #[.int .i64 ax, .int .i64 ay] 49 (0, 0))) bx yb
  simp only [World.size_alloc] at *
  have xa0 := sa.c0
  have xa1 := sa.c1
  have xb0 := sb.c0
  have xb1 := sb.c1
  have kk : Kp [] w ((w.alloc (.cells #[.int .i64 ax, .int .i64 ay] 49 (0, 0))).alloc (.cells #[.int .i64 bx, .int .i64 yb] 49 (0, 0))) := ((Kp.refl _ _).alloc _).alloc _
  go_enter Tryz.func83, Tryz.ntmps83
  go_wp2_with fail
  with_reducible refine (q0.out _).mono ?_
  rintro e w1 ⟨rfl, k⟩
  replace sa := sa.kept k (by simp)
  clear xa0 xa1
  have xa0 := sa.c0
  have xa1 := sa.c1
  replace sb := sb.kept k (by simp)
  clear xb0 xb1
  have xb0 := sb.c0
  have xb1 := sb.c1
  replace kk := kk.trans k
  clear k
  go_wp2_with fail
  with_reducible refine (q1.out _).mono ?_
  rintro e w2 ⟨rfl, k⟩
  replace sa := sa.kept k (by simp)
  clear xa0 xa1
  have xa0 := sa.c0
  have xa1 := sa.c1
  replace sb := sb.kept k (by simp)
  clear xb0 xb1
  have xb0 := sb.c0
  have xb1 := sb.c1
  replace kk := kk.trans k
  clear k
  clear sa sb
  go_wp2
  go_ret
  exact ⟨rfl, kk⟩

set_option maxRecDepth 100000 in
set_option maxHeartbeats 4000000 in
theorem rpair_2 (ax ay bx yb : Int) (w : World) (q0 : Hid (∀ W : World, Calls Tryz.prog 72 #[.agg #[.int .i64 ax, .int .i64 ay]] W fun e w' => e = .returned (.bool true) ∧ Kp [] W w')) (q1 : Hid (∀ W : World, Calls Tryz.prog 72 #[.agg #[.int .i64 bx, .int .i64 yb]] W fun e w' => e = .returned (.bool true) ∧ Kp [] W w')) :
    Calls Tryz.prog 83 #[.agg #[.int .i64 ax, .int .i64 ay], .agg #[.int .i64 bx, .int .i64 yb]] w fun e w' => e = .returned (.int .i64 0) ∧ Kp [] w w' := by
  have sa := PtB.made w ax ay
  replace sa := sa.alloc (.cells #[.int .i64 bx, .int .i64 yb] 49 (0, 0))
  have sb := PtB.made (w.alloc (.cells #[.int .i64 ax, .int .i64 ay] 49 (0, 0))) bx yb
  simp only [World.size_alloc] at *
  have xa0 := sa.c0
  have xa1 := sa.c1
  have xb0 := sb.c0
  have xb1 := sb.c1
  have kk : Kp [] w ((w.alloc (.cells #[.int .i64 ax, .int .i64 ay] 49 (0, 0))).alloc (.cells #[.int .i64 bx, .int .i64 yb] 49 (0, 0))) := ((Kp.refl _ _).alloc _).alloc _
  go_enter Tryz.func83, Tryz.ntmps83
  go_wp2_with fail
  with_reducible refine (q0.out _).mono ?_
  rintro e w1 ⟨rfl, k⟩
  replace sa := sa.kept k (by simp)
  clear xa0 xa1
  have xa0 := sa.c0
  have xa1 := sa.c1
  replace sb := sb.kept k (by simp)
  clear xb0 xb1
  have xb0 := sb.c0
  have xb1 := sb.c1
  replace kk := kk.trans k
  clear k
  go_wp2_with fail
  with_reducible refine (q1.out _).mono ?_
  rintro e w2 ⟨rfl, k⟩
  replace sa := sa.kept k (by simp)
  clear xa0 xa1
  have xa0 := sa.c0
  have xa1 := sa.c1
  replace sb := sb.kept k (by simp)
  clear xb0 xb1
  have xb0 := sb.c0
  have xb1 := sb.c1
  replace kk := kk.trans k
  clear k
  clear sa sb
  go_wp2
  go_ret
  exact ⟨rfl, kk⟩

set_option maxRecDepth 100000 in
set_option maxHeartbeats 4000000 in
theorem rthree_0 (ax ay bx yb cx yc : Int) (w : World) (q0 : Hid (∀ W : World, Calls Tryz.prog 72 #[.agg #[.int .i64 ax, .int .i64 ay]] W fun e w' => e = .returned (.bool false) ∧ Kp [] W w')) :
    Calls Tryz.prog 86 #[.agg #[.int .i64 ax, .int .i64 ay], .agg #[.int .i64 bx, .int .i64 yb], .agg #[.int .i64 cx, .int .i64 yc]] w fun e w' => e = .returned (.int .i64 2) ∧ Kp [] w w' := by
  have sa := PtB.made w ax ay
  replace sa := sa.alloc (.cells #[.int .i64 bx, .int .i64 yb] 49 (0, 0))
  replace sa := sa.alloc (.cells #[.int .i64 cx, .int .i64 yc] 49 (0, 0))
  have sb := PtB.made (w.alloc (.cells #[.int .i64 ax, .int .i64 ay] 49 (0, 0))) bx yb
  replace sb := sb.alloc (.cells #[.int .i64 cx, .int .i64 yc] 49 (0, 0))
  have sc := PtB.made ((w.alloc (.cells #[.int .i64 ax, .int .i64 ay] 49 (0, 0))).alloc (.cells #[.int .i64 bx, .int .i64 yb] 49 (0, 0))) cx yc
  simp only [World.size_alloc] at *
  have xa0 := sa.c0
  have xa1 := sa.c1
  have xb0 := sb.c0
  have xb1 := sb.c1
  have xc0 := sc.c0
  have xc1 := sc.c1
  have kk : Kp [] w (((w.alloc (.cells #[.int .i64 ax, .int .i64 ay] 49 (0, 0))).alloc (.cells #[.int .i64 bx, .int .i64 yb] 49 (0, 0))).alloc (.cells #[.int .i64 cx, .int .i64 yc] 49 (0, 0))) := (((Kp.refl _ _).alloc _).alloc _).alloc _
  go_enter Tryz.func86, Tryz.ntmps86
  go_wp2_with fail
  with_reducible refine (q0.out _).mono ?_
  rintro e w1 ⟨rfl, k⟩
  replace sa := sa.kept k (by simp)
  clear xa0 xa1
  have xa0 := sa.c0
  have xa1 := sa.c1
  replace sb := sb.kept k (by simp)
  clear xb0 xb1
  have xb0 := sb.c0
  have xb1 := sb.c1
  replace sc := sc.kept k (by simp)
  clear xc0 xc1
  have xc0 := sc.c0
  have xc1 := sc.c1
  replace kk := kk.trans k
  clear k
  clear sa sb sc
  go_wp2
  go_ret
  exact ⟨rfl, kk⟩

set_option maxRecDepth 100000 in
set_option maxHeartbeats 4000000 in
theorem rthree_1 (ax ay bx yb cx yc : Int) (w : World) (q0 : Hid (∀ W : World, Calls Tryz.prog 72 #[.agg #[.int .i64 ax, .int .i64 ay]] W fun e w' => e = .returned (.bool true) ∧ Kp [] W w')) (q1 : Hid (∀ W : World, Calls Tryz.prog 72 #[.agg #[.int .i64 bx, .int .i64 yb]] W fun e w' => e = .returned (.bool false) ∧ Kp [] W w')) :
    Calls Tryz.prog 86 #[.agg #[.int .i64 ax, .int .i64 ay], .agg #[.int .i64 bx, .int .i64 yb], .agg #[.int .i64 cx, .int .i64 yc]] w fun e w' => e = .returned (.int .i64 2) ∧ Kp [] w w' := by
  have sa := PtB.made w ax ay
  replace sa := sa.alloc (.cells #[.int .i64 bx, .int .i64 yb] 49 (0, 0))
  replace sa := sa.alloc (.cells #[.int .i64 cx, .int .i64 yc] 49 (0, 0))
  have sb := PtB.made (w.alloc (.cells #[.int .i64 ax, .int .i64 ay] 49 (0, 0))) bx yb
  replace sb := sb.alloc (.cells #[.int .i64 cx, .int .i64 yc] 49 (0, 0))
  have sc := PtB.made ((w.alloc (.cells #[.int .i64 ax, .int .i64 ay] 49 (0, 0))).alloc (.cells #[.int .i64 bx, .int .i64 yb] 49 (0, 0))) cx yc
  simp only [World.size_alloc] at *
  have xa0 := sa.c0
  have xa1 := sa.c1
  have xb0 := sb.c0
  have xb1 := sb.c1
  have xc0 := sc.c0
  have xc1 := sc.c1
  have kk : Kp [] w (((w.alloc (.cells #[.int .i64 ax, .int .i64 ay] 49 (0, 0))).alloc (.cells #[.int .i64 bx, .int .i64 yb] 49 (0, 0))).alloc (.cells #[.int .i64 cx, .int .i64 yc] 49 (0, 0))) := (((Kp.refl _ _).alloc _).alloc _).alloc _
  go_enter Tryz.func86, Tryz.ntmps86
  go_wp2_with fail
  with_reducible refine (q0.out _).mono ?_
  rintro e w1 ⟨rfl, k⟩
  replace sa := sa.kept k (by simp)
  clear xa0 xa1
  have xa0 := sa.c0
  have xa1 := sa.c1
  replace sb := sb.kept k (by simp)
  clear xb0 xb1
  have xb0 := sb.c0
  have xb1 := sb.c1
  replace sc := sc.kept k (by simp)
  clear xc0 xc1
  have xc0 := sc.c0
  have xc1 := sc.c1
  replace kk := kk.trans k
  clear k
  go_wp2_with fail
  with_reducible refine (q1.out _).mono ?_
  rintro e w2 ⟨rfl, k⟩
  replace sa := sa.kept k (by simp)
  clear xa0 xa1
  have xa0 := sa.c0
  have xa1 := sa.c1
  replace sb := sb.kept k (by simp)
  clear xb0 xb1
  have xb0 := sb.c0
  have xb1 := sb.c1
  replace sc := sc.kept k (by simp)
  clear xc0 xc1
  have xc0 := sc.c0
  have xc1 := sc.c1
  replace kk := kk.trans k
  clear k
  clear sa sb sc
  go_wp2
  go_ret
  exact ⟨rfl, kk⟩

set_option maxRecDepth 100000 in
set_option maxHeartbeats 4000000 in
theorem rthree_2 (ax ay bx yb cx yc : Int) (w : World) (q0 : Hid (∀ W : World, Calls Tryz.prog 72 #[.agg #[.int .i64 ax, .int .i64 ay]] W fun e w' => e = .returned (.bool true) ∧ Kp [] W w')) (q1 : Hid (∀ W : World, Calls Tryz.prog 72 #[.agg #[.int .i64 bx, .int .i64 yb]] W fun e w' => e = .returned (.bool true) ∧ Kp [] W w')) (q2 : Hid (∀ W : World, Calls Tryz.prog 72 #[.agg #[.int .i64 cx, .int .i64 yc]] W fun e w' => e = .returned (.bool false) ∧ Kp [] W w')) :
    Calls Tryz.prog 86 #[.agg #[.int .i64 ax, .int .i64 ay], .agg #[.int .i64 bx, .int .i64 yb], .agg #[.int .i64 cx, .int .i64 yc]] w fun e w' => e = .returned (.int .i64 2) ∧ Kp [] w w' := by
  have sa := PtB.made w ax ay
  replace sa := sa.alloc (.cells #[.int .i64 bx, .int .i64 yb] 49 (0, 0))
  replace sa := sa.alloc (.cells #[.int .i64 cx, .int .i64 yc] 49 (0, 0))
  have sb := PtB.made (w.alloc (.cells #[.int .i64 ax, .int .i64 ay] 49 (0, 0))) bx yb
  replace sb := sb.alloc (.cells #[.int .i64 cx, .int .i64 yc] 49 (0, 0))
  have sc := PtB.made ((w.alloc (.cells #[.int .i64 ax, .int .i64 ay] 49 (0, 0))).alloc (.cells #[.int .i64 bx, .int .i64 yb] 49 (0, 0))) cx yc
  simp only [World.size_alloc] at *
  have xa0 := sa.c0
  have xa1 := sa.c1
  have xb0 := sb.c0
  have xb1 := sb.c1
  have xc0 := sc.c0
  have xc1 := sc.c1
  have kk : Kp [] w (((w.alloc (.cells #[.int .i64 ax, .int .i64 ay] 49 (0, 0))).alloc (.cells #[.int .i64 bx, .int .i64 yb] 49 (0, 0))).alloc (.cells #[.int .i64 cx, .int .i64 yc] 49 (0, 0))) := (((Kp.refl _ _).alloc _).alloc _).alloc _
  go_enter Tryz.func86, Tryz.ntmps86
  go_wp2_with fail
  with_reducible refine (q0.out _).mono ?_
  rintro e w1 ⟨rfl, k⟩
  replace sa := sa.kept k (by simp)
  clear xa0 xa1
  have xa0 := sa.c0
  have xa1 := sa.c1
  replace sb := sb.kept k (by simp)
  clear xb0 xb1
  have xb0 := sb.c0
  have xb1 := sb.c1
  replace sc := sc.kept k (by simp)
  clear xc0 xc1
  have xc0 := sc.c0
  have xc1 := sc.c1
  replace kk := kk.trans k
  clear k
  go_wp2_with fail
  with_reducible refine (q1.out _).mono ?_
  rintro e w2 ⟨rfl, k⟩
  replace sa := sa.kept k (by simp)
  clear xa0 xa1
  have xa0 := sa.c0
  have xa1 := sa.c1
  replace sb := sb.kept k (by simp)
  clear xb0 xb1
  have xb0 := sb.c0
  have xb1 := sb.c1
  replace sc := sc.kept k (by simp)
  clear xc0 xc1
  have xc0 := sc.c0
  have xc1 := sc.c1
  replace kk := kk.trans k
  clear k
  go_wp2_with fail
  with_reducible refine (q2.out _).mono ?_
  rintro e w3 ⟨rfl, k⟩
  replace sa := sa.kept k (by simp)
  clear xa0 xa1
  have xa0 := sa.c0
  have xa1 := sa.c1
  replace sb := sb.kept k (by simp)
  clear xb0 xb1
  have xb0 := sb.c0
  have xb1 := sb.c1
  replace sc := sc.kept k (by simp)
  clear xc0 xc1
  have xc0 := sc.c0
  have xc1 := sc.c1
  replace kk := kk.trans k
  clear k
  clear sa sb sc
  go_wp2
  go_ret
  exact ⟨rfl, kk⟩

set_option maxRecDepth 100000 in
set_option maxHeartbeats 4000000 in
theorem rthree_3 (ax ay bx yb cx yc : Int) (w : World) (q0 : Hid (∀ W : World, Calls Tryz.prog 72 #[.agg #[.int .i64 ax, .int .i64 ay]] W fun e w' => e = .returned (.bool true) ∧ Kp [] W w')) (q1 : Hid (∀ W : World, Calls Tryz.prog 72 #[.agg #[.int .i64 bx, .int .i64 yb]] W fun e w' => e = .returned (.bool true) ∧ Kp [] W w')) (q2 : Hid (∀ W : World, Calls Tryz.prog 72 #[.agg #[.int .i64 cx, .int .i64 yc]] W fun e w' => e = .returned (.bool true) ∧ Kp [] W w')) :
    Calls Tryz.prog 86 #[.agg #[.int .i64 ax, .int .i64 ay], .agg #[.int .i64 bx, .int .i64 yb], .agg #[.int .i64 cx, .int .i64 yc]] w fun e w' => e = .returned (.int .i64 0) ∧ Kp [] w w' := by
  have sa := PtB.made w ax ay
  replace sa := sa.alloc (.cells #[.int .i64 bx, .int .i64 yb] 49 (0, 0))
  replace sa := sa.alloc (.cells #[.int .i64 cx, .int .i64 yc] 49 (0, 0))
  have sb := PtB.made (w.alloc (.cells #[.int .i64 ax, .int .i64 ay] 49 (0, 0))) bx yb
  replace sb := sb.alloc (.cells #[.int .i64 cx, .int .i64 yc] 49 (0, 0))
  have sc := PtB.made ((w.alloc (.cells #[.int .i64 ax, .int .i64 ay] 49 (0, 0))).alloc (.cells #[.int .i64 bx, .int .i64 yb] 49 (0, 0))) cx yc
  simp only [World.size_alloc] at *
  have xa0 := sa.c0
  have xa1 := sa.c1
  have xb0 := sb.c0
  have xb1 := sb.c1
  have xc0 := sc.c0
  have xc1 := sc.c1
  have kk : Kp [] w (((w.alloc (.cells #[.int .i64 ax, .int .i64 ay] 49 (0, 0))).alloc (.cells #[.int .i64 bx, .int .i64 yb] 49 (0, 0))).alloc (.cells #[.int .i64 cx, .int .i64 yc] 49 (0, 0))) := (((Kp.refl _ _).alloc _).alloc _).alloc _
  go_enter Tryz.func86, Tryz.ntmps86
  go_wp2_with fail
  with_reducible refine (q0.out _).mono ?_
  rintro e w1 ⟨rfl, k⟩
  replace sa := sa.kept k (by simp)
  clear xa0 xa1
  have xa0 := sa.c0
  have xa1 := sa.c1
  replace sb := sb.kept k (by simp)
  clear xb0 xb1
  have xb0 := sb.c0
  have xb1 := sb.c1
  replace sc := sc.kept k (by simp)
  clear xc0 xc1
  have xc0 := sc.c0
  have xc1 := sc.c1
  replace kk := kk.trans k
  clear k
  go_wp2_with fail
  with_reducible refine (q1.out _).mono ?_
  rintro e w2 ⟨rfl, k⟩
  replace sa := sa.kept k (by simp)
  clear xa0 xa1
  have xa0 := sa.c0
  have xa1 := sa.c1
  replace sb := sb.kept k (by simp)
  clear xb0 xb1
  have xb0 := sb.c0
  have xb1 := sb.c1
  replace sc := sc.kept k (by simp)
  clear xc0 xc1
  have xc0 := sc.c0
  have xc1 := sc.c1
  replace kk := kk.trans k
  clear k
  go_wp2_with fail
  with_reducible refine (q2.out _).mono ?_
  rintro e w3 ⟨rfl, k⟩
  replace sa := sa.kept k (by simp)
  clear xa0 xa1
  have xa0 := sa.c0
  have xa1 := sa.c1
  replace sb := sb.kept k (by simp)
  clear xb0 xb1
  have xb0 := sb.c0
  have xb1 := sb.c1
  replace sc := sc.kept k (by simp)
  clear xc0 xc1
  have xc0 := sc.c0
  have xc1 := sc.c1
  replace kk := kk.trans k
  clear k
  clear sa sb sc
  go_wp2
  go_ret
  exact ⟨rfl, kk⟩

set_option maxRecDepth 100000 in
set_option maxHeartbeats 4000000 in
theorem rSignum7 (n : Int) (w : World) : Calls Tryz.prog 89 #[.int .i64 n] w fun e w' => e = .returned (.int .i64 (cmI n 0)) ∧ Kp [] w w' := by
  have kk := Kp.refl [] w
  by_cases h1 : n < 0
  · rw [show cmI n 0 = -1 from if_pos h1]
    go_enter Tryz.func89, Tryz.ntmps89
    go_wp2
    go_ret
    exact ⟨rfl, kk⟩
  by_cases h2 : 0 < n
  · rw [show cmI n 0 = 1 from (if_neg h1).trans (if_pos h2)]
    go_enter Tryz.func89, Tryz.ntmps89
    go_wp2
    go_ret
    exact ⟨rfl, kk⟩
  · rw [show cmI n 0 = 0 from (if_neg h1).trans (if_neg h2)]
    go_enter Tryz.func89, Tryz.ntmps89
    go_wp2
    go_ret
    exact ⟨rfl, kk⟩

end Go.Proofs.YtcgilcmhandgfaaGreatDoor

/- The reference of layer 7: Dot, Cross, Square, Side. -/
namespace Go.Proofs.YtcgilcmhandgfaaGreatDoor
open Go.RowKit
open Go.Lib (nDigits itoa decDigits)

set_option maxRecDepth 100000 in
set_option maxHeartbeats 4000000 in
theorem rDot7_e (ax ay bx yb E : Int) (w : World) (he : (E != 0) = true) (q : Hid (∀ W : World, Calls Tryz.prog 83 #[.agg #[.int .i64 ax, .int .i64 ay], .agg #[.int .i64 bx, .int .i64 yb]] W fun e w' => e = .returned (.int .i64 E) ∧ Kp [] W w')) :
    Calls Tryz.prog 29 #[.agg #[.int .i64 ax, .int .i64 ay], .agg #[.int .i64 bx, .int .i64 yb]] w fun e w' => e = .returned (.tuple #[.int .i64 0, .int .i64 E]) ∧ Kp [] w w' := by
  have sa := PtB.made w ax ay
  replace sa := sa.alloc (.cells #[.int .i64 bx, .int .i64 yb] 49 (0, 0))
  have sb := PtB.made (w.alloc (.cells #[.int .i64 ax, .int .i64 ay] 49 (0, 0))) bx yb
  simp only [World.size_alloc] at *
  have xa0 := sa.c0
  have xa1 := sa.c1
  have xb0 := sb.c0
  have xb1 := sb.c1
  have kk : Kp [] w ((w.alloc (.cells #[.int .i64 ax, .int .i64 ay] 49 (0, 0))).alloc (.cells #[.int .i64 bx, .int .i64 yb] 49 (0, 0))) := ((Kp.refl _ _).alloc _).alloc _
  go_enter Tryz.func29, Tryz.ntmps29
  go_wp2_with fail
  with_reducible refine (q.out _).mono ?_
  rintro e w1 ⟨rfl, k⟩
  replace sa := sa.kept k (by simp)
  clear xa0 xa1
  have xa0 := sa.c0
  have xa1 := sa.c1
  replace sb := sb.kept k (by simp)
  clear xb0 xb1
  have xb0 := sb.c0
  have xb1 := sb.c1
  replace kk := kk.trans k
  clear k
  clear sa sb
  go_wp2
  go_ret2
  exact ⟨rfl, kk⟩

set_option maxRecDepth 100000 in
set_option maxHeartbeats 4000000 in
theorem rDot7_0 (ax ay bx yb v : Int) (w : World) (q : Hid (∀ W : World, Calls Tryz.prog 83 #[.agg #[.int .i64 ax, .int .i64 ay], .agg #[.int .i64 bx, .int .i64 yb]] W fun e w' => e = .returned (.int .i64 0) ∧ Kp [] W w')) (q1 : Hid (∀ W : World, Calls Tryz.prog 84 #[.agg #[.int .i64 ax, .int .i64 ay], .agg #[.int .i64 bx, .int .i64 yb]] W fun e w' => e = .returned (.int .i64 v) ∧ Kp [] W w')) :
    Calls Tryz.prog 29 #[.agg #[.int .i64 ax, .int .i64 ay], .agg #[.int .i64 bx, .int .i64 yb]] w fun e w' => e = .returned (.tuple #[.int .i64 v, .int .i64 0]) ∧ Kp [] w w' := by
  have sa := PtB.made w ax ay
  replace sa := sa.alloc (.cells #[.int .i64 bx, .int .i64 yb] 49 (0, 0))
  have sb := PtB.made (w.alloc (.cells #[.int .i64 ax, .int .i64 ay] 49 (0, 0))) bx yb
  simp only [World.size_alloc] at *
  have xa0 := sa.c0
  have xa1 := sa.c1
  have xb0 := sb.c0
  have xb1 := sb.c1
  have kk : Kp [] w ((w.alloc (.cells #[.int .i64 ax, .int .i64 ay] 49 (0, 0))).alloc (.cells #[.int .i64 bx, .int .i64 yb] 49 (0, 0))) := ((Kp.refl _ _).alloc _).alloc _
  go_enter Tryz.func29, Tryz.ntmps29
  go_wp2_with fail
  with_reducible refine (q.out _).mono ?_
  rintro e w1 ⟨rfl, k⟩
  replace sa := sa.kept k (by simp)
  clear xa0 xa1
  have xa0 := sa.c0
  have xa1 := sa.c1
  replace sb := sb.kept k (by simp)
  clear xb0 xb1
  have xb0 := sb.c0
  have xb1 := sb.c1
  replace kk := kk.trans k
  clear k
  go_wp2_with fail
  with_reducible refine (q1.out _).mono ?_
  rintro e w2 ⟨rfl, k⟩
  replace sa := sa.kept k (by simp)
  clear xa0 xa1
  have xa0 := sa.c0
  have xa1 := sa.c1
  replace sb := sb.kept k (by simp)
  clear xb0 xb1
  have xb0 := sb.c0
  have xb1 := sb.c1
  replace kk := kk.trans k
  clear k
  clear sa sb
  go_wp2
  go_ret2
  exact ⟨rfl, kk⟩

set_option maxRecDepth 100000 in
set_option maxHeartbeats 4000000 in
theorem rCross7_e (ax ay bx yb cx yc E : Int) (w : World) (he : (E != 0) = true) (q : Hid (∀ W : World, Calls Tryz.prog 86 #[.agg #[.int .i64 ax, .int .i64 ay], .agg #[.int .i64 bx, .int .i64 yb], .agg #[.int .i64 cx, .int .i64 yc]] W fun e w' => e = .returned (.int .i64 E) ∧ Kp [] W w')) :
    Calls Tryz.prog 31 #[.agg #[.int .i64 ax, .int .i64 ay], .agg #[.int .i64 bx, .int .i64 yb], .agg #[.int .i64 cx, .int .i64 yc]] w fun e w' => e = .returned (.tuple #[.int .i64 0, .int .i64 E]) ∧ Kp [] w w' := by
  have sa := PtB.made w ax ay
  replace sa := sa.alloc (.cells #[.int .i64 bx, .int .i64 yb] 49 (0, 0))
  replace sa := sa.alloc (.cells #[.int .i64 cx, .int .i64 yc] 49 (0, 0))
  have sb := PtB.made (w.alloc (.cells #[.int .i64 ax, .int .i64 ay] 49 (0, 0))) bx yb
  replace sb := sb.alloc (.cells #[.int .i64 cx, .int .i64 yc] 49 (0, 0))
  have sc := PtB.made ((w.alloc (.cells #[.int .i64 ax, .int .i64 ay] 49 (0, 0))).alloc (.cells #[.int .i64 bx, .int .i64 yb] 49 (0, 0))) cx yc
  simp only [World.size_alloc] at *
  have xa0 := sa.c0
  have xa1 := sa.c1
  have xb0 := sb.c0
  have xb1 := sb.c1
  have xc0 := sc.c0
  have xc1 := sc.c1
  have kk : Kp [] w (((w.alloc (.cells #[.int .i64 ax, .int .i64 ay] 49 (0, 0))).alloc (.cells #[.int .i64 bx, .int .i64 yb] 49 (0, 0))).alloc (.cells #[.int .i64 cx, .int .i64 yc] 49 (0, 0))) := (((Kp.refl _ _).alloc _).alloc _).alloc _
  go_enter Tryz.func31, Tryz.ntmps31
  go_wp2_with fail
  with_reducible refine (q.out _).mono ?_
  rintro e w1 ⟨rfl, k⟩
  replace sa := sa.kept k (by simp)
  clear xa0 xa1
  have xa0 := sa.c0
  have xa1 := sa.c1
  replace sb := sb.kept k (by simp)
  clear xb0 xb1
  have xb0 := sb.c0
  have xb1 := sb.c1
  replace sc := sc.kept k (by simp)
  clear xc0 xc1
  have xc0 := sc.c0
  have xc1 := sc.c1
  replace kk := kk.trans k
  clear k
  clear sa sb sc
  go_wp2
  go_ret2
  exact ⟨rfl, kk⟩

set_option maxRecDepth 100000 in
set_option maxHeartbeats 4000000 in
theorem rCross7_0 (ax ay bx yb cx yc v : Int) (w : World) (q : Hid (∀ W : World, Calls Tryz.prog 86 #[.agg #[.int .i64 ax, .int .i64 ay], .agg #[.int .i64 bx, .int .i64 yb], .agg #[.int .i64 cx, .int .i64 yc]] W fun e w' => e = .returned (.int .i64 0) ∧ Kp [] W w')) (q1 : Hid (∀ W : World, Calls Tryz.prog 87 #[.agg #[.int .i64 ax, .int .i64 ay], .agg #[.int .i64 bx, .int .i64 yb], .agg #[.int .i64 cx, .int .i64 yc]] W fun e w' => e = .returned (.int .i64 v) ∧ Kp [] W w')) :
    Calls Tryz.prog 31 #[.agg #[.int .i64 ax, .int .i64 ay], .agg #[.int .i64 bx, .int .i64 yb], .agg #[.int .i64 cx, .int .i64 yc]] w fun e w' => e = .returned (.tuple #[.int .i64 v, .int .i64 0]) ∧ Kp [] w w' := by
  have sa := PtB.made w ax ay
  replace sa := sa.alloc (.cells #[.int .i64 bx, .int .i64 yb] 49 (0, 0))
  replace sa := sa.alloc (.cells #[.int .i64 cx, .int .i64 yc] 49 (0, 0))
  have sb := PtB.made (w.alloc (.cells #[.int .i64 ax, .int .i64 ay] 49 (0, 0))) bx yb
  replace sb := sb.alloc (.cells #[.int .i64 cx, .int .i64 yc] 49 (0, 0))
  have sc := PtB.made ((w.alloc (.cells #[.int .i64 ax, .int .i64 ay] 49 (0, 0))).alloc (.cells #[.int .i64 bx, .int .i64 yb] 49 (0, 0))) cx yc
  simp only [World.size_alloc] at *
  have xa0 := sa.c0
  have xa1 := sa.c1
  have xb0 := sb.c0
  have xb1 := sb.c1
  have xc0 := sc.c0
  have xc1 := sc.c1
  have kk : Kp [] w (((w.alloc (.cells #[.int .i64 ax, .int .i64 ay] 49 (0, 0))).alloc (.cells #[.int .i64 bx, .int .i64 yb] 49 (0, 0))).alloc (.cells #[.int .i64 cx, .int .i64 yc] 49 (0, 0))) := (((Kp.refl _ _).alloc _).alloc _).alloc _
  go_enter Tryz.func31, Tryz.ntmps31
  go_wp2_with fail
  with_reducible refine (q.out _).mono ?_
  rintro e w1 ⟨rfl, k⟩
  replace sa := sa.kept k (by simp)
  clear xa0 xa1
  have xa0 := sa.c0
  have xa1 := sa.c1
  replace sb := sb.kept k (by simp)
  clear xb0 xb1
  have xb0 := sb.c0
  have xb1 := sb.c1
  replace sc := sc.kept k (by simp)
  clear xc0 xc1
  have xc0 := sc.c0
  have xc1 := sc.c1
  replace kk := kk.trans k
  clear k
  go_wp2_with fail
  with_reducible refine (q1.out _).mono ?_
  rintro e w2 ⟨rfl, k⟩
  replace sa := sa.kept k (by simp)
  clear xa0 xa1
  have xa0 := sa.c0
  have xa1 := sa.c1
  replace sb := sb.kept k (by simp)
  clear xb0 xb1
  have xb0 := sb.c0
  have xb1 := sb.c1
  replace sc := sc.kept k (by simp)
  clear xc0 xc1
  have xc0 := sc.c0
  have xc1 := sc.c1
  replace kk := kk.trans k
  clear k
  clear sa sb sc
  go_wp2
  go_ret2
  exact ⟨rfl, kk⟩

set_option maxRecDepth 100000 in
set_option maxHeartbeats 4000000 in
theorem rSquare7_e (ax ay bx yb E : Int) (w : World) (he : (E != 0) = true) (q : Hid (∀ W : World, Calls Tryz.prog 83 #[.agg #[.int .i64 ax, .int .i64 ay], .agg #[.int .i64 bx, .int .i64 yb]] W fun e w' => e = .returned (.int .i64 E) ∧ Kp [] W w')) :
    Calls Tryz.prog 35 #[.agg #[.int .i64 ax, .int .i64 ay], .agg #[.int .i64 bx, .int .i64 yb]] w fun e w' => e = .returned (.tuple #[.int .i64 0, .int .i64 E]) ∧ Kp [] w w' := by
  have sa := PtB.made w ax ay
  replace sa := sa.alloc (.cells #[.int .i64 bx, .int .i64 yb] 49 (0, 0))
  have sb := PtB.made (w.alloc (.cells #[.int .i64 ax, .int .i64 ay] 49 (0, 0))) bx yb
  simp only [World.size_alloc] at *
  have xa0 := sa.c0
  have xa1 := sa.c1
  have xb0 := sb.c0
  have xb1 := sb.c1
  have kk : Kp [] w ((w.alloc (.cells #[.int .i64 ax, .int .i64 ay] 49 (0, 0))).alloc (.cells #[.int .i64 bx, .int .i64 yb] 49 (0, 0))) := ((Kp.refl _ _).alloc _).alloc _
  go_enter Tryz.func35, Tryz.ntmps35
  go_wp2_with fail
  with_reducible refine (q.out _).mono ?_
  rintro e w1 ⟨rfl, k⟩
  replace sa := sa.kept k (by simp)
  clear xa0 xa1
  have xa0 := sa.c0
  have xa1 := sa.c1
  replace sb := sb.kept k (by simp)
  clear xb0 xb1
  have xb0 := sb.c0
  have xb1 := sb.c1
  replace kk := kk.trans k
  clear k
  clear sa sb
  go_wp2
  go_ret2
  exact ⟨rfl, kk⟩

set_option maxRecDepth 100000 in
set_option maxHeartbeats 4000000 in
theorem rSquare7_0 (ax ay bx yb v : Int) (w : World) (q : Hid (∀ W : World, Calls Tryz.prog 83 #[.agg #[.int .i64 ax, .int .i64 ay], .agg #[.int .i64 bx, .int .i64 yb]] W fun e w' => e = .returned (.int .i64 0) ∧ Kp [] W w')) (q1 : Hid (∀ W : World, Calls Tryz.prog 92 #[.agg #[.int .i64 ax, .int .i64 ay], .agg #[.int .i64 bx, .int .i64 yb]] W fun e w' => e = .returned (.int .i64 v) ∧ Kp [] W w')) :
    Calls Tryz.prog 35 #[.agg #[.int .i64 ax, .int .i64 ay], .agg #[.int .i64 bx, .int .i64 yb]] w fun e w' => e = .returned (.tuple #[.int .i64 v, .int .i64 0]) ∧ Kp [] w w' := by
  have sa := PtB.made w ax ay
  replace sa := sa.alloc (.cells #[.int .i64 bx, .int .i64 yb] 49 (0, 0))
  have sb := PtB.made (w.alloc (.cells #[.int .i64 ax, .int .i64 ay] 49 (0, 0))) bx yb
  simp only [World.size_alloc] at *
  have xa0 := sa.c0
  have xa1 := sa.c1
  have xb0 := sb.c0
  have xb1 := sb.c1
  have kk : Kp [] w ((w.alloc (.cells #[.int .i64 ax, .int .i64 ay] 49 (0, 0))).alloc (.cells #[.int .i64 bx, .int .i64 yb] 49 (0, 0))) := ((Kp.refl _ _).alloc _).alloc _
  go_enter Tryz.func35, Tryz.ntmps35
  go_wp2_with fail
  with_reducible refine (q.out _).mono ?_
  rintro e w1 ⟨rfl, k⟩
  replace sa := sa.kept k (by simp)
  clear xa0 xa1
  have xa0 := sa.c0
  have xa1 := sa.c1
  replace sb := sb.kept k (by simp)
  clear xb0 xb1
  have xb0 := sb.c0
  have xb1 := sb.c1
  replace kk := kk.trans k
  clear k
  go_wp2_with fail
  with_reducible refine (q1.out _).mono ?_
  rintro e w2 ⟨rfl, k⟩
  replace sa := sa.kept k (by simp)
  clear xa0 xa1
  have xa0 := sa.c0
  have xa1 := sa.c1
  replace sb := sb.kept k (by simp)
  clear xb0 xb1
  have xb0 := sb.c0
  have xb1 := sb.c1
  replace kk := kk.trans k
  clear k
  clear sa sb
  go_wp2
  go_ret2
  exact ⟨rfl, kk⟩

set_option maxRecDepth 100000 in
set_option maxHeartbeats 4000000 in
theorem rSide7 (ax ay bx yb cx yc v E s : Int) (w : World) (q : Hid (∀ W : World, Calls Tryz.prog 31 #[.agg #[.int .i64 ax, .int .i64 ay], .agg #[.int .i64 bx, .int .i64 yb], .agg #[.int .i64 cx, .int .i64 yc]] W fun e w' => e = .returned (.tuple #[.int .i64 v, .int .i64 E]) ∧ Kp [] W w')) (q1 : Hid (∀ W : World, Calls Tryz.prog 89 #[.int .i64 v] W fun e w' => e = .returned (.int .i64 s) ∧ Kp [] W w')) :
    Calls Tryz.prog 33 #[.agg #[.int .i64 ax, .int .i64 ay], .agg #[.int .i64 bx, .int .i64 yb], .agg #[.int .i64 cx, .int .i64 yc]] w fun e w' => e = .returned (.tuple #[.int .i64 s, .int .i64 E]) ∧ Kp [] w w' := by
  have sa := PtB.made w ax ay
  replace sa := sa.alloc (.cells #[.int .i64 bx, .int .i64 yb] 49 (0, 0))
  replace sa := sa.alloc (.cells #[.int .i64 cx, .int .i64 yc] 49 (0, 0))
  have sb := PtB.made (w.alloc (.cells #[.int .i64 ax, .int .i64 ay] 49 (0, 0))) bx yb
  replace sb := sb.alloc (.cells #[.int .i64 cx, .int .i64 yc] 49 (0, 0))
  have sc := PtB.made ((w.alloc (.cells #[.int .i64 ax, .int .i64 ay] 49 (0, 0))).alloc (.cells #[.int .i64 bx, .int .i64 yb] 49 (0, 0))) cx yc
  simp only [World.size_alloc] at *
  have xa0 := sa.c0
  have xa1 := sa.c1
  have xb0 := sb.c0
  have xb1 := sb.c1
  have xc0 := sc.c0
  have xc1 := sc.c1
  have kk : Kp [] w (((w.alloc (.cells #[.int .i64 ax, .int .i64 ay] 49 (0, 0))).alloc (.cells #[.int .i64 bx, .int .i64 yb] 49 (0, 0))).alloc (.cells #[.int .i64 cx, .int .i64 yc] 49 (0, 0))) := (((Kp.refl _ _).alloc _).alloc _).alloc _
  go_enter Tryz.func33, Tryz.ntmps33
  go_wp2_with fail
  with_reducible refine (q.out _).mono ?_
  rintro e w1 ⟨rfl, k⟩
  replace sa := sa.kept k (by simp)
  clear xa0 xa1
  have xa0 := sa.c0
  have xa1 := sa.c1
  replace sb := sb.kept k (by simp)
  clear xb0 xb1
  have xb0 := sb.c0
  have xb1 := sb.c1
  replace sc := sc.kept k (by simp)
  clear xc0 xc1
  have xc0 := sc.c0
  have xc1 := sc.c1
  replace kk := kk.trans k
  clear k
  go_wp2_with fail
  with_reducible refine (q1.out _).mono ?_
  rintro e w2 ⟨rfl, k⟩
  replace sa := sa.kept k (by simp)
  clear xa0 xa1
  have xa0 := sa.c0
  have xa1 := sa.c1
  replace sb := sb.kept k (by simp)
  clear xb0 xb1
  have xb0 := sb.c0
  have xb1 := sb.c1
  replace sc := sc.kept k (by simp)
  clear xc0 xc1
  have xc0 := sc.c0
  have xc1 := sc.c1
  replace kk := kk.trans k
  clear k
  clear sa sb sc
  go_wp2
  go_ret2
  exact ⟨rfl, kk⟩

end Go.Proofs.YtcgilcmhandgfaaGreatDoor

/- The reference of layer 7: Left, Far. -/
namespace Go.Proofs.YtcgilcmhandgfaaGreatDoor
open Go.RowKit
open Go.Lib (nDigits itoa decDigits)

def vrf87_s : RSt := ⟨8, 14, 3, fun i => ([7, 8, 9, 10, 11, 12, 13, 6] : List Nat).getD i 0, fun i => ([0, 0, 1, 0, 0, 1, 1, 0] : List Nat).getD i 0, fun i => ([0, 0, 0, 0, 0, 1, 2, 0] : List Nat).getD i 0, fun i => ([8, 8, 8, 8, 8, 8, 7, 0, 1, 2, 3, 4, 5, 6, 8] : List Nat).getD i 8, fun i => ([2, 5, 6] : List Nat).getD i 0, fun _ => false, fun _ => true, fun _ => 0, fun _ => false⟩
def vrf87_y : RSy := ⟨vrf87_s, fun i => ([.at 3, .at 4, .at 5, .at 6, .at 4, .at 7, .at 8, .at 8] : List SV).getD i .un, [(3, .at 1), (4, .at 0), (5, .at 2)], fun i => ([false, false, true, false, false, true, true, false] : List Bool).getD i false⟩
def vrf87_ca : List (Nat × Nat × List SV) := [(2, 120, [.at 3, .at 4]), (5, 120, [.at 6, .at 4]), (6, 114, [.at 5, .at 7])]
theorem vrf87_ok : reflOk (opsOf 1 Tryz.f87) vrf87_y [0, 1, 3, 4] vrf87_ca [] [] = true := by kernel_rfl

set_option maxRecDepth 100000 in
set_option maxHeartbeats 4000000 in
theorem rLeft7 (ax ay bx yb cx yc ux uy vx vy v : Int) (w : World) (q1 : Hid (∀ W : World, Calls Tryz.prog 120 #[.agg #[.int .i64 bx, .int .i64 yb], .agg #[.int .i64 ax, .int .i64 ay]] W fun e w' => e = .returned (.agg #[.int .i64 ux, .int .i64 uy]) ∧ Kp [] W w'))
    (q2 : Hid (∀ W : World, Calls Tryz.prog 120 #[.agg #[.int .i64 cx, .int .i64 yc], .agg #[.int .i64 ax, .int .i64 ay]] W fun e w' => e = .returned (.agg #[.int .i64 vx, .int .i64 vy]) ∧ Kp [] W w'))
    (q3 : Hid (∀ W : World, Calls Tryz.prog 114 #[.agg #[.int .i64 ux, .int .i64 uy], .agg #[.int .i64 vx, .int .i64 vy]] W fun e w' => e = .returned (.int .i64 v) ∧ Kp [] W w')) :
    Calls Tryz.prog 87 #[.agg #[.int .i64 ax, .int .i64 ay], .agg #[.int .i64 bx, .int .i64 yb], .agg #[.int .i64 cx, .int .i64 yc]] w fun e w' => e = .returned (.int .i64 v) ∧ Kp [] w w' := by
  have sa := PtB.made w ax ay
  replace sa := sa.alloc (.cells #[.int .i64 bx, .int .i64 yb] 49 (0, 0))
  replace sa := sa.alloc (.cells #[.int .i64 cx, .int .i64 yc] 49 (0, 0))
  have sb := PtB.made (w.alloc (.cells #[.int .i64 ax, .int .i64 ay] 49 (0, 0))) bx yb
  replace sb := sb.alloc (.cells #[.int .i64 cx, .int .i64 yc] 49 (0, 0))
  have sc := PtB.made ((w.alloc (.cells #[.int .i64 ax, .int .i64 ay] 49 (0, 0))).alloc (.cells #[.int .i64 bx, .int .i64 yb] 49 (0, 0))) cx yc
  simp only [World.size_alloc] at *
  have xa0 := sa.c0
  have xa1 := sa.c1
  have xb0 := sb.c0
  have xb1 := sb.c1
  have xc0 := sc.c0
  have xc1 := sc.c1
  have kk : Kp [] w (((w.alloc (.cells #[.int .i64 ax, .int .i64 ay] 49 (0, 0))).alloc (.cells #[.int .i64 bx, .int .i64 yb] 49 (0, 0))).alloc (.cells #[.int .i64 cx, .int .i64 yc] 49 (0, 0))) := (((Kp.refl _ _).alloc _).alloc _).alloc _
  go_enter Tryz.func87, Tryz.ntmps87
  go_wp2_with fail
  rw [frame_lit]
  refine reg_refl vrf87_y (fun k => ([.pointer (some ⟨w.heap.size + 1, 0, none⟩), .pointer (some ⟨w.heap.size, 0, none⟩), .pointer (some ⟨w.heap.size + 1 + 1, 0, none⟩), .agg #[.int .i64 bx, .int .i64 yb], .agg #[.int .i64 ax, .int .i64 ay], .agg #[.int .i64 ux, .int .i64 uy], .agg #[.int .i64 cx, .int .i64 yc], .agg #[.int .i64 vx, .int .i64 vy], .int .i64 v] : List Value).getD k undef) [] (fun _ _ _ => True) (opsOf 1 Tryz.f87) [0, 1, 3, 4] vrf87_ca [] [] (by kernel_rfl) (by kernel_rfl) vrf87_ok ⟨rfl, rfl, rfl, trivial⟩ ?sp ?ca ?cx (by decide) ?fr (fun _ _ _ _ h _ => h) ?rest
  case sp =>
    refine ⟨?_, ?_, ?_, ?_, trivial⟩
    · intro T wz H o ho; have he : o.op = .load 49 (.tmp 4) := Option.some.inj ((congrArg (fun z => z.map Oper.op) ho).symm.trans (show ((opsOf 1 Tryz.f87)[0]?).map Oper.op = some (.load 49 (.tmp 4)) by kernel_rfl)); exact op_ldP he (H.ev (.tmp 4) (.at 0) (by kernel_rfl)) (PtB.kept (L := []) (show PtB (World.drew (((w.alloc (.cells #[.int .i64 ax, .int .i64 ay] 49 (0, 0))).alloc (.cells #[.int .i64 bx, .int .i64 yb] 49 (0, 0))).alloc (.cells #[.int .i64 cx, .int .i64 yc] 49 (0, 0)))) _ _ _ from sb) H.kp (by simp))
    · intro T wz H o ho; have he : o.op = .load 49 (.tmp 3) := Option.some.inj ((congrArg (fun z => z.map Oper.op) ho).symm.trans (show ((opsOf 1 Tryz.f87)[1]?).map Oper.op = some (.load 49 (.tmp 3)) by kernel_rfl)); exact op_ldP he (H.ev (.tmp 3) (.at 1) (by kernel_rfl)) (PtB.kept (L := []) (show PtB (World.drew (((w.alloc (.cells #[.int .i64 ax, .int .i64 ay] 49 (0, 0))).alloc (.cells #[.int .i64 bx, .int .i64 yb] 49 (0, 0))).alloc (.cells #[.int .i64 cx, .int .i64 yc] 49 (0, 0)))) _ _ _ from sa) H.kp (by simp))
    · intro T wz H o ho; have he : o.op = .load 49 (.tmp 5) := Option.some.inj ((congrArg (fun z => z.map Oper.op) ho).symm.trans (show ((opsOf 1 Tryz.f87)[3]?).map Oper.op = some (.load 49 (.tmp 5)) by kernel_rfl)); exact op_ldP he (H.ev (.tmp 5) (.at 2) (by kernel_rfl)) (PtB.kept (L := []) (show PtB (World.drew (((w.alloc (.cells #[.int .i64 ax, .int .i64 ay] 49 (0, 0))).alloc (.cells #[.int .i64 bx, .int .i64 yb] 49 (0, 0))).alloc (.cells #[.int .i64 cx, .int .i64 yc] 49 (0, 0)))) _ _ _ from sc) H.kp (by simp))
    · intro T wz H o ho; have he : o.op = .load 49 (.tmp 3) := Option.some.inj ((congrArg (fun z => z.map Oper.op) ho).symm.trans (show ((opsOf 1 Tryz.f87)[4]?).map Oper.op = some (.load 49 (.tmp 3)) by kernel_rfl)); exact op_ldP he (H.ev (.tmp 3) (.at 1) (by kernel_rfl)) (PtB.kept (L := []) (show PtB (World.drew (((w.alloc (.cells #[.int .i64 ax, .int .i64 ay] 49 (0, 0))).alloc (.cells #[.int .i64 bx, .int .i64 yb] 49 (0, 0))).alloc (.cells #[.int .i64 cx, .int .i64 yc] 49 (0, 0)))) _ _ _ from sa) H.kp (by simp))
  case ca =>
    refine ⟨?_, ?_, ?_, trivial⟩
    · exact ⟨(enters_of Tryz.func120 (by kernel_rfl) rfl), fun wz hk => (q1.out wz).mono fun x w2 ⟨h1, h2⟩ => ⟨_, h1, h2, fun _ => rfl⟩⟩
    · exact ⟨(enters_of Tryz.func120 (by kernel_rfl) rfl), fun wz hk => (q2.out wz).mono fun x w2 ⟨h1, h2⟩ => ⟨_, h1, h2, fun _ => rfl⟩⟩
    · exact ⟨(enters_of Tryz.func114 (by kernel_rfl) rfl), fun wz hk => (q3.out wz).mono fun x w2 ⟨h1, h2⟩ => ⟨_, h1, h2, fun _ => rfl⟩⟩
  case cx =>
    exact trivial
  case fr =>
    exact trivial
  case rest =>
    intro T w3 hout hval k hF
    rw [show frameOf vrf87_y.st.N T = (⟨#[T 0, T 1, T 2, T 3, T 4, T 5, T 6, T 7, T 8, T 9, T 10, T 11, T 12, T 13], []⟩ : Act) from frame_list 14 T]
    rw [show T 6 = .int .i64 v from hval 7 (by decide : 7 < 8) (.inl rfl)]
    replace kk := kk.trans k
    clear hout hval hF k q1 q2 q3 sa xa0 xa1 sb xb0 xb1 sc xc0 xc1
    go_wp2
    go_ret
    exact ⟨rfl, kk⟩

def vrf92_s : RSt := ⟨8, 12, 3, fun i => ([5, 6, 7, 8, 9, 10, 11, 4] : List Nat).getD i 0, fun i => ([0, 0, 1, 0, 0, 1, 1, 0] : List Nat).getD i 0, fun i => ([0, 0, 0, 0, 0, 1, 2, 0] : List Nat).getD i 0, fun i => ([8, 8, 8, 8, 7, 0, 1, 2, 3, 4, 5, 6, 8] : List Nat).getD i 8, fun i => ([2, 5, 6] : List Nat).getD i 0, fun _ => false, fun _ => true, fun _ => 0, fun _ => false⟩
def vrf92_y : RSy := ⟨vrf92_s, fun i => ([.at 2, .at 3, .at 4, .at 2, .at 3, .at 5, .at 6, .at 6] : List SV).getD i .un, [(2, .at 0), (3, .at 1)], fun i => ([false, false, true, false, false, true, true, false] : List Bool).getD i false⟩
def vrf92_ca : List (Nat × Nat × List SV) := [(2, 120, [.at 2, .at 3]), (5, 120, [.at 2, .at 3]), (6, 84, [.at 4, .at 5])]
theorem vrf92_ok : reflOk (opsOf 1 Tryz.f92) vrf92_y [0, 1, 3, 4] vrf92_ca [] [] = true := by kernel_rfl

set_option maxRecDepth 100000 in
set_option maxHeartbeats 4000000 in
theorem rFar7 (ax ay bx yb ux uy vx vy v : Int) (w : World) (q1 : Hid (∀ W : World, Calls Tryz.prog 120 #[.agg #[.int .i64 ax, .int .i64 ay], .agg #[.int .i64 bx, .int .i64 yb]] W fun e w' => e = .returned (.agg #[.int .i64 ux, .int .i64 uy]) ∧ Kp [] W w'))
    (q2 : Hid (∀ W : World, Calls Tryz.prog 120 #[.agg #[.int .i64 ax, .int .i64 ay], .agg #[.int .i64 bx, .int .i64 yb]] W fun e w' => e = .returned (.agg #[.int .i64 vx, .int .i64 vy]) ∧ Kp [] W w'))
    (q3 : Hid (∀ W : World, Calls Tryz.prog 84 #[.agg #[.int .i64 ux, .int .i64 uy], .agg #[.int .i64 vx, .int .i64 vy]] W fun e w' => e = .returned (.int .i64 v) ∧ Kp [] W w')) :
    Calls Tryz.prog 92 #[.agg #[.int .i64 ax, .int .i64 ay], .agg #[.int .i64 bx, .int .i64 yb]] w fun e w' => e = .returned (.int .i64 v) ∧ Kp [] w w' := by
  have sa := PtB.made w ax ay
  replace sa := sa.alloc (.cells #[.int .i64 bx, .int .i64 yb] 49 (0, 0))
  have sb := PtB.made (w.alloc (.cells #[.int .i64 ax, .int .i64 ay] 49 (0, 0))) bx yb
  simp only [World.size_alloc] at *
  have xa0 := sa.c0
  have xa1 := sa.c1
  have xb0 := sb.c0
  have xb1 := sb.c1
  have kk : Kp [] w ((w.alloc (.cells #[.int .i64 ax, .int .i64 ay] 49 (0, 0))).alloc (.cells #[.int .i64 bx, .int .i64 yb] 49 (0, 0))) := ((Kp.refl _ _).alloc _).alloc _
  go_enter Tryz.func92, Tryz.ntmps92
  go_wp2_with fail
  rw [frame_lit]
  refine reg_refl vrf92_y (fun k => ([.pointer (some ⟨w.heap.size, 0, none⟩), .pointer (some ⟨w.heap.size + 1, 0, none⟩), .agg #[.int .i64 ax, .int .i64 ay], .agg #[.int .i64 bx, .int .i64 yb], .agg #[.int .i64 ux, .int .i64 uy], .agg #[.int .i64 vx, .int .i64 vy], .int .i64 v] : List Value).getD k undef) [] (fun _ _ _ => True) (opsOf 1 Tryz.f92) [0, 1, 3, 4] vrf92_ca [] [] (by kernel_rfl) (by kernel_rfl) vrf92_ok ⟨rfl, rfl, trivial⟩ ?sp ?ca ?cx (by decide) ?fr (fun _ _ _ _ h _ => h) ?rest
  case sp =>
    refine ⟨?_, ?_, ?_, ?_, trivial⟩
    · intro T wz H o ho; have he : o.op = .load 49 (.tmp 2) := Option.some.inj ((congrArg (fun z => z.map Oper.op) ho).symm.trans (show ((opsOf 1 Tryz.f92)[0]?).map Oper.op = some (.load 49 (.tmp 2)) by kernel_rfl)); exact op_ldP he (H.ev (.tmp 2) (.at 0) (by kernel_rfl)) (PtB.kept (L := []) (show PtB (World.drew ((w.alloc (.cells #[.int .i64 ax, .int .i64 ay] 49 (0, 0))).alloc (.cells #[.int .i64 bx, .int .i64 yb] 49 (0, 0)))) _ _ _ from sa) H.kp (by simp))
    · intro T wz H o ho; have he : o.op = .load 49 (.tmp 3) := Option.some.inj ((congrArg (fun z => z.map Oper.op) ho).symm.trans (show ((opsOf 1 Tryz.f92)[1]?).map Oper.op = some (.load 49 (.tmp 3)) by kernel_rfl)); exact op_ldP he (H.ev (.tmp 3) (.at 1) (by kernel_rfl)) (PtB.kept (L := []) (show PtB (World.drew ((w.alloc (.cells #[.int .i64 ax, .int .i64 ay] 49 (0, 0))).alloc (.cells #[.int .i64 bx, .int .i64 yb] 49 (0, 0)))) _ _ _ from sb) H.kp (by simp))
    · intro T wz H o ho; have he : o.op = .load 49 (.tmp 2) := Option.some.inj ((congrArg (fun z => z.map Oper.op) ho).symm.trans (show ((opsOf 1 Tryz.f92)[3]?).map Oper.op = some (.load 49 (.tmp 2)) by kernel_rfl)); exact op_ldP he (H.ev (.tmp 2) (.at 0) (by kernel_rfl)) (PtB.kept (L := []) (show PtB (World.drew ((w.alloc (.cells #[.int .i64 ax, .int .i64 ay] 49 (0, 0))).alloc (.cells #[.int .i64 bx, .int .i64 yb] 49 (0, 0)))) _ _ _ from sa) H.kp (by simp))
    · intro T wz H o ho; have he : o.op = .load 49 (.tmp 3) := Option.some.inj ((congrArg (fun z => z.map Oper.op) ho).symm.trans (show ((opsOf 1 Tryz.f92)[4]?).map Oper.op = some (.load 49 (.tmp 3)) by kernel_rfl)); exact op_ldP he (H.ev (.tmp 3) (.at 1) (by kernel_rfl)) (PtB.kept (L := []) (show PtB (World.drew ((w.alloc (.cells #[.int .i64 ax, .int .i64 ay] 49 (0, 0))).alloc (.cells #[.int .i64 bx, .int .i64 yb] 49 (0, 0)))) _ _ _ from sb) H.kp (by simp))
  case ca =>
    refine ⟨?_, ?_, ?_, trivial⟩
    · exact ⟨(enters_of Tryz.func120 (by kernel_rfl) rfl), fun wz hk => (q1.out wz).mono fun x w2 ⟨h1, h2⟩ => ⟨_, h1, h2, fun _ => rfl⟩⟩
    · exact ⟨(enters_of Tryz.func120 (by kernel_rfl) rfl), fun wz hk => (q2.out wz).mono fun x w2 ⟨h1, h2⟩ => ⟨_, h1, h2, fun _ => rfl⟩⟩
    · exact ⟨(enters_of Tryz.func84 (by kernel_rfl) rfl), fun wz hk => (q3.out wz).mono fun x w2 ⟨h1, h2⟩ => ⟨_, h1, h2, fun _ => rfl⟩⟩
  case cx =>
    exact trivial
  case fr =>
    exact trivial
  case rest =>
    intro T w3 hout hval k hF
    rw [show frameOf vrf92_y.st.N T = (⟨#[T 0, T 1, T 2, T 3, T 4, T 5, T 6, T 7, T 8, T 9, T 10, T 11], []⟩ : Act) from frame_list 12 T]
    rw [show T 4 = .int .i64 v from hval 7 (by decide : 7 < 8) (.inl rfl)]
    replace kk := kk.trans k
    clear hout hval hF k q1 q2 q3 sa xa0 xa1 sb xb0 xb1
    go_wp2
    go_ret
    exact ⟨rfl, kk⟩

end Go.Proofs.YtcgilcmhandgfaaGreatDoor

/- Dot, Cross, Side, Square of package vector and of the reference of layer 7 answer alike. -/
namespace Go.Proofs.YtcgilcmhandgfaaGreatDoor
open Go.RowKit
open Go.Lib (nDigits itoa decDigits)

/-- a value behind the check of its points -/
def bP (E v : Int) : Int := if E = 0 then v else 0
theorem ck_id (E : Int) : (if E = 0 then 0 else E) = E := by split <;> simp_all
theorem ck2_eq (p q : Int × Int) : ckP [p, q] = if (inP p && inP q) = true then 0 else 2 := by simp [ckP]
theorem ck3_eq (p q r : Int × Int) : ckP [p, q, r] = if (inP p && (inP q && inP r)) = true then 0 else 2 := by simp [ckP]
theorem sq_swap (x y : Int) : (x - y) * (x - y) = (y - x) * (y - x) := by rw [← Int.neg_sub y x, Int.neg_mul_neg]

theorem rright_c {x y : Int} {b : Bool} (h : inP (x, y) = b) : Hid (∀ W : World, Calls Tryz.prog 72 #[.agg #[.int .i64 x, .int .i64 y]] W fun e w' => e = .returned (.bool b) ∧ Kp [] W w') := fun W => by
  have q := rRight7 x y W
  rwa [h] at q

theorem rpair_c (ax ay bx yb : Int) (w : World) :
    Calls Tryz.prog 83 #[.agg #[.int .i64 ax, .int .i64 ay], .agg #[.int .i64 bx, .int .i64 yb]] w fun e w' => e = .returned (.int .i64 (ckP [(ax, ay), (bx, yb)])) ∧ Kp [] w w' := by
  rw [ck2_eq]
  cases h1 : inP (ax, ay) with
  | false => exact rpair_0 ax ay bx yb w (rright_c h1)
  | true =>
    cases h2 : inP (bx, yb) with
    | false => exact rpair_1 ax ay bx yb w (rright_c h1) (rright_c h2)
    | true => exact rpair_2 ax ay bx yb w (rright_c h1) (rright_c h2)

theorem rthree_c (ax ay bx yb cx yc : Int) (w : World) :
    Calls Tryz.prog 86 #[.agg #[.int .i64 ax, .int .i64 ay], .agg #[.int .i64 bx, .int .i64 yb], .agg #[.int .i64 cx, .int .i64 yc]] w fun e w' => e = .returned (.int .i64 (ckP [(ax, ay), (bx, yb), (cx, yc)])) ∧ Kp [] w w' := by
  rw [ck3_eq]
  cases h1 : inP (ax, ay) with
  | false => exact rthree_0 ax ay bx yb cx yc w (rright_c h1)
  | true =>
    cases h2 : inP (bx, yb) with
    | false => exact rthree_1 ax ay bx yb cx yc w (rright_c h1) (rright_c h2)
    | true =>
      cases h3 : inP (cx, yc) with
      | false => exact rthree_2 ax ay bx yb cx yc w (rright_c h1) (rright_c h2) (rright_c h3)
      | true => exact rthree_3 ax ay bx yb cx yc w (rright_c h1) (rright_c h2) (rright_c h3)

section
variable (ax ay bx yb : Int) (w : World)
theorem dot_p : Calls Tryz.prog 28 #[.agg #[.int .i64 ax, .int .i64 ay], .agg #[.int .i64 bx, .int .i64 yb]] w fun e w' => e = .returned (.tuple #[.int .i64 (bP (ckP [(ax, ay), (bx, yb)]) (ax * bx + ay * yb)), .int .i64 (ckP [(ax, ay), (bx, yb)])]) ∧ Kp [] w w' := by
  have q := vDot ax ay bx yb (ax * bx + ay * yb) w (fun h => by
    obtain ⟨ha1, ha2⟩ := ckP_in h (ax, ay) (by simp)
    obtain ⟨hb1, hb2⟩ := ckP_in h (bx, yb) (by simp)
    exact Lib.hid fun W => vdot ax ay bx yb W (by omega) (by omega) (by omega) (by omega))
  rw [ck_id] at q
  exact q
theorem dot_r : Calls Tryz.prog 29 #[.agg #[.int .i64 ax, .int .i64 ay], .agg #[.int .i64 bx, .int .i64 yb]] w fun e w' => e = .returned (.tuple #[.int .i64 (bP (ckP [(ax, ay), (bx, yb)]) (ax * bx + ay * yb)), .int .i64 (ckP [(ax, ay), (bx, yb)])]) ∧ Kp [] w w' := by
  have qp := Lib.hid (rpair_c ax ay bx yb)
  by_cases h : ckP [(ax, ay), (bx, yb)] = 0
  · obtain ⟨ha1, ha2⟩ := ckP_in h (ax, ay) (by simp)
    obtain ⟨hb1, hb2⟩ := ckP_in h (bx, yb) (by simp)
    rw [h] at qp ⊢
    exact rDot7_0 ax ay bx yb _ w qp (Lib.hid fun W => rTimes7 ax ay bx yb W (by omega) (by omega) (by omega) (by omega))
  · have e : bP (ckP [(ax, ay), (bx, yb)]) (ax * bx + ay * yb) = 0 := if_neg h
    rw [e]
    exact rDot7_e ax ay bx yb _ w (by simp [h]) qp
theorem square_p : Calls Tryz.prog 34 #[.agg #[.int .i64 ax, .int .i64 ay], .agg #[.int .i64 bx, .int .i64 yb]] w fun e w' => e = .returned (.tuple #[.int .i64 (bP (ckP [(ax, ay), (bx, yb)]) ((bx - ax) * (bx - ax) + (yb - ay) * (yb - ay))), .int .i64 (ckP [(ax, ay), (bx, yb)])]) ∧ Kp [] w w' := by
  have q := vSquare ax ay bx yb ((bx - ax) * (bx - ax) + (yb - ay) * (yb - ay)) w (fun h => by
    obtain ⟨ha1, ha2⟩ := ckP_in h (ax, ay) (by simp)
    obtain ⟨hb1, hb2⟩ := ckP_in h (bx, yb) (by simp)
    exact Lib.hid fun W => square_c ax ay bx yb W ha1 ha2 hb1 hb2)
  rw [ck_id] at q
  exact q
theorem far_r (ha1 : ax.natAbs ≤ 100000) (ha2 : ay.natAbs ≤ 100000) (hb1 : bx.natAbs ≤ 100000) (hb2 : yb.natAbs ≤ 100000) :
    Calls Tryz.prog 92 #[.agg #[.int .i64 ax, .int .i64 ay], .agg #[.int .i64 bx, .int .i64 yb]] w fun e w' => e = .returned (.int .i64 ((bx - ax) * (bx - ax) + (yb - ay) * (yb - ay))) ∧ Kp [] w w' := by
  rw [sq_swap bx ax, sq_swap yb ay]
  exact rFar7 ax ay bx yb (ax - bx) (ay - yb) (ax - bx) (ay - yb) _ w (Lib.hid fun W => rMinus7 ax ay bx yb W (by omega) (by omega) (by omega) (by omega)) (Lib.hid fun W => rMinus7 ax ay bx yb W (by omega) (by omega) (by omega) (by omega)) (Lib.hid fun W => rTimes7 _ _ _ _ W (by omega) (by omega) (by omega) (by omega))
theorem square_r : Calls Tryz.prog 35 #[.agg #[.int .i64 ax, .int .i64 ay], .agg #[.int .i64 bx, .int .i64 yb]] w fun e w' => e = .returned (.tuple #[.int .i64 (bP (ckP [(ax, ay), (bx, yb)]) ((bx - ax) * (bx - ax) + (yb - ay) * (yb - ay))), .int .i64 (ckP [(ax, ay), (bx, yb)])]) ∧ Kp [] w w' := by
  have qp := Lib.hid (rpair_c ax ay bx yb)
  by_cases h : ckP [(ax, ay), (bx, yb)] = 0
  · obtain ⟨ha1, ha2⟩ := ckP_in h (ax, ay) (by simp)
    obtain ⟨hb1, hb2⟩ := ckP_in h (bx, yb) (by simp)
    rw [h] at qp ⊢
    exact rSquare7_0 ax ay bx yb _ w qp (Lib.hid fun W => far_r ax ay bx yb W ha1 ha2 hb1 hb2)
  · have e : bP (ckP [(ax, ay), (bx, yb)]) ((bx - ax) * (bx - ax) + (yb - ay) * (yb - ay)) = 0 := if_neg h
    rw [e]
    exact rSquare7_e ax ay bx yb _ w (by simp [h]) qp
end
section
variable (ax ay bx yb cx yc : Int) (w : World)
theorem cross_p : Calls Tryz.prog 30 #[.agg #[.int .i64 ax, .int .i64 ay], .agg #[.int .i64 bx, .int .i64 yb], .agg #[.int .i64 cx, .int .i64 yc]] w fun e w' => e = .returned (.tuple #[.int .i64 (bP (ckP [(ax, ay), (bx, yb), (cx, yc)]) (crV ax ay bx yb cx yc)), .int .i64 (ckP [(ax, ay), (bx, yb), (cx, yc)])]) ∧ Kp [] w w' := by
  have q := vCross ax ay bx yb cx yc (crV ax ay bx yb cx yc) w (fun h ba bb bc W ha hb hc => by
    obtain ⟨ha1, ha2⟩ := ckP_in h (ax, ay) (by simp)
    obtain ⟨hb1, hb2⟩ := ckP_in h (bx, yb) (by simp)
    obtain ⟨hc1, hc2⟩ := ckP_in h (cx, yc) (by simp)
    exact vCross_in ba bb bc ax ay bx yb cx yc (bx - ax) (yb - ay) (cx - ax) (yc - ay) _ W ha hb hc
      (Lib.hid fun W => vminus bx yb ax ay W (by omega) (by omega) (by omega) (by omega)) (Lib.hid fun W => vminus cx yc ax ay W (by omega) (by omega) (by omega) (by omega))
      (Lib.hid fun W => vcross _ _ _ _ W (by omega) (by omega) (by omega) (by omega)))
  rw [ck_id] at q
  exact q
theorem left_r (ha1 : ax.natAbs ≤ 100000) (ha2 : ay.natAbs ≤ 100000) (hb1 : bx.natAbs ≤ 100000) (hb2 : yb.natAbs ≤ 100000) (hc1 : cx.natAbs ≤ 100000) (hc2 : yc.natAbs ≤ 100000) :
    Calls Tryz.prog 87 #[.agg #[.int .i64 ax, .int .i64 ay], .agg #[.int .i64 bx, .int .i64 yb], .agg #[.int .i64 cx, .int .i64 yc]] w fun e w' => e = .returned (.int .i64 (crV ax ay bx yb cx yc)) ∧ Kp [] w w' :=
  rLeft7 ax ay bx yb cx yc (bx - ax) (yb - ay) (cx - ax) (yc - ay) _ w (Lib.hid fun W => rMinus7 bx yb ax ay W (by omega) (by omega) (by omega) (by omega)) (Lib.hid fun W => rMinus7 cx yc ax ay W (by omega) (by omega) (by omega) (by omega)) (Lib.hid fun W => rTurn7 _ _ _ _ W (by omega) (by omega) (by omega) (by omega))
theorem cross_r : Calls Tryz.prog 31 #[.agg #[.int .i64 ax, .int .i64 ay], .agg #[.int .i64 bx, .int .i64 yb], .agg #[.int .i64 cx, .int .i64 yc]] w fun e w' => e = .returned (.tuple #[.int .i64 (bP (ckP [(ax, ay), (bx, yb), (cx, yc)]) (crV ax ay bx yb cx yc)), .int .i64 (ckP [(ax, ay), (bx, yb), (cx, yc)])]) ∧ Kp [] w w' := by
  have qp := Lib.hid (rthree_c ax ay bx yb cx yc)
  by_cases h : ckP [(ax, ay), (bx, yb), (cx, yc)] = 0
  · obtain ⟨ha1, ha2⟩ := ckP_in h (ax, ay) (by simp)
    obtain ⟨hb1, hb2⟩ := ckP_in h (bx, yb) (by simp)
    obtain ⟨hc1, hc2⟩ := ckP_in h (cx, yc) (by simp)
    rw [h] at qp ⊢
    exact rCross7_0 ax ay bx yb cx yc _ w qp (Lib.hid fun W => left_r ax ay bx yb cx yc W ha1 ha2 hb1 hb2 hc1 hc2)
  · have e : bP (ckP [(ax, ay), (bx, yb), (cx, yc)]) (crV ax ay bx yb cx yc) = 0 := if_neg h
    rw [e]
    exact rCross7_e ax ay bx yb cx yc _ w (by simp [h]) qp
theorem side_p : Calls Tryz.prog 32 #[.agg #[.int .i64 ax, .int .i64 ay], .agg #[.int .i64 bx, .int .i64 yb], .agg #[.int .i64 cx, .int .i64 yc]] w fun e w' => e = .returned (.tuple #[.int .i64 (cmI (bP (ckP [(ax, ay), (bx, yb), (cx, yc)]) (crV ax ay bx yb cx yc)) 0), .int .i64 (ckP [(ax, ay), (bx, yb), (cx, yc)])]) ∧ Kp [] w w' :=
  vSide ax ay bx yb cx yc _ _ w (Lib.hid fun W => cross_p ax ay bx yb cx yc W)
theorem side_r : Calls Tryz.prog 33 #[.agg #[.int .i64 ax, .int .i64 ay], .agg #[.int .i64 bx, .int .i64 yb], .agg #[.int .i64 cx, .int .i64 yc]] w fun e w' => e = .returned (.tuple #[.int .i64 (cmI (bP (ckP [(ax, ay), (bx, yb), (cx, yc)]) (crV ax ay bx yb cx yc)) 0), .int .i64 (ckP [(ax, ay), (bx, yb), (cx, yc)])]) ∧ Kp [] w w' :=
  rSide7 ax ay bx yb cx yc _ _ _ w (Lib.hid fun W => cross_r ax ay bx yb cx yc W) (Lib.hid fun W => rSignum7 _ W)
end

end Go.Proofs.YtcgilcmhandgfaaGreatDoor
