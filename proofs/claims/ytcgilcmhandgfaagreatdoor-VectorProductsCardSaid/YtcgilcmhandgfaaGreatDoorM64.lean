/- Texts Vec14, Vref1, Vref2: each says in its own first comment what it proves. -/
import Derived.Test.YtcgilcmhandgfaaGreatDoorM63
import Derived.Test.YtcgilcmhandgfaaGreatDoorM58
/- cmp.Compare of ints, Side of package vector. -/
namespace Go.Proofs.YtcgilcmhandgfaaGreatDoor
open Go.RowKit
open Go.Lib (nDigits itoa decDigits)

set_option maxRecDepth 100000 in
set_option maxHeartbeats 4000000 in
theorem isnan_i (x : Int) (w : World) : Calls Tryz.prog 121 #[.int .i64 x] w fun e w' => e = .returned (.bool false) ∧ Kp [] w w' := by
  have kk := Kp.refl [] w
  go_enter Tryz.func121, Tryz.ntmps121
  go_wp2
  go_ret
  exact ⟨rfl, kk⟩
/-- how two ints compare -/
def cmI (x y : Int) : Int := if x < y then -1 else if y < x then 1 else 0

set_option maxRecDepth 100000 in
set_option maxHeartbeats 4000000 in
theorem compare_i (x y : Int) (w : World) : Calls Tryz.prog 88 #[.int .i64 x, .int .i64 y] w fun e w' => e = .returned (.int .i64 (cmI x y)) ∧ Kp [] w w' := by
  by_cases h1 : x < y
  · rw [show cmI x y = -1 from if_pos h1]
    go_enter Tryz.func88, Tryz.ntmps88
    go_wp2_with fail
    with_reducible refine (isnan_i _ _).mono ?_
    rintro e w1 ⟨rfl, k1⟩
    go_wp2_with fail
    with_reducible refine (isnan_i _ _).mono ?_
    rintro e w2 ⟨rfl, k2⟩
    go_wp2
    go_ret
    exact ⟨rfl, k1.trans k2⟩
  by_cases h2 : y < x
  · rw [show cmI x y = 1 from (if_neg h1).trans (if_pos h2)]
    go_enter Tryz.func88, Tryz.ntmps88
    go_wp2_with fail
    with_reducible refine (isnan_i _ _).mono ?_
    rintro e w1 ⟨rfl, k1⟩
    go_wp2_with fail
    with_reducible refine (isnan_i _ _).mono ?_
    rintro e w2 ⟨rfl, k2⟩
    go_wp2
    go_ret
    exact ⟨rfl, k1.trans k2⟩
  · rw [show cmI x y = 0 from (if_neg h1).trans (if_neg h2)]
    go_enter Tryz.func88, Tryz.ntmps88
    go_wp2_with fail
    with_reducible refine (isnan_i _ _).mono ?_
    rintro e w1 ⟨rfl, k1⟩
    go_wp2_with fail
    with_reducible refine (isnan_i _ _).mono ?_
    rintro e w2 ⟨rfl, k2⟩
    go_wp2
    go_ret
    exact ⟨rfl, k1.trans k2⟩

set_option maxRecDepth 100000 in
set_option maxHeartbeats 4000000 in
theorem vSide (ax ay bx yb cx yc v E : Int) (w : World) (q : Hid (∀ W : World, Calls Tryz.prog 30 #[.agg #[.int .i64 ax, .int .i64 ay], .agg #[.int .i64 bx, .int .i64 yb], .agg #[.int .i64 cx, .int .i64 yc]] W fun e w' => e = .returned (.tuple #[.int .i64 v, .int .i64 E]) ∧ Kp [] W w')) :
    Calls Tryz.prog 32 #[.agg #[.int .i64 ax, .int .i64 ay], .agg #[.int .i64 bx, .int .i64 yb], .agg #[.int .i64 cx, .int .i64 yc]] w fun e w' => e = .returned (.tuple #[.int .i64 (cmI v 0), .int .i64 E]) ∧ Kp [] w w' := by
  have s0 := ((PtB.made w ax ay).alloc (.cells #[.int .i64 bx, .int .i64 yb] 49 (0, 0))).alloc (.cells #[.int .i64 cx, .int .i64 yc] 49 (0, 0))
  have s1 := (PtB.made (w.alloc (.cells #[.int .i64 ax, .int .i64 ay] 49 (0, 0))) bx yb).alloc (.cells #[.int .i64 cx, .int .i64 yc] 49 (0, 0))
  have s2 := PtB.made ((w.alloc (.cells #[.int .i64 ax, .int .i64 ay] 49 (0, 0))).alloc (.cells #[.int .i64 bx, .int .i64 yb] 49 (0, 0))) cx yc
  simp only [World.size_alloc] at s1 s2
  have c00 := s0.c0
  have c01 := s0.c1
  have c10 := s1.c0
  have c11 := s1.c1
  have c20 := s2.c0
  have c21 := s2.c1
  have kk : Kp [] w (((w.alloc (.cells #[.int .i64 ax, .int .i64 ay] 49 (0, 0))).alloc (.cells #[.int .i64 bx, .int .i64 yb] 49 (0, 0))).alloc (.cells #[.int .i64 cx, .int .i64 yc] 49 (0, 0))) := (((Kp.refl _ _).alloc _).alloc _).alloc _
  have qc := Lib.hid (compare_i v 0)
  generalize cmI v 0 = u at *
  clear s0 s1 s2
  go_enter Tryz.func32, Tryz.ntmps32
  go_wp2_with fail
  with_reducible refine (q.out _).mono ?_
  rintro e w1 ⟨rfl, k⟩
  replace kk := kk.trans k
  clear k c00 c01 c10 c11 c20 c21
  go_wp2_with fail
  with_reducible refine (qc.out _).mono ?_
  rintro e w2 ⟨rfl, k⟩
  replace kk := kk.trans k
  clear k
  go_wp2
  go_ret2
  exact ⟨rfl, kk⟩

end Go.Proofs.YtcgilcmhandgfaaGreatDoor

/- The reference of layer 7: in, Right, Minus, Times, Turn. -/
namespace Go.Proofs.YtcgilcmhandgfaaGreatDoor
open Go.RowKit
open Go.Lib (nDigits itoa decDigits)

set_option maxRecDepth 100000 in
theorem rin7 (z : Int) (w : World) : Calls Tryz.prog 119 #[.int .i64 z] w fun e w' => e = .returned (.bool (inB z)) ∧ Kp [] w w' := by
  by_cases h1 : -100000 ≤ z
  · by_cases h2 : z ≤ 100000
    · rw [(inB_iff z).2 ⟨h1, h2⟩]
      go_enter Tryz.func119, Tryz.ntmps119
      go_wp2
      go_ret
      exact ⟨rfl, Kp.refl _ _⟩
    · have e : inB z = false := by unfold inB; rw [decide_eq_false h2, Bool.and_false]
      rw [e]
      go_enter Tryz.func119, Tryz.ntmps119
      go_wp2
      go_ret
      exact ⟨rfl, Kp.refl _ _⟩
  · have e : inB z = false := by unfold inB; rw [decide_eq_false h1, Bool.false_and]
    rw [e]
    go_enter Tryz.func119, Tryz.ntmps119
    go_wp2
    go_ret
    exact ⟨rfl, Kp.refl _ _⟩

set_option maxRecDepth 100000 in
theorem rRight7 (x y : Int) (w : World) : Calls Tryz.prog 72 #[.agg #[.int .i64 x, .int .i64 y]] w fun e w' => e = .returned (.bool (inP (x, y))) ∧ Kp [] w w' := by
  have s := PtB.made w x y
  have k0 : Kp [] w (w.alloc (.cells #[.int .i64 x, .int .i64 y] 49 (0, 0))) := (Kp.refl _ _).alloc _
  have c0 := s.c0
  have q1 := Lib.hid (rin7 x)
  have q2 := Lib.hid (rin7 y)
  have e : inP (x, y) = (inB x && inB y) := rfl
  rw [e]
  cases h1 : inB x with
  | false =>
    rw [h1] at q1
    clear s q2 h1 e
    go_enter Tryz.func72, Tryz.ntmps72
    go_wp2_with fail
    with_reducible refine (q1.out _).mono ?_
    rintro e w1 ⟨rfl, k⟩
    go_wp2
    go_ret
    exact ⟨rfl, k0.trans k⟩
  | true =>
    rw [h1] at q1
    generalize inB y = b at *
    clear h1 e
    go_enter Tryz.func72, Tryz.ntmps72
    go_wp2_with fail
    with_reducible refine (q1.out _).mono ?_
    rintro e w1 ⟨rfl, k⟩
    have c1 := (s.kept k (by simp)).c1
    have kk := k0.trans k
    clear s k c0 k0
    go_wp2_with fail
    with_reducible refine (q2.out _).mono ?_
    rintro e w2 ⟨rfl, k⟩
    go_wp2
    go_ret
    exact ⟨rfl, kk.trans k⟩

set_option maxRecDepth 100000 in
set_option maxHeartbeats 4000000 in
theorem rMinus7 (ax ay bx yb : Int) (w : World) (h1 : ax.natAbs ≤ 1000000) (h2 : ay.natAbs ≤ 1000000) (h3 : bx.natAbs ≤ 1000000) (h4 : yb.natAbs ≤ 1000000) :
    Calls Tryz.prog 120 #[.agg #[.int .i64 ax, .int .i64 ay], .agg #[.int .i64 bx, .int .i64 yb]] w fun e w' => e = .returned (.agg #[.int .i64 (ax - bx), .int .i64 (ay - yb)]) ∧ Kp [] w w' := by
  have b1 : -1000000 ≤ ax ∧ ax ≤ 1000000 := by omega
  have b2 : -1000000 ≤ ay ∧ ay ≤ 1000000 := by omega
  have b3 : -1000000 ≤ bx ∧ bx ≤ 1000000 := by omega
  have b4 : -1000000 ≤ yb ∧ yb ≤ 1000000 := by omega
  obtain ⟨b11, b12⟩ := b1
  obtain ⟨b21, b22⟩ := b2
  obtain ⟨b31, b32⟩ := b3
  obtain ⟨b41, b42⟩ := b4
  clear h1 h2 h3 h4
  have s0 := (PtB.made w ax ay).alloc (.cells #[.int .i64 bx, .int .i64 yb] 49 (0, 0))
  have s1 := PtB.made (w.alloc (.cells #[.int .i64 ax, .int .i64 ay] 49 (0, 0))) bx yb
  simp only [World.size_alloc] at s1
  have c0 := (s0.alloc (.cells #[.int .i64 0, .int .i64 0] 49 (0, 0))).c0
  have c1 := (s0.alloc (.cells #[.int .i64 0, .int .i64 0] 49 (0, 0))).c1
  have d0 := (s1.alloc (.cells #[.int .i64 0, .int .i64 0] 49 (0, 0))).c0
  have d1 := (s1.alloc (.cells #[.int .i64 0, .int .i64 0] 49 (0, 0))).c1
  have kk : Kp [] w (((w.alloc (.cells #[.int .i64 ax, .int .i64 ay] 49 (0, 0))).alloc (.cells #[.int .i64 bx, .int .i64 yb] 49 (0, 0))).alloc (.cells #[.int .i64 (ax - bx), .int .i64 (ay - yb)] 49 (0, 0))) := (((Kp.refl [] w).alloc _).alloc _).alloc _
  clear s0 s1
  go_enter Tryz.func120, Tryz.ntmps120
  go_wp2
  refine bodyPost_ret (v := .agg #[.int .i64 (ax - bx), .int .i64 (ay - yb)]) (by simp [results, Tryz.results120, go_sem]) rfl ?_
  exact ⟨rfl, kk⟩

set_option maxRecDepth 100000 in
set_option maxHeartbeats 4000000 in
theorem rTimes7 (ax ay bx yb : Int) (w : World) (h1 : ax.natAbs ≤ 1000000) (h2 : ay.natAbs ≤ 1000000) (h3 : bx.natAbs ≤ 1000000) (h4 : yb.natAbs ≤ 1000000) :
    Calls Tryz.prog 84 #[.agg #[.int .i64 ax, .int .i64 ay], .agg #[.int .i64 bx, .int .i64 yb]] w fun e w' => e = .returned (.int .i64 (ax * bx + ay * yb)) ∧ Kp [] w w' := by
  have m1 := mul_bd h1 h3
  have m2 := mul_bd h2 h4
  have b1 : -1000000000000 ≤ ax * bx ∧ ax * bx ≤ 1000000000000 := by omega
  have b2 : -1000000000000 ≤ ay * yb ∧ ay * yb ≤ 1000000000000 := by omega
  obtain ⟨b11, b12⟩ := b1
  obtain ⟨b21, b22⟩ := b2
  have kk : Kp [] w ((w.alloc (.cells #[.int .i64 ax, .int .i64 ay] 49 (0, 0))).alloc (.cells #[.int .i64 bx, .int .i64 yb] 49 (0, 0))) := ((Kp.refl _ _).alloc _).alloc _
  clear h1 h2 h3 h4 m1 m2
  have s0 := (PtB.made w ax ay).alloc (.cells #[.int .i64 bx, .int .i64 yb] 49 (0, 0))
  have s1 := PtB.made (w.alloc (.cells #[.int .i64 ax, .int .i64 ay] 49 (0, 0))) bx yb
  simp only [World.size_alloc] at s1
  have c0 := s0.c0
  have c1 := s0.c1
  have d0 := s1.c0
  have d1 := s1.c1
  clear s0 s1
  go_enter Tryz.func84, Tryz.ntmps84
  go_wp2
  go_ret
  exact ⟨rfl, kk⟩

set_option maxRecDepth 100000 in
set_option maxHeartbeats 4000000 in
theorem rTurn7 (ax ay bx yb : Int) (w : World) (h1 : ax.natAbs ≤ 1000000) (h2 : ay.natAbs ≤ 1000000) (h3 : bx.natAbs ≤ 1000000) (h4 : yb.natAbs ≤ 1000000) :
    Calls Tryz.prog 114 #[.agg #[.int .i64 ax, .int .i64 ay], .agg #[.int .i64 bx, .int .i64 yb]] w fun e w' => e = .returned (.int .i64 (ax * yb - ay * bx)) ∧ Kp [] w w' := by
  have m1 := mul_bd h1 h4
  have m2 := mul_bd h2 h3
  have b1 : -1000000000000 ≤ ax * yb ∧ ax * yb ≤ 1000000000000 := by omega
  have b2 : -1000000000000 ≤ ay * bx ∧ ay * bx ≤ 1000000000000 := by omega
  obtain ⟨b11, b12⟩ := b1
  obtain ⟨b21, b22⟩ := b2
  have kk : Kp [] w ((w.alloc (.cells #[.int .i64 ax, .int .i64 ay] 49 (0, 0))).alloc (.cells #[.int .i64 bx, .int .i64 yb] 49 (0, 0))) := ((Kp.refl _ _).alloc _).alloc _
  clear h1 h2 h3 h4 m1 m2
  have s0 := (PtB.made w ax ay).alloc (.cells #[.int .i64 bx, .int .i64 yb] 49 (0, 0))
  have s1 := PtB.made (w.alloc (.cells #[.int .i64 ax, .int .i64 ay] 49 (0, 0))) bx yb
  simp only [World.size_alloc] at s1
  have c0 := s0.c0
  have c1 := s0.c1
  have d0 := s1.c0
  have d1 := s1.c1
  clear s0 s1
  go_enter Tryz.func114, Tryz.ntmps114
  go_wp2
  go_ret
  exact ⟨rfl, kk⟩

end Go.Proofs.YtcgilcmhandgfaaGreatDoor

/- The reference of layer 7: pair, three, Signum. -/
namespace Go.Proofs.YtcgilcmhandgfaaGreatDoor
open Go.RowKit
open Go.Lib (nDigits itoa decDigits)

set_option maxRecDepth 100000 in
set_option maxHeartbeats 4000000 in
theorem rpair_0 (ax ay bx yb : Int) (w : World) (q0 : Hid (∀ W : World, Calls Tryz.prog 72 #[.agg #[.int .i64 ax, .int .i64 ay]] W fun e w' => e = .returned (.bool false) ∧ Kp [] W w')) :
    Calls Tryz.prog 83 #[.agg #[.int .i64 ax, .int .i64 ay], .agg #[.int .i64 bx, .int .i64 yb]] w fun e w' => e = .returned (.int .i64 2) ∧ Kp [] w w' := by
  have sa := PtB.made w ax ay
  replace sa := sa.alloc (.cells #[.int .i64 bx, .int .i64 yb] 49 (0, 0))
  have sb := PtB.made (w.alloc (.cells #[.int .i64 ax, .int .i64 ay] 49 (0, 0))) bx yb
  simp only [World.size_alloc] at *
  have xa0 := sa.c0
  have xa1 := sa.c1
  have xb0 := sb.c0
  have xb1 := sb.c1
  have kk : Kp [] w ((w.alloc (.cells #[.int .i64 ax, .int .i64 ay] 49 (0, 0))).alloc (.cells #[.int .i64 bx, .int .i64 yb] 49 (0, 0))) := ((Kp.refl _ _).alloc _).alloc _
  go_enter Tryz.func83, Tryz.ntmps83
  go_wp2_with fail
  with_reducible refine (q0.out _).mono ?_
  rintro e w1 ⟨rfl, k⟩
  replace sa := sa.kept k (by simp)
  clear xa0 xa1
  have xa0 := sa.c0
  have xa1 := sa.c1
  replace sb := sb.kept k (by simp)
  clear xb0 xb1
  have xb0 := sb.c0
  have xb1 := sb.c1
  replace kk := kk.trans k
  clear k
  clear sa sb
  go_wp2
  go_ret
  exact ⟨rfl, kk⟩

set_option maxRecDepth 100000 in
set_option maxHeartbeats 4000000 in
theorem rpair_1 (ax ay bx yb : Int) (w : World) (q0 : Hid (∀ W : World, Calls Tryz.prog 72 #[.agg #[.int .i64 ax, .int .i64 ay]] W fun e w' => e = .returned (.bool true) ∧ Kp [] W w')) (q1 : Hid (∀ W : World, Calls Tryz.prog 72 #[.agg #[.int .i64 bx, .int .i64 yb]] W fun e w' => e = .returned (.bool false) ∧ Kp [] W w')) :
    Calls Tryz.prog 83 #[.agg #[.int .i64 ax, .int .i64 ay], .agg #[.int .i64 bx, .int .i64 yb]] w fun e w' => e = .returned (.int .i64 2) ∧ Kp [] w w' := by
  have sa := PtB.made w ax ay
  replace sa := sa.alloc (.cells #[.int .i64 bx, .int .i64 yb] 49 (0, 0))
  have sb := PtB.made (w.alloc (.cells #[.int .i64 ax, .int .i64 ay] 49 (0, 0))) bx yb
  simp only [World.size_alloc] at *
  have xa0 := sa.c0
  have xa1 := sa.c1
  have xb0 := sb.c0
  have xb1 := sb.c1
  have kk : Kp [] w ((w.alloc (.cells #[.int .i64 ax, .int .i64 ay] 49 (0, 0))).alloc (.cells #[.int .i64 bx, .int .i64 yb] 49 (0, 0))) := ((Kp.refl _ _).alloc _).alloc _
  go_enter Tryz.func83, Tryz.ntmps83
  go_wp2_with fail
  with_reducible refine (q0.out _).mono ?_
  rintro e w1 ⟨rfl, k⟩
  replace sa := sa.kept k (by simp)
  clear xa0 xa1
  have xa0 := sa.c0
  have xa1 := sa.c1
  replace sb := sb.kept k (by simp)
  clear xb0 xb1
  have xb0 := sb.c0
  have xb1 := sb.c1
  replace kk := kk.trans k
  clear k
  go_wp2_with fail
  with_reducible refine (q1.out _).mono ?_
  rintro e w2 ⟨rfl, k⟩
  replace sa := sa.kept k (by simp)
  clear xa0 xa1
  have xa0 := sa.c0
  have xa1 := sa.c1
  replace sb := sb.kept k (by simp)
  clear xb0 xb1
  have xb0 := sb.c0
  have xb1 := sb.c1
  replace kk := kk.trans k
  clear k
  clear sa sb
  go_wp2
  go_ret
  exact ⟨rfl, kk⟩

set_option maxRecDepth 100000 in
set_option maxHeartbeats 4000000 in
theorem rpair_2 (ax ay bx yb : Int) (w : World) (q0 : Hid (∀ W : World, Calls Tryz.prog 72 #[.agg #[.int .i64 ax, .int .i64 ay]] W fun e w' => e = .returned (.bool true) ∧ Kp [] W w')) (q1 : Hid (∀ W : World, Calls Tryz.prog 72 #[.agg #[.int .i64 bx, .int .i64 yb]] W fun e w' => e = .returned (.bool true) ∧ Kp [] W w')) :
    Calls Tryz.prog 83 #[.agg #[.int .i64 ax, .int .i64 ay], .agg #[.int .i64 bx, .int .i64 yb]] w fun e w' => e = .returned (.int .i64 0) ∧ Kp [] w w' := by
  have sa := PtB.made w ax ay
  replace sa := sa.alloc (.cells #[.int .i64 bx, .int .i64 yb] 49 (0, 0))
  have sb := PtB.made (w.alloc (.cells #[.int .i64 ax, .int .i64 ay] 49 (0, 0))) bx yb
  simp only [World.size_alloc] at *
  have xa0 := sa.c0
  have xa1 := sa.c1
  have xb0 := sb.c0
  have xb1 := sb.c1
  have kk : Kp [] w ((w.alloc (.cells #[.int .i64 ax, .int .i64 ay] 49 (0, 0))).alloc (.cells #[.int .i64 bx, .int .i64 yb] 49 (0, 0))) := ((Kp.refl _ _).alloc _).alloc _
  go_enter Tryz.func83, Tryz.ntmps83
  go_wp2_with fail
  with_reducible refine (q0.out _).mono ?_
  rintro e w1 ⟨rfl, k⟩
  replace sa := sa.kept k (by simp)
  clear xa0 xa1
  have xa0 := sa.c0
  have xa1 := sa.c1
  replace sb := sb.kept k (by simp)
  clear xb0 xb1
  have xb0 := sb.c0
  have xb1 := sb.c1
  replace kk := kk.trans k
  clear k
  go_wp2_with fail
  with_reducible refine (q1.out _).mono ?_
  rintro e w2 ⟨rfl, k⟩
  replace sa := sa.kept k (by simp)
  clear xa0 xa1
  have xa0 := sa.c0
  have xa1 := sa.c1
  replace sb := sb.kept k (by simp)
  clear xb0 xb1
  have xb0 := sb.c0
  have xb1 := sb.c1
  replace kk := kk.trans k
  clear k
  clear sa sb
  go_wp2
  go_ret
  exact ⟨rfl, kk⟩

set_option maxRecDepth 100000 in
set_option maxHeartbeats 4000000 in
theorem rthree_0 (ax ay bx yb cx yc : Int) (w : World) (q0 : Hid (∀ W : World, Calls Tryz.prog 72 #[.agg #[.int .i64 ax, .int .i64 ay]] W fun e w' => e = .returned (.bool false) ∧ Kp [] W w')) :
    Calls Tryz.prog 86 #[.agg #[.int .i64 ax, .int .i64 ay], .agg #[.int .i64 bx, .int .i64 yb], .agg #[.int .i64 cx, .int .i64 yc]] w fun e w' => e = .returned (.int .i64 2) ∧ Kp [] w w' := by
  have sa := PtB.made w ax ay
  replace sa := sa.alloc (.cells #[.int .i64 bx, .int .i64 yb] 49 (0, 0))
  replace sa := sa.alloc (.cells #[.int .i64 cx, .int .i64 yc] 49 (0, 0))
  have sb := PtB.made (w.alloc (.cells #[.int .i64 ax, .int .i64 ay] 49 (0, 0))) bx yb
  replace sb := sb.alloc (.cells #[.int .i64 cx, .int .i64 yc] 49 (0, 0))
  have sc := PtB.made ((w.alloc (.cells #[.int .i64 ax, .int .i64 ay] 49 (0, 0))).alloc (.cells #[.int .i64 bx, .int .i64 yb] 49 (0, 0))) cx yc
  simp only [World.size_alloc] at *
  have xa0 := sa.c0
  have xa1 := sa.c1
  have xb0 := sb.c0
  have xb1 := sb.c1
  have xc0 := sc.c0
  have xc1 := sc.c1
  have kk : Kp [] w (((w.alloc (.cells #[.int .i64 ax, .int .i64 ay] 49 (0, 0))).alloc (.cells #[.int .i64 bx, .int .i64 yb] 49 (0, 0))).alloc (.cells #[.int .i64 cx, .int .i64 yc] 49 (0, 0))) := (((Kp.refl _ _).alloc _).alloc _).alloc _
  go_enter Tryz.func86, Tryz.ntmps86
  go_wp2_with fail
  with_reducible refine (q0.out _).mono ?_
  rintro e w1 ⟨rfl, k⟩
  replace sa := sa.kept k (by simp)
  clear xa0 xa1
  have xa0 := sa.c0
  have xa1 := sa.c1
  replace sb := sb.kept k (by simp)
  clear xb0 xb1
  have xb0 := sb.c0
  have xb1 := sb.c1
  replace sc := sc.kept k (by simp)
  clear xc0 xc1
  have xc0 := sc.c0
  have xc1 := sc.c1
  replace kk := kk.trans k
  clear k
  clear sa sb sc
  go_wp2
  go_ret
  exact ⟨rfl, kk⟩

set_option maxRecDepth 100000 in
set_option maxHeartbeats 4000000 in
theorem rthree_1 (ax ay bx yb cx yc : Int) (w : World) (q0 : Hid (∀ W : World, Calls Tryz.prog 72 #[.agg #[.int .i64 ax, .int .i64 ay]] W fun e w' => e = .returned (.bool true) ∧ Kp [] W w')) (q1 : Hid (∀ W : World, Calls Tryz.prog 72 #[.agg #[.int .i64 bx, .int .i64 yb]] W fun e w' => e = .returned (.bool false) ∧ Kp [] W w')) :
    Calls Tryz.prog 86 #[.agg #[.int .i64 ax, .int .i64 ay], .agg #[.int .i64 bx, .int .i64 yb], .agg #[.int .i64 cx, .int .i64 yc]] w fun e w' => e = .returned (.int .i64 2) ∧ Kp [] w w' := by
  have sa := PtB.made w ax ay
  replace sa := sa.alloc (.cells #[.int .i64 bx, .int .i64 yb] 49 (0, 0))
  replace sa := sa.alloc (.cells #[.int .i64 cx, .int .i64 yc] 49 (0, 0))
  have sb := PtB.made (w.alloc (.cells #[.int .i64 ax, .int .i64 ay] 49 (0, 0))) bx yb
  replace sb := sb.alloc (.cells #[.int .i64 cx, .int .i64 yc] 49 (0, 0))
  have sc := PtB.made ((w.alloc (.cells #[.int .i64 ax, .int .i64 ay] 49 (0, 0))).alloc (.cells #[.int .i64 bx, .int .i64 yb] 49 (0, 0))) cx yc
  simp only [World.size_alloc] at *
  have xa0 := sa.c0
  have xa1 := sa.c1
  have xb0 := sb.c0
  have xb1 := sb.c1
  have xc0 := sc.c0
  have xc1 := sc.c1
  have kk : Kp [] w (((w.alloc (.cells #[.int .i64 ax, .int .i64 ay] 49 (0, 0))).alloc (.cells #[.int .i64 bx, .int .i64 yb] 49 (0, 0))).alloc (.cells #[.int .i64 cx, .int .i64 yc] 49 (0, 0))) := (((Kp.refl _ _).alloc _).alloc _).alloc _
  go_enter Tryz.func86, Tryz.ntmps86
  go_wp2_with fail
  with_reducible refine (q0.out _).mono ?_
  rintro e w1 ⟨rfl, k⟩
  replace sa := sa.kept k (by simp)
  clear xa0 xa1
  have xa0 := sa.c0
  have xa1 := sa.c1
  replace sb := sb.kept k (by simp)
  clear xb0 xb1
  have xb0 := sb.c0
  have xb1 := sb.c1
  replace sc := sc.kept k (by simp)
  clear xc0 xc1
  have xc0 := sc.c0
  have xc1 := sc.c1
  replace kk := kk.trans k
  clear k
  go_wp2_with fail
  with_reducible refine (q1.out _).mono ?_
  rintro e w2 ⟨rfl, k⟩
  replace sa := sa.kept k (by simp)
  clear xa0 xa1
  have xa0 := sa.c0
  have xa1 := sa.c1
  replace sb := sb.kept k (by simp)
  clear xb0 xb1
  have xb0 := sb.c0
  have xb1 := sb.c1
  replace sc := sc.kept k (by simp)
  clear xc0 xc1
  have xc0 := sc.c0
  have xc1 := sc.c1
  replace kk := kk.trans k
  clear k
  clear sa sb sc
  go_wp2
  go_ret
  exact ⟨rfl, kk⟩

set_option maxRecDepth 100000 in
set_option maxHeartbeats 4000000 in
theorem rthree_2 (ax ay bx yb cx yc : Int) (w : World) (q0 : Hid (∀ W : World, Calls Tryz.prog 72 #[.agg #[.int .i64 ax, .int .i64 ay]] W fun e w' => e = .returned (.bool true) ∧ Kp [] W w')) (q1 : Hid (∀ W : World, Calls Tryz.prog 72 #[.agg #[.int .i64 bx, .int .i64 yb]] W fun e w' => e = .returned (.bool true) ∧ Kp [] W w')) (q2 : Hid (∀ W : World, Calls Tryz.prog 72 #[.agg #[.int .i64 cx, .int .i64 yc]] W fun e w' => e = .returned (.bool false) ∧ Kp [] W w')) :
    Calls Tryz.prog 86 #[.agg #[.int .i64 ax, .int .i64 ay], .agg #[.int .i64 bx, .int .i64 yb], .agg #[.int .i64 cx, .int .i64 yc]] w fun e w' => e = .returned (.int .i64 2) ∧ Kp [] w w' := by
  have sa := PtB.made w ax ay
  replace sa := sa.alloc (.cells #[.int .i64 bx, .int .i64 yb] 49 (0, 0))
  replace sa := sa.alloc (.cells #[.int .i64 cx, .int .i64 yc] 49 (0, 0))
  have sb := PtB.made (w.alloc (.cells #[.int .i64 ax, .int .i64 ay] 49 (0, 0))) bx yb
  replace sb := sb.alloc (.cells #[.int .i64 cx, .int .i64 yc] 49 (0, 0))
  have sc := PtB.made ((w.alloc (.cells #[.int .i64 ax, .int .i64 ay] 49 (0, 0))).alloc (.cells #[.int .i64 bx, .int .i64 yb] 49 (0, 0))) cx yc
  simp only [World.size_alloc] at *
  have xa0 := sa.c0
  have xa1 := sa.c1
  have xb0 := sb.c0
  have xb1 := sb.c1
  have xc0 := sc.c0
  have xc1 := sc.c1
  have kk : Kp [] w (((w.alloc (.cells #[.int .i64 ax, .int .i64 ay] 49 (0, 0))).alloc (.cells #[.int .i64 bx, .int .i64 yb] 49 (0, 0))).alloc (.cells #[.int .i64 cx, .int .i64 yc] 49 (0, 0))) := (((Kp.refl _ _).alloc _).alloc _).alloc _
  go_enter Tryz.func86, Tryz.ntmps86
  go_wp2_with fail
  with_reducible refine (q0.out _).mono ?_
  rintro e w1 ⟨rfl, k⟩
  replace sa := sa.kept k (by simp)
  clear xa0 xa1
  have xa0 := sa.c0
  have xa1 := sa.c1
  replace sb := sb.kept k (by simp)
  clear xb0 xb1
  have xb0 := sb.c0
  have xb1 := sb.c1
  replace sc := sc.kept k (by simp)
  clear xc0 xc1
  have xc0 := sc.c0
  have xc1 := sc.c1
  replace kk := kk.trans k
  clear k
  go_wp2_with fail
  with_reducible refine (q1.out _).mono ?_
  rintro e w2 ⟨rfl, k⟩
  replace sa := sa.kept k (by simp)
  clear xa0 xa1
  have xa0 := sa.c0
  have xa1 := sa.c1
  replace sb := sb.kept k (by simp)
  clear xb0 xb1
  have xb0 := sb.c0
  have xb1 := sb.c1
  replace sc := sc.kept k (by simp)
  clear xc0 xc1
  have xc0 := sc.c0
  have xc1 := sc.c1
  replace kk := kk.trans k
  clear k
  go_wp2_with fail
  with_reducible refine (q2.out _).mono ?_
  rintro e w3 ⟨rfl, k⟩
  replace sa := sa.kept k (by simp)
  clear xa0 xa1
  have xa0 := sa.c0
  have xa1 := sa.c1
  replace sb := sb.kept k (by simp)
  clear xb0 xb1
  have xb0 := sb.c0
  have xb1 := sb.c1
  replace sc := sc.kept k (by simp)
  clear xc0 xc1
  have xc0 := sc.c0
  have xc1 := sc.c1
  replace kk := kk.trans k
  clear k
  clear sa sb sc
  go_wp2
  go_ret
  exact ⟨rfl, kk⟩

set_option maxRecDepth 100000 in
set_option maxHeartbeats 4000000 in
theorem rthree_3 (ax ay bx yb cx yc : Int) (w : World) (q0 : Hid (∀ W : World, Calls Tryz.prog 72 #[.agg #[.int .i64 ax, .int .i64 ay]] W fun e w' => e = .returned (.bool true) ∧ Kp [] W w')) (q1 : Hid (∀ W : World, Calls Tryz.prog 72 #[.agg #[.int .i64 bx, .int .i64 yb]] W fun e w' => e = .returned (.bool true) ∧ Kp [] W w')) (q2 : Hid (∀ W : World, Calls Tryz.prog 72 #[.agg #[.int .i64 cx, .int .i64 yc]] W fun e w' => e = .returned (.bool true) ∧ Kp [] W w')) :
    Calls Tryz.prog 86 #[.agg #[.int .i64 ax, .int .i64 ay], .agg #[.int .i64 bx, .int .i64 yb], .agg #[.int .i64 cx, .int .i64 yc]] w fun e w' => e = .returned (.int .i64 0) ∧ Kp [] w w' := by
  have sa := PtB.made w ax ay
  replace sa := sa.alloc (.cells #[.int .i64 bx, .int .i64 yb] 49 (0, 0))
  replace sa := sa.alloc (.cells #[.int .i64 cx, .int .i64 yc] 49 (0, 0))
  have sb := PtB.made (w.alloc (.cells #[.int .i64 ax, .int .i64 ay] 49 (0, 0))) bx yb
  replace sb := sb.alloc (.cells #[.int .i64 cx, .int .i64 yc] 49 (0, 0))
  have sc := PtB.made ((w.alloc (.cells #[.int .i64 ax, .int .i64 ay] 49 (0, 0))).alloc (.cells #[.int .i64 bx, .int .i64 yb] 49 (0, 0))) cx yc
  simp only [World.size_alloc] at *
  have xa0 := sa.c0
  have xa1 := sa.c1
  have xb0 := sb.c0
  have xb1 := sb.c1
  have xc0 := sc.c0
  have xc1 := sc.c1
  have kk : Kp [] w (((w.alloc (.cells #[.int .i64 ax, .int .i64 ay] 49 (0, 0))).alloc (.cells #[.int .i64 bx, .int .i64 yb] 49 (0, 0))).alloc (.cells #[.int .i64 cx, .int .i64 yc] 49 (0, 0))) := (((Kp.refl _ _).alloc _).alloc _).alloc _
  go_enter Tryz.func86, Tryz.ntmps86
  go_wp2_with fail
  with_reducible refine (q0.out _).mono ?_
  rintro e w1 ⟨rfl, k⟩
  replace sa := sa.kept k (by simp)
  clear xa0 xa1
  have xa0 := sa.c0
  have xa1 := sa.c1
  replace sb := sb.kept k (by simp)
  clear xb0 xb1
  have xb0 := sb.c0
  have xb1 := sb.c1
  replace sc := sc.kept k (by simp)
  clear xc0 xc1
  have xc0 := sc.c0
  have xc1 := sc.c1
  replace kk := kk.trans k
  clear k
  go_wp2_with fail
  with_reducible refine (q1.out _).mono ?_
  rintro e w2 ⟨rfl, k⟩
  replace sa := sa.kept k (by simp)
  clear xa0 xa1
  have xa0 := sa.c0
  have xa1 := sa.c1
  replace sb := sb.kept k (by simp)
  clear xb0 xb1
  have xb0 := sb.c0
  have xb1 := sb.c1
  replace sc := sc.kept k (by simp)
  clear xc0 xc1
  have xc0 := sc.c0
  have xc1 := sc.c1
  replace kk := kk.trans k
  clear k
  go_wp2_with fail
  with_reducible refine (q2.out _).mono ?_
  rintro e w3 ⟨rfl, k⟩
  replace sa := sa.kept k (by simp)
  clear xa0 xa1
  have xa0 := sa.c0
  have xa1 := sa.c1
  replace sb := sb.kept k (by simp)
  clear xb0 xb1
  have xb0 := sb.c0
  have xb1 := sb.c1
  replace sc := sc.kept k (by simp)
  clear xc0 xc1
  have xc0 := sc.c0
  have xc1 := sc.c1
  replace kk := kk.trans k
  clear k
  clear sa sb sc
  go_wp2
  go_ret
  exact ⟨rfl, kk⟩

set_option maxRecDepth 100000 in
set_option maxHeartbeats 4000000 in
theorem rSignum7 (n : Int) (w : World) : Calls Tryz.prog 89 #[.int .i64 n] w fun e w' => e = .returned (.int .i64 (cmI n 0)) ∧ Kp [] w w' := by
  have kk := Kp.refl [] w
  by_cases h1 : n < 0
  · rw [show cmI n 0 = -1 from if_pos h1]
    go_enter Tryz.func89, Tryz.ntmps89
    go_wp2
    go_ret
    exact ⟨rfl, kk⟩
  by_cases h2 : 0 < n
  · rw [show cmI n 0 = 1 from (if_neg h1).trans (if_pos h2)]
    go_enter Tryz.func89, Tryz.ntmps89
    go_wp2
    go_ret
    exact ⟨rfl, kk⟩
  · rw [show cmI n 0 = 0 from (if_neg h1).trans (if_neg h2)]
    go_enter Tryz.func89, Tryz.ntmps89
    go_wp2
    go_ret
    exact ⟨rfl, kk⟩

end Go.Proofs.YtcgilcmhandgfaaGreatDoor
