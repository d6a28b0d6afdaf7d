/- Texts Vec14, Vref1, Vref2, Vref3, Vref4, Vec15: each says in its own first comment what it proves. -/
import Derived.Test.YtcgilcmhandgfaaGreatDoorM60
import Derived.Test.YtcgilcmhandgfaaGreatDoorM55
/- cmp.Compare of ints, Side of package vector. -/
namespace Go.Proofs.YtcgilcmhandgfaaGreatDoor
open Go.RowKit
open Go.Lib (nDigits itoa decDigits)

set_option maxRecDepth 100000 in
set_option maxHeartbeats 4000000 in
theorem isnan_i (x : Int) (w : World) : Calls Tryz.prog 121 #[.int .i64 x] w fun e w' => e = .returned (.bool false) ∧ Kp [] w w' := by
  have kk := Kp.refl [] w
  go_enter Tryz.func121, Tryz.ntmps121
  go_wp2
  go_ret
  exact ⟨rfl, kk⟩
/-- how two ints compare -/
def cmI (x y : Int) : Int := if x < y then -1 else if y < x then 1 else 0

set_option maxRecDepth 100000 in
set_option maxHeartbeats 4000000 in
theorem compare_i (x y : Int) (w : World) : Calls Tryz.prog 88 #[.int .i64 x, .int .i64 y] w fun e w' => e = .returned (.int .i64 (cmI x y)) ∧ Kp [] w w' := by
  by_cases h1 : x < y
  · rw [show cmI x y = -1 from if_pos h1]
    go_enter Tryz.func88, Tryz.ntmps88
    go_wp2_with fail
    with_reducible refine (isnan_i _ _).mono ?_
    rintro e w1 ⟨rfl, k1⟩
    go_wp2_with fail
    with_reducible refine (isnan_i _ _).mono ?_
    rintro e w2 ⟨rfl, k2⟩
    go_wp2
    go_ret
    exact ⟨rfl, k1.trans k2⟩
  by_cases h2 : y < x
  · rw [show cmI x y = 1 from (if_neg h1).trans (if_pos h2)]
    go_enter Tryz.func88, Tryz.ntmps88
    go_wp2_with fail
    with_reducible refine (isnan_i _ _).mono ?_
    rintro e w1 ⟨rfl, k1⟩
    go_wp2_with fail
    with_reducible refine (isnan_i _ _).mono ?_
    rintro e w2 ⟨rfl, k2⟩
    go_wp2
    go_ret
    exact ⟨rfl, k1.trans k2⟩
  · rw [show cmI x y = 0 from (if_neg h1).trans (if_neg h2)]
    go_enter Tryz.func88, Tryz.ntmps88
    go_wp2_with fail
    with_reducible refine (isnan_i _ _).mono ?_
    rintro e w1 ⟨rfl, k1⟩
    go_wp2_with fail
    with_reducible refine (isnan_i _ _).mono ?_
    rintro e w2 ⟨rfl, k2⟩
    go_wp2
    go_ret
    exact ⟨rfl, k1.trans k2⟩

set_option maxRecDepth 100000 in
set_option maxHeartbeats 4000000 in
theorem vSide (ax ay bx yb cx yc v E : Int) (w : World) (q : Hid (∀ W : World, Calls Tryz.prog 30 #[.agg #[.int .i64 ax, .int .i64 ay], .agg #[.int .i64 bx, .int .i64 yb], .agg #[.int .i64 cx, .int .i64 yc]] W fun e w' => e = .returned (.tuple #[.int .i64 v, .int .i64 E]) ∧ Kp [] W w')) :
    Calls Tryz.prog 32 #[.agg #[.int .i64 ax, .int .i64 ay], .agg #[.int .i64 bx, .int .i64 yb], .agg #[.int .i64 cx, .int .i64 yc]] w fun e w' => e = .returned (.tuple #[.int .i64 (cmI v 0), .int .i64 E]) ∧ Kp [] w w' := by
  have s0 := ((PtB.made w ax ay).alloc (.cells #[.int .i64 bx, .int .i64 yb] 49 (0, 0))).alloc (.cells #[.int .i64 cx, .int .i64 yc] 49 (0, 0))
  have s1 := (PtB.made (w.alloc (.cells #[.int .i64 ax, .int .i64 ay] 49 (0, 0))) bx yb).alloc (.cells #[.int .i64 cx, .int .i64 yc] 49 (0, 0))
  have s2 := PtB.made ((w.alloc (.cells #[.int .i64 ax, .int .i64 ay] 49 (0, 0))).alloc (.cells #[.int .i64 bx, .int .i64 yb] 49 (0, 0))) cx yc
  simp only [World.size_alloc] at s1 s2
  have c00 := s0.c0
  have c01 := s0.c1
  have c10 := s1.c0
  have c11 := s1.c1
  have c20 := s2.c0
  have c21 := s2.c1
  have kk : Kp [] w (((w.alloc (.cells #[.int .i64 ax, .int .i64 ay] 49 (0, 0))).alloc (.cells #[.int .i64 bx, .int .i64 yb] 49 (0, 0))).alloc (.cells #[.int .i64 cx, .int .i64 yc] 49 (0, 0))) := (((Kp.refl _ _).alloc _).alloc _).alloc _
  have qc := Lib.hid (compare_i v 0)
  generalize cmI v 0 = u at *
  clear s0 s1 s2
  go_enter Tryz.func32, Tryz.ntmps32
  go_wp2_with fail
  with_reducible refine (q.out _).mono ?_
  rintro e w1 ⟨rfl, k⟩
  replace kk := kk.trans k
  clear k c00 c01 c10 c11 c20 c21
  go_wp2_with fail
  with_reducible refine (qc.out _).mono ?_
  rintro e w2 ⟨rfl, k⟩
  replace kk := kk.trans k
  clear k
  go_wp2
  go_ret2
  exact ⟨rfl, kk⟩

end Go.Proofs.YtcgilcmhandgfaaGreatDoor

/- The reference of layer 7: in, Right, Minus, Times, Turn. -/
namespace Go.Proofs.YtcgilcmhandgfaaGreatDoor
open Go.RowKit
open Go.Lib (nDigits itoa decDigits)

end Go.Proofs.YtcgilcmhandgfaaGreatDoor

/- The reference of layer 7: pair, three, Signum. -/
namespace Go.Proofs.YtcgilcmhandgfaaGreatDoor
open Go.RowKit
open Go.Lib (nDigits itoa decDigits)

end Go.Proofs.YtcgilcmhandgfaaGreatDoor

/- The reference of layer 7: Dot, Cross, Square, Side. -/
namespace Go.Proofs.YtcgilcmhandgfaaGreatDoor
open Go.RowKit
open Go.Lib (nDigits itoa decDigits)

end Go.Proofs.YtcgilcmhandgfaaGreatDoor

/- The reference of layer 7: Left, Far. -/
namespace Go.Proofs.YtcgilcmhandgfaaGreatDoor
open Go.RowKit
open Go.Lib (nDigits itoa decDigits)

end Go.Proofs.YtcgilcmhandgfaaGreatDoor

/- Dot, Cross, Side, Square of package vector and of the reference of layer 7 answer alike. -/
namespace Go.Proofs.YtcgilcmhandgfaaGreatDoor
open Go.RowKit
open Go.Lib (nDigits itoa decDigits)

/-- a value behind the check of its points -/
def bP (E v : Int) : Int := if E = 0 then v else 0
theorem ck_id (E : Int) : (if E = 0 then 0 else E) = E := by split <;> simp_all
theorem ck2_eq (p q : Int × Int) : ckP [p, q] = if (inP p && inP q) = true then 0 else 2 := by simp [ckP]
theorem ck3_eq (p q r : Int × Int) : ckP [p, q, r] = if (inP p && (inP q && inP r)) = true then 0 else 2 := by simp [ckP]
section
variable (ax ay bx yb : Int) (w : World)
theorem dot_p : Calls Tryz.prog 28 #[.agg #[.int .i64 ax, .int .i64 ay], .agg #[.int .i64 bx, .int .i64 yb]] w fun e w' => e = .returned (.tuple #[.int .i64 (bP (ckP [(ax, ay), (bx, yb)]) (ax * bx + ay * yb)), .int .i64 (ckP [(ax, ay), (bx, yb)])]) ∧ Kp [] w w' := by
  have q := vDot ax ay bx yb (ax * bx + ay * yb) w (fun h => by
    obtain ⟨ha1, ha2⟩ := ckP_in h (ax, ay) (by simp)
    obtain ⟨hb1, hb2⟩ := ckP_in h (bx, yb) (by simp)
    exact Lib.hid fun W => vdot ax ay bx yb W (by omega) (by omega) (by omega) (by omega))
  rw [ck_id] at q
  exact q
theorem square_p : Calls Tryz.prog 34 #[.agg #[.int .i64 ax, .int .i64 ay], .agg #[.int .i64 bx, .int .i64 yb]] w fun e w' => e = .returned (.tuple #[.int .i64 (bP (ckP [(ax, ay), (bx, yb)]) ((bx - ax) * (bx - ax) + (yb - ay) * (yb - ay))), .int .i64 (ckP [(ax, ay), (bx, yb)])]) ∧ Kp [] w w' := by
  have q := vSquare ax ay bx yb ((bx - ax) * (bx - ax) + (yb - ay) * (yb - ay)) w (fun h => by
    obtain ⟨ha1, ha2⟩ := ckP_in h (ax, ay) (by simp)
    obtain ⟨hb1, hb2⟩ := ckP_in h (bx, yb) (by simp)
    exact Lib.hid fun W => square_c ax ay bx yb W ha1 ha2 hb1 hb2)
  rw [ck_id] at q
  exact q
end
section
variable (ax ay bx yb cx yc : Int) (w : World)
end

end Go.Proofs.YtcgilcmhandgfaaGreatDoor
