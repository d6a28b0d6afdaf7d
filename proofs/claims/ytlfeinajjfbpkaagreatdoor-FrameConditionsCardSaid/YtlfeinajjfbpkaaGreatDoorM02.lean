/- Texts Qf4: each says in its own first comment what it proves. -/
import Derived.Test.YtlfeinajjfbpkaaGreatDoorM38
/- Features: the reference's Inner, Maximum, Least. -/
namespace Go.Proofs.YtlfeinajjfbpkaaGreatDoor
open Go.RowKit

set_option maxRecDepth 100000 in
set_option maxHeartbeats 1000000 in
theorem rsized_1 (n : ByteArray) (k a x y z lo hi : Int) (fr : Value) (e : Int) (he : (e != 0) = true) (q1 : Ca 45 #[.agg #[.string n, .int .i64 k, .int .i64 a, .int .i64 x, .int .i64 y, .int .i64 z, .int .i64 lo, .int .i64 hi, fr]] (.int .i64 e)) (w : World) : Calls Tryz.prog 102 #[.agg #[.string n, .int .i64 k, .int .i64 a, .int .i64 x, .int .i64 y, .int .i64 z, .int .i64 lo, .int .i64 hi, fr]] w fun r W' => r = .returned (.int .i64 e) ∧ Kb w W' := by
  have kx := Kb.refl w
  unfold Ca at *
  have b0 := Is.made w #[.string n, .int .i64 k, .int .i64 a, .int .i64 x, .int .i64 y, .int .i64 z, .int .i64 lo, .int .i64 hi, fr] 28
  replace kx := kx.alloc (.cells #[.string n, .int .i64 k, .int .i64 a, .int .i64 x, .int .i64 y, .int .i64 z, .int .i64 lo, .int .i64 hi, fr] 28 (0, 0))
  have b0_0 := b0.c (i := 0) rfl
  have b0_1 := b0.c (i := 1) rfl
  have b0_2 := b0.c (i := 2) rfl
  have b0_3 := b0.c (i := 3) rfl
  have b0_4 := b0.c (i := 4) rfl
  have b0_5 := b0.c (i := 5) rfl
  have b0_6 := b0.c (i := 6) rfl
  have b0_7 := b0.c (i := 7) rfl
  have b0_8 := b0.c (i := 8) rfl
  go_enter Tryz.func102, Tryz.ntmps102
  go_wp2_with fail
  (with_reducible refine (q1.out _).mono ?_)
  rintro r w1 ⟨rfl, k1⟩
  clear b0_0 b0_1 b0_2 b0_3 b0_4 b0_5 b0_6 b0_7 b0_8
  replace b0 := b0.kb k1
  replace kx := kx.trans k1
  clear k1
  have b0_0 := b0.c (i := 0) rfl
  have b0_1 := b0.c (i := 1) rfl
  have b0_2 := b0.c (i := 2) rfl
  have b0_3 := b0.c (i := 3) rfl
  have b0_4 := b0.c (i := 4) rfl
  have b0_5 := b0.c (i := 5) rfl
  have b0_6 := b0.c (i := 6) rfl
  have b0_7 := b0.c (i := 7) rfl
  have b0_8 := b0.c (i := 8) rfl
  go_wp2
  go_ret
  exact ⟨rfl, kx⟩
set_option maxRecDepth 100000 in
set_option maxHeartbeats 1000000 in
theorem rsized_2 (n : ByteArray) (k a x y z lo hi : Int) (fr : Value) (k0 : (k == 0) = true) (q1 : Ca 45 #[.agg #[.string n, .int .i64 k, .int .i64 a, .int .i64 x, .int .i64 y, .int .i64 z, .int .i64 lo, .int .i64 hi, fr]] (.int .i64 0)) (w : World) : Calls Tryz.prog 102 #[.agg #[.string n, .int .i64 k, .int .i64 a, .int .i64 x, .int .i64 y, .int .i64 z, .int .i64 lo, .int .i64 hi, fr]] w fun r W' => r = .returned (.int .i64 14) ∧ Kb w W' := by
  have kx := Kb.refl w
  unfold Ca at *
  have b0 := Is.made w #[.string n, .int .i64 k, .int .i64 a, .int .i64 x, .int .i64 y, .int .i64 z, .int .i64 lo, .int .i64 hi, fr] 28
  replace kx := kx.alloc (.cells #[.string n, .int .i64 k, .int .i64 a, .int .i64 x, .int .i64 y, .int .i64 z, .int .i64 lo, .int .i64 hi, fr] 28 (0, 0))
  have b0_0 := b0.c (i := 0) rfl
  have b0_1 := b0.c (i := 1) rfl
  have b0_2 := b0.c (i := 2) rfl
  have b0_3 := b0.c (i := 3) rfl
  have b0_4 := b0.c (i := 4) rfl
  have b0_5 := b0.c (i := 5) rfl
  have b0_6 := b0.c (i := 6) rfl
  have b0_7 := b0.c (i := 7) rfl
  have b0_8 := b0.c (i := 8) rfl
  go_enter Tryz.func102, Tryz.ntmps102
  go_wp2_with fail
  (with_reducible refine (q1.out _).mono ?_)
  rintro r w1 ⟨rfl, k1⟩
  clear b0_0 b0_1 b0_2 b0_3 b0_4 b0_5 b0_6 b0_7 b0_8
  replace b0 := b0.kb k1
  replace kx := kx.trans k1
  clear k1
  have b0_0 := b0.c (i := 0) rfl
  have b0_1 := b0.c (i := 1) rfl
  have b0_2 := b0.c (i := 2) rfl
  have b0_3 := b0.c (i := 3) rfl
  have b0_4 := b0.c (i := 4) rfl
  have b0_5 := b0.c (i := 5) rfl
  have b0_6 := b0.c (i := 6) rfl
  have b0_7 := b0.c (i := 7) rfl
  have b0_8 := b0.c (i := 8) rfl
  go_wp2
  go_ret
  exact ⟨rfl, kx⟩
set_option maxRecDepth 100000 in
set_option maxHeartbeats 1000000 in
theorem rsized_3 (n : ByteArray) (k a x y z lo hi : Int) (fr : Value) (k0 : (k == 0) = false) (q1 : Ca 45 #[.agg #[.string n, .int .i64 k, .int .i64 a, .int .i64 x, .int .i64 y, .int .i64 z, .int .i64 lo, .int .i64 hi, fr]] (.int .i64 0)) (w : World) : Calls Tryz.prog 102 #[.agg #[.string n, .int .i64 k, .int .i64 a, .int .i64 x, .int .i64 y, .int .i64 z, .int .i64 lo, .int .i64 hi, fr]] w fun r W' => r = .returned (.int .i64 0) ∧ Kb w W' := by
  have kx := Kb.refl w
  unfold Ca at *
  have b0 := Is.made w #[.string n, .int .i64 k, .int .i64 a, .int .i64 x, .int .i64 y, .int .i64 z, .int .i64 lo, .int .i64 hi, fr] 28
  replace kx := kx.alloc (.cells #[.string n, .int .i64 k, .int .i64 a, .int .i64 x, .int .i64 y, .int .i64 z, .int .i64 lo, .int .i64 hi, fr] 28 (0, 0))
  have b0_0 := b0.c (i := 0) rfl
  have b0_1 := b0.c (i := 1) rfl
  have b0_2 := b0.c (i := 2) rfl
  have b0_3 := b0.c (i := 3) rfl
  have b0_4 := b0.c (i := 4) rfl
  have b0_5 := b0.c (i := 5) rfl
  have b0_6 := b0.c (i := 6) rfl
  have b0_7 := b0.c (i := 7) rfl
  have b0_8 := b0.c (i := 8) rfl
  go_enter Tryz.func102, Tryz.ntmps102
  go_wp2_with fail
  (with_reducible refine (q1.out _).mono ?_)
  rintro r w1 ⟨rfl, k1⟩
  clear b0_0 b0_1 b0_2 b0_3 b0_4 b0_5 b0_6 b0_7 b0_8
  replace b0 := b0.kb k1
  replace kx := kx.trans k1
  clear k1
  have b0_0 := b0.c (i := 0) rfl
  have b0_1 := b0.c (i := 1) rfl
  have b0_2 := b0.c (i := 2) rfl
  have b0_3 := b0.c (i := 3) rfl
  have b0_4 := b0.c (i := 4) rfl
  have b0_5 := b0.c (i := 5) rfl
  have b0_6 := b0.c (i := 6) rfl
  have b0_7 := b0.c (i := 7) rfl
  have b0_8 := b0.c (i := 8) rfl
  go_wp2
  go_ret
  exact ⟨rfl, kx⟩
























































































set_option maxRecDepth 100000 in
set_option maxHeartbeats 1000000 in
theorem rMaximum_1 (n : ByteArray) (k a x y z lo hi : Int) (fr : Value) (e : Int) (he : (e != 0) = true) (q1 : Ca 102 #[.agg #[.string n, .int .i64 k, .int .i64 a, .int .i64 x, .int .i64 y, .int .i64 z, .int .i64 lo, .int .i64 hi, fr]] (.int .i64 e)) (w : World) : Calls Tryz.prog 60 #[.agg #[.string n, .int .i64 k, .int .i64 a, .int .i64 x, .int .i64 y, .int .i64 z, .int .i64 lo, .int .i64 hi, fr]] w fun r W' => r = .returned (.tuple #[.int .i64 0, .int .i64 e]) ∧ Kb w W' := by
  have kx := Kb.refl w
  unfold Ca at *
  have b0 := Is.made w #[.string n, .int .i64 k, .int .i64 a, .int .i64 x, .int .i64 y, .int .i64 z, .int .i64 lo, .int .i64 hi, fr] 28
  replace kx := kx.alloc (.cells #[.string n, .int .i64 k, .int .i64 a, .int .i64 x, .int .i64 y, .int .i64 z, .int .i64 lo, .int .i64 hi, fr] 28 (0, 0))
  have b0_0 := b0.c (i := 0) rfl
  have b0_1 := b0.c (i := 1) rfl
  have b0_2 := b0.c (i := 2) rfl
  have b0_3 := b0.c (i := 3) rfl
  have b0_4 := b0.c (i := 4) rfl
  have b0_5 := b0.c (i := 5) rfl
  have b0_6 := b0.c (i := 6) rfl
  have b0_7 := b0.c (i := 7) rfl
  have b0_8 := b0.c (i := 8) rfl
  go_enter Tryz.func60, Tryz.ntmps60
  go_wp2_with fail
  (with_reducible refine (q1.out _).mono ?_)
  rintro r w1 ⟨rfl, k1⟩
  clear b0_0 b0_1 b0_2 b0_3 b0_4 b0_5 b0_6 b0_7 b0_8
  replace b0 := b0.kb k1
  replace kx := kx.trans k1
  clear k1
  have b0_0 := b0.c (i := 0) rfl
  have b0_1 := b0.c (i := 1) rfl
  have b0_2 := b0.c (i := 2) rfl
  have b0_3 := b0.c (i := 3) rfl
  have b0_4 := b0.c (i := 4) rfl
  have b0_5 := b0.c (i := 5) rfl
  have b0_6 := b0.c (i := 6) rfl
  have b0_7 := b0.c (i := 7) rfl
  have b0_8 := b0.c (i := 8) rfl
  go_wp2
  go_ret2
  exact ⟨rfl, kx⟩
set_option maxRecDepth 100000 in
set_option maxHeartbeats 1000000 in
theorem rMaximum_2 (n : ByteArray) (k a x y z lo hi : Int) (fr : Value) (q1 : Ca 102 #[.agg #[.string n, .int .i64 k, .int .i64 a, .int .i64 x, .int .i64 y, .int .i64 z, .int .i64 lo, .int .i64 hi, fr]] (.int .i64 0)) (q2 : Ca 62 #[.agg #[.string n, .int .i64 k, .int .i64 a, .int .i64 x, .int .i64 y, .int .i64 z, .int .i64 lo, .int .i64 hi, fr]] (.bool true)) (w : World) : Calls Tryz.prog 60 #[.agg #[.string n, .int .i64 k, .int .i64 a, .int .i64 x, .int .i64 y, .int .i64 z, .int .i64 lo, .int .i64 hi, fr]] w fun r W' => r = .returned (.tuple #[.int .i64 lo, .int .i64 0]) ∧ Kb w W' := by
  have kx := Kb.refl w
  unfold Ca at *
  have b0 := Is.made w #[.string n, .int .i64 k, .int .i64 a, .int .i64 x, .int .i64 y, .int .i64 z, .int .i64 lo, .int .i64 hi, fr] 28
  replace kx := kx.alloc (.cells #[.string n, .int .i64 k, .int .i64 a, .int .i64 x, .int .i64 y, .int .i64 z, .int .i64 lo, .int .i64 hi, fr] 28 (0, 0))
  have b0_0 := b0.c (i := 0) rfl
  have b0_1 := b0.c (i := 1) rfl
  have b0_2 := b0.c (i := 2) rfl
  have b0_3 := b0.c (i := 3) rfl
  have b0_4 := b0.c (i := 4) rfl
  have b0_5 := b0.c (i := 5) rfl
  have b0_6 := b0.c (i := 6) rfl
  have b0_7 := b0.c (i := 7) rfl
  have b0_8 := b0.c (i := 8) rfl
  go_enter Tryz.func60, Tryz.ntmps60
  go_wp2_with fail
  (with_reducible refine (q1.out _).mono ?_)
  rintro r w1 ⟨rfl, k1⟩
  clear b0_0 b0_1 b0_2 b0_3 b0_4 b0_5 b0_6 b0_7 b0_8
  replace b0 := b0.kb k1
  replace kx := kx.trans k1
  clear k1
  have b0_0 := b0.c (i := 0) rfl
  have b0_1 := b0.c (i := 1) rfl
  have b0_2 := b0.c (i := 2) rfl
  have b0_3 := b0.c (i := 3) rfl
  have b0_4 := b0.c (i := 4) rfl
  have b0_5 := b0.c (i := 5) rfl
  have b0_6 := b0.c (i := 6) rfl
  have b0_7 := b0.c (i := 7) rfl
  have b0_8 := b0.c (i := 8) rfl
  go_wp2_with fail
  (with_reducible refine (q2.out _).mono ?_)
  rintro r w2 ⟨rfl, k2⟩
  clear b0_0 b0_1 b0_2 b0_3 b0_4 b0_5 b0_6 b0_7 b0_8
  replace b0 := b0.kb k2
  replace kx := kx.trans k2
  clear k2
  have b0_0 := b0.c (i := 0) rfl
  have b0_1 := b0.c (i := 1) rfl
  have b0_2 := b0.c (i := 2) rfl
  have b0_3 := b0.c (i := 3) rfl
  have b0_4 := b0.c (i := 4) rfl
  have b0_5 := b0.c (i := 5) rfl
  have b0_6 := b0.c (i := 6) rfl
  have b0_7 := b0.c (i := 7) rfl
  have b0_8 := b0.c (i := 8) rfl
  go_wp2
  go_ret2
  exact ⟨rfl, kx⟩
set_option maxRecDepth 100000 in
set_option maxHeartbeats 1000000 in
theorem rMaximum_3 (n : ByteArray) (k a x y z lo hi : Int) (fr : Value) (q1 : Ca 102 #[.agg #[.string n, .int .i64 k, .int .i64 a, .int .i64 x, .int .i64 y, .int .i64 z, .int .i64 lo, .int .i64 hi, fr]] (.int .i64 0)) (q2 : Ca 62 #[.agg #[.string n, .int .i64 k, .int .i64 a, .int .i64 x, .int .i64 y, .int .i64 z, .int .i64 lo, .int .i64 hi, fr]] (.bool false)) (w : World) : Calls Tryz.prog 60 #[.agg #[.string n, .int .i64 k, .int .i64 a, .int .i64 x, .int .i64 y, .int .i64 z, .int .i64 lo, .int .i64 hi, fr]] w fun r W' => r = .returned (.tuple #[.int .i64 hi, .int .i64 0]) ∧ Kb w W' := by
  have kx := Kb.refl w
  unfold Ca at *
  have b0 := Is.made w #[.string n, .int .i64 k, .int .i64 a, .int .i64 x, .int .i64 y, .int .i64 z, .int .i64 lo, .int .i64 hi, fr] 28
  replace kx := kx.alloc (.cells #[.string n, .int .i64 k, .int .i64 a, .int .i64 x, .int .i64 y, .int .i64 z, .int .i64 lo, .int .i64 hi, fr] 28 (0, 0))
  have b0_0 := b0.c (i := 0) rfl
  have b0_1 := b0.c (i := 1) rfl
  have b0_2 := b0.c (i := 2) rfl
  have b0_3 := b0.c (i := 3) rfl
  have b0_4 := b0.c (i := 4) rfl
  have b0_5 := b0.c (i := 5) rfl
  have b0_6 := b0.c (i := 6) rfl
  have b0_7 := b0.c (i := 7) rfl
  have b0_8 := b0.c (i := 8) rfl
  go_enter Tryz.func60, Tryz.ntmps60
  go_wp2_with fail
  (with_reducible refine (q1.out _).mono ?_)
  rintro r w1 ⟨rfl, k1⟩
  clear b0_0 b0_1 b0_2 b0_3 b0_4 b0_5 b0_6 b0_7 b0_8
  replace b0 := b0.kb k1
  replace kx := kx.trans k1
  clear k1
  have b0_0 := b0.c (i := 0) rfl
  have b0_1 := b0.c (i := 1) rfl
  have b0_2 := b0.c (i := 2) rfl
  have b0_3 := b0.c (i := 3) rfl
  have b0_4 := b0.c (i := 4) rfl
  have b0_5 := b0.c (i := 5) rfl
  have b0_6 := b0.c (i := 6) rfl
  have b0_7 := b0.c (i := 7) rfl
  have b0_8 := b0.c (i := 8) rfl
  go_wp2_with fail
  (with_reducible refine (q2.out _).mono ?_)
  rintro r w2 ⟨rfl, k2⟩
  clear b0_0 b0_1 b0_2 b0_3 b0_4 b0_5 b0_6 b0_7 b0_8
  replace b0 := b0.kb k2
  replace kx := kx.trans k2
  clear k2
  have b0_0 := b0.c (i := 0) rfl
  have b0_1 := b0.c (i := 1) rfl
  have b0_2 := b0.c (i := 2) rfl
  have b0_3 := b0.c (i := 3) rfl
  have b0_4 := b0.c (i := 4) rfl
  have b0_5 := b0.c (i := 5) rfl
  have b0_6 := b0.c (i := 6) rfl
  have b0_7 := b0.c (i := 7) rfl
  have b0_8 := b0.c (i := 8) rfl
  go_wp2
  go_ret2
  exact ⟨rfl, kx⟩
set_option maxRecDepth 100000 in
set_option maxHeartbeats 1000000 in
theorem rLeast_1 (n : ByteArray) (k a x y z lo hi : Int) (fr : Value) (e : Int) (he : (e != 0) = true) (q1 : Ca 102 #[.agg #[.string n, .int .i64 k, .int .i64 a, .int .i64 x, .int .i64 y, .int .i64 z, .int .i64 lo, .int .i64 hi, fr]] (.int .i64 e)) (w : World) : Calls Tryz.prog 61 #[.agg #[.string n, .int .i64 k, .int .i64 a, .int .i64 x, .int .i64 y, .int .i64 z, .int .i64 lo, .int .i64 hi, fr]] w fun r W' => r = .returned (.tuple #[.int .i64 0, .int .i64 e]) ∧ Kb w W' := by
  have kx := Kb.refl w
  unfold Ca at *
  have b0 := Is.made w #[.string n, .int .i64 k, .int .i64 a, .int .i64 x, .int .i64 y, .int .i64 z, .int .i64 lo, .int .i64 hi, fr] 28
  replace kx := kx.alloc (.cells #[.string n, .int .i64 k, .int .i64 a, .int .i64 x, .int .i64 y, .int .i64 z, .int .i64 lo, .int .i64 hi, fr] 28 (0, 0))
  have b0_0 := b0.c (i := 0) rfl
  have b0_1 := b0.c (i := 1) rfl
  have b0_2 := b0.c (i := 2) rfl
  have b0_3 := b0.c (i := 3) rfl
  have b0_4 := b0.c (i := 4) rfl
  have b0_5 := b0.c (i := 5) rfl
  have b0_6 := b0.c (i := 6) rfl
  have b0_7 := b0.c (i := 7) rfl
  have b0_8 := b0.c (i := 8) rfl
  go_enter Tryz.func61, Tryz.ntmps61
  go_wp2_with fail
  (with_reducible refine (q1.out _).mono ?_)
  rintro r w1 ⟨rfl, k1⟩
  clear b0_0 b0_1 b0_2 b0_3 b0_4 b0_5 b0_6 b0_7 b0_8
  replace b0 := b0.kb k1
  replace kx := kx.trans k1
  clear k1
  have b0_0 := b0.c (i := 0) rfl
  have b0_1 := b0.c (i := 1) rfl
  have b0_2 := b0.c (i := 2) rfl
  have b0_3 := b0.c (i := 3) rfl
  have b0_4 := b0.c (i := 4) rfl
  have b0_5 := b0.c (i := 5) rfl
  have b0_6 := b0.c (i := 6) rfl
  have b0_7 := b0.c (i := 7) rfl
  have b0_8 := b0.c (i := 8) rfl
  go_wp2
  go_ret2
  exact ⟨rfl, kx⟩
set_option maxRecDepth 100000 in
set_option maxHeartbeats 1000000 in
theorem rLeast_2 (n : ByteArray) (k a x y z lo hi : Int) (fr : Value) (q1 : Ca 102 #[.agg #[.string n, .int .i64 k, .int .i64 a, .int .i64 x, .int .i64 y, .int .i64 z, .int .i64 lo, .int .i64 hi, fr]] (.int .i64 0)) (q2 : Ca 62 #[.agg #[.string n, .int .i64 k, .int .i64 a, .int .i64 x, .int .i64 y, .int .i64 z, .int .i64 lo, .int .i64 hi, fr]] (.bool true)) (w : World) : Calls Tryz.prog 61 #[.agg #[.string n, .int .i64 k, .int .i64 a, .int .i64 x, .int .i64 y, .int .i64 z, .int .i64 lo, .int .i64 hi, fr]] w fun r W' => r = .returned (.tuple #[.int .i64 hi, .int .i64 0]) ∧ Kb w W' := by
  have kx := Kb.refl w
  unfold Ca at *
  have b0 := Is.made w #[.string n, .int .i64 k, .int .i64 a, .int .i64 x, .int .i64 y, .int .i64 z, .int .i64 lo, .int .i64 hi, fr] 28
  replace kx := kx.alloc (.cells #[.string n, .int .i64 k, .int .i64 a, .int .i64 x, .int .i64 y, .int .i64 z, .int .i64 lo, .int .i64 hi, fr] 28 (0, 0))
  have b0_0 := b0.c (i := 0) rfl
  have b0_1 := b0.c (i := 1) rfl
  have b0_2 := b0.c (i := 2) rfl
  have b0_3 := b0.c (i := 3) rfl
  have b0_4 := b0.c (i := 4) rfl
  have b0_5 := b0.c (i := 5) rfl
  have b0_6 := b0.c (i := 6) rfl
  have b0_7 := b0.c (i := 7) rfl
  have b0_8 := b0.c (i := 8) rfl
  go_enter Tryz.func61, Tryz.ntmps61
  go_wp2_with fail
  (with_reducible refine (q1.out _).mono ?_)
  rintro r w1 ⟨rfl, k1⟩
  clear b0_0 b0_1 b0_2 b0_3 b0_4 b0_5 b0_6 b0_7 b0_8
  replace b0 := b0.kb k1
  replace kx := kx.trans k1
  clear k1
  have b0_0 := b0.c (i := 0) rfl
  have b0_1 := b0.c (i := 1) rfl
  have b0_2 := b0.c (i := 2) rfl
  have b0_3 := b0.c (i := 3) rfl
  have b0_4 := b0.c (i := 4) rfl
  have b0_5 := b0.c (i := 5) rfl
  have b0_6 := b0.c (i := 6) rfl
  have b0_7 := b0.c (i := 7) rfl
  have b0_8 := b0.c (i := 8) rfl
  go_wp2_with fail
  (with_reducible refine (q2.out _).mono ?_)
  rintro r w2 ⟨rfl, k2⟩
  clear b0_0 b0_1 b0_2 b0_3 b0_4 b0_5 b0_6 b0_7 b0_8
  replace b0 := b0.kb k2
  replace kx := kx.trans k2
  clear k2
  have b0_0 := b0.c (i := 0) rfl
  have b0_1 := b0.c (i := 1) rfl
  have b0_2 := b0.c (i := 2) rfl
  have b0_3 := b0.c (i := 3) rfl
  have b0_4 := b0.c (i := 4) rfl
  have b0_5 := b0.c (i := 5) rfl
  have b0_6 := b0.c (i := 6) rfl
  have b0_7 := b0.c (i := 7) rfl
  have b0_8 := b0.c (i := 8) rfl
  go_wp2
  go_ret2
  exact ⟨rfl, kx⟩
set_option maxRecDepth 100000 in
set_option maxHeartbeats 1000000 in
theorem rLeast_3 (n : ByteArray) (k a x y z lo hi : Int) (fr : Value) (q1 : Ca 102 #[.agg #[.string n, .int .i64 k, .int .i64 a, .int .i64 x, .int .i64 y, .int .i64 z, .int .i64 lo, .int .i64 hi, fr]] (.int .i64 0)) (q2 : Ca 62 #[.agg #[.string n, .int .i64 k, .int .i64 a, .int .i64 x, .int .i64 y, .int .i64 z, .int .i64 lo, .int .i64 hi, fr]] (.bool false)) (w : World) : Calls Tryz.prog 61 #[.agg #[.string n, .int .i64 k, .int .i64 a, .int .i64 x, .int .i64 y, .int .i64 z, .int .i64 lo, .int .i64 hi, fr]] w fun r W' => r = .returned (.tuple #[.int .i64 lo, .int .i64 0]) ∧ Kb w W' := by
  have kx := Kb.refl w
  unfold Ca at *
  have b0 := Is.made w #[.string n, .int .i64 k, .int .i64 a, .int .i64 x, .int .i64 y, .int .i64 z, .int .i64 lo, .int .i64 hi, fr] 28
  replace kx := kx.alloc (.cells #[.string n, .int .i64 k, .int .i64 a, .int .i64 x, .int .i64 y, .int .i64 z, .int .i64 lo, .int .i64 hi, fr] 28 (0, 0))
  have b0_0 := b0.c (i := 0) rfl
  have b0_1 := b0.c (i := 1) rfl
  have b0_2 := b0.c (i := 2) rfl
  have b0_3 := b0.c (i := 3) rfl
  have b0_4 := b0.c (i := 4) rfl
  have b0_5 := b0.c (i := 5) rfl
  have b0_6 := b0.c (i := 6) rfl
  have b0_7 := b0.c (i := 7) rfl
  have b0_8 := b0.c (i := 8) rfl
  go_enter Tryz.func61, Tryz.ntmps61
  go_wp2_with fail
  (with_reducible refine (q1.out _).mono ?_)
  rintro r w1 ⟨rfl, k1⟩
  clear b0_0 b0_1 b0_2 b0_3 b0_4 b0_5 b0_6 b0_7 b0_8
  replace b0 := b0.kb k1
  replace kx := kx.trans k1
  clear k1
  have b0_0 := b0.c (i := 0) rfl
  have b0_1 := b0.c (i := 1) rfl
  have b0_2 := b0.c (i := 2) rfl
  have b0_3 := b0.c (i := 3) rfl
  have b0_4 := b0.c (i := 4) rfl
  have b0_5 := b0.c (i := 5) rfl
  have b0_6 := b0.c (i := 6) rfl
  have b0_7 := b0.c (i := 7) rfl
  have b0_8 := b0.c (i := 8) rfl
  go_wp2_with fail
  (with_reducible refine (q2.out _).mono ?_)
  rintro r w2 ⟨rfl, k2⟩
  clear b0_0 b0_1 b0_2 b0_3 b0_4 b0_5 b0_6 b0_7 b0_8
  replace b0 := b0.kb k2
  replace kx := kx.trans k2
  clear k2
  have b0_0 := b0.c (i := 0) rfl
  have b0_1 := b0.c (i := 1) rfl
  have b0_2 := b0.c (i := 2) rfl
  have b0_3 := b0.c (i := 3) rfl
  have b0_4 := b0.c (i := 4) rfl
  have b0_5 := b0.c (i := 5) rfl
  have b0_6 := b0.c (i := 6) rfl
  have b0_7 := b0.c (i := 7) rfl
  have b0_8 := b0.c (i := 8) rfl
  go_wp2
  go_ret2
  exact ⟨rfl, kx⟩
/-- inner features: holes and slots -/
def holB (k : Int) : Bool := (k == 1) || (k == 3)
def szdE (e k : Int) : Int := if e = 0 then (if k = 0 then 14 else 0) else e
theorem rHollow (n : ByteArray) (k a x y z lo hi : Int) (fr : Value) : Ca 62 #[.agg #[.string n, .int .i64 k, .int .i64 a, .int .i64 x, .int .i64 y, .int .i64 z, .int .i64 lo, .int .i64 hi, fr]] (.bool (holB k)) := Lib.hid fun w => by
  unfold holB
  rcases Bool.eq_false_or_eq_true (k == 1) with h | h
  · rw [h, Bool.true_or]; exact rHollow_1 n k a x y z lo hi fr h w
  · rw [h, Bool.false_or]; exact rHollow_2 n k a x y z lo hi fr h w
theorem rsized (n : ByteArray) (k a x y z lo hi : Int) (fr : Value) (hn : n.size ≤ 1000000) : Ca 102 #[.agg #[.string n, .int .i64 k, .int .i64 a, .int .i64 x, .int .i64 y, .int .i64 z, .int .i64 lo, .int .i64 hi, fr]] (.int .i64 (szdE (ftE n k a x y z lo hi) k)) := Lib.hid fun w => by
  have q := rfCheck n k a x y z lo hi fr hn
  unfold szdE
  by_cases e : ftE n k a x y z lo hi = 0
  · rw [e] at q
    rw [e, if_pos rfl]
    by_cases h : k = 0
    · rw [if_pos h]; exact rsized_2 n k a x y z lo hi fr (by simp [h]) q w
    · rw [if_neg h]; exact rsized_3 n k a x y z lo hi fr (by simp [h]) q w
  · rw [if_neg e]; exact rsized_1 n k a x y z lo hi fr _ (ne_b e) q w






theorem rMaximum (n : ByteArray) (k a x y z lo hi : Int) (fr : Value) (hn : n.size ≤ 1000000) : Ca 60 #[.agg #[.string n, .int .i64 k, .int .i64 a, .int .i64 x, .int .i64 y, .int .i64 z, .int .i64 lo, .int .i64 hi, fr]] (.tuple #[.int .i64 (zI (szdE (ftE n k a x y z lo hi) k) (if holB k = true then lo else hi)), .int .i64 (szdE (ftE n k a x y z lo hi) k)]) := Lib.hid fun w => by
  have q := rsized n k a x y z lo hi fr hn
  have h := rHollow n k a x y z lo hi fr
  by_cases e : szdE (ftE n k a x y z lo hi) k = 0
  · rw [e] at q ⊢
    rw [zI_0]
    rcases Bool.eq_false_or_eq_true (holB k) with hb | hb
    · rw [hb] at h; rw [if_pos hb]; exact rMaximum_2 n k a x y z lo hi fr q h w
    · rw [hb] at h; rw [if_neg (by rw [hb]; decide)]; exact rMaximum_3 n k a x y z lo hi fr q h w
  · rw [zI_e e]; exact rMaximum_1 n k a x y z lo hi fr _ (ne_b e) q w
theorem rLeast (n : ByteArray) (k a x y z lo hi : Int) (fr : Value) (hn : n.size ≤ 1000000) : Ca 61 #[.agg #[.string n, .int .i64 k, .int .i64 a, .int .i64 x, .int .i64 y, .int .i64 z, .int .i64 lo, .int .i64 hi, fr]] (.tuple #[.int .i64 (zI (szdE (ftE n k a x y z lo hi) k) (if holB k = true then hi else lo)), .int .i64 (szdE (ftE n k a x y z lo hi) k)]) := Lib.hid fun w => by
  have q := rsized n k a x y z lo hi fr hn
  have h := rHollow n k a x y z lo hi fr
  by_cases e : szdE (ftE n k a x y z lo hi) k = 0
  · rw [e] at q ⊢
    rw [zI_0]
    rcases Bool.eq_false_or_eq_true (holB k) with hb | hb
    · rw [hb] at h; rw [if_pos hb]; exact rLeast_2 n k a x y z lo hi fr q h w
    · rw [hb] at h; rw [if_neg (by rw [hb]; decide)]; exact rLeast_3 n k a x y z lo hi fr q h w
  · rw [zI_e e]; exact rLeast_1 n k a x y z lo hi fr _ (ne_b e) q w
end Go.Proofs.YtlfeinajjfbpkaaGreatDoor
