/- Features: the reference's Bounded, and Reach way by way. -/
import Derived.Test.YtgclljgdoonnmaaDoorQf5
namespace Go.Proofs.YtgclljgdoonnmaaDoor
open Go.RowKit

/-- whether a feature is bounded along an axis -/
def bdB (k a c : Int) : Bool := if k = 4 then true else if k = 1 ∨ k = 2 then c != a else c == a
theorem rBounded (n : ByteArray) (k a x y z lo hi : Int) (fr : Value) (c : Int) : Ca 56 #[.agg #[.string n, .int .i64 k, .int .i64 a, .int .i64 x, .int .i64 y, .int .i64 z, .int .i64 lo, .int .i64 hi, fr], .int .i64 c] (.bool (bdB k a c)) := Lib.hid fun w => by
  unfold bdB
  by_cases h4 : k = 4
  · rw [if_pos h4]; exact rBounded_1 n k a x y z lo hi fr c (by simp [h4]) w
  · rw [if_neg h4]
    by_cases h1 : k = 1
    · rw [if_pos (.inl h1)]; exact rBounded_2 n k a x y z lo hi fr c (by simp [h4]) (by simp [h1]) w
    · by_cases h2 : k = 2
      · rw [if_pos (.inr h2)]; exact rBounded_3 n k a x y z lo hi fr c (by simp [h4]) (by simp [h1]) (by simp [h2]) w
      · rw [if_neg (by omega)]; exact rBounded_4 n k a x y z lo hi fr c (by simp [h4]) (by simp [h1]) (by simp [h2]) w
set_option maxRecDepth 100000 in
set_option maxHeartbeats 1000000 in
theorem rReach_1 (n : ByteArray) (k a x y z lo hi : Int) (fr : Value) (c : Int) (e : Int) (he : (e != 0) = true) (q1 : Ca 55 #[.agg #[.string n, .int .i64 k, .int .i64 a, .int .i64 x, .int .i64 y, .int .i64 z, .int .i64 lo, .int .i64 hi, fr], .int .i64 c] (.int .i64 e)) (w : World) : Calls Tryd.prog 21 #[.agg #[.string n, .int .i64 k, .int .i64 a, .int .i64 x, .int .i64 y, .int .i64 z, .int .i64 lo, .int .i64 hi, fr], .int .i64 c] w fun r W' => r = .returned (.tuple #[.agg #[.int .i64 0, .int .i64 0], .int .i64 e]) ∧ Kb w W' := by
  have kx := Kb.refl w
  unfold Ca at *
  have b0 := Is.made w #[.string n, .int .i64 k, .int .i64 a, .int .i64 x, .int .i64 y, .int .i64 z, .int .i64 lo, .int .i64 hi, fr] 28
  replace kx := kx.alloc (.cells #[.string n, .int .i64 k, .int .i64 a, .int .i64 x, .int .i64 y, .int .i64 z, .int .i64 lo, .int .i64 hi, fr] 28 (0, 0))
  replace b0 := b0.alloc (.cells #[.int .i64 0, .int .i64 0] 25 (0, 0))
  have b1 := Is.made (w.alloc (.cells #[.string n, .int .i64 k, .int .i64 a, .int .i64 x, .int .i64 y, .int .i64 z, .int .i64 lo, .int .i64 hi, fr] 28 (0, 0))) #[.int .i64 0, .int .i64 0] 25
  replace kx := kx.alloc (.cells #[.int .i64 0, .int .i64 0] 25 (0, 0))
  rw [World.size_alloc] at b1
  have b0_0 := b0.c (i := 0) rfl
  have b0_1 := b0.c (i := 1) rfl
  have b0_2 := b0.c (i := 2) rfl
  have b0_3 := b0.c (i := 3) rfl
  have b0_4 := b0.c (i := 4) rfl
  have b0_5 := b0.c (i := 5) rfl
  have b0_6 := b0.c (i := 6) rfl
  have b0_7 := b0.c (i := 7) rfl
  have b0_8 := b0.c (i := 8) rfl
  have b1_0 := b1.c (i := 0) rfl
  have b1_1 := b1.c (i := 1) rfl
  go_enter Tryd.func21, Tryd.ntmps21
  go_wp2_with fail
  (with_reducible refine (q1.out _).mono ?_)
  rintro r w1 ⟨rfl, k1⟩
  clear b0_0 b0_1 b0_2 b0_3 b0_4 b0_5 b0_6 b0_7 b0_8 b1_0 b1_1
  replace b0 := b0.kb k1
  replace b1 := b1.kb k1
  replace kx := kx.trans k1
  clear k1
  obtain ⟨zn, pt⟩ := put2 b1 (.int .i64 0) (.int .i64 0)
  have kz := pt.kb kx (by omega)
  have b0_0 := b0.c (i := 0) rfl
  have b0_1 := b0.c (i := 1) rfl
  have b0_2 := b0.c (i := 2) rfl
  have b0_3 := b0.c (i := 3) rfl
  have b0_4 := b0.c (i := 4) rfl
  have b0_5 := b0.c (i := 5) rfl
  have b0_6 := b0.c (i := 6) rfl
  have b0_7 := b0.c (i := 7) rfl
  have b0_8 := b0.c (i := 8) rfl
  have b1_0 := b1.c (i := 0) rfl
  have b1_1 := b1.c (i := 1) rfl
  have b1_ff := b1.f
  have b1_f0 := b1_ff 0
  have b1_f1 := b1_ff 1
  clear b1_ff
  clear b0 b1 kx pt
  go_wp2
  refine ret_row2 Tryd.results21 rfl rfl rfl zn Tryd.underlying25 rfl (by kernel_rfl) ?_
  exact ⟨rfl, kz⟩
set_option maxRecDepth 100000 in
set_option maxHeartbeats 1000000 in
theorem rReach_2 (n : ByteArray) (k a x y z lo hi : Int) (fr : Value) (c : Int) (q1 : Ca 55 #[.agg #[.string n, .int .i64 k, .int .i64 a, .int .i64 x, .int .i64 y, .int .i64 z, .int .i64 lo, .int .i64 hi, fr], .int .i64 c] (.int .i64 0)) (q2 : Ca 56 #[.agg #[.string n, .int .i64 k, .int .i64 a, .int .i64 x, .int .i64 y, .int .i64 z, .int .i64 lo, .int .i64 hi, fr], .int .i64 c] (.bool false)) (w : World) : Calls Tryd.prog 21 #[.agg #[.string n, .int .i64 k, .int .i64 a, .int .i64 x, .int .i64 y, .int .i64 z, .int .i64 lo, .int .i64 hi, fr], .int .i64 c] w fun r W' => r = .returned (.tuple #[.agg #[.int .i64 0, .int .i64 0], .int .i64 14]) ∧ Kb w W' := by
  have kx := Kb.refl w
  unfold Ca at *
  have b0 := Is.made w #[.string n, .int .i64 k, .int .i64 a, .int .i64 x, .int .i64 y, .int .i64 z, .int .i64 lo, .int .i64 hi, fr] 28
  replace kx := kx.alloc (.cells #[.string n, .int .i64 k, .int .i64 a, .int .i64 x, .int .i64 y, .int .i64 z, .int .i64 lo, .int .i64 hi, fr] 28 (0, 0))
  replace b0 := b0.alloc (.cells #[.int .i64 0, .int .i64 0] 25 (0, 0))
  have b1 := Is.made (w.alloc (.cells #[.string n, .int .i64 k, .int .i64 a, .int .i64 x, .int .i64 y, .int .i64 z, .int .i64 lo, .int .i64 hi, fr] 28 (0, 0))) #[.int .i64 0, .int .i64 0] 25
  replace kx := kx.alloc (.cells #[.int .i64 0, .int .i64 0] 25 (0, 0))
  rw [World.size_alloc] at b1
  have b0_0 := b0.c (i := 0) rfl
  have b0_1 := b0.c (i := 1) rfl
  have b0_2 := b0.c (i := 2) rfl
  have b0_3 := b0.c (i := 3) rfl
  have b0_4 := b0.c (i := 4) rfl
  have b0_5 := b0.c (i := 5) rfl
  have b0_6 := b0.c (i := 6) rfl
  have b0_7 := b0.c (i := 7) rfl
  have b0_8 := b0.c (i := 8) rfl
  have b1_0 := b1.c (i := 0) rfl
  have b1_1 := b1.c (i := 1) rfl
  go_enter Tryd.func21, Tryd.ntmps21
  go_wp2_with fail
  (with_reducible refine (q1.out _).mono ?_)
  rintro r w1 ⟨rfl, k1⟩
  clear b0_0 b0_1 b0_2 b0_3 b0_4 b0_5 b0_6 b0_7 b0_8 b1_0 b1_1
  replace b0 := b0.kb k1
  replace b1 := b1.kb k1
  replace kx := kx.trans k1
  clear k1
  have b0_0 := b0.c (i := 0) rfl
  have b0_1 := b0.c (i := 1) rfl
  have b0_2 := b0.c (i := 2) rfl
  have b0_3 := b0.c (i := 3) rfl
  have b0_4 := b0.c (i := 4) rfl
  have b0_5 := b0.c (i := 5) rfl
  have b0_6 := b0.c (i := 6) rfl
  have b0_7 := b0.c (i := 7) rfl
  have b0_8 := b0.c (i := 8) rfl
  have b1_0 := b1.c (i := 0) rfl
  have b1_1 := b1.c (i := 1) rfl
  go_wp2_with fail
  (with_reducible refine (q2.out _).mono ?_)
  rintro r w2 ⟨rfl, k2⟩
  clear b0_0 b0_1 b0_2 b0_3 b0_4 b0_5 b0_6 b0_7 b0_8 b1_0 b1_1
  replace b0 := b0.kb k2
  replace b1 := b1.kb k2
  replace kx := kx.trans k2
  clear k2
  obtain ⟨zn, pt⟩ := put2 b1 (.int .i64 0) (.int .i64 0)
  have kz := pt.kb kx (by omega)
  have b0_0 := b0.c (i := 0) rfl
  have b0_1 := b0.c (i := 1) rfl
  have b0_2 := b0.c (i := 2) rfl
  have b0_3 := b0.c (i := 3) rfl
  have b0_4 := b0.c (i := 4) rfl
  have b0_5 := b0.c (i := 5) rfl
  have b0_6 := b0.c (i := 6) rfl
  have b0_7 := b0.c (i := 7) rfl
  have b0_8 := b0.c (i := 8) rfl
  have b1_0 := b1.c (i := 0) rfl
  have b1_1 := b1.c (i := 1) rfl
  have b1_ff := b1.f
  have b1_f0 := b1_ff 0
  have b1_f1 := b1_ff 1
  clear b1_ff
  clear b0 b1 kx pt
  go_wp2
  refine ret_row2 Tryd.results21 rfl rfl rfl zn Tryd.underlying25 rfl (by kernel_rfl) ?_
  exact ⟨rfl, kz⟩
set_option maxRecDepth 100000 in
set_option maxHeartbeats 1000000 in
theorem rReach_3 (n : ByteArray) (k a x y z lo hi : Int) (fr : Value) (c : Int) (u v : Int) (e : Int) (he : (e != 0) = true) (q1 : Ca 55 #[.agg #[.string n, .int .i64 k, .int .i64 a, .int .i64 x, .int .i64 y, .int .i64 z, .int .i64 lo, .int .i64 hi, fr], .int .i64 c] (.int .i64 0)) (q2 : Ca 56 #[.agg #[.string n, .int .i64 k, .int .i64 a, .int .i64 x, .int .i64 y, .int .i64 z, .int .i64 lo, .int .i64 hi, fr], .int .i64 c] (.bool true)) (q3 : Ca 57 #[.agg #[.string n, .int .i64 k, .int .i64 a, .int .i64 x, .int .i64 y, .int .i64 z, .int .i64 lo, .int .i64 hi, fr], .int .i64 c] (.agg #[.int .i64 u, .int .i64 v])) (q4 : Ca 49 #[.agg #[.int .i64 u, .int .i64 v]] (.int .i64 e)) (w : World) : Calls Tryd.prog 21 #[.agg #[.string n, .int .i64 k, .int .i64 a, .int .i64 x, .int .i64 y, .int .i64 z, .int .i64 lo, .int .i64 hi, fr], .int .i64 c] w fun r W' => r = .returned (.tuple #[.agg #[.int .i64 0, .int .i64 0], .int .i64 2]) ∧ Kb w W' := by
  have kx := Kb.refl w
  unfold Ca at *
  have b0 := Is.made w #[.string n, .int .i64 k, .int .i64 a, .int .i64 x, .int .i64 y, .int .i64 z, .int .i64 lo, .int .i64 hi, fr] 28
  replace kx := kx.alloc (.cells #[.string n, .int .i64 k, .int .i64 a, .int .i64 x, .int .i64 y, .int .i64 z, .int .i64 lo, .int .i64 hi, fr] 28 (0, 0))
  replace b0 := b0.alloc (.cells #[.int .i64 0, .int .i64 0] 25 (0, 0))
  have b1 := Is.made (w.alloc (.cells #[.string n, .int .i64 k, .int .i64 a, .int .i64 x, .int .i64 y, .int .i64 z, .int .i64 lo, .int .i64 hi, fr] 28 (0, 0))) #[.int .i64 0, .int .i64 0] 25
  replace kx := kx.alloc (.cells #[.int .i64 0, .int .i64 0] 25 (0, 0))
  rw [World.size_alloc] at b1
  have b0_0 := b0.c (i := 0) rfl
  have b0_1 := b0.c (i := 1) rfl
  have b0_2 := b0.c (i := 2) rfl
  have b0_3 := b0.c (i := 3) rfl
  have b0_4 := b0.c (i := 4) rfl
  have b0_5 := b0.c (i := 5) rfl
  have b0_6 := b0.c (i := 6) rfl
  have b0_7 := b0.c (i := 7) rfl
  have b0_8 := b0.c (i := 8) rfl
  have b1_0 := b1.c (i := 0) rfl
  have b1_1 := b1.c (i := 1) rfl
  go_enter Tryd.func21, Tryd.ntmps21
  go_wp2_with fail
  (with_reducible refine (q1.out _).mono ?_)
  rintro r w1 ⟨rfl, k1⟩
  clear b0_0 b0_1 b0_2 b0_3 b0_4 b0_5 b0_6 b0_7 b0_8 b1_0 b1_1
  replace b0 := b0.kb k1
  replace b1 := b1.kb k1
  replace kx := kx.trans k1
  clear k1
  have b0_0 := b0.c (i := 0) rfl
  have b0_1 := b0.c (i := 1) rfl
  have b0_2 := b0.c (i := 2) rfl
  have b0_3 := b0.c (i := 3) rfl
  have b0_4 := b0.c (i := 4) rfl
  have b0_5 := b0.c (i := 5) rfl
  have b0_6 := b0.c (i := 6) rfl
  have b0_7 := b0.c (i := 7) rfl
  have b0_8 := b0.c (i := 8) rfl
  have b1_0 := b1.c (i := 0) rfl
  have b1_1 := b1.c (i := 1) rfl
  go_wp2_with fail
  (with_reducible refine (q2.out _).mono ?_)
  rintro r w2 ⟨rfl, k2⟩
  clear b0_0 b0_1 b0_2 b0_3 b0_4 b0_5 b0_6 b0_7 b0_8 b1_0 b1_1
  replace b0 := b0.kb k2
  replace b1 := b1.kb k2
  replace kx := kx.trans k2
  clear k2
  have b0_0 := b0.c (i := 0) rfl
  have b0_1 := b0.c (i := 1) rfl
  have b0_2 := b0.c (i := 2) rfl
  have b0_3 := b0.c (i := 3) rfl
  have b0_4 := b0.c (i := 4) rfl
  have b0_5 := b0.c (i := 5) rfl
  have b0_6 := b0.c (i := 6) rfl
  have b0_7 := b0.c (i := 7) rfl
  have b0_8 := b0.c (i := 8) rfl
  have b1_0 := b1.c (i := 0) rfl
  have b1_1 := b1.c (i := 1) rfl
  go_wp2_with fail
  (with_reducible refine (q3.out _).mono ?_)
  rintro r w3 ⟨rfl, k3⟩
  clear b0_0 b0_1 b0_2 b0_3 b0_4 b0_5 b0_6 b0_7 b0_8 b1_0 b1_1
  replace b0 := b0.kb k3
  replace b1 := b1.kb k3
  replace kx := kx.trans k3
  clear k3
  replace b0 := b0.alloc (.cells #[.int .i64 u, .int .i64 v] 25 (0, 0))
  replace b1 := b1.alloc (.cells #[.int .i64 u, .int .i64 v] 25 (0, 0))
  have b2 := Is.made w3 #[.int .i64 u, .int .i64 v] 25
  replace kx := kx.alloc (.cells #[.int .i64 u, .int .i64 v] 25 (0, 0))
  have b0_0 := b0.c (i := 0) rfl
  have b0_1 := b0.c (i := 1) rfl
  have b0_2 := b0.c (i := 2) rfl
  have b0_3 := b0.c (i := 3) rfl
  have b0_4 := b0.c (i := 4) rfl
  have b0_5 := b0.c (i := 5) rfl
  have b0_6 := b0.c (i := 6) rfl
  have b0_7 := b0.c (i := 7) rfl
  have b0_8 := b0.c (i := 8) rfl
  have b1_0 := b1.c (i := 0) rfl
  have b1_1 := b1.c (i := 1) rfl
  have b2_0 := b2.c (i := 0) rfl
  have b2_1 := b2.c (i := 1) rfl
  go_wp2_with fail
  (with_reducible refine (q4.out _).mono ?_)
  rintro r w4 ⟨rfl, k4⟩
  clear b0_0 b0_1 b0_2 b0_3 b0_4 b0_5 b0_6 b0_7 b0_8 b1_0 b1_1 b2_0 b2_1
  replace b0 := b0.kb k4
  replace b1 := b1.kb k4
  replace b2 := b2.kb k4
  replace kx := kx.trans k4
  clear k4
  obtain ⟨zn, pt⟩ := put2 b1 (.int .i64 0) (.int .i64 0)
  have kz := pt.kb kx (by omega)
  have b0_0 := b0.c (i := 0) rfl
  have b0_1 := b0.c (i := 1) rfl
  have b0_2 := b0.c (i := 2) rfl
  have b0_3 := b0.c (i := 3) rfl
  have b0_4 := b0.c (i := 4) rfl
  have b0_5 := b0.c (i := 5) rfl
  have b0_6 := b0.c (i := 6) rfl
  have b0_7 := b0.c (i := 7) rfl
  have b0_8 := b0.c (i := 8) rfl
  have b1_0 := b1.c (i := 0) rfl
  have b1_1 := b1.c (i := 1) rfl
  have b1_ff := b1.f
  have b1_f0 := b1_ff 0
  have b1_f1 := b1_ff 1
  clear b1_ff
  have b2_0 := b2.c (i := 0) rfl
  have b2_1 := b2.c (i := 1) rfl
  clear b0 b1 b2 kx pt
  go_wp2
  refine ret_row2 Tryd.results21 rfl rfl rfl zn Tryd.underlying25 rfl (by kernel_rfl) ?_
  exact ⟨rfl, kz⟩
set_option maxRecDepth 100000 in
set_option maxHeartbeats 1000000 in
theorem rReach_4 (n : ByteArray) (k a x y z lo hi : Int) (fr : Value) (c : Int) (u v : Int) (q1 : Ca 55 #[.agg #[.string n, .int .i64 k, .int .i64 a, .int .i64 x, .int .i64 y, .int .i64 z, .int .i64 lo, .int .i64 hi, fr], .int .i64 c] (.int .i64 0)) (q2 : Ca 56 #[.agg #[.string n, .int .i64 k, .int .i64 a, .int .i64 x, .int .i64 y, .int .i64 z, .int .i64 lo, .int .i64 hi, fr], .int .i64 c] (.bool true)) (q3 : Ca 57 #[.agg #[.string n, .int .i64 k, .int .i64 a, .int .i64 x, .int .i64 y, .int .i64 z, .int .i64 lo, .int .i64 hi, fr], .int .i64 c] (.agg #[.int .i64 u, .int .i64 v])) (q4 : Ca 49 #[.agg #[.int .i64 u, .int .i64 v]] (.int .i64 0)) (w : World) : Calls Tryd.prog 21 #[.agg #[.string n, .int .i64 k, .int .i64 a, .int .i64 x, .int .i64 y, .int .i64 z, .int .i64 lo, .int .i64 hi, fr], .int .i64 c] w fun r W' => r = .returned (.tuple #[.agg #[.int .i64 u, .int .i64 v], .int .i64 0]) ∧ Kb w W' := by
  have kx := Kb.refl w
  unfold Ca at *
  have b0 := Is.made w #[.string n, .int .i64 k, .int .i64 a, .int .i64 x, .int .i64 y, .int .i64 z, .int .i64 lo, .int .i64 hi, fr] 28
  replace kx := kx.alloc (.cells #[.string n, .int .i64 k, .int .i64 a, .int .i64 x, .int .i64 y, .int .i64 z, .int .i64 lo, .int .i64 hi, fr] 28 (0, 0))
  replace b0 := b0.alloc (.cells #[.int .i64 0, .int .i64 0] 25 (0, 0))
  have b1 := Is.made (w.alloc (.cells #[.string n, .int .i64 k, .int .i64 a, .int .i64 x, .int .i64 y, .int .i64 z, .int .i64 lo, .int .i64 hi, fr] 28 (0, 0))) #[.int .i64 0, .int .i64 0] 25
  replace kx := kx.alloc (.cells #[.int .i64 0, .int .i64 0] 25 (0, 0))
  rw [World.size_alloc] at b1
  have b0_0 := b0.c (i := 0) rfl
  have b0_1 := b0.c (i := 1) rfl
  have b0_2 := b0.c (i := 2) rfl
  have b0_3 := b0.c (i := 3) rfl
  have b0_4 := b0.c (i := 4) rfl
  have b0_5 := b0.c (i := 5) rfl
  have b0_6 := b0.c (i := 6) rfl
  have b0_7 := b0.c (i := 7) rfl
  have b0_8 := b0.c (i := 8) rfl
  have b1_0 := b1.c (i := 0) rfl
  have b1_1 := b1.c (i := 1) rfl
  go_enter Tryd.func21, Tryd.ntmps21
  go_wp2_with fail
  (with_reducible refine (q1.out _).mono ?_)
  rintro r w1 ⟨rfl, k1⟩
  clear b0_0 b0_1 b0_2 b0_3 b0_4 b0_5 b0_6 b0_7 b0_8 b1_0 b1_1
  replace b0 := b0.kb k1
  replace b1 := b1.kb k1
  replace kx := kx.trans k1
  clear k1
  have b0_0 := b0.c (i := 0) rfl
  have b0_1 := b0.c (i := 1) rfl
  have b0_2 := b0.c (i := 2) rfl
  have b0_3 := b0.c (i := 3) rfl
  have b0_4 := b0.c (i := 4) rfl
  have b0_5 := b0.c (i := 5) rfl
  have b0_6 := b0.c (i := 6) rfl
  have b0_7 := b0.c (i := 7) rfl
  have b0_8 := b0.c (i := 8) rfl
  have b1_0 := b1.c (i := 0) rfl
  have b1_1 := b1.c (i := 1) rfl
  go_wp2_with fail
  (with_reducible refine (q2.out _).mono ?_)
  rintro r w2 ⟨rfl, k2⟩
  clear b0_0 b0_1 b0_2 b0_3 b0_4 b0_5 b0_6 b0_7 b0_8 b1_0 b1_1
  replace b0 := b0.kb k2
  replace b1 := b1.kb k2
  replace kx := kx.trans k2
  clear k2
  have b0_0 := b0.c (i := 0) rfl
  have b0_1 := b0.c (i := 1) rfl
  have b0_2 := b0.c (i := 2) rfl
  have b0_3 := b0.c (i := 3) rfl
  have b0_4 := b0.c (i := 4) rfl
  have b0_5 := b0.c (i := 5) rfl
  have b0_6 := b0.c (i := 6) rfl
  have b0_7 := b0.c (i := 7) rfl
  have b0_8 := b0.c (i := 8) rfl
  have b1_0 := b1.c (i := 0) rfl
  have b1_1 := b1.c (i := 1) rfl
  go_wp2_with fail
  (with_reducible refine (q3.out _).mono ?_)
  rintro r w3 ⟨rfl, k3⟩
  clear b0_0 b0_1 b0_2 b0_3 b0_4 b0_5 b0_6 b0_7 b0_8 b1_0 b1_1
  replace b0 := b0.kb k3
  replace b1 := b1.kb k3
  replace kx := kx.trans k3
  clear k3
  replace b0 := b0.alloc (.cells #[.int .i64 u, .int .i64 v] 25 (0, 0))
  replace b1 := b1.alloc (.cells #[.int .i64 u, .int .i64 v] 25 (0, 0))
  have b2 := Is.made w3 #[.int .i64 u, .int .i64 v] 25
  replace kx := kx.alloc (.cells #[.int .i64 u, .int .i64 v] 25 (0, 0))
  have b0_0 := b0.c (i := 0) rfl
  have b0_1 := b0.c (i := 1) rfl
  have b0_2 := b0.c (i := 2) rfl
  have b0_3 := b0.c (i := 3) rfl
  have b0_4 := b0.c (i := 4) rfl
  have b0_5 := b0.c (i := 5) rfl
  have b0_6 := b0.c (i := 6) rfl
  have b0_7 := b0.c (i := 7) rfl
  have b0_8 := b0.c (i := 8) rfl
  have b1_0 := b1.c (i := 0) rfl
  have b1_1 := b1.c (i := 1) rfl
  have b2_0 := b2.c (i := 0) rfl
  have b2_1 := b2.c (i := 1) rfl
  go_wp2_with fail
  (with_reducible refine (q4.out _).mono ?_)
  rintro r w4 ⟨rfl, k4⟩
  clear b0_0 b0_1 b0_2 b0_3 b0_4 b0_5 b0_6 b0_7 b0_8 b1_0 b1_1 b2_0 b2_1
  replace b0 := b0.kb k4
  replace b1 := b1.kb k4
  replace b2 := b2.kb k4
  replace kx := kx.trans k4
  clear k4
  obtain ⟨zn, pt⟩ := put2 b1 (.int .i64 u) (.int .i64 v)
  have kz := pt.kb kx (by omega)
  have b0_0 := b0.c (i := 0) rfl
  have b0_1 := b0.c (i := 1) rfl
  have b0_2 := b0.c (i := 2) rfl
  have b0_3 := b0.c (i := 3) rfl
  have b0_4 := b0.c (i := 4) rfl
  have b0_5 := b0.c (i := 5) rfl
  have b0_6 := b0.c (i := 6) rfl
  have b0_7 := b0.c (i := 7) rfl
  have b0_8 := b0.c (i := 8) rfl
  have b1_0 := b1.c (i := 0) rfl
  have b1_1 := b1.c (i := 1) rfl
  have b1_ff := b1.f
  have b1_f0 := b1_ff 0
  have b1_f1 := b1_ff 1
  clear b1_ff
  have b2_0 := b2.c (i := 0) rfl
  have b2_1 := b2.c (i := 1) rfl
  clear b0 b1 b2 kx pt
  go_wp2
  refine ret_row2 Tryd.results21 rfl rfl rfl zn Tryd.underlying25 rfl (by kernel_rfl) ?_
  exact ⟨rfl, kz⟩
end Go.Proofs.YtgclljgdoonnmaaDoor
