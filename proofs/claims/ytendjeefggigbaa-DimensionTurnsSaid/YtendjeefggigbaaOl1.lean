/- Laws of package dimension: walks of Names, Holds, Sums, Meets. -/
import Derived.Test.YtendjeefggigbaaOd6
import Derived.Test.YtendjeefggigbaaOf3
namespace Go.Proofs.Ytendjeefggigbaa
open Go.RowKit

set_option maxRecDepth 100000 in
set_option maxHeartbeats 1000000 in
theorem holds_core (l h m k v x y e1 e2 e3 : Int) (b c : Bool) (q1 : Ca 18 #[.agg #[.int .i64 l, .int .i64 h], .int .i64 v] (.tuple #[.bool b, .int .i64 e1])) (q2 : Ca 19 #[.agg #[.int .i64 l, .int .i64 h], .int .i64 v] (.tuple #[.bool b, .int .i64 e1])) (q3 : Ca 20 #[.agg #[.int .i64 l, .int .i64 h], .agg #[.int .i64 m, .int .i64 k]] (.tuple #[.bool c, .int .i64 e2])) (q4 : Ca 21 #[.agg #[.int .i64 l, .int .i64 h], .agg #[.int .i64 m, .int .i64 k]] (.tuple #[.bool c, .int .i64 e2])) (q5 : Ca 22 #[.agg #[.int .i64 l, .int .i64 h]] (.tuple #[.agg #[.int .i64 x, .int .i64 y], .int .i64 e3])) (q6 : Ca 23 #[.agg #[.int .i64 l, .int .i64 h]] (.tuple #[.agg #[.int .i64 x, .int .i64 y], .int .i64 e3])) (qa : Ca 11 #[] (.bool true)) (w : World) : Calls Try.prog 4 #[.agg #[.int .i64 l, .int .i64 h], .agg #[.int .i64 m, .int .i64 k], .int .i64 v] w fun r W' => r = .returned (.bool true) ∧ Kb w W' := by
  have kx := Kb.refl w
  unfold Ca at *
  have b0 := Is.made w #[.int .i64 l, .int .i64 h] 23
  replace kx := kx.alloc (.cells #[.int .i64 l, .int .i64 h] 23 (0, 0))
  replace b0 := b0.alloc (.cells #[.int .i64 m, .int .i64 k] 23 (0, 0))
  have b1 := Is.made (w.alloc (.cells #[.int .i64 l, .int .i64 h] 23 (0, 0))) #[.int .i64 m, .int .i64 k] 23
  replace kx := kx.alloc (.cells #[.int .i64 m, .int .i64 k] 23 (0, 0))
  rw [World.size_alloc] at b1
  have b0_0 := b0.c (i := 0) rfl
  have b0_1 := b0.c (i := 1) rfl
  have b1_0 := b1.c (i := 0) rfl
  have b1_1 := b1.c (i := 1) rfl
  go_enter Try.func4, Try.ntmps4
  go_wp2_with fail
  (with_reducible refine (q1.out _).mono ?_)
  rintro r w1 ⟨rfl, k1⟩
  clear b0_0 b0_1 b1_0 b1_1
  replace b0 := b0.kb k1
  replace b1 := b1.kb k1
  replace kx := kx.trans k1
  clear k1
  have b0_0 := b0.c (i := 0) rfl
  have b0_1 := b0.c (i := 1) rfl
  have b1_0 := b1.c (i := 0) rfl
  have b1_1 := b1.c (i := 1) rfl
  go_wp2_with fail
  (with_reducible refine (q2.out _).mono ?_)
  rintro r w2 ⟨rfl, k2⟩
  clear b0_0 b0_1 b1_0 b1_1
  replace b0 := b0.kb k2
  replace b1 := b1.kb k2
  replace kx := kx.trans k2
  clear k2
  have b0_0 := b0.c (i := 0) rfl
  have b0_1 := b0.c (i := 1) rfl
  have b1_0 := b1.c (i := 0) rfl
  have b1_1 := b1.c (i := 1) rfl
  go_wp2_with fail
  (with_reducible refine (q3.out _).mono ?_)
  rintro r w3 ⟨rfl, k3⟩
  clear b0_0 b0_1 b1_0 b1_1
  replace b0 := b0.kb k3
  replace b1 := b1.kb k3
  replace kx := kx.trans k3
  clear k3
  have b0_0 := b0.c (i := 0) rfl
  have b0_1 := b0.c (i := 1) rfl
  have b1_0 := b1.c (i := 0) rfl
  have b1_1 := b1.c (i := 1) rfl
  go_wp2_with fail
  (with_reducible refine (q4.out _).mono ?_)
  rintro r w4 ⟨rfl, k4⟩
  clear b0_0 b0_1 b1_0 b1_1
  replace b0 := b0.kb k4
  replace b1 := b1.kb k4
  replace kx := kx.trans k4
  clear k4
  have b0_0 := b0.c (i := 0) rfl
  have b0_1 := b0.c (i := 1) rfl
  have b1_0 := b1.c (i := 0) rfl
  have b1_1 := b1.c (i := 1) rfl
  go_wp2_with fail
  (with_reducible refine (q5.out _).mono ?_)
  rintro r w5 ⟨rfl, k5⟩
  clear b0_0 b0_1 b1_0 b1_1
  replace b0 := b0.kb k5
  replace b1 := b1.kb k5
  replace kx := kx.trans k5
  clear k5
  replace b0 := b0.alloc (.cells #[.int .i64 x, .int .i64 y] 23 (0, 0))
  replace b1 := b1.alloc (.cells #[.int .i64 x, .int .i64 y] 23 (0, 0))
  have p15 := Is.made w5 #[.int .i64 x, .int .i64 y] 23
  replace kx := kx.alloc (.cells #[.int .i64 x, .int .i64 y] 23 (0, 0))
  have b0_0 := b0.c (i := 0) rfl
  have b0_1 := b0.c (i := 1) rfl
  have b1_0 := b1.c (i := 0) rfl
  have b1_1 := b1.c (i := 1) rfl
  have p15_0 := p15.c (i := 0) rfl
  have p15_1 := p15.c (i := 1) rfl
  go_wp2_with fail
  (with_reducible refine (q6.out _).mono ?_)
  rintro r w6 ⟨rfl, k6⟩
  clear b0_0 b0_1 b1_0 b1_1 p15_0 p15_1
  replace b0 := b0.kb k6
  replace b1 := b1.kb k6
  replace p15 := p15.kb k6
  replace kx := kx.trans k6
  clear k6
  replace b0 := b0.alloc (.cells #[.int .i64 x, .int .i64 y] 23 (0, 0))
  replace b1 := b1.alloc (.cells #[.int .i64 x, .int .i64 y] 23 (0, 0))
  replace p15 := p15.alloc (.cells #[.int .i64 x, .int .i64 y] 23 (0, 0))
  have p17 := Is.made w6 #[.int .i64 x, .int .i64 y] 23
  replace kx := kx.alloc (.cells #[.int .i64 x, .int .i64 y] 23 (0, 0))
  have b0_0 := b0.c (i := 0) rfl
  have b0_1 := b0.c (i := 1) rfl
  have b1_0 := b1.c (i := 0) rfl
  have b1_1 := b1.c (i := 1) rfl
  have p15_0 := p15.c (i := 0) rfl
  have p15_1 := p15.c (i := 1) rfl
  have p17_0 := p17.c (i := 0) rfl
  have p17_1 := p17.c (i := 1) rfl
  go_wp2_with fail
  (with_reducible refine (qa.out _).mono ?_)
  rintro r w7 ⟨rfl, k7⟩
  clear b0_0 b0_1 b1_0 b1_1 p15_0 p15_1 p17_0 p17_1
  replace b0 := b0.kb k7
  replace b1 := b1.kb k7
  replace p15 := p15.kb k7
  replace p17 := p17.kb k7
  replace kx := kx.trans k7
  clear k7
  have b0_0 := b0.c (i := 0) rfl
  have b0_1 := b0.c (i := 1) rfl
  have b1_0 := b1.c (i := 0) rfl
  have b1_1 := b1.c (i := 1) rfl
  have p15_0 := p15.c (i := 0) rfl
  have p15_1 := p15.c (i := 1) rfl
  have p17_0 := p17.c (i := 0) rfl
  have p17_1 := p17.c (i := 1) rfl
  go_wp2
  go_ret
  exact ⟨rfl, kx⟩
set_option maxRecDepth 100000 in
set_option maxHeartbeats 1000000 in
theorem sums_core (l h m k x y z t e1 e2 : Int) (q1 : Ca 24 #[.agg #[.int .i64 l, .int .i64 h], .agg #[.int .i64 m, .int .i64 k]] (.tuple #[.agg #[.int .i64 x, .int .i64 y], .int .i64 e1])) (q2 : Ca 25 #[.agg #[.int .i64 l, .int .i64 h], .agg #[.int .i64 m, .int .i64 k]] (.tuple #[.agg #[.int .i64 x, .int .i64 y], .int .i64 e1])) (q3 : Ca 26 #[.agg #[.int .i64 l, .int .i64 h], .agg #[.int .i64 m, .int .i64 k]] (.tuple #[.agg #[.int .i64 z, .int .i64 t], .int .i64 e2])) (q4 : Ca 27 #[.agg #[.int .i64 l, .int .i64 h], .agg #[.int .i64 m, .int .i64 k]] (.tuple #[.agg #[.int .i64 z, .int .i64 t], .int .i64 e2])) (qa : Ca 11 #[] (.bool true)) (w : World) : Calls Try.prog 5 #[.agg #[.int .i64 l, .int .i64 h], .agg #[.int .i64 m, .int .i64 k]] w fun r W' => r = .returned (.bool true) ∧ Kb w W' := by
  have kx := Kb.refl w
  unfold Ca at *
  have b0 := Is.made w #[.int .i64 l, .int .i64 h] 23
  replace kx := kx.alloc (.cells #[.int .i64 l, .int .i64 h] 23 (0, 0))
  replace b0 := b0.alloc (.cells #[.int .i64 m, .int .i64 k] 23 (0, 0))
  have b1 := Is.made (w.alloc (.cells #[.int .i64 l, .int .i64 h] 23 (0, 0))) #[.int .i64 m, .int .i64 k] 23
  replace kx := kx.alloc (.cells #[.int .i64 m, .int .i64 k] 23 (0, 0))
  rw [World.size_alloc] at b1
  have b0_0 := b0.c (i := 0) rfl
  have b0_1 := b0.c (i := 1) rfl
  have b1_0 := b1.c (i := 0) rfl
  have b1_1 := b1.c (i := 1) rfl
  go_enter Try.func5, Try.ntmps5
  go_wp2_with fail
  (with_reducible refine (q1.out _).mono ?_)
  rintro r w1 ⟨rfl, k1⟩
  clear b0_0 b0_1 b1_0 b1_1
  replace b0 := b0.kb k1
  replace b1 := b1.kb k1
  replace kx := kx.trans k1
  clear k1
  replace b0 := b0.alloc (.cells #[.int .i64 x, .int .i64 y] 23 (0, 0))
  replace b1 := b1.alloc (.cells #[.int .i64 x, .int .i64 y] 23 (0, 0))
  have p5 := Is.made w1 #[.int .i64 x, .int .i64 y] 23
  replace kx := kx.alloc (.cells #[.int .i64 x, .int .i64 y] 23 (0, 0))
  have b0_0 := b0.c (i := 0) rfl
  have b0_1 := b0.c (i := 1) rfl
  have b1_0 := b1.c (i := 0) rfl
  have b1_1 := b1.c (i := 1) rfl
  have p5_0 := p5.c (i := 0) rfl
  have p5_1 := p5.c (i := 1) rfl
  go_wp2_with fail
  (with_reducible refine (q2.out _).mono ?_)
  rintro r w2 ⟨rfl, k2⟩
  clear b0_0 b0_1 b1_0 b1_1 p5_0 p5_1
  replace b0 := b0.kb k2
  replace b1 := b1.kb k2
  replace p5 := p5.kb k2
  replace kx := kx.trans k2
  clear k2
  replace b0 := b0.alloc (.cells #[.int .i64 x, .int .i64 y] 23 (0, 0))
  replace b1 := b1.alloc (.cells #[.int .i64 x, .int .i64 y] 23 (0, 0))
  replace p5 := p5.alloc (.cells #[.int .i64 x, .int .i64 y] 23 (0, 0))
  have p7 := Is.made w2 #[.int .i64 x, .int .i64 y] 23
  replace kx := kx.alloc (.cells #[.int .i64 x, .int .i64 y] 23 (0, 0))
  have b0_0 := b0.c (i := 0) rfl
  have b0_1 := b0.c (i := 1) rfl
  have b1_0 := b1.c (i := 0) rfl
  have b1_1 := b1.c (i := 1) rfl
  have p5_0 := p5.c (i := 0) rfl
  have p5_1 := p5.c (i := 1) rfl
  have p7_0 := p7.c (i := 0) rfl
  have p7_1 := p7.c (i := 1) rfl
  go_wp2_with fail
  (with_reducible refine (q3.out _).mono ?_)
  rintro r w3 ⟨rfl, k3⟩
  clear b0_0 b0_1 b1_0 b1_1 p5_0 p5_1 p7_0 p7_1
  replace b0 := b0.kb k3
  replace b1 := b1.kb k3
  replace p5 := p5.kb k3
  replace p7 := p7.kb k3
  replace kx := kx.trans k3
  clear k3
  replace b0 := b0.alloc (.cells #[.int .i64 z, .int .i64 t] 23 (0, 0))
  replace b1 := b1.alloc (.cells #[.int .i64 z, .int .i64 t] 23 (0, 0))
  replace p5 := p5.alloc (.cells #[.int .i64 z, .int .i64 t] 23 (0, 0))
  replace p7 := p7.alloc (.cells #[.int .i64 z, .int .i64 t] 23 (0, 0))
  have p9 := Is.made w3 #[.int .i64 z, .int .i64 t] 23
  replace kx := kx.alloc (.cells #[.int .i64 z, .int .i64 t] 23 (0, 0))
  have b0_0 := b0.c (i := 0) rfl
  have b0_1 := b0.c (i := 1) rfl
  have b1_0 := b1.c (i := 0) rfl
  have b1_1 := b1.c (i := 1) rfl
  have p5_0 := p5.c (i := 0) rfl
  have p5_1 := p5.c (i := 1) rfl
  have p7_0 := p7.c (i := 0) rfl
  have p7_1 := p7.c (i := 1) rfl
  have p9_0 := p9.c (i := 0) rfl
  have p9_1 := p9.c (i := 1) rfl
  go_wp2_with fail
  (with_reducible refine (q4.out _).mono ?_)
  rintro r w4 ⟨rfl, k4⟩
  clear b0_0 b0_1 b1_0 b1_1 p5_0 p5_1 p7_0 p7_1 p9_0 p9_1
  replace b0 := b0.kb k4
  replace b1 := b1.kb k4
  replace p5 := p5.kb k4
  replace p7 := p7.kb k4
  replace p9 := p9.kb k4
  replace kx := kx.trans k4
  clear k4
  replace b0 := b0.alloc (.cells #[.int .i64 z, .int .i64 t] 23 (0, 0))
  replace b1 := b1.alloc (.cells #[.int .i64 z, .int .i64 t] 23 (0, 0))
  replace p5 := p5.alloc (.cells #[.int .i64 z, .int .i64 t] 23 (0, 0))
  replace p7 := p7.alloc (.cells #[.int .i64 z, .int .i64 t] 23 (0, 0))
  replace p9 := p9.alloc (.cells #[.int .i64 z, .int .i64 t] 23 (0, 0))
  have p11 := Is.made w4 #[.int .i64 z, .int .i64 t] 23
  replace kx := kx.alloc (.cells #[.int .i64 z, .int .i64 t] 23 (0, 0))
  have b0_0 := b0.c (i := 0) rfl
  have b0_1 := b0.c (i := 1) rfl
  have b1_0 := b1.c (i := 0) rfl
  have b1_1 := b1.c (i := 1) rfl
  have p5_0 := p5.c (i := 0) rfl
  have p5_1 := p5.c (i := 1) rfl
  have p7_0 := p7.c (i := 0) rfl
  have p7_1 := p7.c (i := 1) rfl
  have p9_0 := p9.c (i := 0) rfl
  have p9_1 := p9.c (i := 1) rfl
  have p11_0 := p11.c (i := 0) rfl
  have p11_1 := p11.c (i := 1) rfl
  go_wp2_with fail
  (with_reducible refine (qa.out _).mono ?_)
  rintro r w5 ⟨rfl, k5⟩
  clear b0_0 b0_1 b1_0 b1_1 p5_0 p5_1 p7_0 p7_1 p9_0 p9_1 p11_0 p11_1
  replace b0 := b0.kb k5
  replace b1 := b1.kb k5
  replace p5 := p5.kb k5
  replace p7 := p7.kb k5
  replace p9 := p9.kb k5
  replace p11 := p11.kb k5
  replace kx := kx.trans k5
  clear k5
  have b0_0 := b0.c (i := 0) rfl
  have b0_1 := b0.c (i := 1) rfl
  have b1_0 := b1.c (i := 0) rfl
  have b1_1 := b1.c (i := 1) rfl
  have p5_0 := p5.c (i := 0) rfl
  have p5_1 := p5.c (i := 1) rfl
  have p7_0 := p7.c (i := 0) rfl
  have p7_1 := p7.c (i := 1) rfl
  have p9_0 := p9.c (i := 0) rfl
  have p9_1 := p9.c (i := 1) rfl
  have p11_0 := p11.c (i := 0) rfl
  have p11_1 := p11.c (i := 1) rfl
  go_wp2
  go_ret
  exact ⟨rfl, kx⟩
set_option maxRecDepth 100000 in
set_option maxHeartbeats 1000000 in
theorem names_long (s : ByteArray) (l h n0 n1 n2 : Int) (hs : 100 < s.size) (qa : Ca 11 #[] (.bool true)) (w : World) : Calls Try.prog 3 #[.string s, .agg #[.int .i64 l, .int .i64 h], .agg #[.int .i64 n0, .int .i64 n1, .int .i64 n2]] w fun r W' => r = .returned (.bool true) ∧ Kb w W' := by
  have kx := Kb.refl w
  unfold Ca at *
  have b0 := Is.made w #[.int .i64 l, .int .i64 h] 23
  replace kx := kx.alloc (.cells #[.int .i64 l, .int .i64 h] 23 (0, 0))
  replace b0 := b0.alloc (.cells #[.int .i64 n0, .int .i64 n1, .int .i64 n2] 24 (0, 0))
  have b1 := Is.made (w.alloc (.cells #[.int .i64 l, .int .i64 h] 23 (0, 0))) #[.int .i64 n0, .int .i64 n1, .int .i64 n2] 24
  replace kx := kx.alloc (.cells #[.int .i64 n0, .int .i64 n1, .int .i64 n2] 24 (0, 0))
  rw [World.size_alloc] at b1
  have b0_0 := b0.c (i := 0) rfl
  have b0_1 := b0.c (i := 1) rfl
  have b1_0 := b1.c (i := 0) rfl
  have b1_1 := b1.c (i := 1) rfl
  have b1_2 := b1.c (i := 2) rfl
  go_enter Try.func3, Try.ntmps3
  go_wp2_with fail
  (with_reducible refine (qa.out _).mono ?_)
  rintro r w1 ⟨rfl, k1⟩
  clear b0_0 b0_1 b1_0 b1_1 b1_2
  replace b0 := b0.kb k1
  replace b1 := b1.kb k1
  replace kx := kx.trans k1
  clear k1
  have b0_0 := b0.c (i := 0) rfl
  have b0_1 := b0.c (i := 1) rfl
  have b1_0 := b1.c (i := 0) rfl
  have b1_1 := b1.c (i := 1) rfl
  have b1_2 := b1.c (i := 2) rfl
  go_wp2
  go_ret
  exact ⟨rfl, kx⟩
set_option maxRecDepth 100000 in
set_option maxHeartbeats 1000000 in
theorem names_core (s : ByteArray) (l h n0 n1 n2 x y e1 e2 e3 : Int) (hs : ¬ 100 < s.size) (q1 : Ca 12 #[.int .i64 n0, .int .i64 n1, .int .i64 n2] (.tuple #[.agg #[.int .i64 x, .int .i64 y], .int .i64 e1])) (q2 : Ca 13 #[.int .i64 n0, .int .i64 n1, .int .i64 n2] (.tuple #[.agg #[.int .i64 x, .int .i64 y], .int .i64 e1])) (q3 : Ca 14 #[.string s] (.int .i64 e2)) (q4 : Ca 15 #[.string s] (.int .i64 e2)) (q5 : Ca 16 #[.agg #[.int .i64 l, .int .i64 h]] (.int .i64 e3)) (q6 : Ca 17 #[.agg #[.int .i64 l, .int .i64 h]] (.int .i64 e3)) (qa : Ca 11 #[] (.bool true)) (w : World) : Calls Try.prog 3 #[.string s, .agg #[.int .i64 l, .int .i64 h], .agg #[.int .i64 n0, .int .i64 n1, .int .i64 n2]] w fun r W' => r = .returned (.bool true) ∧ Kb w W' := by
  have kx := Kb.refl w
  unfold Ca at *
  have b0 := Is.made w #[.int .i64 l, .int .i64 h] 23
  replace kx := kx.alloc (.cells #[.int .i64 l, .int .i64 h] 23 (0, 0))
  replace b0 := b0.alloc (.cells #[.int .i64 n0, .int .i64 n1, .int .i64 n2] 24 (0, 0))
  have b1 := Is.made (w.alloc (.cells #[.int .i64 l, .int .i64 h] 23 (0, 0))) #[.int .i64 n0, .int .i64 n1, .int .i64 n2] 24
  replace kx := kx.alloc (.cells #[.int .i64 n0, .int .i64 n1, .int .i64 n2] 24 (0, 0))
  rw [World.size_alloc] at b1
  have b0_0 := b0.c (i := 0) rfl
  have b0_1 := b0.c (i := 1) rfl
  have b1_0 := b1.c (i := 0) rfl
  have b1_1 := b1.c (i := 1) rfl
  have b1_2 := b1.c (i := 2) rfl
  go_enter Try.func3, Try.ntmps3
  go_wp2_with fail
  (with_reducible refine (q1.out _).mono ?_)
  rintro r w1 ⟨rfl, k1⟩
  clear b0_0 b0_1 b1_0 b1_1 b1_2
  replace b0 := b0.kb k1
  replace b1 := b1.kb k1
  replace kx := kx.trans k1
  clear k1
  replace b0 := b0.alloc (.cells #[.int .i64 x, .int .i64 y] 23 (0, 0))
  replace b1 := b1.alloc (.cells #[.int .i64 x, .int .i64 y] 23 (0, 0))
  have p7 := Is.made w1 #[.int .i64 x, .int .i64 y] 23
  replace kx := kx.alloc (.cells #[.int .i64 x, .int .i64 y] 23 (0, 0))
  have b0_0 := b0.c (i := 0) rfl
  have b0_1 := b0.c (i := 1) rfl
  have b1_0 := b1.c (i := 0) rfl
  have b1_1 := b1.c (i := 1) rfl
  have b1_2 := b1.c (i := 2) rfl
  have p7_0 := p7.c (i := 0) rfl
  have p7_1 := p7.c (i := 1) rfl
  go_wp2_with fail
  (with_reducible refine (q2.out _).mono ?_)
  rintro r w2 ⟨rfl, k2⟩
  clear b0_0 b0_1 b1_0 b1_1 b1_2 p7_0 p7_1
  replace b0 := b0.kb k2
  replace b1 := b1.kb k2
  replace p7 := p7.kb k2
  replace kx := kx.trans k2
  clear k2
  replace b0 := b0.alloc (.cells #[.int .i64 x, .int .i64 y] 23 (0, 0))
  replace b1 := b1.alloc (.cells #[.int .i64 x, .int .i64 y] 23 (0, 0))
  replace p7 := p7.alloc (.cells #[.int .i64 x, .int .i64 y] 23 (0, 0))
  have p9 := Is.made w2 #[.int .i64 x, .int .i64 y] 23
  replace kx := kx.alloc (.cells #[.int .i64 x, .int .i64 y] 23 (0, 0))
  have b0_0 := b0.c (i := 0) rfl
  have b0_1 := b0.c (i := 1) rfl
  have b1_0 := b1.c (i := 0) rfl
  have b1_1 := b1.c (i := 1) rfl
  have b1_2 := b1.c (i := 2) rfl
  have p7_0 := p7.c (i := 0) rfl
  have p7_1 := p7.c (i := 1) rfl
  have p9_0 := p9.c (i := 0) rfl
  have p9_1 := p9.c (i := 1) rfl
  go_wp2_with fail
  clear b0_0 b0_1 b1_0 b1_1 b1_2 p7_0 p7_1 p9_0 p9_1
  replace b0 := b0.drew
  replace b1 := b1.drew
  replace p7 := p7.drew
  replace p9 := p9.drew
  rw [oF_lit]
  refine o_law (⟨60, [some 35, some 36, some 37, some 38, some 39, some 40, some 41, some 42, some 43, some 44, some 45, some 46, some 47, some 48, some 49, some 50, some 51, some 52, some 53, some 54, some 55, some 56, some 57, some 58, some 59, some 6], [35, 36, 37, 38, 39, 40, 41, 42, 43, 44, 45, 46, 47, 48, 49, 50, 51, 52, 53, 54, 55, 56, 57, 58, 59, 6], [[], [0], [1], [2, 1], [1], [4, 1], [3, 5, 1], [1, 6], [7], [8], [9, 8], [8], [11, 8], [10, 12, 8], [8, 13], [14], [15], [15], [16, 17, 15], [15, 18], [19], [20], [20], [21, 22, 20], [20, 23], [24]], [[], [], [0], [], [0], [], [], [], [], [4], [], [4], [], [], [], [], [7], [9], [], [], [], [8], [10], [], [], []]⟩ : OT) (Kx []) (RL [fun vv _ => vv = .bool true, fun vv _ => vv = .bool true, fun vv _ => true = true → vv = .string s, fun vv _ => true = true → vv = .int .i64 e2, fun vv _ => true = true → vv = .string s, fun vv _ => true = true → vv = .int .i64 e2, fun vv _ => true = true → vv = .bool true, fun vv _ => vv = .bool true, fun vv _ => vv = .bool true, fun vv _ => true = true → vv = .agg #[.int .i64 l, .int .i64 h], fun vv _ => true = true → vv = .int .i64 e3, fun vv _ => true = true → vv = .agg #[.int .i64 l, .int .i64 h], fun vv _ => true = true → vv = .int .i64 e3, fun vv _ => true = true → vv = .bool true, fun vv _ => vv = .bool true, fun vv _ => vv = .bool true, fun vv _ => true = true → vv = .agg #[.int .i64 x, .int .i64 y], fun vv _ => true = true → vv = .agg #[.int .i64 x, .int .i64 y], fun vv _ => true = true → vv = .bool true, fun vv _ => vv = .bool true, fun vv _ => vv = .bool true, fun vv _ => true = true → vv = .int .i64 e1, fun vv _ => true = true → vv = .int .i64 e1, fun vv _ => true = true → vv = .bool true, fun vv _ => vv = .bool true, fun vv _ => vv = .bool true]) (by kernel_rfl) ?hk ?hR ?fin
  case hk => kernel_rfl
  case hR =>
    refine ⟨fun _ => (Kx.refl _ _), fun _ _ _ => Kx.trans, rl_stab ⟨fun _ _ _ _ h => h, fun _ _ _ _ h => h, fun _ _ _ _ h => h, fun _ _ _ _ h => h, fun _ _ _ _ h => h, fun _ _ _ _ h => h, fun _ _ _ _ h => h, fun _ _ _ _ h => h, fun _ _ _ _ h => h, fun _ _ _ _ h => h, fun _ _ _ _ h => h, fun _ _ _ _ h => h, fun _ _ _ _ h => h, fun _ _ _ _ h => h, fun _ _ _ _ h => h, fun _ _ _ _ h => h, fun _ _ _ _ h => h, fun _ _ _ _ h => h, fun _ _ _ _ h => h, fun _ _ _ _ h => h, fun _ _ _ _ h => h, fun _ _ _ _ h => h, fun _ _ _ _ h => h, fun _ _ _ _ h => h, fun _ _ _ _ h => h, fun _ _ _ _ h => h, trivial⟩, ?_⟩
    refine allO_cons ?_ (allO_cons ?_ (allO_cons ?_ (allO_cons ?_ (allO_cons ?_ (allO_cons ?_ (allO_cons ?_ (allO_cons ?_ (allO_cons ?_ (allO_cons ?_ (allO_cons ?_ (allO_cons ?_ (allO_cons ?_ (allO_cons ?_ (allO_cons ?_ (allO_cons ?_ (allO_cons ?_ (allO_cons ?_ (allO_cons ?_ (allO_cons ?_ (allO_cons ?_ (allO_cons ?_ (allO_cons ?_ (allO_cons ?_ (allO_cons ?_ (allO_cons ?_ (allO_nil))))))))))))))))))))))))))
    · intro T w9 hG hD hO Q
      have e0 : (oF 60 T).eval (.func 11) = .func (.func 11) #[] #[] := rfl
      refine og_none rfl ?_
      refine o_call (oc0 (enters_of Try.func11 (by kernel_rfl) rfl) rfl rfl ) rfl ?_
      exact (qa.out w9).mono fun r W' h => ⟨_, h.1, rfl, h.2.kx⟩
    · intro T w9 hG hD hO Q
      have d0 := hD.1
      have e0 : (oF 60 T).eval (.tmp 35) = .bool true := (oF_eval (by decide)).trans (show T 35 = _ from d0)
      refine og_none rfl ?_
      exact o_val (v := .bool true) (w' := w9) (by generalize (oF 60 T).eval = rr at *; simp [execOp, go_sem, e0]) rfl rfl (Kx.refl _ _)
    · intro T w9 hG hD hO Q
      have d0 := hD.1
      have q0 := hO.1
      have e0 : (oF 60 T).eval (.tmp 0) = .string s := (oF_eval (by decide)).trans (show T 0 = _ from q0)
      refine og_some (b := true) (c := true) rfl (show T 36 = _ from d0) (fun hc => ?_) (fun hc h => absurd h hc)
      exact o_val (v := .string s) (w' := w9) (by generalize (oF 60 T).eval = rr at *; simp [execOp, go_sem, e0]) rfl (fun _ => rfl) (Kx.refl _ _)
    · intro T w9 hG hD hO Q
      have d0 := hD.1
      have d1 := hD.2.1
      have e0 : (oF 60 T).eval (.func 14) = .func (.func 14) #[] #[] := rfl
      have G1 : true = true → T 37 = .string s := d0
      refine og_some (b := true) (c := true) rfl (show T 36 = _ from d1) (fun hc => ?_) (fun hc h => absurd h hc)
      have e1 : (oF 60 T).eval (.tmp 37) = .string s := (oF_eval (by decide)).trans (G1 hc)
      refine o_call (oc1 (enters_of Try.func14 (by kernel_rfl) rfl) rfl rfl e1) rfl ?_
      exact (q3.out w9).mono fun r W' h => ⟨_, h.1, (fun _ => rfl), h.2.kx⟩
    · intro T w9 hG hD hO Q
      have d0 := hD.1
      have q0 := hO.1
      have e0 : (oF 60 T).eval (.tmp 0) = .string s := (oF_eval (by decide)).trans (show T 0 = _ from q0)
      refine og_some (b := true) (c := true) rfl (show T 36 = _ from d0) (fun hc => ?_) (fun hc h => absurd h hc)
      exact o_val (v := .string s) (w' := w9) (by generalize (oF 60 T).eval = rr at *; simp [execOp, go_sem, e0]) rfl (fun _ => rfl) (Kx.refl _ _)
    · intro T w9 hG hD hO Q
      have d0 := hD.1
      have d1 := hD.2.1
      have e0 : (oF 60 T).eval (.func 15) = .func (.func 15) #[] #[] := rfl
      have G1 : true = true → T 39 = .string s := d0
      refine og_some (b := true) (c := true) rfl (show T 36 = _ from d1) (fun hc => ?_) (fun hc h => absurd h hc)
      have e1 : (oF 60 T).eval (.tmp 39) = .string s := (oF_eval (by decide)).trans (G1 hc)
      refine o_call (oc1 (enters_of Try.func15 (by kernel_rfl) rfl) rfl rfl e1) rfl ?_
      exact (q4.out w9).mono fun r W' h => ⟨_, h.1, (fun _ => rfl), h.2.kx⟩
    · intro T w9 hG hD hO Q
      have d0 := hD.1
      have d1 := hD.2.1
      have d2 := hD.2.2.1
      have G0 : true = true → T 38 = .int .i64 e2 := d0
      have G1 : true = true → T 40 = .int .i64 e2 := d1
      refine og_some (b := true) (c := true) rfl (show T 36 = _ from d2) (fun hc => ?_) (fun hc h => absurd h hc)
      have e0 : (oF 60 T).eval (.tmp 38) = .int .i64 e2 := (oF_eval (by decide)).trans (G0 hc)
      have e1 : (oF 60 T).eval (.tmp 40) = .int .i64 e2 := (oF_eval (by decide)).trans (G1 hc)
      exact o_val (v := .bool true) (w' := w9) (by generalize (oF 60 T).eval = rr at *; simp [execOp, go_sem, e0, e1]) rfl (fun _ => rfl) (Kx.refl _ _)
    · intro T w9 hG hD hO Q
      have d0 := hD.1
      have d1 := hD.2.1
      have e0 : (oF 60 T).eval (.tmp 36) = .bool true := (oF_eval (by decide)).trans (show T 36 = _ from d0)
      have G1 : true = true → T 41 = .bool true := d1
      have e1 : (oF 60 T).eval (.tmp 41) = T 41 := oF_eval (by decide)
      have e2 : (oF 60 T).eval (.const (.bool false)) = .bool false := rfl
      refine og_none rfl ?_
      rw [G1 rfl] at e1
      exact o_val (v := .bool true) (w' := w9) (by generalize (oF 60 T).eval = rr at *; simp [execOp, go_sem, e0, e1, e2]) rfl rfl (Kx.refl _ _)
    · intro T w9 hG hD hO Q
      have d0 := hD.1
      have e0 : (oF 60 T).eval (.tmp 42) = .bool true := (oF_eval (by decide)).trans (show T 42 = _ from d0)
      refine og_none rfl ?_
      exact o_val (v := .bool true) (w' := w9) (by generalize (oF 60 T).eval = rr at *; simp [execOp, go_sem, e0]) rfl rfl (Kx.refl _ _)
    · intro T w9 hG hD hO Q
      have d0 := hD.1
      have q0 := hO.1
      have e0 : (oF 60 T).eval (.tmp 4) = .pointer (some ⟨w.heap.size, 0, none⟩) := (oF_eval (by decide)).trans (show T 4 = _ from q0)
      refine og_some (b := true) (c := true) rfl (show T 43 = _ from d0) (fun hc => ?_) (fun hc h => absurd h hc)
      have im := b0.kx hG (by simp)
      have m0 := im.c (i := 0) rfl
      have m1 := im.c (i := 1) rfl
      clear im
      exact o_val (v := .agg #[.int .i64 l, .int .i64 h]) (w' := w9) (by generalize (oF 60 T).eval = rr at *; simp [execOp, go_sem, e0, m0, m1]) rfl (fun _ => rfl) (Kx.refl _ _)
    · intro T w9 hG hD hO Q
      have d0 := hD.1
      have d1 := hD.2.1
      have e0 : (oF 60 T).eval (.func 16) = .func (.func 16) #[] #[] := rfl
      have G1 : true = true → T 44 = .agg #[.int .i64 l, .int .i64 h] := d0
      refine og_some (b := true) (c := true) rfl (show T 43 = _ from d1) (fun hc => ?_) (fun hc h => absurd h hc)
      have e1 : (oF 60 T).eval (.tmp 44) = .agg #[.int .i64 l, .int .i64 h] := (oF_eval (by decide)).trans (G1 hc)
      refine o_call (oc1 (enters_of Try.func16 (by kernel_rfl) rfl) rfl rfl e1) rfl ?_
      exact (q5.out w9).mono fun r W' h => ⟨_, h.1, (fun _ => rfl), h.2.kx⟩
    · intro T w9 hG hD hO Q
      have d0 := hD.1
      have q0 := hO.1
      have e0 : (oF 60 T).eval (.tmp 4) = .pointer (some ⟨w.heap.size, 0, none⟩) := (oF_eval (by decide)).trans (show T 4 = _ from q0)
      refine og_some (b := true) (c := true) rfl (show T 43 = _ from d0) (fun hc => ?_) (fun hc h => absurd h hc)
      have im := b0.kx hG (by simp)
      have m0 := im.c (i := 0) rfl
      have m1 := im.c (i := 1) rfl
      clear im
      exact o_val (v := .agg #[.int .i64 l, .int .i64 h]) (w' := w9) (by generalize (oF 60 T).eval = rr at *; simp [execOp, go_sem, e0, m0, m1]) rfl (fun _ => rfl) (Kx.refl _ _)
    · intro T w9 hG hD hO Q
      have d0 := hD.1
      have d1 := hD.2.1
      have e0 : (oF 60 T).eval (.func 17) = .func (.func 17) #[] #[] := rfl
      have G1 : true = true → T 46 = .agg #[.int .i64 l, .int .i64 h] := d0
      refine og_some (b := true) (c := true) rfl (show T 43 = _ from d1) (fun hc => ?_) (fun hc h => absurd h hc)
      have e1 : (oF 60 T).eval (.tmp 46) = .agg #[.int .i64 l, .int .i64 h] := (oF_eval (by decide)).trans (G1 hc)
      refine o_call (oc1 (enters_of Try.func17 (by kernel_rfl) rfl) rfl rfl e1) rfl ?_
      exact (q6.out w9).mono fun r W' h => ⟨_, h.1, (fun _ => rfl), h.2.kx⟩
    · intro T w9 hG hD hO Q
      have d0 := hD.1
      have d1 := hD.2.1
      have d2 := hD.2.2.1
      have G0 : true = true → T 45 = .int .i64 e3 := d0
      have G1 : true = true → T 47 = .int .i64 e3 := d1
      refine og_some (b := true) (c := true) rfl (show T 43 = _ from d2) (fun hc => ?_) (fun hc h => absurd h hc)
      have e0 : (oF 60 T).eval (.tmp 45) = .int .i64 e3 := (oF_eval (by decide)).trans (G0 hc)
      have e1 : (oF 60 T).eval (.tmp 47) = .int .i64 e3 := (oF_eval (by decide)).trans (G1 hc)
      exact o_val (v := .bool true) (w' := w9) (by generalize (oF 60 T).eval = rr at *; simp [execOp, go_sem, e0, e1]) rfl (fun _ => rfl) (Kx.refl _ _)
    · intro T w9 hG hD hO Q
      have d0 := hD.1
      have d1 := hD.2.1
      have e0 : (oF 60 T).eval (.tmp 43) = .bool true := (oF_eval (by decide)).trans (show T 43 = _ from d0)
      have G1 : true = true → T 48 = .bool true := d1
      have e1 : (oF 60 T).eval (.tmp 48) = T 48 := oF_eval (by decide)
      have e2 : (oF 60 T).eval (.const (.bool false)) = .bool false := rfl
      refine og_none rfl ?_
      rw [G1 rfl] at e1
      exact o_val (v := .bool true) (w' := w9) (by generalize (oF 60 T).eval = rr at *; simp [execOp, go_sem, e0, e1, e2]) rfl rfl (Kx.refl _ _)
    · intro T w9 hG hD hO Q
      have d0 := hD.1
      have e0 : (oF 60 T).eval (.tmp 49) = .bool true := (oF_eval (by decide)).trans (show T 49 = _ from d0)
      refine og_none rfl ?_
      exact o_val (v := .bool true) (w' := w9) (by generalize (oF 60 T).eval = rr at *; simp [execOp, go_sem, e0]) rfl rfl (Kx.refl _ _)
    · intro T w9 hG hD hO Q
      have d0 := hD.1
      have q0 := hO.1
      have e0 : (oF 60 T).eval (.tmp 7) = .pointer (some ⟨w1.heap.size, 0, none⟩) := (oF_eval (by decide)).trans (show T 7 = _ from q0)
      refine og_some (b := true) (c := true) rfl (show T 50 = _ from d0) (fun hc => ?_) (fun hc h => absurd h hc)
      have im := p7.kx hG (by simp)
      have m0 := im.c (i := 0) rfl
      have m1 := im.c (i := 1) rfl
      clear im
      exact o_val (v := .agg #[.int .i64 x, .int .i64 y]) (w' := w9) (by generalize (oF 60 T).eval = rr at *; simp [execOp, go_sem, e0, m0, m1]) rfl (fun _ => rfl) (Kx.refl _ _)
    · intro T w9 hG hD hO Q
      have d0 := hD.1
      have q0 := hO.1
      have e0 : (oF 60 T).eval (.tmp 9) = .pointer (some ⟨w2.heap.size, 0, none⟩) := (oF_eval (by decide)).trans (show T 9 = _ from q0)
      refine og_some (b := true) (c := true) rfl (show T 50 = _ from d0) (fun hc => ?_) (fun hc h => absurd h hc)
      have im := p9.kx hG (by simp)
      have m0 := im.c (i := 0) rfl
      have m1 := im.c (i := 1) rfl
      clear im
      exact o_val (v := .agg #[.int .i64 x, .int .i64 y]) (w' := w9) (by generalize (oF 60 T).eval = rr at *; simp [execOp, go_sem, e0, m0, m1]) rfl (fun _ => rfl) (Kx.refl _ _)
    · intro T w9 hG hD hO Q
      have d0 := hD.1
      have d1 := hD.2.1
      have d2 := hD.2.2.1
      have G0 : true = true → T 51 = .agg #[.int .i64 x, .int .i64 y] := d0
      have G1 : true = true → T 52 = .agg #[.int .i64 x, .int .i64 y] := d1
      refine og_some (b := true) (c := true) rfl (show T 50 = _ from d2) (fun hc => ?_) (fun hc h => absurd h hc)
      have e0 : (oF 60 T).eval (.tmp 51) = .agg #[.int .i64 x, .int .i64 y] := (oF_eval (by decide)).trans (G0 hc)
      have e1 : (oF 60 T).eval (.tmp 52) = .agg #[.int .i64 x, .int .i64 y] := (oF_eval (by decide)).trans (G1 hc)
      exact o_val (v := .bool true) (w' := w9) (by generalize (oF 60 T).eval = rr at *; simp [execOp, go_sem, e0, e1]) rfl (fun _ => rfl) (Kx.refl _ _)
    · intro T w9 hG hD hO Q
      have d0 := hD.1
      have d1 := hD.2.1
      have e0 : (oF 60 T).eval (.tmp 50) = .bool true := (oF_eval (by decide)).trans (show T 50 = _ from d0)
      have G1 : true = true → T 53 = .bool true := d1
      have e1 : (oF 60 T).eval (.tmp 53) = T 53 := oF_eval (by decide)
      have e2 : (oF 60 T).eval (.const (.bool false)) = .bool false := rfl
      refine og_none rfl ?_
      rw [G1 rfl] at e1
      exact o_val (v := .bool true) (w' := w9) (by generalize (oF 60 T).eval = rr at *; simp [execOp, go_sem, e0, e1, e2]) rfl rfl (Kx.refl _ _)
    · intro T w9 hG hD hO Q
      have d0 := hD.1
      have e0 : (oF 60 T).eval (.tmp 54) = .bool true := (oF_eval (by decide)).trans (show T 54 = _ from d0)
      refine og_none rfl ?_
      exact o_val (v := .bool true) (w' := w9) (by generalize (oF 60 T).eval = rr at *; simp [execOp, go_sem, e0]) rfl rfl (Kx.refl _ _)
    · intro T w9 hG hD hO Q
      have d0 := hD.1
      have q0 := hO.1
      have e0 : (oF 60 T).eval (.tmp 8) = .int .i64 e1 := (oF_eval (by decide)).trans (show T 8 = _ from q0)
      refine og_some (b := true) (c := true) rfl (show T 55 = _ from d0) (fun hc => ?_) (fun hc h => absurd h hc)
      exact o_val (v := .int .i64 e1) (w' := w9) (by generalize (oF 60 T).eval = rr at *; simp [execOp, go_sem, e0]) rfl (fun _ => rfl) (Kx.refl _ _)
    · intro T w9 hG hD hO Q
      have d0 := hD.1
      have q0 := hO.1
      have e0 : (oF 60 T).eval (.tmp 10) = .int .i64 e1 := (oF_eval (by decide)).trans (show T 10 = _ from q0)
      refine og_some (b := true) (c := true) rfl (show T 55 = _ from d0) (fun hc => ?_) (fun hc h => absurd h hc)
      exact o_val (v := .int .i64 e1) (w' := w9) (by generalize (oF 60 T).eval = rr at *; simp [execOp, go_sem, e0]) rfl (fun _ => rfl) (Kx.refl _ _)
    · intro T w9 hG hD hO Q
      have d0 := hD.1
      have d1 := hD.2.1
      have d2 := hD.2.2.1
      have G0 : true = true → T 56 = .int .i64 e1 := d0
      have G1 : true = true → T 57 = .int .i64 e1 := d1
      refine og_some (b := true) (c := true) rfl (show T 55 = _ from d2) (fun hc => ?_) (fun hc h => absurd h hc)
      have e0 : (oF 60 T).eval (.tmp 56) = .int .i64 e1 := (oF_eval (by decide)).trans (G0 hc)
      have e1 : (oF 60 T).eval (.tmp 57) = .int .i64 e1 := (oF_eval (by decide)).trans (G1 hc)
      exact o_val (v := .bool true) (w' := w9) (by generalize (oF 60 T).eval = rr at *; simp [execOp, go_sem, e0, e1]) rfl (fun _ => rfl) (Kx.refl _ _)
    · intro T w9 hG hD hO Q
      have d0 := hD.1
      have d1 := hD.2.1
      have e0 : (oF 60 T).eval (.tmp 55) = .bool true := (oF_eval (by decide)).trans (show T 55 = _ from d0)
      have G1 : true = true → T 58 = .bool true := d1
      have e1 : (oF 60 T).eval (.tmp 58) = T 58 := oF_eval (by decide)
      have e2 : (oF 60 T).eval (.const (.bool false)) = .bool false := rfl
      refine og_none rfl ?_
      rw [G1 rfl] at e1
      exact o_val (v := .bool true) (w' := w9) (by generalize (oF 60 T).eval = rr at *; simp [execOp, go_sem, e0, e1, e2]) rfl rfl (Kx.refl _ _)
    · intro T w9 hG hD hO Q
      have d0 := hD.1
      have e0 : (oF 60 T).eval (.tmp 59) = .bool true := (oF_eval (by decide)).trans (show T 59 = _ from d0)
      refine og_none rfl ?_
      exact o_val (v := .bool true) (w' := w9) (by generalize (oF 60 T).eval = rr at *; simp [execOp, go_sem, e0]) rfl rfl (Kx.refl _ _)
  case fin =>
    intro T w3 hout hval hG
    rw [show oF 60 T = (⟨#[T 0, T 1, T 2, T 3, T 4, T 5, T 6, T 7, T 8, T 9, T 10, T 11, T 12, T 13, T 14, T 15, T 16, T 17, T 18, T 19, T 20, T 21, T 22, T 23, T 24, T 25, T 26, T 27, T 28, T 29, T 30, T 31, T 32, T 33, T 34, T 35, T 36, T 37, T 38, T 39, T 40, T 41, T 42, T 43, T 44, T 45, T 46, T 47, T 48, T 49, T 50, T 51, T 52, T 53, T 54, T 55, T 56, T 57, T 58, T 59], []⟩ : Act) from oF_list 60 T]
    rw [show T 6 = .bool true from hval 25 (by decide : 25 < 26)]
    replace b0 := b0.kx hG (by simp)
    replace b1 := b1.kx hG (by simp)
    replace p7 := p7.kx hG (by simp)
    replace p9 := p9.kx hG (by simp)
    replace kx := (show Kb _ _ from kx.drew).trans hG.nil
    clear hout hval hG
    have b0_0 := b0.c (i := 0) rfl
    have b0_1 := b0.c (i := 1) rfl
    have b1_0 := b1.c (i := 0) rfl
    have b1_1 := b1.c (i := 1) rfl
    have b1_2 := b1.c (i := 2) rfl
    have p7_0 := p7.c (i := 0) rfl
    have p7_1 := p7.c (i := 1) rfl
    have p9_0 := p9.c (i := 0) rfl
    have p9_1 := p9.c (i := 1) rfl
    go_wp2
    go_ret
    exact ⟨rfl, kx⟩
set_option maxRecDepth 100000 in
set_option maxHeartbeats 1000000 in
theorem meets_o1 (l h m k v e : Int) (he : (e != 0) = true) (q1 : Ca 17 #[.agg #[.int .i64 l, .int .i64 h]] (.int .i64 e)) (qa : Ca 11 #[] (.bool true)) (w : World) : Calls Try.prog 8 #[.agg #[.int .i64 l, .int .i64 h], .agg #[.int .i64 m, .int .i64 k], .int .i64 v] w fun r W' => r = .returned (.bool true) ∧ Kb w W' := by
  have kx := Kb.refl w
  unfold Ca at *
  have b0 := Is.made w #[.int .i64 l, .int .i64 h] 23
  replace kx := kx.alloc (.cells #[.int .i64 l, .int .i64 h] 23 (0, 0))
  replace b0 := b0.alloc (.cells #[.int .i64 m, .int .i64 k] 23 (0, 0))
  have b1 := Is.made (w.alloc (.cells #[.int .i64 l, .int .i64 h] 23 (0, 0))) #[.int .i64 m, .int .i64 k] 23
  replace kx := kx.alloc (.cells #[.int .i64 m, .int .i64 k] 23 (0, 0))
  rw [World.size_alloc] at b1
  have b0_0 := b0.c (i := 0) rfl
  have b0_1 := b0.c (i := 1) rfl
  have b1_0 := b1.c (i := 0) rfl
  have b1_1 := b1.c (i := 1) rfl
  go_enter Try.func8, Try.ntmps8
  go_wp2_with fail
  (with_reducible refine (q1.out _).mono ?_)
  rintro r w1 ⟨rfl, k1⟩
  clear b0_0 b0_1 b1_0 b1_1
  replace b0 := b0.kb k1
  replace b1 := b1.kb k1
  replace kx := kx.trans k1
  clear k1
  have b0_0 := b0.c (i := 0) rfl
  have b0_1 := b0.c (i := 1) rfl
  have b1_0 := b1.c (i := 0) rfl
  have b1_1 := b1.c (i := 1) rfl
  go_wp2_with fail
  (with_reducible refine (qa.out _).mono ?_)
  rintro r w2 ⟨rfl, k2⟩
  clear b0_0 b0_1 b1_0 b1_1
  replace b0 := b0.kb k2
  replace b1 := b1.kb k2
  replace kx := kx.trans k2
  clear k2
  have b0_0 := b0.c (i := 0) rfl
  have b0_1 := b0.c (i := 1) rfl
  have b1_0 := b1.c (i := 0) rfl
  have b1_1 := b1.c (i := 1) rfl
  go_wp2
  go_ret
  exact ⟨rfl, kx⟩
set_option maxRecDepth 100000 in
set_option maxHeartbeats 1000000 in
theorem meets_o2 (l h m k v e : Int) (he : (e != 0) = true) (q1 : Ca 17 #[.agg #[.int .i64 l, .int .i64 h]] (.int .i64 0)) (q2 : Ca 17 #[.agg #[.int .i64 m, .int .i64 k]] (.int .i64 e)) (qa : Ca 11 #[] (.bool true)) (w : World) : Calls Try.prog 8 #[.agg #[.int .i64 l, .int .i64 h], .agg #[.int .i64 m, .int .i64 k], .int .i64 v] w fun r W' => r = .returned (.bool true) ∧ Kb w W' := by
  have kx := Kb.refl w
  unfold Ca at *
  have b0 := Is.made w #[.int .i64 l, .int .i64 h] 23
  replace kx := kx.alloc (.cells #[.int .i64 l, .int .i64 h] 23 (0, 0))
  replace b0 := b0.alloc (.cells #[.int .i64 m, .int .i64 k] 23 (0, 0))
  have b1 := Is.made (w.alloc (.cells #[.int .i64 l, .int .i64 h] 23 (0, 0))) #[.int .i64 m, .int .i64 k] 23
  replace kx := kx.alloc (.cells #[.int .i64 m, .int .i64 k] 23 (0, 0))
  rw [World.size_alloc] at b1
  have b0_0 := b0.c (i := 0) rfl
  have b0_1 := b0.c (i := 1) rfl
  have b1_0 := b1.c (i := 0) rfl
  have b1_1 := b1.c (i := 1) rfl
  go_enter Try.func8, Try.ntmps8
  go_wp2_with fail
  (with_reducible refine (q1.out _).mono ?_)
  rintro r w1 ⟨rfl, k1⟩
  clear b0_0 b0_1 b1_0 b1_1
  replace b0 := b0.kb k1
  replace b1 := b1.kb k1
  replace kx := kx.trans k1
  clear k1
  have b0_0 := b0.c (i := 0) rfl
  have b0_1 := b0.c (i := 1) rfl
  have b1_0 := b1.c (i := 0) rfl
  have b1_1 := b1.c (i := 1) rfl
  go_wp2_with fail
  (with_reducible refine (q2.out _).mono ?_)
  rintro r w2 ⟨rfl, k2⟩
  clear b0_0 b0_1 b1_0 b1_1
  replace b0 := b0.kb k2
  replace b1 := b1.kb k2
  replace kx := kx.trans k2
  clear k2
  have b0_0 := b0.c (i := 0) rfl
  have b0_1 := b0.c (i := 1) rfl
  have b1_0 := b1.c (i := 0) rfl
  have b1_1 := b1.c (i := 1) rfl
  go_wp2_with fail
  (with_reducible refine (qa.out _).mono ?_)
  rintro r w3 ⟨rfl, k3⟩
  clear b0_0 b0_1 b1_0 b1_1
  replace b0 := b0.kb k3
  replace b1 := b1.kb k3
  replace kx := kx.trans k3
  clear k3
  have b0_0 := b0.c (i := 0) rfl
  have b0_1 := b0.c (i := 1) rfl
  have b1_0 := b1.c (i := 0) rfl
  have b1_1 := b1.c (i := 1) rfl
  go_wp2
  go_ret
  exact ⟨rfl, kx⟩
set_option maxRecDepth 100000 in
set_option maxHeartbeats 1000000 in
theorem meets_c1 (l h m k v : Int) (q : Bool) (q1 : Ca 17 #[.agg #[.int .i64 l, .int .i64 h]] (.int .i64 0)) (q2 : Ca 17 #[.agg #[.int .i64 m, .int .i64 k]] (.int .i64 0)) (q3 : Ca 18 #[.agg #[.int .i64 l, .int .i64 h], .int .i64 v] (.tuple #[.bool false, .int .i64 0])) (q4 : Ca 18 #[.agg #[.int .i64 m, .int .i64 k], .int .i64 v] (.tuple #[.bool q, .int .i64 0])) (q5 : Ca 20 #[.agg #[.int .i64 l, .int .i64 h], .agg #[.int .i64 m, .int .i64 k]] (.tuple #[.bool false, .int .i64 0])) (q6 : Ca 24 #[.agg #[.int .i64 l, .int .i64 h], .agg #[.int .i64 m, .int .i64 k]] (.tuple #[.agg #[.int .i64 0, .int .i64 0], .int .i64 16])) (qa : Ca 11 #[] (.bool true)) (w : World) : Calls Try.prog 8 #[.agg #[.int .i64 l, .int .i64 h], .agg #[.int .i64 m, .int .i64 k], .int .i64 v] w fun r W' => r = .returned (.bool true) ∧ Kb w W' := by
  have kx := Kb.refl w
  unfold Ca at *
  have b0 := Is.made w #[.int .i64 l, .int .i64 h] 23
  replace kx := kx.alloc (.cells #[.int .i64 l, .int .i64 h] 23 (0, 0))
  replace b0 := b0.alloc (.cells #[.int .i64 m, .int .i64 k] 23 (0, 0))
  have b1 := Is.made (w.alloc (.cells #[.int .i64 l, .int .i64 h] 23 (0, 0))) #[.int .i64 m, .int .i64 k] 23
  replace kx := kx.alloc (.cells #[.int .i64 m, .int .i64 k] 23 (0, 0))
  rw [World.size_alloc] at b1
  have b0_0 := b0.c (i := 0) rfl
  have b0_1 := b0.c (i := 1) rfl
  have b1_0 := b1.c (i := 0) rfl
  have b1_1 := b1.c (i := 1) rfl
  go_enter Try.func8, Try.ntmps8
  go_wp2_with fail
  (with_reducible refine (q1.out _).mono ?_)
  rintro r w1 ⟨rfl, k1⟩
  clear b0_0 b0_1 b1_0 b1_1
  replace b0 := b0.kb k1
  replace b1 := b1.kb k1
  replace kx := kx.trans k1
  clear k1
  have b0_0 := b0.c (i := 0) rfl
  have b0_1 := b0.c (i := 1) rfl
  have b1_0 := b1.c (i := 0) rfl
  have b1_1 := b1.c (i := 1) rfl
  go_wp2_with fail
  (with_reducible refine (q2.out _).mono ?_)
  rintro r w2 ⟨rfl, k2⟩
  clear b0_0 b0_1 b1_0 b1_1
  replace b0 := b0.kb k2
  replace b1 := b1.kb k2
  replace kx := kx.trans k2
  clear k2
  have b0_0 := b0.c (i := 0) rfl
  have b0_1 := b0.c (i := 1) rfl
  have b1_0 := b1.c (i := 0) rfl
  have b1_1 := b1.c (i := 1) rfl
  go_wp2_with fail
  (with_reducible refine (q3.out _).mono ?_)
  rintro r w3 ⟨rfl, k3⟩
  clear b0_0 b0_1 b1_0 b1_1
  replace b0 := b0.kb k3
  replace b1 := b1.kb k3
  replace kx := kx.trans k3
  clear k3
  have b0_0 := b0.c (i := 0) rfl
  have b0_1 := b0.c (i := 1) rfl
  have b1_0 := b1.c (i := 0) rfl
  have b1_1 := b1.c (i := 1) rfl
  go_wp2_with fail
  (with_reducible refine (q4.out _).mono ?_)
  rintro r w4 ⟨rfl, k4⟩
  clear b0_0 b0_1 b1_0 b1_1
  replace b0 := b0.kb k4
  replace b1 := b1.kb k4
  replace kx := kx.trans k4
  clear k4
  have b0_0 := b0.c (i := 0) rfl
  have b0_1 := b0.c (i := 1) rfl
  have b1_0 := b1.c (i := 0) rfl
  have b1_1 := b1.c (i := 1) rfl
  go_wp2_with fail
  (with_reducible refine (q5.out _).mono ?_)
  rintro r w5 ⟨rfl, k5⟩
  clear b0_0 b0_1 b1_0 b1_1
  replace b0 := b0.kb k5
  replace b1 := b1.kb k5
  replace kx := kx.trans k5
  clear k5
  have b0_0 := b0.c (i := 0) rfl
  have b0_1 := b0.c (i := 1) rfl
  have b1_0 := b1.c (i := 0) rfl
  have b1_1 := b1.c (i := 1) rfl
  go_wp2_with fail
  (with_reducible refine (q6.out _).mono ?_)
  rintro r w6 ⟨rfl, k6⟩
  clear b0_0 b0_1 b1_0 b1_1
  replace b0 := b0.kb k6
  replace b1 := b1.kb k6
  replace kx := kx.trans k6
  clear k6
  replace b0 := b0.alloc (.cells #[.int .i64 0, .int .i64 0] 23 (0, 0))
  replace b1 := b1.alloc (.cells #[.int .i64 0, .int .i64 0] 23 (0, 0))
  have p13 := Is.made w6 #[.int .i64 0, .int .i64 0] 23
  replace kx := kx.alloc (.cells #[.int .i64 0, .int .i64 0] 23 (0, 0))
  have b0_0 := b0.c (i := 0) rfl
  have b0_1 := b0.c (i := 1) rfl
  have b1_0 := b1.c (i := 0) rfl
  have b1_1 := b1.c (i := 1) rfl
  have p13_0 := p13.c (i := 0) rfl
  have p13_1 := p13.c (i := 1) rfl
  go_wp2_with fail
  (with_reducible refine (qa.out _).mono ?_)
  rintro r w7 ⟨rfl, k7⟩
  clear b0_0 b0_1 b1_0 b1_1 p13_0 p13_1
  replace b0 := b0.kb k7
  replace b1 := b1.kb k7
  replace p13 := p13.kb k7
  replace kx := kx.trans k7
  clear k7
  have b0_0 := b0.c (i := 0) rfl
  have b0_1 := b0.c (i := 1) rfl
  have b1_0 := b1.c (i := 0) rfl
  have b1_1 := b1.c (i := 1) rfl
  have p13_0 := p13.c (i := 0) rfl
  have p13_1 := p13.c (i := 1) rfl
  go_wp2
  go_ret
  exact ⟨rfl, kx⟩
set_option maxRecDepth 100000 in
set_option maxHeartbeats 1000000 in
theorem meets_c2 (l h m k v : Int) (q1 : Ca 17 #[.agg #[.int .i64 l, .int .i64 h]] (.int .i64 0)) (q2 : Ca 17 #[.agg #[.int .i64 m, .int .i64 k]] (.int .i64 0)) (q3 : Ca 18 #[.agg #[.int .i64 l, .int .i64 h], .int .i64 v] (.tuple #[.bool true, .int .i64 0])) (q4 : Ca 18 #[.agg #[.int .i64 m, .int .i64 k], .int .i64 v] (.tuple #[.bool false, .int .i64 0])) (q5 : Ca 20 #[.agg #[.int .i64 l, .int .i64 h], .agg #[.int .i64 m, .int .i64 k]] (.tuple #[.bool false, .int .i64 0])) (q6 : Ca 24 #[.agg #[.int .i64 l, .int .i64 h], .agg #[.int .i64 m, .int .i64 k]] (.tuple #[.agg #[.int .i64 0, .int .i64 0], .int .i64 16])) (qa : Ca 11 #[] (.bool true)) (w : World) : Calls Try.prog 8 #[.agg #[.int .i64 l, .int .i64 h], .agg #[.int .i64 m, .int .i64 k], .int .i64 v] w fun r W' => r = .returned (.bool true) ∧ Kb w W' := by
  have kx := Kb.refl w
  unfold Ca at *
  have b0 := Is.made w #[.int .i64 l, .int .i64 h] 23
  replace kx := kx.alloc (.cells #[.int .i64 l, .int .i64 h] 23 (0, 0))
  replace b0 := b0.alloc (.cells #[.int .i64 m, .int .i64 k] 23 (0, 0))
  have b1 := Is.made (w.alloc (.cells #[.int .i64 l, .int .i64 h] 23 (0, 0))) #[.int .i64 m, .int .i64 k] 23
  replace kx := kx.alloc (.cells #[.int .i64 m, .int .i64 k] 23 (0, 0))
  rw [World.size_alloc] at b1
  have b0_0 := b0.c (i := 0) rfl
  have b0_1 := b0.c (i := 1) rfl
  have b1_0 := b1.c (i := 0) rfl
  have b1_1 := b1.c (i := 1) rfl
  go_enter Try.func8, Try.ntmps8
  go_wp2_with fail
  (with_reducible refine (q1.out _).mono ?_)
  rintro r w1 ⟨rfl, k1⟩
  clear b0_0 b0_1 b1_0 b1_1
  replace b0 := b0.kb k1
  replace b1 := b1.kb k1
  replace kx := kx.trans k1
  clear k1
  have b0_0 := b0.c (i := 0) rfl
  have b0_1 := b0.c (i := 1) rfl
  have b1_0 := b1.c (i := 0) rfl
  have b1_1 := b1.c (i := 1) rfl
  go_wp2_with fail
  (with_reducible refine (q2.out _).mono ?_)
  rintro r w2 ⟨rfl, k2⟩
  clear b0_0 b0_1 b1_0 b1_1
  replace b0 := b0.kb k2
  replace b1 := b1.kb k2
  replace kx := kx.trans k2
  clear k2
  have b0_0 := b0.c (i := 0) rfl
  have b0_1 := b0.c (i := 1) rfl
  have b1_0 := b1.c (i := 0) rfl
  have b1_1 := b1.c (i := 1) rfl
  go_wp2_with fail
  (with_reducible refine (q3.out _).mono ?_)
  rintro r w3 ⟨rfl, k3⟩
  clear b0_0 b0_1 b1_0 b1_1
  replace b0 := b0.kb k3
  replace b1 := b1.kb k3
  replace kx := kx.trans k3
  clear k3
  have b0_0 := b0.c (i := 0) rfl
  have b0_1 := b0.c (i := 1) rfl
  have b1_0 := b1.c (i := 0) rfl
  have b1_1 := b1.c (i := 1) rfl
  go_wp2_with fail
  (with_reducible refine (q4.out _).mono ?_)
  rintro r w4 ⟨rfl, k4⟩
  clear b0_0 b0_1 b1_0 b1_1
  replace b0 := b0.kb k4
  replace b1 := b1.kb k4
  replace kx := kx.trans k4
  clear k4
  have b0_0 := b0.c (i := 0) rfl
  have b0_1 := b0.c (i := 1) rfl
  have b1_0 := b1.c (i := 0) rfl
  have b1_1 := b1.c (i := 1) rfl
  go_wp2_with fail
  (with_reducible refine (q5.out _).mono ?_)
  rintro r w5 ⟨rfl, k5⟩
  clear b0_0 b0_1 b1_0 b1_1
  replace b0 := b0.kb k5
  replace b1 := b1.kb k5
  replace kx := kx.trans k5
  clear k5
  have b0_0 := b0.c (i := 0) rfl
  have b0_1 := b0.c (i := 1) rfl
  have b1_0 := b1.c (i := 0) rfl
  have b1_1 := b1.c (i := 1) rfl
  go_wp2_with fail
  (with_reducible refine (q6.out _).mono ?_)
  rintro r w6 ⟨rfl, k6⟩
  clear b0_0 b0_1 b1_0 b1_1
  replace b0 := b0.kb k6
  replace b1 := b1.kb k6
  replace kx := kx.trans k6
  clear k6
  replace b0 := b0.alloc (.cells #[.int .i64 0, .int .i64 0] 23 (0, 0))
  replace b1 := b1.alloc (.cells #[.int .i64 0, .int .i64 0] 23 (0, 0))
  have p13 := Is.made w6 #[.int .i64 0, .int .i64 0] 23
  replace kx := kx.alloc (.cells #[.int .i64 0, .int .i64 0] 23 (0, 0))
  have b0_0 := b0.c (i := 0) rfl
  have b0_1 := b0.c (i := 1) rfl
  have b1_0 := b1.c (i := 0) rfl
  have b1_1 := b1.c (i := 1) rfl
  have p13_0 := p13.c (i := 0) rfl
  have p13_1 := p13.c (i := 1) rfl
  go_wp2_with fail
  (with_reducible refine (qa.out _).mono ?_)
  rintro r w7 ⟨rfl, k7⟩
  clear b0_0 b0_1 b1_0 b1_1 p13_0 p13_1
  replace b0 := b0.kb k7
  replace b1 := b1.kb k7
  replace p13 := p13.kb k7
  replace kx := kx.trans k7
  clear k7
  have b0_0 := b0.c (i := 0) rfl
  have b0_1 := b0.c (i := 1) rfl
  have b1_0 := b1.c (i := 0) rfl
  have b1_1 := b1.c (i := 1) rfl
  have p13_0 := p13.c (i := 0) rfl
  have p13_1 := p13.c (i := 1) rfl
  go_wp2
  go_ret
  exact ⟨rfl, kx⟩
set_option maxRecDepth 100000 in
set_option maxHeartbeats 1000000 in
theorem meets_m1a (l h m k v : Int) (q : Bool) (q1 : Ca 17 #[.agg #[.int .i64 l, .int .i64 h]] (.int .i64 0)) (q2 : Ca 17 #[.agg #[.int .i64 m, .int .i64 k]] (.int .i64 0)) (q3 : Ca 18 #[.agg #[.int .i64 l, .int .i64 h], .int .i64 v] (.tuple #[.bool false, .int .i64 0])) (q4 : Ca 18 #[.agg #[.int .i64 m, .int .i64 k], .int .i64 v] (.tuple #[.bool q, .int .i64 0])) (q5 : Ca 20 #[.agg #[.int .i64 l, .int .i64 h], .agg #[.int .i64 m, .int .i64 k]] (.tuple #[.bool true, .int .i64 0])) (q6 : Ca 24 #[.agg #[.int .i64 l, .int .i64 h], .agg #[.int .i64 m, .int .i64 k]] (.tuple #[.agg #[.int .i64 l, .int .i64 h], .int .i64 0])) (q7 : Ca 18 #[.agg #[.int .i64 l, .int .i64 h], .int .i64 v] (.tuple #[.bool false, .int .i64 0])) (qa : Ca 11 #[] (.bool true)) (w : World) : Calls Try.prog 8 #[.agg #[.int .i64 l, .int .i64 h], .agg #[.int .i64 m, .int .i64 k], .int .i64 v] w fun r W' => r = .returned (.bool true) ∧ Kb w W' := by
  have kx := Kb.refl w
  unfold Ca at *
  have b0 := Is.made w #[.int .i64 l, .int .i64 h] 23
  replace kx := kx.alloc (.cells #[.int .i64 l, .int .i64 h] 23 (0, 0))
  replace b0 := b0.alloc (.cells #[.int .i64 m, .int .i64 k] 23 (0, 0))
  have b1 := Is.made (w.alloc (.cells #[.int .i64 l, .int .i64 h] 23 (0, 0))) #[.int .i64 m, .int .i64 k] 23
  replace kx := kx.alloc (.cells #[.int .i64 m, .int .i64 k] 23 (0, 0))
  rw [World.size_alloc] at b1
  have b0_0 := b0.c (i := 0) rfl
  have b0_1 := b0.c (i := 1) rfl
  have b1_0 := b1.c (i := 0) rfl
  have b1_1 := b1.c (i := 1) rfl
  go_enter Try.func8, Try.ntmps8
  go_wp2_with fail
  (with_reducible refine (q1.out _).mono ?_)
  rintro r w1 ⟨rfl, k1⟩
  clear b0_0 b0_1 b1_0 b1_1
  replace b0 := b0.kb k1
  replace b1 := b1.kb k1
  replace kx := kx.trans k1
  clear k1
  have b0_0 := b0.c (i := 0) rfl
  have b0_1 := b0.c (i := 1) rfl
  have b1_0 := b1.c (i := 0) rfl
  have b1_1 := b1.c (i := 1) rfl
  go_wp2_with fail
  (with_reducible refine (q2.out _).mono ?_)
  rintro r w2 ⟨rfl, k2⟩
  clear b0_0 b0_1 b1_0 b1_1
  replace b0 := b0.kb k2
  replace b1 := b1.kb k2
  replace kx := kx.trans k2
  clear k2
  have b0_0 := b0.c (i := 0) rfl
  have b0_1 := b0.c (i := 1) rfl
  have b1_0 := b1.c (i := 0) rfl
  have b1_1 := b1.c (i := 1) rfl
  go_wp2_with fail
  (with_reducible refine (q3.out _).mono ?_)
  rintro r w3 ⟨rfl, k3⟩
  clear b0_0 b0_1 b1_0 b1_1
  replace b0 := b0.kb k3
  replace b1 := b1.kb k3
  replace kx := kx.trans k3
  clear k3
  have b0_0 := b0.c (i := 0) rfl
  have b0_1 := b0.c (i := 1) rfl
  have b1_0 := b1.c (i := 0) rfl
  have b1_1 := b1.c (i := 1) rfl
  go_wp2_with fail
  (with_reducible refine (q4.out _).mono ?_)
  rintro r w4 ⟨rfl, k4⟩
  clear b0_0 b0_1 b1_0 b1_1
  replace b0 := b0.kb k4
  replace b1 := b1.kb k4
  replace kx := kx.trans k4
  clear k4
  have b0_0 := b0.c (i := 0) rfl
  have b0_1 := b0.c (i := 1) rfl
  have b1_0 := b1.c (i := 0) rfl
  have b1_1 := b1.c (i := 1) rfl
  go_wp2_with fail
  (with_reducible refine (q5.out _).mono ?_)
  rintro r w5 ⟨rfl, k5⟩
  clear b0_0 b0_1 b1_0 b1_1
  replace b0 := b0.kb k5
  replace b1 := b1.kb k5
  replace kx := kx.trans k5
  clear k5
  have b0_0 := b0.c (i := 0) rfl
  have b0_1 := b0.c (i := 1) rfl
  have b1_0 := b1.c (i := 0) rfl
  have b1_1 := b1.c (i := 1) rfl
  go_wp2_with fail
  (with_reducible refine (q6.out _).mono ?_)
  rintro r w6 ⟨rfl, k6⟩
  clear b0_0 b0_1 b1_0 b1_1
  replace b0 := b0.kb k6
  replace b1 := b1.kb k6
  replace kx := kx.trans k6
  clear k6
  replace b0 := b0.alloc (.cells #[.int .i64 l, .int .i64 h] 23 (0, 0))
  replace b1 := b1.alloc (.cells #[.int .i64 l, .int .i64 h] 23 (0, 0))
  have p13 := Is.made w6 #[.int .i64 l, .int .i64 h] 23
  replace kx := kx.alloc (.cells #[.int .i64 l, .int .i64 h] 23 (0, 0))
  have b0_0 := b0.c (i := 0) rfl
  have b0_1 := b0.c (i := 1) rfl
  have b1_0 := b1.c (i := 0) rfl
  have b1_1 := b1.c (i := 1) rfl
  have p13_0 := p13.c (i := 0) rfl
  have p13_1 := p13.c (i := 1) rfl
  go_wp2_with fail
  (with_reducible refine (q7.out _).mono ?_)
  rintro r w7 ⟨rfl, k7⟩
  clear b0_0 b0_1 b1_0 b1_1 p13_0 p13_1
  replace b0 := b0.kb k7
  replace b1 := b1.kb k7
  replace p13 := p13.kb k7
  replace kx := kx.trans k7
  clear k7
  have b0_0 := b0.c (i := 0) rfl
  have b0_1 := b0.c (i := 1) rfl
  have b1_0 := b1.c (i := 0) rfl
  have b1_1 := b1.c (i := 1) rfl
  have p13_0 := p13.c (i := 0) rfl
  have p13_1 := p13.c (i := 1) rfl
  go_wp2_with fail
  (with_reducible refine (qa.out _).mono ?_)
  rintro r w8 ⟨rfl, k8⟩
  clear b0_0 b0_1 b1_0 b1_1 p13_0 p13_1
  replace b0 := b0.kb k8
  replace b1 := b1.kb k8
  replace p13 := p13.kb k8
  replace kx := kx.trans k8
  clear k8
  have b0_0 := b0.c (i := 0) rfl
  have b0_1 := b0.c (i := 1) rfl
  have b1_0 := b1.c (i := 0) rfl
  have b1_1 := b1.c (i := 1) rfl
  have p13_0 := p13.c (i := 0) rfl
  have p13_1 := p13.c (i := 1) rfl
  go_wp2
  go_ret
  exact ⟨rfl, kx⟩
set_option maxRecDepth 100000 in
set_option maxHeartbeats 1000000 in
theorem meets_m1b (l h m k v : Int) (x y : Int) (hx : (x == l) = false) (q : Bool) (q1 : Ca 17 #[.agg #[.int .i64 l, .int .i64 h]] (.int .i64 0)) (q2 : Ca 17 #[.agg #[.int .i64 m, .int .i64 k]] (.int .i64 0)) (q3 : Ca 18 #[.agg #[.int .i64 l, .int .i64 h], .int .i64 v] (.tuple #[.bool false, .int .i64 0])) (q4 : Ca 18 #[.agg #[.int .i64 m, .int .i64 k], .int .i64 v] (.tuple #[.bool q, .int .i64 0])) (q5 : Ca 20 #[.agg #[.int .i64 l, .int .i64 h], .agg #[.int .i64 m, .int .i64 k]] (.tuple #[.bool false, .int .i64 0])) (q6 : Ca 24 #[.agg #[.int .i64 l, .int .i64 h], .agg #[.int .i64 m, .int .i64 k]] (.tuple #[.agg #[.int .i64 x, .int .i64 y], .int .i64 0])) (q7 : Ca 18 #[.agg #[.int .i64 x, .int .i64 y], .int .i64 v] (.tuple #[.bool false, .int .i64 0])) (qa : Ca 11 #[] (.bool true)) (w : World) : Calls Try.prog 8 #[.agg #[.int .i64 l, .int .i64 h], .agg #[.int .i64 m, .int .i64 k], .int .i64 v] w fun r W' => r = .returned (.bool true) ∧ Kb w W' := by
  have kx := Kb.refl w
  unfold Ca at *
  have b0 := Is.made w #[.int .i64 l, .int .i64 h] 23
  replace kx := kx.alloc (.cells #[.int .i64 l, .int .i64 h] 23 (0, 0))
  replace b0 := b0.alloc (.cells #[.int .i64 m, .int .i64 k] 23 (0, 0))
  have b1 := Is.made (w.alloc (.cells #[.int .i64 l, .int .i64 h] 23 (0, 0))) #[.int .i64 m, .int .i64 k] 23
  replace kx := kx.alloc (.cells #[.int .i64 m, .int .i64 k] 23 (0, 0))
  rw [World.size_alloc] at b1
  have b0_0 := b0.c (i := 0) rfl
  have b0_1 := b0.c (i := 1) rfl
  have b1_0 := b1.c (i := 0) rfl
  have b1_1 := b1.c (i := 1) rfl
  go_enter Try.func8, Try.ntmps8
  go_wp2_with fail
  (with_reducible refine (q1.out _).mono ?_)
  rintro r w1 ⟨rfl, k1⟩
  clear b0_0 b0_1 b1_0 b1_1
  replace b0 := b0.kb k1
  replace b1 := b1.kb k1
  replace kx := kx.trans k1
  clear k1
  have b0_0 := b0.c (i := 0) rfl
  have b0_1 := b0.c (i := 1) rfl
  have b1_0 := b1.c (i := 0) rfl
  have b1_1 := b1.c (i := 1) rfl
  go_wp2_with fail
  (with_reducible refine (q2.out _).mono ?_)
  rintro r w2 ⟨rfl, k2⟩
  clear b0_0 b0_1 b1_0 b1_1
  replace b0 := b0.kb k2
  replace b1 := b1.kb k2
  replace kx := kx.trans k2
  clear k2
  have b0_0 := b0.c (i := 0) rfl
  have b0_1 := b0.c (i := 1) rfl
  have b1_0 := b1.c (i := 0) rfl
  have b1_1 := b1.c (i := 1) rfl
  go_wp2_with fail
  (with_reducible refine (q3.out _).mono ?_)
  rintro r w3 ⟨rfl, k3⟩
  clear b0_0 b0_1 b1_0 b1_1
  replace b0 := b0.kb k3
  replace b1 := b1.kb k3
  replace kx := kx.trans k3
  clear k3
  have b0_0 := b0.c (i := 0) rfl
  have b0_1 := b0.c (i := 1) rfl
  have b1_0 := b1.c (i := 0) rfl
  have b1_1 := b1.c (i := 1) rfl
  go_wp2_with fail
  (with_reducible refine (q4.out _).mono ?_)
  rintro r w4 ⟨rfl, k4⟩
  clear b0_0 b0_1 b1_0 b1_1
  replace b0 := b0.kb k4
  replace b1 := b1.kb k4
  replace kx := kx.trans k4
  clear k4
  have b0_0 := b0.c (i := 0) rfl
  have b0_1 := b0.c (i := 1) rfl
  have b1_0 := b1.c (i := 0) rfl
  have b1_1 := b1.c (i := 1) rfl
  go_wp2_with fail
  (with_reducible refine (q5.out _).mono ?_)
  rintro r w5 ⟨rfl, k5⟩
  clear b0_0 b0_1 b1_0 b1_1
  replace b0 := b0.kb k5
  replace b1 := b1.kb k5
  replace kx := kx.trans k5
  clear k5
  have b0_0 := b0.c (i := 0) rfl
  have b0_1 := b0.c (i := 1) rfl
  have b1_0 := b1.c (i := 0) rfl
  have b1_1 := b1.c (i := 1) rfl
  go_wp2_with fail
  (with_reducible refine (q6.out _).mono ?_)
  rintro r w6 ⟨rfl, k6⟩
  clear b0_0 b0_1 b1_0 b1_1
  replace b0 := b0.kb k6
  replace b1 := b1.kb k6
  replace kx := kx.trans k6
  clear k6
  replace b0 := b0.alloc (.cells #[.int .i64 x, .int .i64 y] 23 (0, 0))
  replace b1 := b1.alloc (.cells #[.int .i64 x, .int .i64 y] 23 (0, 0))
  have p13 := Is.made w6 #[.int .i64 x, .int .i64 y] 23
  replace kx := kx.alloc (.cells #[.int .i64 x, .int .i64 y] 23 (0, 0))
  have b0_0 := b0.c (i := 0) rfl
  have b0_1 := b0.c (i := 1) rfl
  have b1_0 := b1.c (i := 0) rfl
  have b1_1 := b1.c (i := 1) rfl
  have p13_0 := p13.c (i := 0) rfl
  have p13_1 := p13.c (i := 1) rfl
  go_wp2_with fail
  (with_reducible refine (q7.out _).mono ?_)
  rintro r w7 ⟨rfl, k7⟩
  clear b0_0 b0_1 b1_0 b1_1 p13_0 p13_1
  replace b0 := b0.kb k7
  replace b1 := b1.kb k7
  replace p13 := p13.kb k7
  replace kx := kx.trans k7
  clear k7
  have b0_0 := b0.c (i := 0) rfl
  have b0_1 := b0.c (i := 1) rfl
  have b1_0 := b1.c (i := 0) rfl
  have b1_1 := b1.c (i := 1) rfl
  have p13_0 := p13.c (i := 0) rfl
  have p13_1 := p13.c (i := 1) rfl
  go_wp2_with fail
  (with_reducible refine (qa.out _).mono ?_)
  rintro r w8 ⟨rfl, k8⟩
  clear b0_0 b0_1 b1_0 b1_1 p13_0 p13_1
  replace b0 := b0.kb k8
  replace b1 := b1.kb k8
  replace p13 := p13.kb k8
  replace kx := kx.trans k8
  clear k8
  have b0_0 := b0.c (i := 0) rfl
  have b0_1 := b0.c (i := 1) rfl
  have b1_0 := b1.c (i := 0) rfl
  have b1_1 := b1.c (i := 1) rfl
  have p13_0 := p13.c (i := 0) rfl
  have p13_1 := p13.c (i := 1) rfl
  go_wp2
  go_ret
  exact ⟨rfl, kx⟩
set_option maxRecDepth 100000 in
set_option maxHeartbeats 1000000 in
theorem meets_m1c (l h m k v : Int) (y : Int) (hy : (y == h) = false) (q : Bool) (q1 : Ca 17 #[.agg #[.int .i64 l, .int .i64 h]] (.int .i64 0)) (q2 : Ca 17 #[.agg #[.int .i64 m, .int .i64 k]] (.int .i64 0)) (q3 : Ca 18 #[.agg #[.int .i64 l, .int .i64 h], .int .i64 v] (.tuple #[.bool false, .int .i64 0])) (q4 : Ca 18 #[.agg #[.int .i64 m, .int .i64 k], .int .i64 v] (.tuple #[.bool q, .int .i64 0])) (q5 : Ca 20 #[.agg #[.int .i64 l, .int .i64 h], .agg #[.int .i64 m, .int .i64 k]] (.tuple #[.bool false, .int .i64 0])) (q6 : Ca 24 #[.agg #[.int .i64 l, .int .i64 h], .agg #[.int .i64 m, .int .i64 k]] (.tuple #[.agg #[.int .i64 l, .int .i64 y], .int .i64 0])) (q7 : Ca 18 #[.agg #[.int .i64 l, .int .i64 y], .int .i64 v] (.tuple #[.bool false, .int .i64 0])) (qa : Ca 11 #[] (.bool true)) (w : World) : Calls Try.prog 8 #[.agg #[.int .i64 l, .int .i64 h], .agg #[.int .i64 m, .int .i64 k], .int .i64 v] w fun r W' => r = .returned (.bool true) ∧ Kb w W' := by
  have kx := Kb.refl w
  unfold Ca at *
  have b0 := Is.made w #[.int .i64 l, .int .i64 h] 23
  replace kx := kx.alloc (.cells #[.int .i64 l, .int .i64 h] 23 (0, 0))
  replace b0 := b0.alloc (.cells #[.int .i64 m, .int .i64 k] 23 (0, 0))
  have b1 := Is.made (w.alloc (.cells #[.int .i64 l, .int .i64 h] 23 (0, 0))) #[.int .i64 m, .int .i64 k] 23
  replace kx := kx.alloc (.cells #[.int .i64 m, .int .i64 k] 23 (0, 0))
  rw [World.size_alloc] at b1
  have b0_0 := b0.c (i := 0) rfl
  have b0_1 := b0.c (i := 1) rfl
  have b1_0 := b1.c (i := 0) rfl
  have b1_1 := b1.c (i := 1) rfl
  go_enter Try.func8, Try.ntmps8
  go_wp2_with fail
  (with_reducible refine (q1.out _).mono ?_)
  rintro r w1 ⟨rfl, k1⟩
  clear b0_0 b0_1 b1_0 b1_1
  replace b0 := b0.kb k1
  replace b1 := b1.kb k1
  replace kx := kx.trans k1
  clear k1
  have b0_0 := b0.c (i := 0) rfl
  have b0_1 := b0.c (i := 1) rfl
  have b1_0 := b1.c (i := 0) rfl
  have b1_1 := b1.c (i := 1) rfl
  go_wp2_with fail
  (with_reducible refine (q2.out _).mono ?_)
  rintro r w2 ⟨rfl, k2⟩
  clear b0_0 b0_1 b1_0 b1_1
  replace b0 := b0.kb k2
  replace b1 := b1.kb k2
  replace kx := kx.trans k2
  clear k2
  have b0_0 := b0.c (i := 0) rfl
  have b0_1 := b0.c (i := 1) rfl
  have b1_0 := b1.c (i := 0) rfl
  have b1_1 := b1.c (i := 1) rfl
  go_wp2_with fail
  (with_reducible refine (q3.out _).mono ?_)
  rintro r w3 ⟨rfl, k3⟩
  clear b0_0 b0_1 b1_0 b1_1
  replace b0 := b0.kb k3
  replace b1 := b1.kb k3
  replace kx := kx.trans k3
  clear k3
  have b0_0 := b0.c (i := 0) rfl
  have b0_1 := b0.c (i := 1) rfl
  have b1_0 := b1.c (i := 0) rfl
  have b1_1 := b1.c (i := 1) rfl
  go_wp2_with fail
  (with_reducible refine (q4.out _).mono ?_)
  rintro r w4 ⟨rfl, k4⟩
  clear b0_0 b0_1 b1_0 b1_1
  replace b0 := b0.kb k4
  replace b1 := b1.kb k4
  replace kx := kx.trans k4
  clear k4
  have b0_0 := b0.c (i := 0) rfl
  have b0_1 := b0.c (i := 1) rfl
  have b1_0 := b1.c (i := 0) rfl
  have b1_1 := b1.c (i := 1) rfl
  go_wp2_with fail
  (with_reducible refine (q5.out _).mono ?_)
  rintro r w5 ⟨rfl, k5⟩
  clear b0_0 b0_1 b1_0 b1_1
  replace b0 := b0.kb k5
  replace b1 := b1.kb k5
  replace kx := kx.trans k5
  clear k5
  have b0_0 := b0.c (i := 0) rfl
  have b0_1 := b0.c (i := 1) rfl
  have b1_0 := b1.c (i := 0) rfl
  have b1_1 := b1.c (i := 1) rfl
  go_wp2_with fail
  (with_reducible refine (q6.out _).mono ?_)
  rintro r w6 ⟨rfl, k6⟩
  clear b0_0 b0_1 b1_0 b1_1
  replace b0 := b0.kb k6
  replace b1 := b1.kb k6
  replace kx := kx.trans k6
  clear k6
  replace b0 := b0.alloc (.cells #[.int .i64 l, .int .i64 y] 23 (0, 0))
  replace b1 := b1.alloc (.cells #[.int .i64 l, .int .i64 y] 23 (0, 0))
  have p13 := Is.made w6 #[.int .i64 l, .int .i64 y] 23
  replace kx := kx.alloc (.cells #[.int .i64 l, .int .i64 y] 23 (0, 0))
  have b0_0 := b0.c (i := 0) rfl
  have b0_1 := b0.c (i := 1) rfl
  have b1_0 := b1.c (i := 0) rfl
  have b1_1 := b1.c (i := 1) rfl
  have p13_0 := p13.c (i := 0) rfl
  have p13_1 := p13.c (i := 1) rfl
  go_wp2_with fail
  (with_reducible refine (q7.out _).mono ?_)
  rintro r w7 ⟨rfl, k7⟩
  clear b0_0 b0_1 b1_0 b1_1 p13_0 p13_1
  replace b0 := b0.kb k7
  replace b1 := b1.kb k7
  replace p13 := p13.kb k7
  replace kx := kx.trans k7
  clear k7
  have b0_0 := b0.c (i := 0) rfl
  have b0_1 := b0.c (i := 1) rfl
  have b1_0 := b1.c (i := 0) rfl
  have b1_1 := b1.c (i := 1) rfl
  have p13_0 := p13.c (i := 0) rfl
  have p13_1 := p13.c (i := 1) rfl
  go_wp2_with fail
  (with_reducible refine (qa.out _).mono ?_)
  rintro r w8 ⟨rfl, k8⟩
  clear b0_0 b0_1 b1_0 b1_1 p13_0 p13_1
  replace b0 := b0.kb k8
  replace b1 := b1.kb k8
  replace p13 := p13.kb k8
  replace kx := kx.trans k8
  clear k8
  have b0_0 := b0.c (i := 0) rfl
  have b0_1 := b0.c (i := 1) rfl
  have b1_0 := b1.c (i := 0) rfl
  have b1_1 := b1.c (i := 1) rfl
  have p13_0 := p13.c (i := 0) rfl
  have p13_1 := p13.c (i := 1) rfl
  go_wp2
  go_ret
  exact ⟨rfl, kx⟩
set_option maxRecDepth 100000 in
set_option maxHeartbeats 1000000 in
theorem meets_m2a (l h m k v : Int) (q : Bool) (q1 : Ca 17 #[.agg #[.int .i64 l, .int .i64 h]] (.int .i64 0)) (q2 : Ca 17 #[.agg #[.int .i64 m, .int .i64 k]] (.int .i64 0)) (q3 : Ca 18 #[.agg #[.int .i64 l, .int .i64 h], .int .i64 v] (.tuple #[.bool true, .int .i64 0])) (q4 : Ca 18 #[.agg #[.int .i64 m, .int .i64 k], .int .i64 v] (.tuple #[.bool q, .int .i64 0])) (q5 : Ca 20 #[.agg #[.int .i64 l, .int .i64 h], .agg #[.int .i64 m, .int .i64 k]] (.tuple #[.bool true, .int .i64 0])) (q6 : Ca 24 #[.agg #[.int .i64 l, .int .i64 h], .agg #[.int .i64 m, .int .i64 k]] (.tuple #[.agg #[.int .i64 l, .int .i64 h], .int .i64 0])) (q7 : Ca 18 #[.agg #[.int .i64 l, .int .i64 h], .int .i64 v] (.tuple #[.bool q, .int .i64 0])) (qa : Ca 11 #[] (.bool true)) (w : World) : Calls Try.prog 8 #[.agg #[.int .i64 l, .int .i64 h], .agg #[.int .i64 m, .int .i64 k], .int .i64 v] w fun r W' => r = .returned (.bool true) ∧ Kb w W' := by
  have kx := Kb.refl w
  unfold Ca at *
  have b0 := Is.made w #[.int .i64 l, .int .i64 h] 23
  replace kx := kx.alloc (.cells #[.int .i64 l, .int .i64 h] 23 (0, 0))
  replace b0 := b0.alloc (.cells #[.int .i64 m, .int .i64 k] 23 (0, 0))
  have b1 := Is.made (w.alloc (.cells #[.int .i64 l, .int .i64 h] 23 (0, 0))) #[.int .i64 m, .int .i64 k] 23
  replace kx := kx.alloc (.cells #[.int .i64 m, .int .i64 k] 23 (0, 0))
  rw [World.size_alloc] at b1
  have b0_0 := b0.c (i := 0) rfl
  have b0_1 := b0.c (i := 1) rfl
  have b1_0 := b1.c (i := 0) rfl
  have b1_1 := b1.c (i := 1) rfl
  go_enter Try.func8, Try.ntmps8
  go_wp2_with fail
  (with_reducible refine (q1.out _).mono ?_)
  rintro r w1 ⟨rfl, k1⟩
  clear b0_0 b0_1 b1_0 b1_1
  replace b0 := b0.kb k1
  replace b1 := b1.kb k1
  replace kx := kx.trans k1
  clear k1
  have b0_0 := b0.c (i := 0) rfl
  have b0_1 := b0.c (i := 1) rfl
  have b1_0 := b1.c (i := 0) rfl
  have b1_1 := b1.c (i := 1) rfl
  go_wp2_with fail
  (with_reducible refine (q2.out _).mono ?_)
  rintro r w2 ⟨rfl, k2⟩
  clear b0_0 b0_1 b1_0 b1_1
  replace b0 := b0.kb k2
  replace b1 := b1.kb k2
  replace kx := kx.trans k2
  clear k2
  have b0_0 := b0.c (i := 0) rfl
  have b0_1 := b0.c (i := 1) rfl
  have b1_0 := b1.c (i := 0) rfl
  have b1_1 := b1.c (i := 1) rfl
  go_wp2_with fail
  (with_reducible refine (q3.out _).mono ?_)
  rintro r w3 ⟨rfl, k3⟩
  clear b0_0 b0_1 b1_0 b1_1
  replace b0 := b0.kb k3
  replace b1 := b1.kb k3
  replace kx := kx.trans k3
  clear k3
  have b0_0 := b0.c (i := 0) rfl
  have b0_1 := b0.c (i := 1) rfl
  have b1_0 := b1.c (i := 0) rfl
  have b1_1 := b1.c (i := 1) rfl
  go_wp2_with fail
  (with_reducible refine (q4.out _).mono ?_)
  rintro r w4 ⟨rfl, k4⟩
  clear b0_0 b0_1 b1_0 b1_1
  replace b0 := b0.kb k4
  replace b1 := b1.kb k4
  replace kx := kx.trans k4
  clear k4
  have b0_0 := b0.c (i := 0) rfl
  have b0_1 := b0.c (i := 1) rfl
  have b1_0 := b1.c (i := 0) rfl
  have b1_1 := b1.c (i := 1) rfl
  go_wp2_with fail
  (with_reducible refine (q5.out _).mono ?_)
  rintro r w5 ⟨rfl, k5⟩
  clear b0_0 b0_1 b1_0 b1_1
  replace b0 := b0.kb k5
  replace b1 := b1.kb k5
  replace kx := kx.trans k5
  clear k5
  have b0_0 := b0.c (i := 0) rfl
  have b0_1 := b0.c (i := 1) rfl
  have b1_0 := b1.c (i := 0) rfl
  have b1_1 := b1.c (i := 1) rfl
  go_wp2_with fail
  (with_reducible refine (q6.out _).mono ?_)
  rintro r w6 ⟨rfl, k6⟩
  clear b0_0 b0_1 b1_0 b1_1
  replace b0 := b0.kb k6
  replace b1 := b1.kb k6
  replace kx := kx.trans k6
  clear k6
  replace b0 := b0.alloc (.cells #[.int .i64 l, .int .i64 h] 23 (0, 0))
  replace b1 := b1.alloc (.cells #[.int .i64 l, .int .i64 h] 23 (0, 0))
  have p13 := Is.made w6 #[.int .i64 l, .int .i64 h] 23
  replace kx := kx.alloc (.cells #[.int .i64 l, .int .i64 h] 23 (0, 0))
  have b0_0 := b0.c (i := 0) rfl
  have b0_1 := b0.c (i := 1) rfl
  have b1_0 := b1.c (i := 0) rfl
  have b1_1 := b1.c (i := 1) rfl
  have p13_0 := p13.c (i := 0) rfl
  have p13_1 := p13.c (i := 1) rfl
  go_wp2_with fail
  (with_reducible refine (q7.out _).mono ?_)
  rintro r w7 ⟨rfl, k7⟩
  clear b0_0 b0_1 b1_0 b1_1 p13_0 p13_1
  replace b0 := b0.kb k7
  replace b1 := b1.kb k7
  replace p13 := p13.kb k7
  replace kx := kx.trans k7
  clear k7
  have b0_0 := b0.c (i := 0) rfl
  have b0_1 := b0.c (i := 1) rfl
  have b1_0 := b1.c (i := 0) rfl
  have b1_1 := b1.c (i := 1) rfl
  have p13_0 := p13.c (i := 0) rfl
  have p13_1 := p13.c (i := 1) rfl
  go_wp2_with fail
  (with_reducible refine (qa.out _).mono ?_)
  rintro r w8 ⟨rfl, k8⟩
  clear b0_0 b0_1 b1_0 b1_1 p13_0 p13_1
  replace b0 := b0.kb k8
  replace b1 := b1.kb k8
  replace p13 := p13.kb k8
  replace kx := kx.trans k8
  clear k8
  have b0_0 := b0.c (i := 0) rfl
  have b0_1 := b0.c (i := 1) rfl
  have b1_0 := b1.c (i := 0) rfl
  have b1_1 := b1.c (i := 1) rfl
  have p13_0 := p13.c (i := 0) rfl
  have p13_1 := p13.c (i := 1) rfl
  go_wp2
  go_ret
  exact ⟨rfl, kx⟩
set_option maxRecDepth 100000 in
set_option maxHeartbeats 1000000 in
theorem meets_m2b (l h m k v : Int) (x y : Int) (hx : (x == l) = false) (q : Bool) (q1 : Ca 17 #[.agg #[.int .i64 l, .int .i64 h]] (.int .i64 0)) (q2 : Ca 17 #[.agg #[.int .i64 m, .int .i64 k]] (.int .i64 0)) (q3 : Ca 18 #[.agg #[.int .i64 l, .int .i64 h], .int .i64 v] (.tuple #[.bool true, .int .i64 0])) (q4 : Ca 18 #[.agg #[.int .i64 m, .int .i64 k], .int .i64 v] (.tuple #[.bool q, .int .i64 0])) (q5 : Ca 20 #[.agg #[.int .i64 l, .int .i64 h], .agg #[.int .i64 m, .int .i64 k]] (.tuple #[.bool false, .int .i64 0])) (q6 : Ca 24 #[.agg #[.int .i64 l, .int .i64 h], .agg #[.int .i64 m, .int .i64 k]] (.tuple #[.agg #[.int .i64 x, .int .i64 y], .int .i64 0])) (q7 : Ca 18 #[.agg #[.int .i64 x, .int .i64 y], .int .i64 v] (.tuple #[.bool q, .int .i64 0])) (qa : Ca 11 #[] (.bool true)) (w : World) : Calls Try.prog 8 #[.agg #[.int .i64 l, .int .i64 h], .agg #[.int .i64 m, .int .i64 k], .int .i64 v] w fun r W' => r = .returned (.bool true) ∧ Kb w W' := by
  have kx := Kb.refl w
  unfold Ca at *
  have b0 := Is.made w #[.int .i64 l, .int .i64 h] 23
  replace kx := kx.alloc (.cells #[.int .i64 l, .int .i64 h] 23 (0, 0))
  replace b0 := b0.alloc (.cells #[.int .i64 m, .int .i64 k] 23 (0, 0))
  have b1 := Is.made (w.alloc (.cells #[.int .i64 l, .int .i64 h] 23 (0, 0))) #[.int .i64 m, .int .i64 k] 23
  replace kx := kx.alloc (.cells #[.int .i64 m, .int .i64 k] 23 (0, 0))
  rw [World.size_alloc] at b1
  have b0_0 := b0.c (i := 0) rfl
  have b0_1 := b0.c (i := 1) rfl
  have b1_0 := b1.c (i := 0) rfl
  have b1_1 := b1.c (i := 1) rfl
  go_enter Try.func8, Try.ntmps8
  go_wp2_with fail
  (with_reducible refine (q1.out _).mono ?_)
  rintro r w1 ⟨rfl, k1⟩
  clear b0_0 b0_1 b1_0 b1_1
  replace b0 := b0.kb k1
  replace b1 := b1.kb k1
  replace kx := kx.trans k1
  clear k1
  have b0_0 := b0.c (i := 0) rfl
  have b0_1 := b0.c (i := 1) rfl
  have b1_0 := b1.c (i := 0) rfl
  have b1_1 := b1.c (i := 1) rfl
  go_wp2_with fail
  (with_reducible refine (q2.out _).mono ?_)
  rintro r w2 ⟨rfl, k2⟩
  clear b0_0 b0_1 b1_0 b1_1
  replace b0 := b0.kb k2
  replace b1 := b1.kb k2
  replace kx := kx.trans k2
  clear k2
  have b0_0 := b0.c (i := 0) rfl
  have b0_1 := b0.c (i := 1) rfl
  have b1_0 := b1.c (i := 0) rfl
  have b1_1 := b1.c (i := 1) rfl
  go_wp2_with fail
  (with_reducible refine (q3.out _).mono ?_)
  rintro r w3 ⟨rfl, k3⟩
  clear b0_0 b0_1 b1_0 b1_1
  replace b0 := b0.kb k3
  replace b1 := b1.kb k3
  replace kx := kx.trans k3
  clear k3
  have b0_0 := b0.c (i := 0) rfl
  have b0_1 := b0.c (i := 1) rfl
  have b1_0 := b1.c (i := 0) rfl
  have b1_1 := b1.c (i := 1) rfl
  go_wp2_with fail
  (with_reducible refine (q4.out _).mono ?_)
  rintro r w4 ⟨rfl, k4⟩
  clear b0_0 b0_1 b1_0 b1_1
  replace b0 := b0.kb k4
  replace b1 := b1.kb k4
  replace kx := kx.trans k4
  clear k4
  have b0_0 := b0.c (i := 0) rfl
  have b0_1 := b0.c (i := 1) rfl
  have b1_0 := b1.c (i := 0) rfl
  have b1_1 := b1.c (i := 1) rfl
  go_wp2_with fail
  (with_reducible refine (q5.out _).mono ?_)
  rintro r w5 ⟨rfl, k5⟩
  clear b0_0 b0_1 b1_0 b1_1
  replace b0 := b0.kb k5
  replace b1 := b1.kb k5
  replace kx := kx.trans k5
  clear k5
  have b0_0 := b0.c (i := 0) rfl
  have b0_1 := b0.c (i := 1) rfl
  have b1_0 := b1.c (i := 0) rfl
  have b1_1 := b1.c (i := 1) rfl
  go_wp2_with fail
  (with_reducible refine (q6.out _).mono ?_)
  rintro r w6 ⟨rfl, k6⟩
  clear b0_0 b0_1 b1_0 b1_1
  replace b0 := b0.kb k6
  replace b1 := b1.kb k6
  replace kx := kx.trans k6
  clear k6
  replace b0 := b0.alloc (.cells #[.int .i64 x, .int .i64 y] 23 (0, 0))
  replace b1 := b1.alloc (.cells #[.int .i64 x, .int .i64 y] 23 (0, 0))
  have p13 := Is.made w6 #[.int .i64 x, .int .i64 y] 23
  replace kx := kx.alloc (.cells #[.int .i64 x, .int .i64 y] 23 (0, 0))
  have b0_0 := b0.c (i := 0) rfl
  have b0_1 := b0.c (i := 1) rfl
  have b1_0 := b1.c (i := 0) rfl
  have b1_1 := b1.c (i := 1) rfl
  have p13_0 := p13.c (i := 0) rfl
  have p13_1 := p13.c (i := 1) rfl
  go_wp2_with fail
  (with_reducible refine (q7.out _).mono ?_)
  rintro r w7 ⟨rfl, k7⟩
  clear b0_0 b0_1 b1_0 b1_1 p13_0 p13_1
  replace b0 := b0.kb k7
  replace b1 := b1.kb k7
  replace p13 := p13.kb k7
  replace kx := kx.trans k7
  clear k7
  have b0_0 := b0.c (i := 0) rfl
  have b0_1 := b0.c (i := 1) rfl
  have b1_0 := b1.c (i := 0) rfl
  have b1_1 := b1.c (i := 1) rfl
  have p13_0 := p13.c (i := 0) rfl
  have p13_1 := p13.c (i := 1) rfl
  go_wp2_with fail
  (with_reducible refine (qa.out _).mono ?_)
  rintro r w8 ⟨rfl, k8⟩
  clear b0_0 b0_1 b1_0 b1_1 p13_0 p13_1
  replace b0 := b0.kb k8
  replace b1 := b1.kb k8
  replace p13 := p13.kb k8
  replace kx := kx.trans k8
  clear k8
  have b0_0 := b0.c (i := 0) rfl
  have b0_1 := b0.c (i := 1) rfl
  have b1_0 := b1.c (i := 0) rfl
  have b1_1 := b1.c (i := 1) rfl
  have p13_0 := p13.c (i := 0) rfl
  have p13_1 := p13.c (i := 1) rfl
  go_wp2
  go_ret
  exact ⟨rfl, kx⟩
set_option maxRecDepth 100000 in
set_option maxHeartbeats 1000000 in
theorem meets_m2c (l h m k v : Int) (y : Int) (hy : (y == h) = false) (q : Bool) (q1 : Ca 17 #[.agg #[.int .i64 l, .int .i64 h]] (.int .i64 0)) (q2 : Ca 17 #[.agg #[.int .i64 m, .int .i64 k]] (.int .i64 0)) (q3 : Ca 18 #[.agg #[.int .i64 l, .int .i64 h], .int .i64 v] (.tuple #[.bool true, .int .i64 0])) (q4 : Ca 18 #[.agg #[.int .i64 m, .int .i64 k], .int .i64 v] (.tuple #[.bool q, .int .i64 0])) (q5 : Ca 20 #[.agg #[.int .i64 l, .int .i64 h], .agg #[.int .i64 m, .int .i64 k]] (.tuple #[.bool false, .int .i64 0])) (q6 : Ca 24 #[.agg #[.int .i64 l, .int .i64 h], .agg #[.int .i64 m, .int .i64 k]] (.tuple #[.agg #[.int .i64 l, .int .i64 y], .int .i64 0])) (q7 : Ca 18 #[.agg #[.int .i64 l, .int .i64 y], .int .i64 v] (.tuple #[.bool q, .int .i64 0])) (qa : Ca 11 #[] (.bool true)) (w : World) : Calls Try.prog 8 #[.agg #[.int .i64 l, .int .i64 h], .agg #[.int .i64 m, .int .i64 k], .int .i64 v] w fun r W' => r = .returned (.bool true) ∧ Kb w W' := by
  have kx := Kb.refl w
  unfold Ca at *
  have b0 := Is.made w #[.int .i64 l, .int .i64 h] 23
  replace kx := kx.alloc (.cells #[.int .i64 l, .int .i64 h] 23 (0, 0))
  replace b0 := b0.alloc (.cells #[.int .i64 m, .int .i64 k] 23 (0, 0))
  have b1 := Is.made (w.alloc (.cells #[.int .i64 l, .int .i64 h] 23 (0, 0))) #[.int .i64 m, .int .i64 k] 23
  replace kx := kx.alloc (.cells #[.int .i64 m, .int .i64 k] 23 (0, 0))
  rw [World.size_alloc] at b1
  have b0_0 := b0.c (i := 0) rfl
  have b0_1 := b0.c (i := 1) rfl
  have b1_0 := b1.c (i := 0) rfl
  have b1_1 := b1.c (i := 1) rfl
  go_enter Try.func8, Try.ntmps8
  go_wp2_with fail
  (with_reducible refine (q1.out _).mono ?_)
  rintro r w1 ⟨rfl, k1⟩
  clear b0_0 b0_1 b1_0 b1_1
  replace b0 := b0.kb k1
  replace b1 := b1.kb k1
  replace kx := kx.trans k1
  clear k1
  have b0_0 := b0.c (i := 0) rfl
  have b0_1 := b0.c (i := 1) rfl
  have b1_0 := b1.c (i := 0) rfl
  have b1_1 := b1.c (i := 1) rfl
  go_wp2_with fail
  (with_reducible refine (q2.out _).mono ?_)
  rintro r w2 ⟨rfl, k2⟩
  clear b0_0 b0_1 b1_0 b1_1
  replace b0 := b0.kb k2
  replace b1 := b1.kb k2
  replace kx := kx.trans k2
  clear k2
  have b0_0 := b0.c (i := 0) rfl
  have b0_1 := b0.c (i := 1) rfl
  have b1_0 := b1.c (i := 0) rfl
  have b1_1 := b1.c (i := 1) rfl
  go_wp2_with fail
  (with_reducible refine (q3.out _).mono ?_)
  rintro r w3 ⟨rfl, k3⟩
  clear b0_0 b0_1 b1_0 b1_1
  replace b0 := b0.kb k3
  replace b1 := b1.kb k3
  replace kx := kx.trans k3
  clear k3
  have b0_0 := b0.c (i := 0) rfl
  have b0_1 := b0.c (i := 1) rfl
  have b1_0 := b1.c (i := 0) rfl
  have b1_1 := b1.c (i := 1) rfl
  go_wp2_with fail
  (with_reducible refine (q4.out _).mono ?_)
  rintro r w4 ⟨rfl, k4⟩
  clear b0_0 b0_1 b1_0 b1_1
  replace b0 := b0.kb k4
  replace b1 := b1.kb k4
  replace kx := kx.trans k4
  clear k4
  have b0_0 := b0.c (i := 0) rfl
  have b0_1 := b0.c (i := 1) rfl
  have b1_0 := b1.c (i := 0) rfl
  have b1_1 := b1.c (i := 1) rfl
  go_wp2_with fail
  (with_reducible refine (q5.out _).mono ?_)
  rintro r w5 ⟨rfl, k5⟩
  clear b0_0 b0_1 b1_0 b1_1
  replace b0 := b0.kb k5
  replace b1 := b1.kb k5
  replace kx := kx.trans k5
  clear k5
  have b0_0 := b0.c (i := 0) rfl
  have b0_1 := b0.c (i := 1) rfl
  have b1_0 := b1.c (i := 0) rfl
  have b1_1 := b1.c (i := 1) rfl
  go_wp2_with fail
  (with_reducible refine (q6.out _).mono ?_)
  rintro r w6 ⟨rfl, k6⟩
  clear b0_0 b0_1 b1_0 b1_1
  replace b0 := b0.kb k6
  replace b1 := b1.kb k6
  replace kx := kx.trans k6
  clear k6
  replace b0 := b0.alloc (.cells #[.int .i64 l, .int .i64 y] 23 (0, 0))
  replace b1 := b1.alloc (.cells #[.int .i64 l, .int .i64 y] 23 (0, 0))
  have p13 := Is.made w6 #[.int .i64 l, .int .i64 y] 23
  replace kx := kx.alloc (.cells #[.int .i64 l, .int .i64 y] 23 (0, 0))
  have b0_0 := b0.c (i := 0) rfl
  have b0_1 := b0.c (i := 1) rfl
  have b1_0 := b1.c (i := 0) rfl
  have b1_1 := b1.c (i := 1) rfl
  have p13_0 := p13.c (i := 0) rfl
  have p13_1 := p13.c (i := 1) rfl
  go_wp2_with fail
  (with_reducible refine (q7.out _).mono ?_)
  rintro r w7 ⟨rfl, k7⟩
  clear b0_0 b0_1 b1_0 b1_1 p13_0 p13_1
  replace b0 := b0.kb k7
  replace b1 := b1.kb k7
  replace p13 := p13.kb k7
  replace kx := kx.trans k7
  clear k7
  have b0_0 := b0.c (i := 0) rfl
  have b0_1 := b0.c (i := 1) rfl
  have b1_0 := b1.c (i := 0) rfl
  have b1_1 := b1.c (i := 1) rfl
  have p13_0 := p13.c (i := 0) rfl
  have p13_1 := p13.c (i := 1) rfl
  go_wp2_with fail
  (with_reducible refine (qa.out _).mono ?_)
  rintro r w8 ⟨rfl, k8⟩
  clear b0_0 b0_1 b1_0 b1_1 p13_0 p13_1
  replace b0 := b0.kb k8
  replace b1 := b1.kb k8
  replace p13 := p13.kb k8
  replace kx := kx.trans k8
  clear k8
  have b0_0 := b0.c (i := 0) rfl
  have b0_1 := b0.c (i := 1) rfl
  have b1_0 := b1.c (i := 0) rfl
  have b1_1 := b1.c (i := 1) rfl
  have p13_0 := p13.c (i := 0) rfl
  have p13_1 := p13.c (i := 1) rfl
  go_wp2
  go_ret
  exact ⟨rfl, kx⟩
end Go.Proofs.Ytendjeefggigbaa
