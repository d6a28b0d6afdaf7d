/- The law DimensionJoins returns true. -/
import Derived.Test.YtendjeefggigbaaOl2
import Derived.Test.YtendjeefggigbaaOf4
import Derived.Test.YtendjeefggigbaaOf5
namespace Go.Proofs.Ytendjeefggigbaa
open Go.RowKit

set_option maxRecDepth 100000 in
set_option maxHeartbeats 1000000 in
theorem joins_few (f t : ByteArray) (a l h : Int) (g u : ByteArray) (c m k : Int) (hb : fewB [(f, t, a, l, h), (g, u, c, m, k)] = false) (qa : Ca 11 #[] (.bool true)) (w : World) : Calls Try.prog 6 #[.agg #[.string f, .string t, .int .i64 a, .int .i64 l, .int .i64 h], .agg #[.string g, .string u, .int .i64 c, .int .i64 m, .int .i64 k]] w fun r W' => r = .returned (.bool true) ∧ Kb w W' := by
  have kx := Kb.refl w
  unfold Ca at *
  have b0 := Is.made w #[.string f, .string t, .int .i64 a, .int .i64 l, .int .i64 h] 49
  replace kx := kx.alloc (.cells #[.string f, .string t, .int .i64 a, .int .i64 l, .int .i64 h] 49 (0, 0))
  replace b0 := b0.alloc (.cells #[.string g, .string u, .int .i64 c, .int .i64 m, .int .i64 k] 49 (0, 0))
  have b1 := Is.made (w.alloc (.cells #[.string f, .string t, .int .i64 a, .int .i64 l, .int .i64 h] 49 (0, 0))) #[.string g, .string u, .int .i64 c, .int .i64 m, .int .i64 k] 49
  replace kx := kx.alloc (.cells #[.string g, .string u, .int .i64 c, .int .i64 m, .int .i64 k] 49 (0, 0))
  rw [World.size_alloc] at b1
  have HB := Lib.hid hb
  clear hb
  have b0_0 := b0.c (i := 0) rfl
  have b0_1 := b0.c (i := 1) rfl
  have b0_2 := b0.c (i := 2) rfl
  have b0_3 := b0.c (i := 3) rfl
  have b0_4 := b0.c (i := 4) rfl
  have b1_0 := b1.c (i := 0) rfl
  have b1_1 := b1.c (i := 1) rfl
  have b1_2 := b1.c (i := 2) rfl
  have b1_3 := b1.c (i := 3) rfl
  have b1_4 := b1.c (i := 4) rfl
  have old_b0_0 := b0_0
  have old_b0_1 := b0_1
  have old_b0_2 := b0_2
  have old_b0_3 := b0_3
  have old_b0_4 := b0_4
  have old_b1_0 := b1_0
  have old_b1_1 := b1_1
  have old_b1_2 := b1_2
  have old_b1_3 := b1_3
  have old_b1_4 := b1_4
  replace b0 := b0.alloc (.cells #[.string f, .string t, .int .i64 a, .int .i64 l, .int .i64 h, .string g, .string u, .int .i64 c, .int .i64 m, .int .i64 k] 49 (0, 0))
  replace b1 := b1.alloc (.cells #[.string f, .string t, .int .i64 a, .int .i64 l, .int .i64 h, .string g, .string u, .int .i64 c, .int .i64 m, .int .i64 k] 49 (0, 0))
  have s0 := Is.made ((w.alloc (.cells #[.string f, .string t, .int .i64 a, .int .i64 l, .int .i64 h] 49 (0, 0))).alloc (.cells #[.string g, .string u, .int .i64 c, .int .i64 m, .int .i64 k] 49 (0, 0))) #[.string f, .string t, .int .i64 a, .int .i64 l, .int .i64 h, .string g, .string u, .int .i64 c, .int .i64 m, .int .i64 k] 49
  replace kx := kx.alloc (.cells #[.string f, .string t, .int .i64 a, .int .i64 l, .int .i64 h, .string g, .string u, .int .i64 c, .int .i64 m, .int .i64 k] 49 (0, 0))
  rw [World.size_alloc, World.size_alloc] at s0
  have sl := sl_is (L := []) (k := 5) (n := 2) (rows := [(f, t, a, l, h), (g, u, c, m, k)].map encDim) s0 (by simp) rfl (rows_ok rfl rfl)
  have qf := rFew [(f, t, a, l, h), (g, u, c, m, k)] _ _ sl (by simp)
  rw [HB.out] at qf
  have QF := Lib.hid qf
  clear qf sl
  have b0_0 := b0.c (i := 0) rfl
  have b0_1 := b0.c (i := 1) rfl
  have b0_2 := b0.c (i := 2) rfl
  have b0_3 := b0.c (i := 3) rfl
  have b0_4 := b0.c (i := 4) rfl
  have b1_0 := b1.c (i := 0) rfl
  have b1_1 := b1.c (i := 1) rfl
  have b1_2 := b1.c (i := 2) rfl
  have b1_3 := b1.c (i := 3) rfl
  have b1_4 := b1.c (i := 4) rfl
  have s0_0 := s0.c (i := 0) rfl
  have s0_1 := s0.c (i := 1) rfl
  have s0_2 := s0.c (i := 2) rfl
  have s0_3 := s0.c (i := 3) rfl
  have s0_4 := s0.c (i := 4) rfl
  have s0_5 := s0.c (i := 5) rfl
  have s0_6 := s0.c (i := 6) rfl
  have s0_7 := s0.c (i := 7) rfl
  have s0_8 := s0.c (i := 8) rfl
  have s0_9 := s0.c (i := 9) rfl
  go_enter Try.func6, Try.ntmps6
  go_wp2_with fail
  (with_reducible refine (QF.out).mono ?_)
  rintro r w1 ⟨rfl, k1⟩
  clear b0_0 b0_1 b0_2 b0_3 b0_4 b1_0 b1_1 b1_2 b1_3 b1_4 s0_0 s0_1 s0_2 s0_3 s0_4 s0_5 s0_6 s0_7 s0_8 s0_9
  replace b0 := b0.kb k1
  replace b1 := b1.kb k1
  replace s0 := s0.kb k1
  replace kx := kx.trans k1
  clear k1
  clear old_b0_0 old_b0_1 old_b0_2 old_b0_3 old_b0_4 old_b1_0 old_b1_1 old_b1_2 old_b1_3 old_b1_4
  clear s0
  have b0_0 := b0.c (i := 0) rfl
  have b0_1 := b0.c (i := 1) rfl
  have b0_2 := b0.c (i := 2) rfl
  have b0_3 := b0.c (i := 3) rfl
  have b0_4 := b0.c (i := 4) rfl
  have b1_0 := b1.c (i := 0) rfl
  have b1_1 := b1.c (i := 1) rfl
  have b1_2 := b1.c (i := 2) rfl
  have b1_3 := b1.c (i := 3) rfl
  have b1_4 := b1.c (i := 4) rfl
  go_wp2_with fail
  (with_reducible refine (qa.out _).mono ?_)
  rintro r w2 ⟨rfl, k2⟩
  clear b0_0 b0_1 b0_2 b0_3 b0_4 b1_0 b1_1 b1_2 b1_3 b1_4
  replace b0 := b0.kb k2
  replace b1 := b1.kb k2
  replace kx := kx.trans k2
  clear k2
  have b0_0 := b0.c (i := 0) rfl
  have b0_1 := b0.c (i := 1) rfl
  have b0_2 := b0.c (i := 2) rfl
  have b0_3 := b0.c (i := 3) rfl
  have b0_4 := b0.c (i := 4) rfl
  have b1_0 := b1.c (i := 0) rfl
  have b1_1 := b1.c (i := 1) rfl
  have b1_2 := b1.c (i := 2) rfl
  have b1_3 := b1.c (i := 3) rfl
  have b1_4 := b1.c (i := 4) rfl
  go_wp2
  go_ret
  exact ⟨rfl, kx⟩
set_option maxRecDepth 100000 in
set_option maxHeartbeats 4000000 in
theorem joins_core (f t : ByteArray) (a l h : Int) (g u : ByteArray) (c m k : Int) (x0 x1 y0 y1 : ByteArray) (x2 x3 x4 y2 y3 y4 e1 e2 e3 : Int) (hb : fewB [(f, t, a, l, h), (g, u, c, m, k)] = true) (q1 : Ca 29 #[.agg #[.string f, .string t, .int .i64 a, .int .i64 l, .int .i64 h]] (.tuple #[.agg #[.string x0, .string x1, .int .i64 x2, .int .i64 x3, .int .i64 x4], .int .i64 e1])) (q2 : Ca 30 #[.agg #[.string f, .string t, .int .i64 a, .int .i64 l, .int .i64 h]] (.tuple #[.agg #[.string x0, .string x1, .int .i64 x2, .int .i64 x3, .int .i64 x4], .int .i64 e1])) (q3 : Ca 31 #[.agg #[.string f, .string t, .int .i64 a, .int .i64 l, .int .i64 h], .agg #[.string g, .string u, .int .i64 c, .int .i64 m, .int .i64 k]] (.tuple #[.agg #[.string y0, .string y1, .int .i64 y2, .int .i64 y3, .int .i64 y4], .int .i64 e2])) (q4 : Ca 32 #[.agg #[.string f, .string t, .int .i64 a, .int .i64 l, .int .i64 h], .agg #[.string g, .string u, .int .i64 c, .int .i64 m, .int .i64 k]] (.tuple #[.agg #[.string y0, .string y1, .int .i64 y2, .int .i64 y3, .int .i64 y4], .int .i64 e2])) (q5 : Ca 33 #[.agg #[.string f, .string t, .int .i64 a, .int .i64 l, .int .i64 h]] (.int .i64 e3)) (q6 : Ca 34 #[.agg #[.string f, .string t, .int .i64 a, .int .i64 l, .int .i64 h]] (.int .i64 e3)) (qa : Ca 11 #[] (.bool true)) (w : World) : Calls Try.prog 6 #[.agg #[.string f, .string t, .int .i64 a, .int .i64 l, .int .i64 h], .agg #[.string g, .string u, .int .i64 c, .int .i64 m, .int .i64 k]] w fun r W' => r = .returned (.bool true) ∧ Kb w W' := by
  have kx := Kb.refl w
  unfold Ca at *
  have b0 := Is.made w #[.string f, .string t, .int .i64 a, .int .i64 l, .int .i64 h] 49
  replace kx := kx.alloc (.cells #[.string f, .string t, .int .i64 a, .int .i64 l, .int .i64 h] 49 (0, 0))
  replace b0 := b0.alloc (.cells #[.string g, .string u, .int .i64 c, .int .i64 m, .int .i64 k] 49 (0, 0))
  have b1 := Is.made (w.alloc (.cells #[.string f, .string t, .int .i64 a, .int .i64 l, .int .i64 h] 49 (0, 0))) #[.string g, .string u, .int .i64 c, .int .i64 m, .int .i64 k] 49
  replace kx := kx.alloc (.cells #[.string g, .string u, .int .i64 c, .int .i64 m, .int .i64 k] 49 (0, 0))
  rw [World.size_alloc] at b1
  have HB := Lib.hid hb
  clear hb
  have b0_0 := b0.c (i := 0) rfl
  have b0_1 := b0.c (i := 1) rfl
  have b0_2 := b0.c (i := 2) rfl
  have b0_3 := b0.c (i := 3) rfl
  have b0_4 := b0.c (i := 4) rfl
  have b1_0 := b1.c (i := 0) rfl
  have b1_1 := b1.c (i := 1) rfl
  have b1_2 := b1.c (i := 2) rfl
  have b1_3 := b1.c (i := 3) rfl
  have b1_4 := b1.c (i := 4) rfl
  have old_b0_0 := b0_0
  have old_b0_1 := b0_1
  have old_b0_2 := b0_2
  have old_b0_3 := b0_3
  have old_b0_4 := b0_4
  have old_b1_0 := b1_0
  have old_b1_1 := b1_1
  have old_b1_2 := b1_2
  have old_b1_3 := b1_3
  have old_b1_4 := b1_4
  replace b0 := b0.alloc (.cells #[.string f, .string t, .int .i64 a, .int .i64 l, .int .i64 h, .string g, .string u, .int .i64 c, .int .i64 m, .int .i64 k] 49 (0, 0))
  replace b1 := b1.alloc (.cells #[.string f, .string t, .int .i64 a, .int .i64 l, .int .i64 h, .string g, .string u, .int .i64 c, .int .i64 m, .int .i64 k] 49 (0, 0))
  have s0 := Is.made ((w.alloc (.cells #[.string f, .string t, .int .i64 a, .int .i64 l, .int .i64 h] 49 (0, 0))).alloc (.cells #[.string g, .string u, .int .i64 c, .int .i64 m, .int .i64 k] 49 (0, 0))) #[.string f, .string t, .int .i64 a, .int .i64 l, .int .i64 h, .string g, .string u, .int .i64 c, .int .i64 m, .int .i64 k] 49
  replace kx := kx.alloc (.cells #[.string f, .string t, .int .i64 a, .int .i64 l, .int .i64 h, .string g, .string u, .int .i64 c, .int .i64 m, .int .i64 k] 49 (0, 0))
  rw [World.size_alloc, World.size_alloc] at s0
  have sl := sl_is (L := []) (k := 5) (n := 2) (rows := [(f, t, a, l, h), (g, u, c, m, k)].map encDim) s0 (by simp) rfl (rows_ok rfl rfl)
  have qf := rFew [(f, t, a, l, h), (g, u, c, m, k)] _ _ sl (by simp)
  rw [HB.out] at qf
  have QF := Lib.hid qf
  clear qf sl
  have b0_0 := b0.c (i := 0) rfl
  have b0_1 := b0.c (i := 1) rfl
  have b0_2 := b0.c (i := 2) rfl
  have b0_3 := b0.c (i := 3) rfl
  have b0_4 := b0.c (i := 4) rfl
  have b1_0 := b1.c (i := 0) rfl
  have b1_1 := b1.c (i := 1) rfl
  have b1_2 := b1.c (i := 2) rfl
  have b1_3 := b1.c (i := 3) rfl
  have b1_4 := b1.c (i := 4) rfl
  have s0_0 := s0.c (i := 0) rfl
  have s0_1 := s0.c (i := 1) rfl
  have s0_2 := s0.c (i := 2) rfl
  have s0_3 := s0.c (i := 3) rfl
  have s0_4 := s0.c (i := 4) rfl
  have s0_5 := s0.c (i := 5) rfl
  have s0_6 := s0.c (i := 6) rfl
  have s0_7 := s0.c (i := 7) rfl
  have s0_8 := s0.c (i := 8) rfl
  have s0_9 := s0.c (i := 9) rfl
  go_enter Try.func6, Try.ntmps6
  go_wp2_with fail
  (with_reducible refine (QF.out).mono ?_)
  rintro r w1 ⟨rfl, k1⟩
  clear b0_0 b0_1 b0_2 b0_3 b0_4 b1_0 b1_1 b1_2 b1_3 b1_4 s0_0 s0_1 s0_2 s0_3 s0_4 s0_5 s0_6 s0_7 s0_8 s0_9
  replace b0 := b0.kb k1
  replace b1 := b1.kb k1
  replace s0 := s0.kb k1
  replace kx := kx.trans k1
  clear k1
  clear old_b0_0 old_b0_1 old_b0_2 old_b0_3 old_b0_4 old_b1_0 old_b1_1 old_b1_2 old_b1_3 old_b1_4
  clear s0
  have b0_0 := b0.c (i := 0) rfl
  have b0_1 := b0.c (i := 1) rfl
  have b0_2 := b0.c (i := 2) rfl
  have b0_3 := b0.c (i := 3) rfl
  have b0_4 := b0.c (i := 4) rfl
  have b1_0 := b1.c (i := 0) rfl
  have b1_1 := b1.c (i := 1) rfl
  have b1_2 := b1.c (i := 2) rfl
  have b1_3 := b1.c (i := 3) rfl
  have b1_4 := b1.c (i := 4) rfl
  go_wp2_with fail
  (with_reducible refine (q1.out _).mono ?_)
  rintro r w2 ⟨rfl, k2⟩
  clear b0_0 b0_1 b0_2 b0_3 b0_4 b1_0 b1_1 b1_2 b1_3 b1_4
  replace b0 := b0.kb k2
  replace b1 := b1.kb k2
  replace kx := kx.trans k2
  clear k2
  replace b0 := b0.alloc (.cells #[.string x0, .string x1, .int .i64 x2, .int .i64 x3, .int .i64 x4] 49 (0, 0))
  replace b1 := b1.alloc (.cells #[.string x0, .string x1, .int .i64 x2, .int .i64 x3, .int .i64 x4] 49 (0, 0))
  have p5 := Is.made w2 #[.string x0, .string x1, .int .i64 x2, .int .i64 x3, .int .i64 x4] 49
  replace kx := kx.alloc (.cells #[.string x0, .string x1, .int .i64 x2, .int .i64 x3, .int .i64 x4] 49 (0, 0))
  have b0_0 := b0.c (i := 0) rfl
  have b0_1 := b0.c (i := 1) rfl
  have b0_2 := b0.c (i := 2) rfl
  have b0_3 := b0.c (i := 3) rfl
  have b0_4 := b0.c (i := 4) rfl
  have b1_0 := b1.c (i := 0) rfl
  have b1_1 := b1.c (i := 1) rfl
  have b1_2 := b1.c (i := 2) rfl
  have b1_3 := b1.c (i := 3) rfl
  have b1_4 := b1.c (i := 4) rfl
  have p5_0 := p5.c (i := 0) rfl
  have p5_1 := p5.c (i := 1) rfl
  have p5_2 := p5.c (i := 2) rfl
  have p5_3 := p5.c (i := 3) rfl
  have p5_4 := p5.c (i := 4) rfl
  go_wp2_with fail
  (with_reducible refine (q2.out _).mono ?_)
  rintro r w3 ⟨rfl, k3⟩
  clear b0_0 b0_1 b0_2 b0_3 b0_4 b1_0 b1_1 b1_2 b1_3 b1_4 p5_0 p5_1 p5_2 p5_3 p5_4
  replace b0 := b0.kb k3
  replace b1 := b1.kb k3
  replace p5 := p5.kb k3
  replace kx := kx.trans k3
  clear k3
  replace b0 := b0.alloc (.cells #[.string x0, .string x1, .int .i64 x2, .int .i64 x3, .int .i64 x4] 49 (0, 0))
  replace b1 := b1.alloc (.cells #[.string x0, .string x1, .int .i64 x2, .int .i64 x3, .int .i64 x4] 49 (0, 0))
  replace p5 := p5.alloc (.cells #[.string x0, .string x1, .int .i64 x2, .int .i64 x3, .int .i64 x4] 49 (0, 0))
  have p7 := Is.made w3 #[.string x0, .string x1, .int .i64 x2, .int .i64 x3, .int .i64 x4] 49
  replace kx := kx.alloc (.cells #[.string x0, .string x1, .int .i64 x2, .int .i64 x3, .int .i64 x4] 49 (0, 0))
  have b0_0 := b0.c (i := 0) rfl
  have b0_1 := b0.c (i := 1) rfl
  have b0_2 := b0.c (i := 2) rfl
  have b0_3 := b0.c (i := 3) rfl
  have b0_4 := b0.c (i := 4) rfl
  have b1_0 := b1.c (i := 0) rfl
  have b1_1 := b1.c (i := 1) rfl
  have b1_2 := b1.c (i := 2) rfl
  have b1_3 := b1.c (i := 3) rfl
  have b1_4 := b1.c (i := 4) rfl
  have p5_0 := p5.c (i := 0) rfl
  have p5_1 := p5.c (i := 1) rfl
  have p5_2 := p5.c (i := 2) rfl
  have p5_3 := p5.c (i := 3) rfl
  have p5_4 := p5.c (i := 4) rfl
  have p7_0 := p7.c (i := 0) rfl
  have p7_1 := p7.c (i := 1) rfl
  have p7_2 := p7.c (i := 2) rfl
  have p7_3 := p7.c (i := 3) rfl
  have p7_4 := p7.c (i := 4) rfl
  go_wp2_with fail
  (with_reducible refine (q3.out _).mono ?_)
  rintro r w4 ⟨rfl, k4⟩
  clear b0_0 b0_1 b0_2 b0_3 b0_4 b1_0 b1_1 b1_2 b1_3 b1_4 p5_0 p5_1 p5_2 p5_3 p5_4 p7_0 p7_1 p7_2 p7_3 p7_4
  replace b0 := b0.kb k4
  replace b1 := b1.kb k4
  replace p5 := p5.kb k4
  replace p7 := p7.kb k4
  replace kx := kx.trans k4
  clear k4
  replace b0 := b0.alloc (.cells #[.string y0, .string y1, .int .i64 y2, .int .i64 y3, .int .i64 y4] 49 (0, 0))
  replace b1 := b1.alloc (.cells #[.string y0, .string y1, .int .i64 y2, .int .i64 y3, .int .i64 y4] 49 (0, 0))
  replace p5 := p5.alloc (.cells #[.string y0, .string y1, .int .i64 y2, .int .i64 y3, .int .i64 y4] 49 (0, 0))
  replace p7 := p7.alloc (.cells #[.string y0, .string y1, .int .i64 y2, .int .i64 y3, .int .i64 y4] 49 (0, 0))
  have p9 := Is.made w4 #[.string y0, .string y1, .int .i64 y2, .int .i64 y3, .int .i64 y4] 49
  replace kx := kx.alloc (.cells #[.string y0, .string y1, .int .i64 y2, .int .i64 y3, .int .i64 y4] 49 (0, 0))
  have b0_0 := b0.c (i := 0) rfl
  have b0_1 := b0.c (i := 1) rfl
  have b0_2 := b0.c (i := 2) rfl
  have b0_3 := b0.c (i := 3) rfl
  have b0_4 := b0.c (i := 4) rfl
  have b1_0 := b1.c (i := 0) rfl
  have b1_1 := b1.c (i := 1) rfl
  have b1_2 := b1.c (i := 2) rfl
  have b1_3 := b1.c (i := 3) rfl
  have b1_4 := b1.c (i := 4) rfl
  have p5_0 := p5.c (i := 0) rfl
  have p5_1 := p5.c (i := 1) rfl
  have p5_2 := p5.c (i := 2) rfl
  have p5_3 := p5.c (i := 3) rfl
  have p5_4 := p5.c (i := 4) rfl
  have p7_0 := p7.c (i := 0) rfl
  have p7_1 := p7.c (i := 1) rfl
  have p7_2 := p7.c (i := 2) rfl
  have p7_3 := p7.c (i := 3) rfl
  have p7_4 := p7.c (i := 4) rfl
  have p9_0 := p9.c (i := 0) rfl
  have p9_1 := p9.c (i := 1) rfl
  have p9_2 := p9.c (i := 2) rfl
  have p9_3 := p9.c (i := 3) rfl
  have p9_4 := p9.c (i := 4) rfl
  go_wp2_with fail
  (with_reducible refine (q4.out _).mono ?_)
  rintro r w5 ⟨rfl, k5⟩
  clear b0_0 b0_1 b0_2 b0_3 b0_4 b1_0 b1_1 b1_2 b1_3 b1_4 p5_0 p5_1 p5_2 p5_3 p5_4 p7_0 p7_1 p7_2 p7_3 p7_4 p9_0 p9_1 p9_2 p9_3 p9_4
  replace b0 := b0.kb k5
  replace b1 := b1.kb k5
  replace p5 := p5.kb k5
  replace p7 := p7.kb k5
  replace p9 := p9.kb k5
  replace kx := kx.trans k5
  clear k5
  replace b0 := b0.alloc (.cells #[.string y0, .string y1, .int .i64 y2, .int .i64 y3, .int .i64 y4] 49 (0, 0))
  replace b1 := b1.alloc (.cells #[.string y0, .string y1, .int .i64 y2, .int .i64 y3, .int .i64 y4] 49 (0, 0))
  replace p5 := p5.alloc (.cells #[.string y0, .string y1, .int .i64 y2, .int .i64 y3, .int .i64 y4] 49 (0, 0))
  replace p7 := p7.alloc (.cells #[.string y0, .string y1, .int .i64 y2, .int .i64 y3, .int .i64 y4] 49 (0, 0))
  replace p9 := p9.alloc (.cells #[.string y0, .string y1, .int .i64 y2, .int .i64 y3, .int .i64 y4] 49 (0, 0))
  have p11 := Is.made w5 #[.string y0, .string y1, .int .i64 y2, .int .i64 y3, .int .i64 y4] 49
  replace kx := kx.alloc (.cells #[.string y0, .string y1, .int .i64 y2, .int .i64 y3, .int .i64 y4] 49 (0, 0))
  have b0_0 := b0.c (i := 0) rfl
  have b0_1 := b0.c (i := 1) rfl
  have b0_2 := b0.c (i := 2) rfl
  have b0_3 := b0.c (i := 3) rfl
  have b0_4 := b0.c (i := 4) rfl
  have b1_0 := b1.c (i := 0) rfl
  have b1_1 := b1.c (i := 1) rfl
  have b1_2 := b1.c (i := 2) rfl
  have b1_3 := b1.c (i := 3) rfl
  have b1_4 := b1.c (i := 4) rfl
  have p5_0 := p5.c (i := 0) rfl
  have p5_1 := p5.c (i := 1) rfl
  have p5_2 := p5.c (i := 2) rfl
  have p5_3 := p5.c (i := 3) rfl
  have p5_4 := p5.c (i := 4) rfl
  have p7_0 := p7.c (i := 0) rfl
  have p7_1 := p7.c (i := 1) rfl
  have p7_2 := p7.c (i := 2) rfl
  have p7_3 := p7.c (i := 3) rfl
  have p7_4 := p7.c (i := 4) rfl
  have p9_0 := p9.c (i := 0) rfl
  have p9_1 := p9.c (i := 1) rfl
  have p9_2 := p9.c (i := 2) rfl
  have p9_3 := p9.c (i := 3) rfl
  have p9_4 := p9.c (i := 4) rfl
  have p11_0 := p11.c (i := 0) rfl
  have p11_1 := p11.c (i := 1) rfl
  have p11_2 := p11.c (i := 2) rfl
  have p11_3 := p11.c (i := 3) rfl
  have p11_4 := p11.c (i := 4) rfl
  go_wp2_with fail
  clear b0_0 b0_1 b0_2 b0_3 b0_4 b1_0 b1_1 b1_2 b1_3 b1_4 p5_0 p5_1 p5_2 p5_3 p5_4 p7_0 p7_1 p7_2 p7_3 p7_4 p9_0 p9_1 p9_2 p9_3 p9_4 p11_0 p11_1 p11_2 p11_3 p11_4
  replace b0 := b0.drew
  replace b1 := b1.drew
  replace p5 := p5.drew
  replace p7 := p7.drew
  replace p9 := p9.drew
  replace p11 := p11.drew
  rw [oF_lit]
  refine o_law (⟨69, [some 41, some 42, some 43, some 44, some 45, some 46, some 47, some 48, some 49, some 50, some 51, some 52, some 53, some 54, some 55, some 56, some 57, some 58, some 59, some 60, some 61, some 62, some 63, some 64, some 65, some 66, some 67, some 68, some 4], [41, 42, 43, 44, 45, 46, 47, 48, 49, 50, 51, 52, 53, 54, 55, 56, 57, 58, 59, 60, 61, 62, 63, 64, 65, 66, 67, 68, 4], [[], [0], [1], [2, 1], [1], [4, 1], [3, 5, 1], [1, 6], [7], [8], [8], [9, 10, 8], [8, 11], [12], [13], [13], [14, 15, 13], [13, 16], [17], [18], [18], [19, 20, 18], [18, 21], [22], [23], [23], [24, 25, 23], [23, 26], [27]], [[], [], [2], [], [2], [], [], [], [], [5], [7], [], [], [], [6], [8], [], [], [], [9], [11], [], [], [], [10], [12], [], [], []]⟩ : OT) (Kx []) (RL [fun vv _ => vv = .bool true, fun vv _ => vv = .bool true, fun vv _ => true = true → vv = .agg #[.string f, .string t, .int .i64 a, .int .i64 l, .int .i64 h], fun vv _ => true = true → vv = .int .i64 e3, fun vv _ => true = true → vv = .agg #[.string f, .string t, .int .i64 a, .int .i64 l, .int .i64 h], fun vv _ => true = true → vv = .int .i64 e3, fun vv _ => true = true → vv = .bool true, fun vv _ => vv = .bool true, fun vv _ => vv = .bool true, fun vv _ => true = true → vv = .agg #[.string x0, .string x1, .int .i64 x2, .int .i64 x3, .int .i64 x4], fun vv _ => true = true → vv = .agg #[.string x0, .string x1, .int .i64 x2, .int .i64 x3, .int .i64 x4], fun vv _ => true = true → vv = .bool true, fun vv _ => vv = .bool true, fun vv _ => vv = .bool true, fun vv _ => true = true → vv = .int .i64 e1, fun vv _ => true = true → vv = .int .i64 e1, fun vv _ => true = true → vv = .bool true, fun vv _ => vv = .bool true, fun vv _ => vv = .bool true, fun vv _ => true = true → vv = .agg #[.string y0, .string y1, .int .i64 y2, .int .i64 y3, .int .i64 y4], fun vv _ => true = true → vv = .agg #[.string y0, .string y1, .int .i64 y2, .int .i64 y3, .int .i64 y4], fun vv _ => true = true → vv = .bool true, fun vv _ => vv = .bool true, fun vv _ => vv = .bool true, fun vv _ => true = true → vv = .int .i64 e2, fun vv _ => true = true → vv = .int .i64 e2, fun vv _ => true = true → vv = .bool true, fun vv _ => vv = .bool true, fun vv _ => vv = .bool true]) (by kernel_rfl) ?hk ?hR ?fin
  case hk => kernel_rfl
  case hR =>
    refine ⟨fun _ => (Kx.refl _ _), fun _ _ _ => Kx.trans, rl_stab ⟨fun _ _ _ _ h => h, fun _ _ _ _ h => h, fun _ _ _ _ h => h, fun _ _ _ _ h => h, fun _ _ _ _ h => h, fun _ _ _ _ h => h, fun _ _ _ _ h => h, fun _ _ _ _ h => h, fun _ _ _ _ h => h, fun _ _ _ _ h => h, fun _ _ _ _ h => h, fun _ _ _ _ h => h, fun _ _ _ _ h => h, fun _ _ _ _ h => h, fun _ _ _ _ h => h, fun _ _ _ _ h => h, fun _ _ _ _ h => h, fun _ _ _ _ h => h, fun _ _ _ _ h => h, fun _ _ _ _ h => h, fun _ _ _ _ h => h, fun _ _ _ _ h => h, fun _ _ _ _ h => h, fun _ _ _ _ h => h, fun _ _ _ _ h => h, fun _ _ _ _ h => h, fun _ _ _ _ h => h, fun _ _ _ _ h => h, fun _ _ _ _ h => h, trivial⟩, ?_⟩
    refine allO_cons ?_ (allO_cons ?_ (allO_cons ?_ (allO_cons ?_ (allO_cons ?_ (allO_cons ?_ (allO_cons ?_ (allO_cons ?_ (allO_cons ?_ (allO_cons ?_ (allO_cons ?_ (allO_cons ?_ (allO_cons ?_ (allO_cons ?_ (allO_cons ?_ (allO_cons ?_ (allO_cons ?_ (allO_cons ?_ (allO_cons ?_ (allO_cons ?_ (allO_cons ?_ (allO_cons ?_ (allO_cons ?_ (allO_cons ?_ (allO_cons ?_ (allO_cons ?_ (allO_cons ?_ (allO_cons ?_ (allO_cons ?_ (allO_nil)))))))))))))))))))))))))))))
    · intro T w9 hG hD hO Q
      have e0 : (oF 69 T).eval (.func 11) = .func (.func 11) #[] #[] := rfl
      refine og_none rfl ?_
      refine o_call (oc0 (enters_of Try.func11 (by kernel_rfl) rfl) rfl rfl ) rfl ?_
      exact (qa.out w9).mono fun r W' h => ⟨_, h.1, rfl, h.2.kx⟩
    · intro T w9 hG hD hO Q
      have d0 := hD.1
      have e0 : (oF 69 T).eval (.tmp 41) = .bool true := (oF_eval (by decide)).trans (show T 41 = _ from d0)
      refine og_none rfl ?_
      exact o_val (v := .bool true) (w' := w9) (by generalize (oF 69 T).eval = rr at *; simp [execOp, go_sem, e0]) rfl rfl (Kx.refl _ _)
    · intro T w9 hG hD hO Q
      have d0 := hD.1
      have q0 := hO.1
      have e0 : (oF 69 T).eval (.tmp 2) = .pointer (some ⟨w.heap.size, 0, none⟩) := (oF_eval (by decide)).trans (show T 2 = _ from q0)
      refine og_some (b := true) (c := true) rfl (show T 42 = _ from d0) (fun hc => ?_) (fun hc h => absurd h hc)
      have im := b0.kx hG (by simp)
      have m0 := im.c (i := 0) rfl
      have m1 := im.c (i := 1) rfl
      have m2 := im.c (i := 2) rfl
      have m3 := im.c (i := 3) rfl
      have m4 := im.c (i := 4) rfl
      clear im
      exact o_val (v := .agg #[.string f, .string t, .int .i64 a, .int .i64 l, .int .i64 h]) (w' := w9) (by generalize (oF 69 T).eval = rr at *; simp [execOp, go_sem, e0, m0, m1, m2, m3, m4]) rfl (fun _ => rfl) (Kx.refl _ _)
    · intro T w9 hG hD hO Q
      have d0 := hD.1
      have d1 := hD.2.1
      have e0 : (oF 69 T).eval (.func 33) = .func (.func 33) #[] #[] := rfl
      have G1 : true = true → T 43 = .agg #[.string f, .string t, .int .i64 a, .int .i64 l, .int .i64 h] := d0
      refine og_some (b := true) (c := true) rfl (show T 42 = _ from d1) (fun hc => ?_) (fun hc h => absurd h hc)
      have e1 : (oF 69 T).eval (.tmp 43) = .agg #[.string f, .string t, .int .i64 a, .int .i64 l, .int .i64 h] := (oF_eval (by decide)).trans (G1 hc)
      refine o_call (oc1 (enters_of Try.func33 (by kernel_rfl) rfl) rfl rfl e1) rfl ?_
      exact (q5.out w9).mono fun r W' h => ⟨_, h.1, (fun _ => rfl), h.2.kx⟩
    · intro T w9 hG hD hO Q
      have d0 := hD.1
      have q0 := hO.1
      have e0 : (oF 69 T).eval (.tmp 2) = .pointer (some ⟨w.heap.size, 0, none⟩) := (oF_eval (by decide)).trans (show T 2 = _ from q0)
      refine og_some (b := true) (c := true) rfl (show T 42 = _ from d0) (fun hc => ?_) (fun hc h => absurd h hc)
      have im := b0.kx hG (by simp)
      have m0 := im.c (i := 0) rfl
      have m1 := im.c (i := 1) rfl
      have m2 := im.c (i := 2) rfl
      have m3 := im.c (i := 3) rfl
      have m4 := im.c (i := 4) rfl
      clear im
      exact o_val (v := .agg #[.string f, .string t, .int .i64 a, .int .i64 l, .int .i64 h]) (w' := w9) (by generalize (oF 69 T).eval = rr at *; simp [execOp, go_sem, e0, m0, m1, m2, m3, m4]) rfl (fun _ => rfl) (Kx.refl _ _)
    · intro T w9 hG hD hO Q
      have d0 := hD.1
      have d1 := hD.2.1
      have e0 : (oF 69 T).eval (.func 34) = .func (.func 34) #[] #[] := rfl
      have G1 : true = true → T 45 = .agg #[.string f, .string t, .int .i64 a, .int .i64 l, .int .i64 h] := d0
      refine og_some (b := true) (c := true) rfl (show T 42 = _ from d1) (fun hc => ?_) (fun hc h => absurd h hc)
      have e1 : (oF 69 T).eval (.tmp 45) = .agg #[.string f, .string t, .int .i64 a, .int .i64 l, .int .i64 h] := (oF_eval (by decide)).trans (G1 hc)
      refine o_call (oc1 (enters_of Try.func34 (by kernel_rfl) rfl) rfl rfl e1) rfl ?_
      exact (q6.out w9).mono fun r W' h => ⟨_, h.1, (fun _ => rfl), h.2.kx⟩
    · intro T w9 hG hD hO Q
      have d0 := hD.1
      have d1 := hD.2.1
      have d2 := hD.2.2.1
      have G0 : true = true → T 44 = .int .i64 e3 := d0
      have G1 : true = true → T 46 = .int .i64 e3 := d1
      refine og_some (b := true) (c := true) rfl (show T 42 = _ from d2) (fun hc => ?_) (fun hc h => absurd h hc)
      have e0 : (oF 69 T).eval (.tmp 44) = .int .i64 e3 := (oF_eval (by decide)).trans (G0 hc)
      have e1 : (oF 69 T).eval (.tmp 46) = .int .i64 e3 := (oF_eval (by decide)).trans (G1 hc)
      exact o_val (v := .bool true) (w' := w9) (by generalize (oF 69 T).eval = rr at *; simp [execOp, go_sem, e0, e1]) rfl (fun _ => rfl) (Kx.refl _ _)
    · intro T w9 hG hD hO Q
      have d0 := hD.1
      have d1 := hD.2.1
      have e0 : (oF 69 T).eval (.tmp 42) = .bool true := (oF_eval (by decide)).trans (show T 42 = _ from d0)
      have G1 : true = true → T 47 = .bool true := d1
      have e1 : (oF 69 T).eval (.tmp 47) = T 47 := oF_eval (by decide)
      have e2 : (oF 69 T).eval (.const (.bool false)) = .bool false := rfl
      refine og_none rfl ?_
      rw [G1 rfl] at e1
      exact o_val (v := .bool true) (w' := w9) (by generalize (oF 69 T).eval = rr at *; simp [execOp, go_sem, e0, e1, e2]) rfl rfl (Kx.refl _ _)
    · intro T w9 hG hD hO Q
      have d0 := hD.1
      have e0 : (oF 69 T).eval (.tmp 48) = .bool true := (oF_eval (by decide)).trans (show T 48 = _ from d0)
      refine og_none rfl ?_
      exact o_val (v := .bool true) (w' := w9) (by generalize (oF 69 T).eval = rr at *; simp [execOp, go_sem, e0]) rfl rfl (Kx.refl _ _)
    · intro T w9 hG hD hO Q
      have d0 := hD.1
      have q0 := hO.1
      have e0 : (oF 69 T).eval (.tmp 5) = .pointer (some ⟨w2.heap.size, 0, none⟩) := (oF_eval (by decide)).trans (show T 5 = _ from q0)
      refine og_some (b := true) (c := true) rfl (show T 49 = _ from d0) (fun hc => ?_) (fun hc h => absurd h hc)
      have im := p5.kx hG (by simp)
      have m0 := im.c (i := 0) rfl
      have m1 := im.c (i := 1) rfl
      have m2 := im.c (i := 2) rfl
      have m3 := im.c (i := 3) rfl
      have m4 := im.c (i := 4) rfl
      clear im
      exact o_val (v := .agg #[.string x0, .string x1, .int .i64 x2, .int .i64 x3, .int .i64 x4]) (w' := w9) (by generalize (oF 69 T).eval = rr at *; simp [execOp, go_sem, e0, m0, m1, m2, m3, m4]) rfl (fun _ => rfl) (Kx.refl _ _)
    · intro T w9 hG hD hO Q
      have d0 := hD.1
      have q0 := hO.1
      have e0 : (oF 69 T).eval (.tmp 7) = .pointer (some ⟨w3.heap.size, 0, none⟩) := (oF_eval (by decide)).trans (show T 7 = _ from q0)
      refine og_some (b := true) (c := true) rfl (show T 49 = _ from d0) (fun hc => ?_) (fun hc h => absurd h hc)
      have im := p7.kx hG (by simp)
      have m0 := im.c (i := 0) rfl
      have m1 := im.c (i := 1) rfl
      have m2 := im.c (i := 2) rfl
      have m3 := im.c (i := 3) rfl
      have m4 := im.c (i := 4) rfl
      clear im
      exact o_val (v := .agg #[.string x0, .string x1, .int .i64 x2, .int .i64 x3, .int .i64 x4]) (w' := w9) (by generalize (oF 69 T).eval = rr at *; simp [execOp, go_sem, e0, m0, m1, m2, m3, m4]) rfl (fun _ => rfl) (Kx.refl _ _)
    · intro T w9 hG hD hO Q
      have d0 := hD.1
      have d1 := hD.2.1
      have d2 := hD.2.2.1
      have G0 : true = true → T 50 = .agg #[.string x0, .string x1, .int .i64 x2, .int .i64 x3, .int .i64 x4] := d0
      have G1 : true = true → T 51 = .agg #[.string x0, .string x1, .int .i64 x2, .int .i64 x3, .int .i64 x4] := d1
      refine og_some (b := true) (c := true) rfl (show T 49 = _ from d2) (fun hc => ?_) (fun hc h => absurd h hc)
      have e0 : (oF 69 T).eval (.tmp 50) = .agg #[.string x0, .string x1, .int .i64 x2, .int .i64 x3, .int .i64 x4] := (oF_eval (by decide)).trans (G0 hc)
      have e1 : (oF 69 T).eval (.tmp 51) = .agg #[.string x0, .string x1, .int .i64 x2, .int .i64 x3, .int .i64 x4] := (oF_eval (by decide)).trans (G1 hc)
      exact o_val (v := .bool true) (w' := w9) (by generalize (oF 69 T).eval = rr at *; simp [execOp, go_sem, e0, e1]) rfl (fun _ => rfl) (Kx.refl _ _)
    · intro T w9 hG hD hO Q
      have d0 := hD.1
      have d1 := hD.2.1
      have e0 : (oF 69 T).eval (.tmp 49) = .bool true := (oF_eval (by decide)).trans (show T 49 = _ from d0)
      have G1 : true = true → T 52 = .bool true := d1
      have e1 : (oF 69 T).eval (.tmp 52) = T 52 := oF_eval (by decide)
      have e2 : (oF 69 T).eval (.const (.bool false)) = .bool false := rfl
      refine og_none rfl ?_
      rw [G1 rfl] at e1
      exact o_val (v := .bool true) (w' := w9) (by generalize (oF 69 T).eval = rr at *; simp [execOp, go_sem, e0, e1, e2]) rfl rfl (Kx.refl _ _)
    · intro T w9 hG hD hO Q
      have d0 := hD.1
      have e0 : (oF 69 T).eval (.tmp 53) = .bool true := (oF_eval (by decide)).trans (show T 53 = _ from d0)
      refine og_none rfl ?_
      exact o_val (v := .bool true) (w' := w9) (by generalize (oF 69 T).eval = rr at *; simp [execOp, go_sem, e0]) rfl rfl (Kx.refl _ _)
    · intro T w9 hG hD hO Q
      have d0 := hD.1
      have q0 := hO.1
      have e0 : (oF 69 T).eval (.tmp 6) = .int .i64 e1 := (oF_eval (by decide)).trans (show T 6 = _ from q0)
      refine og_some (b := true) (c := true) rfl (show T 54 = _ from d0) (fun hc => ?_) (fun hc h => absurd h hc)
      exact o_val (v := .int .i64 e1) (w' := w9) (by generalize (oF 69 T).eval = rr at *; simp [execOp, go_sem, e0]) rfl (fun _ => rfl) (Kx.refl _ _)
    · intro T w9 hG hD hO Q
      have d0 := hD.1
      have q0 := hO.1
      have e0 : (oF 69 T).eval (.tmp 8) = .int .i64 e1 := (oF_eval (by decide)).trans (show T 8 = _ from q0)
      refine og_some (b := true) (c := true) rfl (show T 54 = _ from d0) (fun hc => ?_) (fun hc h => absurd h hc)
      exact o_val (v := .int .i64 e1) (w' := w9) (by generalize (oF 69 T).eval = rr at *; simp [execOp, go_sem, e0]) rfl (fun _ => rfl) (Kx.refl _ _)
    · intro T w9 hG hD hO Q
      have d0 := hD.1
      have d1 := hD.2.1
      have d2 := hD.2.2.1
      have G0 : true = true → T 55 = .int .i64 e1 := d0
      have G1 : true = true → T 56 = .int .i64 e1 := d1
      refine og_some (b := true) (c := true) rfl (show T 54 = _ from d2) (fun hc => ?_) (fun hc h => absurd h hc)
      have e0 : (oF 69 T).eval (.tmp 55) = .int .i64 e1 := (oF_eval (by decide)).trans (G0 hc)
      have e1 : (oF 69 T).eval (.tmp 56) = .int .i64 e1 := (oF_eval (by decide)).trans (G1 hc)
      exact o_val (v := .bool true) (w' := w9) (by generalize (oF 69 T).eval = rr at *; simp [execOp, go_sem, e0, e1]) rfl (fun _ => rfl) (Kx.refl _ _)
    · intro T w9 hG hD hO Q
      have d0 := hD.1
      have d1 := hD.2.1
      have e0 : (oF 69 T).eval (.tmp 54) = .bool true := (oF_eval (by decide)).trans (show T 54 = _ from d0)
      have G1 : true = true → T 57 = .bool true := d1
      have e1 : (oF 69 T).eval (.tmp 57) = T 57 := oF_eval (by decide)
      have e2 : (oF 69 T).eval (.const (.bool false)) = .bool false := rfl
      refine og_none rfl ?_
      rw [G1 rfl] at e1
      exact o_val (v := .bool true) (w' := w9) (by generalize (oF 69 T).eval = rr at *; simp [execOp, go_sem, e0, e1, e2]) rfl rfl (Kx.refl _ _)
    · intro T w9 hG hD hO Q
      have d0 := hD.1
      have e0 : (oF 69 T).eval (.tmp 58) = .bool true := (oF_eval (by decide)).trans (show T 58 = _ from d0)
      refine og_none rfl ?_
      exact o_val (v := .bool true) (w' := w9) (by generalize (oF 69 T).eval = rr at *; simp [execOp, go_sem, e0]) rfl rfl (Kx.refl _ _)
    · intro T w9 hG hD hO Q
      have d0 := hD.1
      have q0 := hO.1
      have e0 : (oF 69 T).eval (.tmp 9) = .pointer (some ⟨w4.heap.size, 0, none⟩) := (oF_eval (by decide)).trans (show T 9 = _ from q0)
      refine og_some (b := true) (c := true) rfl (show T 59 = _ from d0) (fun hc => ?_) (fun hc h => absurd h hc)
      have im := p9.kx hG (by simp)
      have m0 := im.c (i := 0) rfl
      have m1 := im.c (i := 1) rfl
      have m2 := im.c (i := 2) rfl
      have m3 := im.c (i := 3) rfl
      have m4 := im.c (i := 4) rfl
      clear im
      exact o_val (v := .agg #[.string y0, .string y1, .int .i64 y2, .int .i64 y3, .int .i64 y4]) (w' := w9) (by generalize (oF 69 T).eval = rr at *; simp [execOp, go_sem, e0, m0, m1, m2, m3, m4]) rfl (fun _ => rfl) (Kx.refl _ _)
    · intro T w9 hG hD hO Q
      have d0 := hD.1
      have q0 := hO.1
      have e0 : (oF 69 T).eval (.tmp 11) = .pointer (some ⟨w5.heap.size, 0, none⟩) := (oF_eval (by decide)).trans (show T 11 = _ from q0)
      refine og_some (b := true) (c := true) rfl (show T 59 = _ from d0) (fun hc => ?_) (fun hc h => absurd h hc)
      have im := p11.kx hG (by simp)
      have m0 := im.c (i := 0) rfl
      have m1 := im.c (i := 1) rfl
      have m2 := im.c (i := 2) rfl
      have m3 := im.c (i := 3) rfl
      have m4 := im.c (i := 4) rfl
      clear im
      exact o_val (v := .agg #[.string y0, .string y1, .int .i64 y2, .int .i64 y3, .int .i64 y4]) (w' := w9) (by generalize (oF 69 T).eval = rr at *; simp [execOp, go_sem, e0, m0, m1, m2, m3, m4]) rfl (fun _ => rfl) (Kx.refl _ _)
    · intro T w9 hG hD hO Q
      have d0 := hD.1
      have d1 := hD.2.1
      have d2 := hD.2.2.1
      have G0 : true = true → T 60 = .agg #[.string y0, .string y1, .int .i64 y2, .int .i64 y3, .int .i64 y4] := d0
      have G1 : true = true → T 61 = .agg #[.string y0, .string y1, .int .i64 y2, .int .i64 y3, .int .i64 y4] := d1
      refine og_some (b := true) (c := true) rfl (show T 59 = _ from d2) (fun hc => ?_) (fun hc h => absurd h hc)
      have e0 : (oF 69 T).eval (.tmp 60) = .agg #[.string y0, .string y1, .int .i64 y2, .int .i64 y3, .int .i64 y4] := (oF_eval (by decide)).trans (G0 hc)
      have e1 : (oF 69 T).eval (.tmp 61) = .agg #[.string y0, .string y1, .int .i64 y2, .int .i64 y3, .int .i64 y4] := (oF_eval (by decide)).trans (G1 hc)
      exact o_val (v := .bool true) (w' := w9) (by generalize (oF 69 T).eval = rr at *; simp [execOp, go_sem, e0, e1]) rfl (fun _ => rfl) (Kx.refl _ _)
    · intro T w9 hG hD hO Q
      have d0 := hD.1
      have d1 := hD.2.1
      have e0 : (oF 69 T).eval (.tmp 59) = .bool true := (oF_eval (by decide)).trans (show T 59 = _ from d0)
      have G1 : true = true → T 62 = .bool true := d1
      have e1 : (oF 69 T).eval (.tmp 62) = T 62 := oF_eval (by decide)
      have e2 : (oF 69 T).eval (.const (.bool false)) = .bool false := rfl
      refine og_none rfl ?_
      rw [G1 rfl] at e1
      exact o_val (v := .bool true) (w' := w9) (by generalize (oF 69 T).eval = rr at *; simp [execOp, go_sem, e0, e1, e2]) rfl rfl (Kx.refl _ _)
    · intro T w9 hG hD hO Q
      have d0 := hD.1
      have e0 : (oF 69 T).eval (.tmp 63) = .bool true := (oF_eval (by decide)).trans (show T 63 = _ from d0)
      refine og_none rfl ?_
      exact o_val (v := .bool true) (w' := w9) (by generalize (oF 69 T).eval = rr at *; simp [execOp, go_sem, e0]) rfl rfl (Kx.refl _ _)
    · intro T w9 hG hD hO Q
      have d0 := hD.1
      have q0 := hO.1
      have e0 : (oF 69 T).eval (.tmp 10) = .int .i64 e2 := (oF_eval (by decide)).trans (show T 10 = _ from q0)
      refine og_some (b := true) (c := true) rfl (show T 64 = _ from d0) (fun hc => ?_) (fun hc h => absurd h hc)
      exact o_val (v := .int .i64 e2) (w' := w9) (by generalize (oF 69 T).eval = rr at *; simp [execOp, go_sem, e0]) rfl (fun _ => rfl) (Kx.refl _ _)
    · intro T w9 hG hD hO Q
      have d0 := hD.1
      have q0 := hO.1
      have e0 : (oF 69 T).eval (.tmp 12) = .int .i64 e2 := (oF_eval (by decide)).trans (show T 12 = _ from q0)
      refine og_some (b := true) (c := true) rfl (show T 64 = _ from d0) (fun hc => ?_) (fun hc h => absurd h hc)
      exact o_val (v := .int .i64 e2) (w' := w9) (by generalize (oF 69 T).eval = rr at *; simp [execOp, go_sem, e0]) rfl (fun _ => rfl) (Kx.refl _ _)
    · intro T w9 hG hD hO Q
      have d0 := hD.1
      have d1 := hD.2.1
      have d2 := hD.2.2.1
      have G0 : true = true → T 65 = .int .i64 e2 := d0
      have G1 : true = true → T 66 = .int .i64 e2 := d1
      refine og_some (b := true) (c := true) rfl (show T 64 = _ from d2) (fun hc => ?_) (fun hc h => absurd h hc)
      have e0 : (oF 69 T).eval (.tmp 65) = .int .i64 e2 := (oF_eval (by decide)).trans (G0 hc)
      have e1 : (oF 69 T).eval (.tmp 66) = .int .i64 e2 := (oF_eval (by decide)).trans (G1 hc)
      exact o_val (v := .bool true) (w' := w9) (by generalize (oF 69 T).eval = rr at *; simp [execOp, go_sem, e0, e1]) rfl (fun _ => rfl) (Kx.refl _ _)
    · intro T w9 hG hD hO Q
      have d0 := hD.1
      have d1 := hD.2.1
      have e0 : (oF 69 T).eval (.tmp 64) = .bool true := (oF_eval (by decide)).trans (show T 64 = _ from d0)
      have G1 : true = true → T 67 = .bool true := d1
      have e1 : (oF 69 T).eval (.tmp 67) = T 67 := oF_eval (by decide)
      have e2 : (oF 69 T).eval (.const (.bool false)) = .bool false := rfl
      refine og_none rfl ?_
      rw [G1 rfl] at e1
      exact o_val (v := .bool true) (w' := w9) (by generalize (oF 69 T).eval = rr at *; simp [execOp, go_sem, e0, e1, e2]) rfl rfl (Kx.refl _ _)
    · intro T w9 hG hD hO Q
      have d0 := hD.1
      have e0 : (oF 69 T).eval (.tmp 68) = .bool true := (oF_eval (by decide)).trans (show T 68 = _ from d0)
      refine og_none rfl ?_
      exact o_val (v := .bool true) (w' := w9) (by generalize (oF 69 T).eval = rr at *; simp [execOp, go_sem, e0]) rfl rfl (Kx.refl _ _)
  case fin =>
    intro T w6 hout hval hG
    rw [show oF 69 T = (⟨#[T 0, T 1, T 2, T 3, T 4, T 5, T 6, T 7, T 8, T 9, T 10, T 11, T 12, T 13, T 14, T 15, T 16, T 17, T 18, T 19, T 20, T 21, T 22, T 23, T 24, T 25, T 26, T 27, T 28, T 29, T 30, T 31, T 32, T 33, T 34, T 35, T 36, T 37, T 38, T 39, T 40, T 41, T 42, T 43, T 44, T 45, T 46, T 47, T 48, T 49, T 50, T 51, T 52, T 53, T 54, T 55, T 56, T 57, T 58, T 59, T 60, T 61, T 62, T 63, T 64, T 65, T 66, T 67, T 68], []⟩ : Act) from oF_list 69 T]
    rw [show T 4 = .bool true from hval 28 (by decide : 28 < 29)]
    replace b0 := b0.kx hG (by simp)
    replace b1 := b1.kx hG (by simp)
    replace p5 := p5.kx hG (by simp)
    replace p7 := p7.kx hG (by simp)
    replace p9 := p9.kx hG (by simp)
    replace p11 := p11.kx hG (by simp)
    replace kx := (show Kb _ _ from kx.drew).trans hG.nil
    clear hout hval hG
    have b0_0 := b0.c (i := 0) rfl
    have b0_1 := b0.c (i := 1) rfl
    have b0_2 := b0.c (i := 2) rfl
    have b0_3 := b0.c (i := 3) rfl
    have b0_4 := b0.c (i := 4) rfl
    have b1_0 := b1.c (i := 0) rfl
    have b1_1 := b1.c (i := 1) rfl
    have b1_2 := b1.c (i := 2) rfl
    have b1_3 := b1.c (i := 3) rfl
    have b1_4 := b1.c (i := 4) rfl
    have p5_0 := p5.c (i := 0) rfl
    have p5_1 := p5.c (i := 1) rfl
    have p5_2 := p5.c (i := 2) rfl
    have p5_3 := p5.c (i := 3) rfl
    have p5_4 := p5.c (i := 4) rfl
    have p7_0 := p7.c (i := 0) rfl
    have p7_1 := p7.c (i := 1) rfl
    have p7_2 := p7.c (i := 2) rfl
    have p7_3 := p7.c (i := 3) rfl
    have p7_4 := p7.c (i := 4) rfl
    have p9_0 := p9.c (i := 0) rfl
    have p9_1 := p9.c (i := 1) rfl
    have p9_2 := p9.c (i := 2) rfl
    have p9_3 := p9.c (i := 3) rfl
    have p9_4 := p9.c (i := 4) rfl
    have p11_0 := p11.c (i := 0) rfl
    have p11_1 := p11.c (i := 1) rfl
    have p11_2 := p11.c (i := 2) rfl
    have p11_3 := p11.c (i := 3) rfl
    have p11_4 := p11.c (i := 4) rfl
    go_wp2
    go_ret
    exact ⟨rfl, kx⟩
theorem few2 {f t : ByteArray} {a l h : Int} {g u : ByteArray} {c m k : Int} (hb : fewB [(f, t, a, l, h), (g, u, c, m, k)] = true) : (f.size ≤ 1000000 ∧ t.size ≤ 1000000) ∧ g.size ≤ 1000000 ∧ u.size ≤ 1000000 := by
  unfold fewB fewD at hb
  simp at hb
  omega
theorem joins_true (f t : ByteArray) (a l h : Int) (g u : ByteArray) (c m k : Int) (w : World) : Lw 6 #[.agg #[.string f, .string t, .int .i64 a, .int .i64 l, .int .i64 h], .agg #[.string g, .string u, .int .i64 c, .int .i64 m, .int .i64 k]] w := by
  rcases Bool.eq_false_or_eq_true (fewB [(f, t, a, l, h), (g, u, c, m, k)]) with hb | hb
  · obtain ⟨⟨s1, s2⟩, s3, s4⟩ := few2 hb
    exact joins_core f t a l h g u c m k _ _ _ _ _ _ _ _ _ _ _ _ _ hb (dReverse f t a l h s1 s2) (rReverse f t a l h s1 s2) (dJoin f t a l h s1 s2 g u c m k s3 s4) (rJoin f t a l h s1 s2 g u c m k s3 s4) (dValid f t a l h s1 s2) (rValid f t a l h s1 s2) dawake w
  · exact joins_few f t a l h g u c m k hb dawake w
end Go.Proofs.Ytendjeefggigbaa
