/- The reference of package dimension: Meet; the contracts of the package itself in the same words. -/
import Derived.Test.YtendjeefggigbaaOf1
namespace Go.Proofs.Ytendjeefggigbaa
open Go.RowKit

set_option maxRecDepth 100000 in
set_option maxHeartbeats 1000000 in
theorem rMeet_e (l h m k : Int) (e : Int) (he : (e != 0) = true) (q1 : Ca 50 #[.agg #[.int .i64 l, .int .i64 h], .agg #[.int .i64 m, .int .i64 k]] (.int .i64 e)) (w : World) : Calls Try.prog 25 #[.agg #[.int .i64 l, .int .i64 h], .agg #[.int .i64 m, .int .i64 k]] w fun r W' => r = .returned (.tuple #[.agg #[.int .i64 0, .int .i64 0], .int .i64 e]) ∧ Kb w W' := by
  have kx := Kb.refl w
  unfold Ca at *
  have b0 := Is.made w #[.int .i64 l, .int .i64 h] 23
  replace kx := kx.alloc (.cells #[.int .i64 l, .int .i64 h] 23 (0, 0))
  replace b0 := b0.alloc (.cells #[.int .i64 m, .int .i64 k] 23 (0, 0))
  have b1 := Is.made (w.alloc (.cells #[.int .i64 l, .int .i64 h] 23 (0, 0))) #[.int .i64 m, .int .i64 k] 23
  replace kx := kx.alloc (.cells #[.int .i64 m, .int .i64 k] 23 (0, 0))
  replace b0 := b0.alloc (.cells #[.int .i64 0, .int .i64 0] 23 (0, 0))
  replace b1 := b1.alloc (.cells #[.int .i64 0, .int .i64 0] 23 (0, 0))
  have b2 := Is.made ((w.alloc (.cells #[.int .i64 l, .int .i64 h] 23 (0, 0))).alloc (.cells #[.int .i64 m, .int .i64 k] 23 (0, 0))) #[.int .i64 0, .int .i64 0] 23
  replace kx := kx.alloc (.cells #[.int .i64 0, .int .i64 0] 23 (0, 0))
  rw [World.size_alloc] at b1
  rw [World.size_alloc, World.size_alloc] at b2
  have b0_0 := b0.c (i := 0) rfl
  have b0_1 := b0.c (i := 1) rfl
  have b1_0 := b1.c (i := 0) rfl
  have b1_1 := b1.c (i := 1) rfl
  have b2_0 := b2.c (i := 0) rfl
  have b2_1 := b2.c (i := 1) rfl
  go_enter Try.func25, Try.ntmps25
  go_wp2_with fail
  (with_reducible refine (q1.out _).mono ?_)
  rintro r w1 ⟨rfl, k1⟩
  clear b0_0 b0_1 b1_0 b1_1 b2_0 b2_1
  replace b0 := b0.kb k1
  replace b1 := b1.kb k1
  replace b2 := b2.kb k1
  replace kx := kx.trans k1
  clear k1
  obtain ⟨zn, pt⟩ := put2 b2 (.int .i64 0) (.int .i64 0)
  have kz := pt.kb kx (by omega)
  have b0_0 := b0.c (i := 0) rfl
  have b0_1 := b0.c (i := 1) rfl
  have b1_0 := b1.c (i := 0) rfl
  have b1_1 := b1.c (i := 1) rfl
  have b2_0 := b2.c (i := 0) rfl
  have b2_1 := b2.c (i := 1) rfl
  have b2_ff := b2.f
  have b2_f0 := b2_ff 0
  have b2_f1 := b2_ff 1
  clear b2_ff
  clear b0 b1 b2 kx pt
  go_wp2
  refine ret_row2 Try.results25 rfl rfl rfl zn Try.underlying23 rfl (by kernel_rfl) ?_
  exact ⟨rfl, kz⟩
set_option maxRecDepth 100000 in
set_option maxHeartbeats 1000000 in
theorem rMeet_ax (l h m k : Int) (h1 : l < m) (h2 : k < h) (ho : k < m) (q1 : Ca 50 #[.agg #[.int .i64 l, .int .i64 h], .agg #[.int .i64 m, .int .i64 k]] (.int .i64 0)) (w : World) : Calls Try.prog 25 #[.agg #[.int .i64 l, .int .i64 h], .agg #[.int .i64 m, .int .i64 k]] w fun r W' => r = .returned (.tuple #[.agg #[.int .i64 0, .int .i64 0], .int .i64 16]) ∧ Kb w W' := by
  have kx := Kb.refl w
  unfold Ca at *
  have b0 := Is.made w #[.int .i64 l, .int .i64 h] 23
  replace kx := kx.alloc (.cells #[.int .i64 l, .int .i64 h] 23 (0, 0))
  replace b0 := b0.alloc (.cells #[.int .i64 m, .int .i64 k] 23 (0, 0))
  have b1 := Is.made (w.alloc (.cells #[.int .i64 l, .int .i64 h] 23 (0, 0))) #[.int .i64 m, .int .i64 k] 23
  replace kx := kx.alloc (.cells #[.int .i64 m, .int .i64 k] 23 (0, 0))
  replace b0 := b0.alloc (.cells #[.int .i64 0, .int .i64 0] 23 (0, 0))
  replace b1 := b1.alloc (.cells #[.int .i64 0, .int .i64 0] 23 (0, 0))
  have b2 := Is.made ((w.alloc (.cells #[.int .i64 l, .int .i64 h] 23 (0, 0))).alloc (.cells #[.int .i64 m, .int .i64 k] 23 (0, 0))) #[.int .i64 0, .int .i64 0] 23
  replace kx := kx.alloc (.cells #[.int .i64 0, .int .i64 0] 23 (0, 0))
  rw [World.size_alloc] at b1
  rw [World.size_alloc, World.size_alloc] at b2
  have b0_0 := b0.c (i := 0) rfl
  have b0_1 := b0.c (i := 1) rfl
  have b1_0 := b1.c (i := 0) rfl
  have b1_1 := b1.c (i := 1) rfl
  have b2_0 := b2.c (i := 0) rfl
  have b2_1 := b2.c (i := 1) rfl
  go_enter Try.func25, Try.ntmps25
  go_wp2_with fail
  (with_reducible refine (q1.out _).mono ?_)
  rintro r w1 ⟨rfl, k1⟩
  clear b0_0 b0_1 b1_0 b1_1 b2_0 b2_1
  replace b0 := b0.kb k1
  replace b1 := b1.kb k1
  replace b2 := b2.kb k1
  replace kx := kx.trans k1
  clear k1
  have b0_0 := b0.c (i := 0) rfl
  have b0_1 := b0.c (i := 1) rfl
  have b1_0 := b1.c (i := 0) rfl
  have b1_1 := b1.c (i := 1) rfl
  have b2_0 := b2.c (i := 0) rfl
  have b2_1 := b2.c (i := 1) rfl
  have zz : True := trivial
  have old_b0_0 := b0_0
  have old_b0_1 := b0_1
  have old_b1_0 := b1_0
  have old_b1_1 := b1_1
  have old_b2_0 := b2_0
  have old_b2_1 := b2_1
  replace b0 := b0.alloc (.cells #[.int .i64 m, .int .i64 k] 23 (0, 0))
  replace b1 := b1.alloc (.cells #[.int .i64 m, .int .i64 k] 23 (0, 0))
  replace b2 := b2.alloc (.cells #[.int .i64 m, .int .i64 k] 23 (0, 0))
  have b3 := Is.made w1 #[.int .i64 m, .int .i64 k] 23
  replace kx := kx.alloc (.cells #[.int .i64 m, .int .i64 k] 23 (0, 0))
  obtain ⟨zn, pt⟩ := put2 b2 (.int .i64 0) (.int .i64 0)
  have kz := pt.kb kx (by omega)
  have b0_0 := b0.c (i := 0) rfl
  have b0_1 := b0.c (i := 1) rfl
  have b1_0 := b1.c (i := 0) rfl
  have b1_1 := b1.c (i := 1) rfl
  have b2_0 := b2.c (i := 0) rfl
  have b2_1 := b2.c (i := 1) rfl
  have b2_ff := b2.f
  have b2_f0 := b2_ff 0
  have b2_f1 := b2_ff 1
  clear b2_ff
  have b3_0 := b3.c (i := 0) rfl
  have b3_1 := b3.c (i := 1) rfl
  clear b0 b1 b2 b3 kx pt
  go_wp2
  refine ret_row2 Try.results25 rfl rfl rfl zn Try.underlying23 rfl (by kernel_rfl) ?_
  exact ⟨rfl, kz⟩
set_option maxRecDepth 100000 in
set_option maxHeartbeats 1000000 in
theorem rMeet_ao (l h m k : Int) (h1 : l < m) (h2 : k < h) (ho : ¬ k < m) (q1 : Ca 50 #[.agg #[.int .i64 l, .int .i64 h], .agg #[.int .i64 m, .int .i64 k]] (.int .i64 0)) (w : World) : Calls Try.prog 25 #[.agg #[.int .i64 l, .int .i64 h], .agg #[.int .i64 m, .int .i64 k]] w fun r W' => r = .returned (.tuple #[.agg #[.int .i64 m, .int .i64 k], .int .i64 0]) ∧ Kb w W' := by
  have kx := Kb.refl w
  unfold Ca at *
  have b0 := Is.made w #[.int .i64 l, .int .i64 h] 23
  replace kx := kx.alloc (.cells #[.int .i64 l, .int .i64 h] 23 (0, 0))
  replace b0 := b0.alloc (.cells #[.int .i64 m, .int .i64 k] 23 (0, 0))
  have b1 := Is.made (w.alloc (.cells #[.int .i64 l, .int .i64 h] 23 (0, 0))) #[.int .i64 m, .int .i64 k] 23
  replace kx := kx.alloc (.cells #[.int .i64 m, .int .i64 k] 23 (0, 0))
  replace b0 := b0.alloc (.cells #[.int .i64 0, .int .i64 0] 23 (0, 0))
  replace b1 := b1.alloc (.cells #[.int .i64 0, .int .i64 0] 23 (0, 0))
  have b2 := Is.made ((w.alloc (.cells #[.int .i64 l, .int .i64 h] 23 (0, 0))).alloc (.cells #[.int .i64 m, .int .i64 k] 23 (0, 0))) #[.int .i64 0, .int .i64 0] 23
  replace kx := kx.alloc (.cells #[.int .i64 0, .int .i64 0] 23 (0, 0))
  rw [World.size_alloc] at b1
  rw [World.size_alloc, World.size_alloc] at b2
  have b0_0 := b0.c (i := 0) rfl
  have b0_1 := b0.c (i := 1) rfl
  have b1_0 := b1.c (i := 0) rfl
  have b1_1 := b1.c (i := 1) rfl
  have b2_0 := b2.c (i := 0) rfl
  have b2_1 := b2.c (i := 1) rfl
  go_enter Try.func25, Try.ntmps25
  go_wp2_with fail
  (with_reducible refine (q1.out _).mono ?_)
  rintro r w1 ⟨rfl, k1⟩
  clear b0_0 b0_1 b1_0 b1_1 b2_0 b2_1
  replace b0 := b0.kb k1
  replace b1 := b1.kb k1
  replace b2 := b2.kb k1
  replace kx := kx.trans k1
  clear k1
  have b0_0 := b0.c (i := 0) rfl
  have b0_1 := b0.c (i := 1) rfl
  have b1_0 := b1.c (i := 0) rfl
  have b1_1 := b1.c (i := 1) rfl
  have b2_0 := b2.c (i := 0) rfl
  have b2_1 := b2.c (i := 1) rfl
  have zz : True := trivial
  have old_b0_0 := b0_0
  have old_b0_1 := b0_1
  have old_b1_0 := b1_0
  have old_b1_1 := b1_1
  have old_b2_0 := b2_0
  have old_b2_1 := b2_1
  replace b0 := b0.alloc (.cells #[.int .i64 m, .int .i64 k] 23 (0, 0))
  replace b1 := b1.alloc (.cells #[.int .i64 m, .int .i64 k] 23 (0, 0))
  replace b2 := b2.alloc (.cells #[.int .i64 m, .int .i64 k] 23 (0, 0))
  have b3 := Is.made w1 #[.int .i64 m, .int .i64 k] 23
  replace kx := kx.alloc (.cells #[.int .i64 m, .int .i64 k] 23 (0, 0))
  obtain ⟨zn, pt⟩ := put2 b2 (.int .i64 m) (.int .i64 k)
  have kz := pt.kb kx (by omega)
  have b0_0 := b0.c (i := 0) rfl
  have b0_1 := b0.c (i := 1) rfl
  have b1_0 := b1.c (i := 0) rfl
  have b1_1 := b1.c (i := 1) rfl
  have b2_0 := b2.c (i := 0) rfl
  have b2_1 := b2.c (i := 1) rfl
  have b2_ff := b2.f
  have b2_f0 := b2_ff 0
  have b2_f1 := b2_ff 1
  clear b2_ff
  have b3_0 := b3.c (i := 0) rfl
  have b3_1 := b3.c (i := 1) rfl
  clear b0 b1 b2 b3 kx pt
  go_wp2
  refine ret_row2 Try.results25 rfl rfl rfl zn Try.underlying23 rfl (by kernel_rfl) ?_
  exact ⟨rfl, kz⟩
set_option maxRecDepth 100000 in
set_option maxHeartbeats 1000000 in
theorem rMeet_bx (l h m k : Int) (h1 : l < m) (h2 : ¬ k < h) (ho : h < m) (q1 : Ca 50 #[.agg #[.int .i64 l, .int .i64 h], .agg #[.int .i64 m, .int .i64 k]] (.int .i64 0)) (w : World) : Calls Try.prog 25 #[.agg #[.int .i64 l, .int .i64 h], .agg #[.int .i64 m, .int .i64 k]] w fun r W' => r = .returned (.tuple #[.agg #[.int .i64 0, .int .i64 0], .int .i64 16]) ∧ Kb w W' := by
  have kx := Kb.refl w
  unfold Ca at *
  have b0 := Is.made w #[.int .i64 l, .int .i64 h] 23
  replace kx := kx.alloc (.cells #[.int .i64 l, .int .i64 h] 23 (0, 0))
  replace b0 := b0.alloc (.cells #[.int .i64 m, .int .i64 k] 23 (0, 0))
  have b1 := Is.made (w.alloc (.cells #[.int .i64 l, .int .i64 h] 23 (0, 0))) #[.int .i64 m, .int .i64 k] 23
  replace kx := kx.alloc (.cells #[.int .i64 m, .int .i64 k] 23 (0, 0))
  replace b0 := b0.alloc (.cells #[.int .i64 0, .int .i64 0] 23 (0, 0))
  replace b1 := b1.alloc (.cells #[.int .i64 0, .int .i64 0] 23 (0, 0))
  have b2 := Is.made ((w.alloc (.cells #[.int .i64 l, .int .i64 h] 23 (0, 0))).alloc (.cells #[.int .i64 m, .int .i64 k] 23 (0, 0))) #[.int .i64 0, .int .i64 0] 23
  replace kx := kx.alloc (.cells #[.int .i64 0, .int .i64 0] 23 (0, 0))
  rw [World.size_alloc] at b1
  rw [World.size_alloc, World.size_alloc] at b2
  have b0_0 := b0.c (i := 0) rfl
  have b0_1 := b0.c (i := 1) rfl
  have b1_0 := b1.c (i := 0) rfl
  have b1_1 := b1.c (i := 1) rfl
  have b2_0 := b2.c (i := 0) rfl
  have b2_1 := b2.c (i := 1) rfl
  go_enter Try.func25, Try.ntmps25
  go_wp2_with fail
  (with_reducible refine (q1.out _).mono ?_)
  rintro r w1 ⟨rfl, k1⟩
  clear b0_0 b0_1 b1_0 b1_1 b2_0 b2_1
  replace b0 := b0.kb k1
  replace b1 := b1.kb k1
  replace b2 := b2.kb k1
  replace kx := kx.trans k1
  clear k1
  have b0_0 := b0.c (i := 0) rfl
  have b0_1 := b0.c (i := 1) rfl
  have b1_0 := b1.c (i := 0) rfl
  have b1_1 := b1.c (i := 1) rfl
  have b2_0 := b2.c (i := 0) rfl
  have b2_1 := b2.c (i := 1) rfl
  have zz : True := trivial
  have old_b0_0 := b0_0
  have old_b0_1 := b0_1
  have old_b1_0 := b1_0
  have old_b1_1 := b1_1
  have old_b2_0 := b2_0
  have old_b2_1 := b2_1
  replace b0 := b0.alloc (.cells #[.int .i64 m, .int .i64 h] 23 (0, 0))
  replace b1 := b1.alloc (.cells #[.int .i64 m, .int .i64 h] 23 (0, 0))
  replace b2 := b2.alloc (.cells #[.int .i64 m, .int .i64 h] 23 (0, 0))
  have b3 := Is.made w1 #[.int .i64 m, .int .i64 h] 23
  replace kx := kx.alloc (.cells #[.int .i64 m, .int .i64 h] 23 (0, 0))
  obtain ⟨zn, pt⟩ := put2 b2 (.int .i64 0) (.int .i64 0)
  have kz := pt.kb kx (by omega)
  have b0_0 := b0.c (i := 0) rfl
  have b0_1 := b0.c (i := 1) rfl
  have b1_0 := b1.c (i := 0) rfl
  have b1_1 := b1.c (i := 1) rfl
  have b2_0 := b2.c (i := 0) rfl
  have b2_1 := b2.c (i := 1) rfl
  have b2_ff := b2.f
  have b2_f0 := b2_ff 0
  have b2_f1 := b2_ff 1
  clear b2_ff
  have b3_0 := b3.c (i := 0) rfl
  have b3_1 := b3.c (i := 1) rfl
  clear b0 b1 b2 b3 kx pt
  go_wp2
  refine ret_row2 Try.results25 rfl rfl rfl zn Try.underlying23 rfl (by kernel_rfl) ?_
  exact ⟨rfl, kz⟩
set_option maxRecDepth 100000 in
set_option maxHeartbeats 1000000 in
theorem rMeet_bo (l h m k : Int) (h1 : l < m) (h2 : ¬ k < h) (ho : ¬ h < m) (q1 : Ca 50 #[.agg #[.int .i64 l, .int .i64 h], .agg #[.int .i64 m, .int .i64 k]] (.int .i64 0)) (w : World) : Calls Try.prog 25 #[.agg #[.int .i64 l, .int .i64 h], .agg #[.int .i64 m, .int .i64 k]] w fun r W' => r = .returned (.tuple #[.agg #[.int .i64 m, .int .i64 h], .int .i64 0]) ∧ Kb w W' := by
  have kx := Kb.refl w
  unfold Ca at *
  have b0 := Is.made w #[.int .i64 l, .int .i64 h] 23
  replace kx := kx.alloc (.cells #[.int .i64 l, .int .i64 h] 23 (0, 0))
  replace b0 := b0.alloc (.cells #[.int .i64 m, .int .i64 k] 23 (0, 0))
  have b1 := Is.made (w.alloc (.cells #[.int .i64 l, .int .i64 h] 23 (0, 0))) #[.int .i64 m, .int .i64 k] 23
  replace kx := kx.alloc (.cells #[.int .i64 m, .int .i64 k] 23 (0, 0))
  replace b0 := b0.alloc (.cells #[.int .i64 0, .int .i64 0] 23 (0, 0))
  replace b1 := b1.alloc (.cells #[.int .i64 0, .int .i64 0] 23 (0, 0))
  have b2 := Is.made ((w.alloc (.cells #[.int .i64 l, .int .i64 h] 23 (0, 0))).alloc (.cells #[.int .i64 m, .int .i64 k] 23 (0, 0))) #[.int .i64 0, .int .i64 0] 23
  replace kx := kx.alloc (.cells #[.int .i64 0, .int .i64 0] 23 (0, 0))
  rw [World.size_alloc] at b1
  rw [World.size_alloc, World.size_alloc] at b2
  have b0_0 := b0.c (i := 0) rfl
  have b0_1 := b0.c (i := 1) rfl
  have b1_0 := b1.c (i := 0) rfl
  have b1_1 := b1.c (i := 1) rfl
  have b2_0 := b2.c (i := 0) rfl
  have b2_1 := b2.c (i := 1) rfl
  go_enter Try.func25, Try.ntmps25
  go_wp2_with fail
  (with_reducible refine (q1.out _).mono ?_)
  rintro r w1 ⟨rfl, k1⟩
  clear b0_0 b0_1 b1_0 b1_1 b2_0 b2_1
  replace b0 := b0.kb k1
  replace b1 := b1.kb k1
  replace b2 := b2.kb k1
  replace kx := kx.trans k1
  clear k1
  have b0_0 := b0.c (i := 0) rfl
  have b0_1 := b0.c (i := 1) rfl
  have b1_0 := b1.c (i := 0) rfl
  have b1_1 := b1.c (i := 1) rfl
  have b2_0 := b2.c (i := 0) rfl
  have b2_1 := b2.c (i := 1) rfl
  have zz : True := trivial
  have old_b0_0 := b0_0
  have old_b0_1 := b0_1
  have old_b1_0 := b1_0
  have old_b1_1 := b1_1
  have old_b2_0 := b2_0
  have old_b2_1 := b2_1
  replace b0 := b0.alloc (.cells #[.int .i64 m, .int .i64 h] 23 (0, 0))
  replace b1 := b1.alloc (.cells #[.int .i64 m, .int .i64 h] 23 (0, 0))
  replace b2 := b2.alloc (.cells #[.int .i64 m, .int .i64 h] 23 (0, 0))
  have b3 := Is.made w1 #[.int .i64 m, .int .i64 h] 23
  replace kx := kx.alloc (.cells #[.int .i64 m, .int .i64 h] 23 (0, 0))
  obtain ⟨zn, pt⟩ := put2 b2 (.int .i64 m) (.int .i64 h)
  have kz := pt.kb kx (by omega)
  have b0_0 := b0.c (i := 0) rfl
  have b0_1 := b0.c (i := 1) rfl
  have b1_0 := b1.c (i := 0) rfl
  have b1_1 := b1.c (i := 1) rfl
  have b2_0 := b2.c (i := 0) rfl
  have b2_1 := b2.c (i := 1) rfl
  have b2_ff := b2.f
  have b2_f0 := b2_ff 0
  have b2_f1 := b2_ff 1
  clear b2_ff
  have b3_0 := b3.c (i := 0) rfl
  have b3_1 := b3.c (i := 1) rfl
  clear b0 b1 b2 b3 kx pt
  go_wp2
  refine ret_row2 Try.results25 rfl rfl rfl zn Try.underlying23 rfl (by kernel_rfl) ?_
  exact ⟨rfl, kz⟩
set_option maxRecDepth 100000 in
set_option maxHeartbeats 1000000 in
theorem rMeet_cx (l h m k : Int) (h1 : ¬ l < m) (h2 : k < h) (ho : k < l) (q1 : Ca 50 #[.agg #[.int .i64 l, .int .i64 h], .agg #[.int .i64 m, .int .i64 k]] (.int .i64 0)) (w : World) : Calls Try.prog 25 #[.agg #[.int .i64 l, .int .i64 h], .agg #[.int .i64 m, .int .i64 k]] w fun r W' => r = .returned (.tuple #[.agg #[.int .i64 0, .int .i64 0], .int .i64 16]) ∧ Kb w W' := by
  have kx := Kb.refl w
  unfold Ca at *
  have b0 := Is.made w #[.int .i64 l, .int .i64 h] 23
  replace kx := kx.alloc (.cells #[.int .i64 l, .int .i64 h] 23 (0, 0))
  replace b0 := b0.alloc (.cells #[.int .i64 m, .int .i64 k] 23 (0, 0))
  have b1 := Is.made (w.alloc (.cells #[.int .i64 l, .int .i64 h] 23 (0, 0))) #[.int .i64 m, .int .i64 k] 23
  replace kx := kx.alloc (.cells #[.int .i64 m, .int .i64 k] 23 (0, 0))
  replace b0 := b0.alloc (.cells #[.int .i64 0, .int .i64 0] 23 (0, 0))
  replace b1 := b1.alloc (.cells #[.int .i64 0, .int .i64 0] 23 (0, 0))
  have b2 := Is.made ((w.alloc (.cells #[.int .i64 l, .int .i64 h] 23 (0, 0))).alloc (.cells #[.int .i64 m, .int .i64 k] 23 (0, 0))) #[.int .i64 0, .int .i64 0] 23
  replace kx := kx.alloc (.cells #[.int .i64 0, .int .i64 0] 23 (0, 0))
  rw [World.size_alloc] at b1
  rw [World.size_alloc, World.size_alloc] at b2
  have b0_0 := b0.c (i := 0) rfl
  have b0_1 := b0.c (i := 1) rfl
  have b1_0 := b1.c (i := 0) rfl
  have b1_1 := b1.c (i := 1) rfl
  have b2_0 := b2.c (i := 0) rfl
  have b2_1 := b2.c (i := 1) rfl
  go_enter Try.func25, Try.ntmps25
  go_wp2_with fail
  (with_reducible refine (q1.out _).mono ?_)
  rintro r w1 ⟨rfl, k1⟩
  clear b0_0 b0_1 b1_0 b1_1 b2_0 b2_1
  replace b0 := b0.kb k1
  replace b1 := b1.kb k1
  replace b2 := b2.kb k1
  replace kx := kx.trans k1
  clear k1
  have b0_0 := b0.c (i := 0) rfl
  have b0_1 := b0.c (i := 1) rfl
  have b1_0 := b1.c (i := 0) rfl
  have b1_1 := b1.c (i := 1) rfl
  have b2_0 := b2.c (i := 0) rfl
  have b2_1 := b2.c (i := 1) rfl
  have zz : True := trivial
  have old_b0_0 := b0_0
  have old_b0_1 := b0_1
  have old_b1_0 := b1_0
  have old_b1_1 := b1_1
  have old_b2_0 := b2_0
  have old_b2_1 := b2_1
  replace b0 := b0.alloc (.cells #[.int .i64 l, .int .i64 k] 23 (0, 0))
  replace b1 := b1.alloc (.cells #[.int .i64 l, .int .i64 k] 23 (0, 0))
  replace b2 := b2.alloc (.cells #[.int .i64 l, .int .i64 k] 23 (0, 0))
  have b3 := Is.made w1 #[.int .i64 l, .int .i64 k] 23
  replace kx := kx.alloc (.cells #[.int .i64 l, .int .i64 k] 23 (0, 0))
  obtain ⟨zn, pt⟩ := put2 b2 (.int .i64 0) (.int .i64 0)
  have kz := pt.kb kx (by omega)
  have b0_0 := b0.c (i := 0) rfl
  have b0_1 := b0.c (i := 1) rfl
  have b1_0 := b1.c (i := 0) rfl
  have b1_1 := b1.c (i := 1) rfl
  have b2_0 := b2.c (i := 0) rfl
  have b2_1 := b2.c (i := 1) rfl
  have b2_ff := b2.f
  have b2_f0 := b2_ff 0
  have b2_f1 := b2_ff 1
  clear b2_ff
  have b3_0 := b3.c (i := 0) rfl
  have b3_1 := b3.c (i := 1) rfl
  clear b0 b1 b2 b3 kx pt
  go_wp2
  refine ret_row2 Try.results25 rfl rfl rfl zn Try.underlying23 rfl (by kernel_rfl) ?_
  exact ⟨rfl, kz⟩
set_option maxRecDepth 100000 in
set_option maxHeartbeats 1000000 in
theorem rMeet_co (l h m k : Int) (h1 : ¬ l < m) (h2 : k < h) (ho : ¬ k < l) (q1 : Ca 50 #[.agg #[.int .i64 l, .int .i64 h], .agg #[.int .i64 m, .int .i64 k]] (.int .i64 0)) (w : World) : Calls Try.prog 25 #[.agg #[.int .i64 l, .int .i64 h], .agg #[.int .i64 m, .int .i64 k]] w fun r W' => r = .returned (.tuple #[.agg #[.int .i64 l, .int .i64 k], .int .i64 0]) ∧ Kb w W' := by
  have kx := Kb.refl w
  unfold Ca at *
  have b0 := Is.made w #[.int .i64 l, .int .i64 h] 23
  replace kx := kx.alloc (.cells #[.int .i64 l, .int .i64 h] 23 (0, 0))
  replace b0 := b0.alloc (.cells #[.int .i64 m, .int .i64 k] 23 (0, 0))
  have b1 := Is.made (w.alloc (.cells #[.int .i64 l, .int .i64 h] 23 (0, 0))) #[.int .i64 m, .int .i64 k] 23
  replace kx := kx.alloc (.cells #[.int .i64 m, .int .i64 k] 23 (0, 0))
  replace b0 := b0.alloc (.cells #[.int .i64 0, .int .i64 0] 23 (0, 0))
  replace b1 := b1.alloc (.cells #[.int .i64 0, .int .i64 0] 23 (0, 0))
  have b2 := Is.made ((w.alloc (.cells #[.int .i64 l, .int .i64 h] 23 (0, 0))).alloc (.cells #[.int .i64 m, .int .i64 k] 23 (0, 0))) #[.int .i64 0, .int .i64 0] 23
  replace kx := kx.alloc (.cells #[.int .i64 0, .int .i64 0] 23 (0, 0))
  rw [World.size_alloc] at b1
  rw [World.size_alloc, World.size_alloc] at b2
  have b0_0 := b0.c (i := 0) rfl
  have b0_1 := b0.c (i := 1) rfl
  have b1_0 := b1.c (i := 0) rfl
  have b1_1 := b1.c (i := 1) rfl
  have b2_0 := b2.c (i := 0) rfl
  have b2_1 := b2.c (i := 1) rfl
  go_enter Try.func25, Try.ntmps25
  go_wp2_with fail
  (with_reducible refine (q1.out _).mono ?_)
  rintro r w1 ⟨rfl, k1⟩
  clear b0_0 b0_1 b1_0 b1_1 b2_0 b2_1
  replace b0 := b0.kb k1
  replace b1 := b1.kb k1
  replace b2 := b2.kb k1
  replace kx := kx.trans k1
  clear k1
  have b0_0 := b0.c (i := 0) rfl
  have b0_1 := b0.c (i := 1) rfl
  have b1_0 := b1.c (i := 0) rfl
  have b1_1 := b1.c (i := 1) rfl
  have b2_0 := b2.c (i := 0) rfl
  have b2_1 := b2.c (i := 1) rfl
  have zz : True := trivial
  have old_b0_0 := b0_0
  have old_b0_1 := b0_1
  have old_b1_0 := b1_0
  have old_b1_1 := b1_1
  have old_b2_0 := b2_0
  have old_b2_1 := b2_1
  replace b0 := b0.alloc (.cells #[.int .i64 l, .int .i64 k] 23 (0, 0))
  replace b1 := b1.alloc (.cells #[.int .i64 l, .int .i64 k] 23 (0, 0))
  replace b2 := b2.alloc (.cells #[.int .i64 l, .int .i64 k] 23 (0, 0))
  have b3 := Is.made w1 #[.int .i64 l, .int .i64 k] 23
  replace kx := kx.alloc (.cells #[.int .i64 l, .int .i64 k] 23 (0, 0))
  obtain ⟨zn, pt⟩ := put2 b2 (.int .i64 l) (.int .i64 k)
  have kz := pt.kb kx (by omega)
  have b0_0 := b0.c (i := 0) rfl
  have b0_1 := b0.c (i := 1) rfl
  have b1_0 := b1.c (i := 0) rfl
  have b1_1 := b1.c (i := 1) rfl
  have b2_0 := b2.c (i := 0) rfl
  have b2_1 := b2.c (i := 1) rfl
  have b2_ff := b2.f
  have b2_f0 := b2_ff 0
  have b2_f1 := b2_ff 1
  clear b2_ff
  have b3_0 := b3.c (i := 0) rfl
  have b3_1 := b3.c (i := 1) rfl
  clear b0 b1 b2 b3 kx pt
  go_wp2
  refine ret_row2 Try.results25 rfl rfl rfl zn Try.underlying23 rfl (by kernel_rfl) ?_
  exact ⟨rfl, kz⟩
set_option maxRecDepth 100000 in
set_option maxHeartbeats 1000000 in
theorem rMeet_dx (l h m k : Int) (h1 : ¬ l < m) (h2 : ¬ k < h) (ho : h < l) (q1 : Ca 50 #[.agg #[.int .i64 l, .int .i64 h], .agg #[.int .i64 m, .int .i64 k]] (.int .i64 0)) (w : World) : Calls Try.prog 25 #[.agg #[.int .i64 l, .int .i64 h], .agg #[.int .i64 m, .int .i64 k]] w fun r W' => r = .returned (.tuple #[.agg #[.int .i64 0, .int .i64 0], .int .i64 16]) ∧ Kb w W' := by
  have kx := Kb.refl w
  unfold Ca at *
  have b0 := Is.made w #[.int .i64 l, .int .i64 h] 23
  replace kx := kx.alloc (.cells #[.int .i64 l, .int .i64 h] 23 (0, 0))
  replace b0 := b0.alloc (.cells #[.int .i64 m, .int .i64 k] 23 (0, 0))
  have b1 := Is.made (w.alloc (.cells #[.int .i64 l, .int .i64 h] 23 (0, 0))) #[.int .i64 m, .int .i64 k] 23
  replace kx := kx.alloc (.cells #[.int .i64 m, .int .i64 k] 23 (0, 0))
  replace b0 := b0.alloc (.cells #[.int .i64 0, .int .i64 0] 23 (0, 0))
  replace b1 := b1.alloc (.cells #[.int .i64 0, .int .i64 0] 23 (0, 0))
  have b2 := Is.made ((w.alloc (.cells #[.int .i64 l, .int .i64 h] 23 (0, 0))).alloc (.cells #[.int .i64 m, .int .i64 k] 23 (0, 0))) #[.int .i64 0, .int .i64 0] 23
  replace kx := kx.alloc (.cells #[.int .i64 0, .int .i64 0] 23 (0, 0))
  rw [World.size_alloc] at b1
  rw [World.size_alloc, World.size_alloc] at b2
  have b0_0 := b0.c (i := 0) rfl
  have b0_1 := b0.c (i := 1) rfl
  have b1_0 := b1.c (i := 0) rfl
  have b1_1 := b1.c (i := 1) rfl
  have b2_0 := b2.c (i := 0) rfl
  have b2_1 := b2.c (i := 1) rfl
  go_enter Try.func25, Try.ntmps25
  go_wp2_with fail
  (with_reducible refine (q1.out _).mono ?_)
  rintro r w1 ⟨rfl, k1⟩
  clear b0_0 b0_1 b1_0 b1_1 b2_0 b2_1
  replace b0 := b0.kb k1
  replace b1 := b1.kb k1
  replace b2 := b2.kb k1
  replace kx := kx.trans k1
  clear k1
  have b0_0 := b0.c (i := 0) rfl
  have b0_1 := b0.c (i := 1) rfl
  have b1_0 := b1.c (i := 0) rfl
  have b1_1 := b1.c (i := 1) rfl
  have b2_0 := b2.c (i := 0) rfl
  have b2_1 := b2.c (i := 1) rfl
  have zz : True := trivial
  have old_b0_0 := b0_0
  have old_b0_1 := b0_1
  have old_b1_0 := b1_0
  have old_b1_1 := b1_1
  have old_b2_0 := b2_0
  have old_b2_1 := b2_1
  replace b0 := b0.alloc (.cells #[.int .i64 l, .int .i64 h] 23 (0, 0))
  replace b1 := b1.alloc (.cells #[.int .i64 l, .int .i64 h] 23 (0, 0))
  replace b2 := b2.alloc (.cells #[.int .i64 l, .int .i64 h] 23 (0, 0))
  have b3 := Is.made w1 #[.int .i64 l, .int .i64 h] 23
  replace kx := kx.alloc (.cells #[.int .i64 l, .int .i64 h] 23 (0, 0))
  obtain ⟨zn, pt⟩ := put2 b2 (.int .i64 0) (.int .i64 0)
  have kz := pt.kb kx (by omega)
  have b0_0 := b0.c (i := 0) rfl
  have b0_1 := b0.c (i := 1) rfl
  have b1_0 := b1.c (i := 0) rfl
  have b1_1 := b1.c (i := 1) rfl
  have b2_0 := b2.c (i := 0) rfl
  have b2_1 := b2.c (i := 1) rfl
  have b2_ff := b2.f
  have b2_f0 := b2_ff 0
  have b2_f1 := b2_ff 1
  clear b2_ff
  have b3_0 := b3.c (i := 0) rfl
  have b3_1 := b3.c (i := 1) rfl
  clear b0 b1 b2 b3 kx pt
  go_wp2
  refine ret_row2 Try.results25 rfl rfl rfl zn Try.underlying23 rfl (by kernel_rfl) ?_
  exact ⟨rfl, kz⟩
set_option maxRecDepth 100000 in
set_option maxHeartbeats 1000000 in
theorem rMeet_do (l h m k : Int) (h1 : ¬ l < m) (h2 : ¬ k < h) (ho : ¬ h < l) (q1 : Ca 50 #[.agg #[.int .i64 l, .int .i64 h], .agg #[.int .i64 m, .int .i64 k]] (.int .i64 0)) (w : World) : Calls Try.prog 25 #[.agg #[.int .i64 l, .int .i64 h], .agg #[.int .i64 m, .int .i64 k]] w fun r W' => r = .returned (.tuple #[.agg #[.int .i64 l, .int .i64 h], .int .i64 0]) ∧ Kb w W' := by
  have kx := Kb.refl w
  unfold Ca at *
  have b0 := Is.made w #[.int .i64 l, .int .i64 h] 23
  replace kx := kx.alloc (.cells #[.int .i64 l, .int .i64 h] 23 (0, 0))
  replace b0 := b0.alloc (.cells #[.int .i64 m, .int .i64 k] 23 (0, 0))
  have b1 := Is.made (w.alloc (.cells #[.int .i64 l, .int .i64 h] 23 (0, 0))) #[.int .i64 m, .int .i64 k] 23
  replace kx := kx.alloc (.cells #[.int .i64 m, .int .i64 k] 23 (0, 0))
  replace b0 := b0.alloc (.cells #[.int .i64 0, .int .i64 0] 23 (0, 0))
  replace b1 := b1.alloc (.cells #[.int .i64 0, .int .i64 0] 23 (0, 0))
  have b2 := Is.made ((w.alloc (.cells #[.int .i64 l, .int .i64 h] 23 (0, 0))).alloc (.cells #[.int .i64 m, .int .i64 k] 23 (0, 0))) #[.int .i64 0, .int .i64 0] 23
  replace kx := kx.alloc (.cells #[.int .i64 0, .int .i64 0] 23 (0, 0))
  rw [World.size_alloc] at b1
  rw [World.size_alloc, World.size_alloc] at b2
  have b0_0 := b0.c (i := 0) rfl
  have b0_1 := b0.c (i := 1) rfl
  have b1_0 := b1.c (i := 0) rfl
  have b1_1 := b1.c (i := 1) rfl
  have b2_0 := b2.c (i := 0) rfl
  have b2_1 := b2.c (i := 1) rfl
  go_enter Try.func25, Try.ntmps25
  go_wp2_with fail
  (with_reducible refine (q1.out _).mono ?_)
  rintro r w1 ⟨rfl, k1⟩
  clear b0_0 b0_1 b1_0 b1_1 b2_0 b2_1
  replace b0 := b0.kb k1
  replace b1 := b1.kb k1
  replace b2 := b2.kb k1
  replace kx := kx.trans k1
  clear k1
  have b0_0 := b0.c (i := 0) rfl
  have b0_1 := b0.c (i := 1) rfl
  have b1_0 := b1.c (i := 0) rfl
  have b1_1 := b1.c (i := 1) rfl
  have b2_0 := b2.c (i := 0) rfl
  have b2_1 := b2.c (i := 1) rfl
  have zz : True := trivial
  have old_b0_0 := b0_0
  have old_b0_1 := b0_1
  have old_b1_0 := b1_0
  have old_b1_1 := b1_1
  have old_b2_0 := b2_0
  have old_b2_1 := b2_1
  replace b0 := b0.alloc (.cells #[.int .i64 l, .int .i64 h] 23 (0, 0))
  replace b1 := b1.alloc (.cells #[.int .i64 l, .int .i64 h] 23 (0, 0))
  replace b2 := b2.alloc (.cells #[.int .i64 l, .int .i64 h] 23 (0, 0))
  have b3 := Is.made w1 #[.int .i64 l, .int .i64 h] 23
  replace kx := kx.alloc (.cells #[.int .i64 l, .int .i64 h] 23 (0, 0))
  obtain ⟨zn, pt⟩ := put2 b2 (.int .i64 l) (.int .i64 h)
  have kz := pt.kb kx (by omega)
  have b0_0 := b0.c (i := 0) rfl
  have b0_1 := b0.c (i := 1) rfl
  have b1_0 := b1.c (i := 0) rfl
  have b1_1 := b1.c (i := 1) rfl
  have b2_0 := b2.c (i := 0) rfl
  have b2_1 := b2.c (i := 1) rfl
  have b2_ff := b2.f
  have b2_f0 := b2_ff 0
  have b2_f1 := b2_ff 1
  clear b2_ff
  have b3_0 := b3.c (i := 0) rfl
  have b3_1 := b3.c (i := 1) rfl
  clear b0 b1 b2 b3 kx pt
  go_wp2
  refine ret_row2 Try.results25 rfl rfl rfl zn Try.underlying23 rfl (by kernel_rfl) ?_
  exact ⟨rfl, kz⟩
theorem mtE_e {l h m k : Int} (h0 : lm2 l h m k ≠ 0) (x y : Int) : firstE [lm2 l h m k, fE (decide (y < x)) 16] = lm2 l h m k := if_neg h0
theorem mtE_x {l h m k x y : Int} (h0 : lm2 l h m k = 0) (h1 : y < x) : firstE [lm2 l h m k, fE (decide (y < x)) 16] = 16 := by rw [h0, decide_eq_true h1]; rfl
theorem mtE_o {l h m k x y : Int} (h0 : lm2 l h m k = 0) (h1 : ¬ y < x) : firstE [lm2 l h m k, fE (decide (y < x)) 16] = 0 := by rw [h0, decide_eq_false h1]; rfl
/-- the greater one of the least, the less one of the greatest -/
def mxI (l m : Int) : Int := if l < m then m else l
def mnI (h k : Int) : Int := if k < h then k else h
def mtE' (l h m k : Int) : Int := firstE [lm2 l h m k, fE (decide (mnI h k < mxI l m)) 16]
theorem rMeet (l h m k : Int) : Ca 25 #[.agg #[.int .i64 l, .int .i64 h], .agg #[.int .i64 m, .int .i64 k]] (.tuple #[.agg #[.int .i64 (zI (mtE' l h m k) (mxI l m)), .int .i64 (zI (mtE' l h m k) (mnI h k))], .int .i64 (mtE' l h m k)]) := Lib.hid fun w => by
  have q := rboth l h m k
  unfold mtE'
  by_cases h0 : lm2 l h m k = 0
  · rw [h0] at q
    unfold mxI mnI
    by_cases h1 : l < m
    · rw [if_pos h1]
      by_cases h2 : k < h
      · rw [if_pos h2]
        by_cases ho : k < m
        · rw [mtE_x h0 ho, zI_e (by decide), zI_e (by decide)]; exact rMeet_ax l h m k h1 h2 ho q w
        · rw [mtE_o h0 ho, zI_0, zI_0]; exact rMeet_ao l h m k h1 h2 ho q w
      · rw [if_neg h2]
        by_cases ho : h < m
        · rw [mtE_x h0 ho, zI_e (by decide), zI_e (by decide)]; exact rMeet_bx l h m k h1 h2 ho q w
        · rw [mtE_o h0 ho, zI_0, zI_0]; exact rMeet_bo l h m k h1 h2 ho q w
    · rw [if_neg h1]
      by_cases h2 : k < h
      · rw [if_pos h2]
        by_cases ho : k < l
        · rw [mtE_x h0 ho, zI_e (by decide), zI_e (by decide)]; exact rMeet_cx l h m k h1 h2 ho q w
        · rw [mtE_o h0 ho, zI_0, zI_0]; exact rMeet_co l h m k h1 h2 ho q w
      · rw [if_neg h2]
        by_cases ho : h < l
        · rw [mtE_x h0 ho, zI_e (by decide), zI_e (by decide)]; exact rMeet_dx l h m k h1 h2 ho q w
        · rw [mtE_o h0 ho, zI_0, zI_0]; exact rMeet_do l h m k h1 h2 ho q w
  · rw [mtE_e h0, zI_e h0, zI_e h0]; exact rMeet_e l h m k _ (ne_b h0) q w
theorem dMeet (l h m k : Int) : Ca 24 #[.agg #[.int .i64 l, .int .i64 h], .agg #[.int .i64 m, .int .i64 k]] (.tuple #[.agg #[.int .i64 (zI (mtE' l h m k) (mxI l m)), .int .i64 (zI (mtE' l h m k) (mnI h k))], .int .i64 (mtE' l h m k)]) := Lib.hid fun w => by
  unfold mtE' mxI mnI
  by_cases h1 : l < m
  · rw [if_pos h1]
    by_cases h2 : k < h
    · rw [if_pos h2]; exact dMeet_a l h m k h1 h2 w
    · rw [if_neg h2]; exact dMeet_b l h m k h1 h2 w
  · rw [if_neg h1]
    by_cases h2 : k < h
    · rw [if_pos h2]; exact dMeet_c l h m k h1 h2 w
    · rw [if_neg h2]; exact dMeet_d l h m k h1 h2 w
theorem dOf (n l h : Int) : Ca 12 #[.int .i64 n, .int .i64 l, .int .i64 h] (.tuple #[.agg #[.int .i64 (zI (ofE n l h) (wrap64 (n + l))), .int .i64 (zI (ofE n l h) (wrap64 (n + h)))], .int .i64 (ofE n l h)]) := Lib.hid fun w => by
  have := dOf_any n l h w
  rw [firstE_one] at this
  exact this
theorem dContains (l h v : Int) : Ca 18 #[.agg #[.int .i64 l, .int .i64 h], .int .i64 v] (.tuple #[.bool (zB (lmE l h) (hasB l h v)), .int .i64 (lmE l h)]) := Lib.hid fun w => dContains_any l h v w
theorem has2 {l h m k : Int} (h0 : lm2 l h m k = 0) : (hasB m k l && hasB m k h) = (decide (m ≤ l) && decide (h ≤ k)) := by
  have a : lmE l h = 0 := by
    by_cases a : lmE l h = 0
    · exact a
    · rw [lm2_e a] at h0; exact h0
  have b : l ≤ h := by
    rw [lmE_eq] at a
    by_cases c : inR l = true ∧ inR h = true
    · rw [if_pos c] at a
      by_cases d : h < l
      · rw [if_pos d] at a; omega
      · omega
    · rw [if_neg c] at a; omega
  unfold hasB
  by_cases c : m ≤ l
  · by_cases d : h ≤ k
    · rw [decide_eq_true c, decide_eq_true d, decide_eq_true (show l ≤ k by omega), decide_eq_true (show m ≤ h by omega)]; rfl
    · rw [decide_eq_true c, decide_eq_false d]; simp
  · rw [decide_eq_false c]; rfl
theorem dInside (l h m k : Int) : Ca 20 #[.agg #[.int .i64 l, .int .i64 h], .agg #[.int .i64 m, .int .i64 k]] (.tuple #[.bool (zB (lm2 l h m k) (hasB m k l && hasB m k h)), .int .i64 (lm2 l h m k)]) := Lib.hid fun w => by
  have := dInside_any l h m k w
  by_cases h0 : lm2 l h m k = 0
  · rw [has2 h0]; exact this
  · rw [zB_e h0] at *; exact this
theorem dAdd (l h m k : Int) : Ca 26 #[.agg #[.int .i64 l, .int .i64 h], .agg #[.int .i64 m, .int .i64 k]] (.tuple #[.agg #[.int .i64 (zI (adE l h m k) (wrap64 (l + m))), .int .i64 (zI (adE l h m k) (wrap64 (h + k)))], .int .i64 (adE l h m k)]) := Lib.hid fun w => dAdd_any l h m k w
theorem dNeg (l h : Int) : Ca 22 #[.agg #[.int .i64 l, .int .i64 h]] (.tuple #[.agg #[.int .i64 (zI (lmE l h) (wrap64 (-h))), .int .i64 (zI (lmE l h) (wrap64 (-l)))], .int .i64 (lmE l h)]) := Lib.hid fun w => by
  have := dNeg_any l h w
  rw [firstE_one, firstE_one] at this
  exact this
end Go.Proofs.Ytendjeefggigbaa
