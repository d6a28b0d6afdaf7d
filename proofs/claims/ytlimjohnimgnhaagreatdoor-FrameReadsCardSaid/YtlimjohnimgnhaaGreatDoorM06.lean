/- Texts Qg2: each says in its own first comment what it proves. -/
import Derived.Test.YtlimjohnimgnhaaGreatDoorM43
/- Features: the checks of the program. -/
namespace Go.Proofs.YtlimjohnimgnhaaGreatDoor
open Go.RowKit

set_option maxRecDepth 100000 in
set_option maxHeartbeats 1000000 in
theorem fcheckPlace_1 (x : Int) (y : Int) (z : Int)      (h1 : x < (-100000)) (w : World)  : Calls Tryz.prog 83 #[.agg #[.int .i64 x, .int .i64 y, .int .i64 z]] w fun r W' => r = .returned (.int .i64 2) ∧ Kb w W' := by
  have kx := Kb.refl w
  go_enter Tryz.func83, Tryz.ntmps83
  go_wp2_with fail
  have b1 := Is.made w #[.int .i64 x, .int .i64 y, .int .i64 z] 23
  replace kx := kx.alloc (.cells #[.int .i64 x, .int .i64 y, .int .i64 z] 23 (0, 0))
  (with_reducible refine (cCoord0_1 w.heap.size _).mono ?_)
  rintro r w1 ⟨g1, rfl, p1, i1, k1⟩
  replace b1 := b1.kb k1
  replace kx := kx.trans k1
  have s1 := k1.size
  simp only [World.size_alloc] at s1
  clear k1
  simp only [World.size_alloc] at i1
  go_wp2_with fail
  refine wp_loop_rounds 1 ?_
  rw [rounds_succ]
  have en1 := (enters_of Tryz.func139 (by kernel_rfl) rfl : ∀ args W, (callFunc 139 args).run Tryz.prog W = .ok (.enter 139 args) W)
  go_wp2_with fail
  (with_reducible refine (cRead_0 _ _ _ _ _ _ p1 (b1.c (i := 0) rfl)).mono ?_)
  rintro r w2 ⟨rfl, k2⟩
  replace b1 := b1.kb k2
  replace p1 := p1.kb k2
  replace kx := kx.trans k2
  have s2 := k2.size
  skip
  clear k2
  go_wp2
  go_ret
  exact ⟨rfl, kx⟩
set_option maxRecDepth 100000 in
set_option maxHeartbeats 1000000 in
theorem fcheckPlace_2 (x : Int) (y : Int) (z : Int)      (h1 : ¬ x < (-100000)) (h2 : 100000 < x) (w : World)  : Calls Tryz.prog 83 #[.agg #[.int .i64 x, .int .i64 y, .int .i64 z]] w fun r W' => r = .returned (.int .i64 2) ∧ Kb w W' := by
  have kx := Kb.refl w
  go_enter Tryz.func83, Tryz.ntmps83
  go_wp2_with fail
  have b1 := Is.made w #[.int .i64 x, .int .i64 y, .int .i64 z] 23
  replace kx := kx.alloc (.cells #[.int .i64 x, .int .i64 y, .int .i64 z] 23 (0, 0))
  (with_reducible refine (cCoord0_1 w.heap.size _).mono ?_)
  rintro r w1 ⟨g1, rfl, p1, i1, k1⟩
  replace b1 := b1.kb k1
  replace kx := kx.trans k1
  have s1 := k1.size
  simp only [World.size_alloc] at s1
  clear k1
  simp only [World.size_alloc] at i1
  go_wp2_with fail
  refine wp_loop_rounds 1 ?_
  rw [rounds_succ]
  have en1 := (enters_of Tryz.func139 (by kernel_rfl) rfl : ∀ args W, (callFunc 139 args).run Tryz.prog W = .ok (.enter 139 args) W)
  go_wp2_with fail
  (with_reducible refine (cRead_0 _ _ _ _ _ _ p1 (b1.c (i := 0) rfl)).mono ?_)
  rintro r w2 ⟨rfl, k2⟩
  replace b1 := b1.kb k2
  replace p1 := p1.kb k2
  replace kx := kx.trans k2
  have s2 := k2.size
  skip
  clear k2
  go_wp2
  go_ret
  exact ⟨rfl, kx⟩
set_option maxRecDepth 100000 in
set_option maxHeartbeats 1000000 in
theorem fcheckPlace_3 (x : Int) (y : Int) (z : Int)      (h1 : ¬ x < (-100000)) (h2 : ¬ 100000 < x) (h3 : y < (-100000)) (w : World)  : Calls Tryz.prog 83 #[.agg #[.int .i64 x, .int .i64 y, .int .i64 z]] w fun r W' => r = .returned (.int .i64 2) ∧ Kb w W' := by
  have kx := Kb.refl w
  go_enter Tryz.func83, Tryz.ntmps83
  go_wp2_with fail
  have b1 := Is.made w #[.int .i64 x, .int .i64 y, .int .i64 z] 23
  replace kx := kx.alloc (.cells #[.int .i64 x, .int .i64 y, .int .i64 z] 23 (0, 0))
  (with_reducible refine (cCoord0_1 w.heap.size _).mono ?_)
  rintro r w1 ⟨g1, rfl, p1, i1, k1⟩
  replace b1 := b1.kb k1
  replace kx := kx.trans k1
  have s1 := k1.size
  simp only [World.size_alloc] at s1
  clear k1
  simp only [World.size_alloc] at i1
  go_wp2_with fail
  refine wp_loop_rounds 2 ?_
  rw [rounds_succ]
  have en1 := (enters_of Tryz.func139 (by kernel_rfl) rfl : ∀ args W, (callFunc 139 args).run Tryz.prog W = .ok (.enter 139 args) W)
  go_wp2_with fail
  (with_reducible refine (cRead_0 _ _ _ _ _ _ p1 (b1.c (i := 0) rfl)).mono ?_)
  rintro r w2 ⟨rfl, k2⟩
  replace b1 := b1.kb k2
  replace p1 := p1.kb k2
  replace kx := kx.trans k2
  have s2 := k2.size
  skip
  clear k2
  go_wp2_with fail
  rw [rounds_succ]
  have en2 := (enters_of Tryz.func139 (by kernel_rfl) rfl : ∀ args W, (callFunc 139 args).run Tryz.prog W = .ok (.enter 139 args) W)
  go_wp2_with fail
  (with_reducible refine (cRead_1 _ _ _ _ _ _ p1 (b1.c (i := 1) rfl)).mono ?_)
  rintro r w3 ⟨rfl, k3⟩
  replace b1 := b1.kb k3
  replace p1 := p1.kb k3
  replace kx := kx.trans k3
  have s3 := k3.size
  skip
  clear k3
  go_wp2
  go_ret
  exact ⟨rfl, kx⟩
set_option maxRecDepth 100000 in
set_option maxHeartbeats 1000000 in
theorem fcheckPlace_4 (x : Int) (y : Int) (z : Int)      (h1 : ¬ x < (-100000)) (h2 : ¬ 100000 < x) (h3 : ¬ y < (-100000)) (h4 : 100000 < y) (w : World)  : Calls Tryz.prog 83 #[.agg #[.int .i64 x, .int .i64 y, .int .i64 z]] w fun r W' => r = .returned (.int .i64 2) ∧ Kb w W' := by
  have kx := Kb.refl w
  go_enter Tryz.func83, Tryz.ntmps83
  go_wp2_with fail
  have b1 := Is.made w #[.int .i64 x, .int .i64 y, .int .i64 z] 23
  replace kx := kx.alloc (.cells #[.int .i64 x, .int .i64 y, .int .i64 z] 23 (0, 0))
  (with_reducible refine (cCoord0_1 w.heap.size _).mono ?_)
  rintro r w1 ⟨g1, rfl, p1, i1, k1⟩
  replace b1 := b1.kb k1
  replace kx := kx.trans k1
  have s1 := k1.size
  simp only [World.size_alloc] at s1
  clear k1
  simp only [World.size_alloc] at i1
  go_wp2_with fail
  refine wp_loop_rounds 2 ?_
  rw [rounds_succ]
  have en1 := (enters_of Tryz.func139 (by kernel_rfl) rfl : ∀ args W, (callFunc 139 args).run Tryz.prog W = .ok (.enter 139 args) W)
  go_wp2_with fail
  (with_reducible refine (cRead_0 _ _ _ _ _ _ p1 (b1.c (i := 0) rfl)).mono ?_)
  rintro r w2 ⟨rfl, k2⟩
  replace b1 := b1.kb k2
  replace p1 := p1.kb k2
  replace kx := kx.trans k2
  have s2 := k2.size
  skip
  clear k2
  go_wp2_with fail
  rw [rounds_succ]
  have en2 := (enters_of Tryz.func139 (by kernel_rfl) rfl : ∀ args W, (callFunc 139 args).run Tryz.prog W = .ok (.enter 139 args) W)
  go_wp2_with fail
  (with_reducible refine (cRead_1 _ _ _ _ _ _ p1 (b1.c (i := 1) rfl)).mono ?_)
  rintro r w3 ⟨rfl, k3⟩
  replace b1 := b1.kb k3
  replace p1 := p1.kb k3
  replace kx := kx.trans k3
  have s3 := k3.size
  skip
  clear k3
  go_wp2
  go_ret
  exact ⟨rfl, kx⟩
set_option maxRecDepth 100000 in
set_option maxHeartbeats 1000000 in
theorem fcheckPlace_5 (x : Int) (y : Int) (z : Int)      (h1 : ¬ x < (-100000)) (h2 : ¬ 100000 < x) (h3 : ¬ y < (-100000)) (h4 : ¬ 100000 < y) (h5 : z < (-100000)) (w : World)  : Calls Tryz.prog 83 #[.agg #[.int .i64 x, .int .i64 y, .int .i64 z]] w fun r W' => r = .returned (.int .i64 2) ∧ Kb w W' := by
  have kx := Kb.refl w
  go_enter Tryz.func83, Tryz.ntmps83
  go_wp2_with fail
  have b1 := Is.made w #[.int .i64 x, .int .i64 y, .int .i64 z] 23
  replace kx := kx.alloc (.cells #[.int .i64 x, .int .i64 y, .int .i64 z] 23 (0, 0))
  (with_reducible refine (cCoord0_1 w.heap.size _).mono ?_)
  rintro r w1 ⟨g1, rfl, p1, i1, k1⟩
  replace b1 := b1.kb k1
  replace kx := kx.trans k1
  have s1 := k1.size
  simp only [World.size_alloc] at s1
  clear k1
  simp only [World.size_alloc] at i1
  go_wp2_with fail
  refine wp_loop_rounds 3 ?_
  rw [rounds_succ]
  have en1 := (enters_of Tryz.func139 (by kernel_rfl) rfl : ∀ args W, (callFunc 139 args).run Tryz.prog W = .ok (.enter 139 args) W)
  go_wp2_with fail
  (with_reducible refine (cRead_0 _ _ _ _ _ _ p1 (b1.c (i := 0) rfl)).mono ?_)
  rintro r w2 ⟨rfl, k2⟩
  replace b1 := b1.kb k2
  replace p1 := p1.kb k2
  replace kx := kx.trans k2
  have s2 := k2.size
  skip
  clear k2
  go_wp2_with fail
  rw [rounds_succ]
  have en2 := (enters_of Tryz.func139 (by kernel_rfl) rfl : ∀ args W, (callFunc 139 args).run Tryz.prog W = .ok (.enter 139 args) W)
  go_wp2_with fail
  (with_reducible refine (cRead_1 _ _ _ _ _ _ p1 (b1.c (i := 1) rfl)).mono ?_)
  rintro r w3 ⟨rfl, k3⟩
  replace b1 := b1.kb k3
  replace p1 := p1.kb k3
  replace kx := kx.trans k3
  have s3 := k3.size
  skip
  clear k3
  go_wp2_with fail
  rw [rounds_succ]
  have en3 := (enters_of Tryz.func139 (by kernel_rfl) rfl : ∀ args W, (callFunc 139 args).run Tryz.prog W = .ok (.enter 139 args) W)
  go_wp2_with fail
  (with_reducible refine (cRead_2 _ _ _ _ _ _ p1 (b1.c (i := 2) rfl)).mono ?_)
  rintro r w4 ⟨rfl, k4⟩
  replace b1 := b1.kb k4
  replace p1 := p1.kb k4
  replace kx := kx.trans k4
  have s4 := k4.size
  skip
  clear k4
  go_wp2
  go_ret
  exact ⟨rfl, kx⟩
set_option maxRecDepth 100000 in
set_option maxHeartbeats 1000000 in
theorem fcheckPlace_6 (x : Int) (y : Int) (z : Int)      (h1 : ¬ x < (-100000)) (h2 : ¬ 100000 < x) (h3 : ¬ y < (-100000)) (h4 : ¬ 100000 < y) (h5 : ¬ z < (-100000)) (h6 : 100000 < z) (w : World)  : Calls Tryz.prog 83 #[.agg #[.int .i64 x, .int .i64 y, .int .i64 z]] w fun r W' => r = .returned (.int .i64 2) ∧ Kb w W' := by
  have kx := Kb.refl w
  go_enter Tryz.func83, Tryz.ntmps83
  go_wp2_with fail
  have b1 := Is.made w #[.int .i64 x, .int .i64 y, .int .i64 z] 23
  replace kx := kx.alloc (.cells #[.int .i64 x, .int .i64 y, .int .i64 z] 23 (0, 0))
  (with_reducible refine (cCoord0_1 w.heap.size _).mono ?_)
  rintro r w1 ⟨g1, rfl, p1, i1, k1⟩
  replace b1 := b1.kb k1
  replace kx := kx.trans k1
  have s1 := k1.size
  simp only [World.size_alloc] at s1
  clear k1
  simp only [World.size_alloc] at i1
  go_wp2_with fail
  refine wp_loop_rounds 3 ?_
  rw [rounds_succ]
  have en1 := (enters_of Tryz.func139 (by kernel_rfl) rfl : ∀ args W, (callFunc 139 args).run Tryz.prog W = .ok (.enter 139 args) W)
  go_wp2_with fail
  (with_reducible refine (cRead_0 _ _ _ _ _ _ p1 (b1.c (i := 0) rfl)).mono ?_)
  rintro r w2 ⟨rfl, k2⟩
  replace b1 := b1.kb k2
  replace p1 := p1.kb k2
  replace kx := kx.trans k2
  have s2 := k2.size
  skip
  clear k2
  go_wp2_with fail
  rw [rounds_succ]
  have en2 := (enters_of Tryz.func139 (by kernel_rfl) rfl : ∀ args W, (callFunc 139 args).run Tryz.prog W = .ok (.enter 139 args) W)
  go_wp2_with fail
  (with_reducible refine (cRead_1 _ _ _ _ _ _ p1 (b1.c (i := 1) rfl)).mono ?_)
  rintro r w3 ⟨rfl, k3⟩
  replace b1 := b1.kb k3
  replace p1 := p1.kb k3
  replace kx := kx.trans k3
  have s3 := k3.size
  skip
  clear k3
  go_wp2_with fail
  rw [rounds_succ]
  have en3 := (enters_of Tryz.func139 (by kernel_rfl) rfl : ∀ args W, (callFunc 139 args).run Tryz.prog W = .ok (.enter 139 args) W)
  go_wp2_with fail
  (with_reducible refine (cRead_2 _ _ _ _ _ _ p1 (b1.c (i := 2) rfl)).mono ?_)
  rintro r w4 ⟨rfl, k4⟩
  replace b1 := b1.kb k4
  replace p1 := p1.kb k4
  replace kx := kx.trans k4
  have s4 := k4.size
  skip
  clear k4
  go_wp2
  go_ret
  exact ⟨rfl, kx⟩
set_option maxRecDepth 100000 in
set_option maxHeartbeats 1000000 in
theorem fcheckPlace_7 (x : Int) (y : Int) (z : Int)      (h1 : ¬ x < (-100000)) (h2 : ¬ 100000 < x) (h3 : ¬ y < (-100000)) (h4 : ¬ 100000 < y) (h5 : ¬ z < (-100000)) (h6 : ¬ 100000 < z) (w : World)  : Calls Tryz.prog 83 #[.agg #[.int .i64 x, .int .i64 y, .int .i64 z]] w fun r W' => r = .returned (.int .i64 0) ∧ Kb w W' := by
  have kx := Kb.refl w
  go_enter Tryz.func83, Tryz.ntmps83
  go_wp2_with fail
  have b1 := Is.made w #[.int .i64 x, .int .i64 y, .int .i64 z] 23
  replace kx := kx.alloc (.cells #[.int .i64 x, .int .i64 y, .int .i64 z] 23 (0, 0))
  (with_reducible refine (cCoord0_1 w.heap.size _).mono ?_)
  rintro r w1 ⟨g1, rfl, p1, i1, k1⟩
  replace b1 := b1.kb k1
  replace kx := kx.trans k1
  have s1 := k1.size
  simp only [World.size_alloc] at s1
  clear k1
  simp only [World.size_alloc] at i1
  go_wp2_with fail
  refine wp_loop_rounds 4 ?_
  rw [rounds_succ]
  have en1 := (enters_of Tryz.func139 (by kernel_rfl) rfl : ∀ args W, (callFunc 139 args).run Tryz.prog W = .ok (.enter 139 args) W)
  go_wp2_with fail
  (with_reducible refine (cRead_0 _ _ _ _ _ _ p1 (b1.c (i := 0) rfl)).mono ?_)
  rintro r w2 ⟨rfl, k2⟩
  replace b1 := b1.kb k2
  replace p1 := p1.kb k2
  replace kx := kx.trans k2
  have s2 := k2.size
  skip
  clear k2
  go_wp2_with fail
  rw [rounds_succ]
  have en2 := (enters_of Tryz.func139 (by kernel_rfl) rfl : ∀ args W, (callFunc 139 args).run Tryz.prog W = .ok (.enter 139 args) W)
  go_wp2_with fail
  (with_reducible refine (cRead_1 _ _ _ _ _ _ p1 (b1.c (i := 1) rfl)).mono ?_)
  rintro r w3 ⟨rfl, k3⟩
  replace b1 := b1.kb k3
  replace p1 := p1.kb k3
  replace kx := kx.trans k3
  have s3 := k3.size
  skip
  clear k3
  go_wp2_with fail
  rw [rounds_succ]
  have en3 := (enters_of Tryz.func139 (by kernel_rfl) rfl : ∀ args W, (callFunc 139 args).run Tryz.prog W = .ok (.enter 139 args) W)
  go_wp2_with fail
  (with_reducible refine (cRead_2 _ _ _ _ _ _ p1 (b1.c (i := 2) rfl)).mono ?_)
  rintro r w4 ⟨rfl, k4⟩
  replace b1 := b1.kb k4
  replace p1 := p1.kb k4
  replace kx := kx.trans k4
  have s4 := k4.size
  skip
  clear k4
  go_wp2_with fail
  rw [rounds_succ]
  go_wp2
  go_ret
  exact ⟨rfl, kx⟩
set_option maxRecDepth 100000 in
theorem fcheckPlace_any (x : Int) (y : Int) (z : Int)    : Ca 83 #[.agg #[.int .i64 x, .int .i64 y, .int .i64 z]] (if x < (-100000) then (.int .i64 2) else (if 100000 < x then (.int .i64 2) else (if y < (-100000) then (.int .i64 2) else (if 100000 < y then (.int .i64 2) else (if z < (-100000) then (.int .i64 2) else (if 100000 < z then (.int .i64 2) else (.int .i64 0))))))) := Lib.hid fun w => by
  by_cases h1 : x < (-100000)
  · rw [if_pos h1]
    exact fcheckPlace_1 x y z h1 w
  · rw [if_neg h1]
    by_cases h2 : 100000 < x
    · rw [if_pos h2]
      exact fcheckPlace_2 x y z h1 h2 w
    · rw [if_neg h2]
      by_cases h3 : y < (-100000)
      · rw [if_pos h3]
        exact fcheckPlace_3 x y z h1 h2 h3 w
      · rw [if_neg h3]
        by_cases h4 : 100000 < y
        · rw [if_pos h4]
          exact fcheckPlace_4 x y z h1 h2 h3 h4 w
        · rw [if_neg h4]
          by_cases h5 : z < (-100000)
          · rw [if_pos h5]
            exact fcheckPlace_5 x y z h1 h2 h3 h4 h5 w
          · rw [if_neg h5]
            by_cases h6 : 100000 < z
            · rw [if_pos h6]
              exact fcheckPlace_6 x y z h1 h2 h3 h4 h5 h6 w
            · rw [if_neg h6]
              exact fcheckPlace_7 x y z h1 h2 h3 h4 h5 h6 w
set_option maxRecDepth 100000 in
set_option maxHeartbeats 1000000 in
theorem fcheckAxis_1 (c : Int)      (h1 : c < 0) (w : World)  : Calls Tryz.prog 81 #[.int .i64 c] w fun r W' => r = .returned (.int .i64 1) ∧ Kb w W' := by
  have kx := Kb.refl w
  go_enter Tryz.func81, Tryz.ntmps81
  go_wp2
  go_ret
  exact ⟨rfl, kx⟩
set_option maxRecDepth 100000 in
set_option maxHeartbeats 1000000 in
theorem fcheckAxis_2 (c : Int)      (h1 : ¬ c < 0) (h2 : 3 ≤ c) (w : World)  : Calls Tryz.prog 81 #[.int .i64 c] w fun r W' => r = .returned (.int .i64 1) ∧ Kb w W' := by
  have kx := Kb.refl w
  go_enter Tryz.func81, Tryz.ntmps81
  go_wp2
  go_ret
  exact ⟨rfl, kx⟩
set_option maxRecDepth 100000 in
set_option maxHeartbeats 1000000 in
theorem fcheckAxis_3 (c : Int)      (h1 : ¬ c < 0) (h2 : ¬ 3 ≤ c) (w : World)  : Calls Tryz.prog 81 #[.int .i64 c] w fun r W' => r = .returned (.int .i64 0) ∧ Kb w W' := by
  have kx := Kb.refl w
  go_enter Tryz.func81, Tryz.ntmps81
  go_wp2
  go_ret
  exact ⟨rfl, kx⟩
set_option maxRecDepth 100000 in
theorem fcheckAxis_any (c : Int)    : Ca 81 #[.int .i64 c] (if c < 0 then (.int .i64 1) else (if 3 ≤ c then (.int .i64 1) else (.int .i64 0))) := Lib.hid fun w => by
  by_cases h1 : c < 0
  · rw [if_pos h1]
    exact fcheckAxis_1 c h1 w
  · rw [if_neg h1]
    by_cases h2 : 3 ≤ c
    · rw [if_pos h2]
      exact fcheckAxis_2 c h1 h2 w
    · rw [if_neg h2]
      exact fcheckAxis_3 c h1 h2 w






































































































set_option maxRecDepth 100000 in
set_option maxHeartbeats 1000000 in
theorem fcheckSize_1 (n : ByteArray) (k : Int) (a : Int) (x : Int) (y : Int) (z : Int) (lo : Int) (hi : Int) (fp : Option Addr) (fl : Nat) (fc : Nat)      (h1 : (k == 0) = true) (h2 : (lo == 0) = true) (h3 : (hi == 0) = true) (w : World)  : Calls Tryz.prog 85 #[.agg #[.string n, .int .i64 k, .int .i64 a, .int .i64 x, .int .i64 y, .int .i64 z, .int .i64 lo, .int .i64 hi, .slice fp fl fc]] w fun r W' => r = .returned (.int .i64 0) ∧ Kb w W' := by
  have kx := Kb.refl w
  have j1 := (Is.made w #[.string n, .int .i64 k, .int .i64 a, .int .i64 x, .int .i64 y, .int .i64 z, .int .i64 lo, .int .i64 hi, .slice fp fl fc] 28)
  have f2 := j1.c (i := 1) rfl
  have f3 := j1.c (i := 6) rfl
  have f4 := j1.c (i := 7) rfl
  go_enter Tryz.func85, Tryz.ntmps85
  go_wp2_with fail
  clear f2 f3 f4
  have b1 := j1
  replace kx := kx.alloc (.cells #[.string n, .int .i64 k, .int .i64 a, .int .i64 x, .int .i64 y, .int .i64 z, .int .i64 lo, .int .i64 hi, .slice fp fl fc] 28 (0, 0))
  clear j1
  have cc1 := cWhen [] false 3 (w.alloc (.cells #[.string n, .int .i64 k, .int .i64 a, .int .i64 x, .int .i64 y, .int .i64 z, .int .i64 lo, .int .i64 hi, .slice fp fl fc] 28 (0, 0))) (fun x hx => by simp at hx)
  (with_reducible refine cc1.mono ?_)
  rintro r w1 ⟨_, rfl, ⟨F1, cp1, rfl, he1, hk1⟩, k1⟩
  clear cc1
  replace b1 := b1.kb k1
  replace kx := kx.trans k1
  have s1 := k1.size
  simp only [World.size_alloc] at s1
  clear k1
  have c1 : Ck [] (.func (.func F1) #[] cp1) (fE false 3) w1 := ⟨F1, cp1, rfl, he1, hk1⟩
  clear he1 hk1
  go_wp2_with fail
  replace b1 := (b1.alloc (.cells #[.func (.func F1) #[] cp1] 80 (0, 0)))
  have b2 := Is.made w1 #[.func (.func F1) #[] cp1] 80
  replace kx := kx.alloc (.cells #[.func (.func F1) #[] cp1] 80 (0, 0))
  replace c1 := (c1.kx ((Kb.refl _).alloc (.cells #[.func (.func F1) #[] cp1] 80 (0, 0))).kx)
  have cc2 := (show Calls Tryz.prog 39 _ _ (fun r W' => r = .returned (.int .i64 0) ∧ Kb _ W') from cFirst [] [fE false 3] (.slice (some ⟨w1.heap.size, 0, none⟩) 1 1) (w1.alloc (.cells #[.func (.func F1) #[] cp1] 80 (0, 0))) ⟨[.func (.func F1) #[] cp1], rfl, sl_is b2 (by simp) rfl (rows_ok rfl rfl), cks_ok ⟨c1, trivial⟩ rfl⟩ (by simp))
  (with_reducible refine cc2.mono ?_)
  rintro r w2 ⟨rfl, k2⟩
  clear cc2
  replace b1 := b1.kb k2
  replace b2 := b2.kb k2
  replace c1 := c1.kx k2.kx
  replace kx := kx.trans k2
  have s2 := k2.size
  simp only [World.size_alloc] at s2
  clear k2
  clear c1
  go_wp2
  go_ret
  exact ⟨rfl, kx⟩
set_option maxRecDepth 100000 in
set_option maxHeartbeats 1000000 in
theorem fcheckSize_2 (n : ByteArray) (k : Int) (a : Int) (x : Int) (y : Int) (z : Int) (lo : Int) (hi : Int) (fp : Option Addr) (fl : Nat) (fc : Nat)      (h1 : (k == 0) = true) (h2 : (lo == 0) = true) (h3 : (hi == 0) = false) (w : World)  : Calls Tryz.prog 85 #[.agg #[.string n, .int .i64 k, .int .i64 a, .int .i64 x, .int .i64 y, .int .i64 z, .int .i64 lo, .int .i64 hi, .slice fp fl fc]] w fun r W' => r = .returned (.int .i64 3) ∧ Kb w W' := by
  have kx := Kb.refl w
  have j1 := (Is.made w #[.string n, .int .i64 k, .int .i64 a, .int .i64 x, .int .i64 y, .int .i64 z, .int .i64 lo, .int .i64 hi, .slice fp fl fc] 28)
  have f2 := j1.c (i := 1) rfl
  have f3 := j1.c (i := 6) rfl
  have f4 := j1.c (i := 7) rfl
  go_enter Tryz.func85, Tryz.ntmps85
  go_wp2_with fail
  clear f2 f3 f4
  have b1 := j1
  replace kx := kx.alloc (.cells #[.string n, .int .i64 k, .int .i64 a, .int .i64 x, .int .i64 y, .int .i64 z, .int .i64 lo, .int .i64 hi, .slice fp fl fc] 28 (0, 0))
  clear j1
  have cc1 := cWhen [] true 3 (w.alloc (.cells #[.string n, .int .i64 k, .int .i64 a, .int .i64 x, .int .i64 y, .int .i64 z, .int .i64 lo, .int .i64 hi, .slice fp fl fc] 28 (0, 0))) (fun x hx => by simp at hx)
  (with_reducible refine cc1.mono ?_)
  rintro r w1 ⟨_, rfl, ⟨F1, cp1, rfl, he1, hk1⟩, k1⟩
  clear cc1
  replace b1 := b1.kb k1
  replace kx := kx.trans k1
  have s1 := k1.size
  simp only [World.size_alloc] at s1
  clear k1
  have c1 : Ck [] (.func (.func F1) #[] cp1) (fE true 3) w1 := ⟨F1, cp1, rfl, he1, hk1⟩
  clear he1 hk1
  go_wp2_with fail
  replace b1 := (b1.alloc (.cells #[.func (.func F1) #[] cp1] 80 (0, 0)))
  have b2 := Is.made w1 #[.func (.func F1) #[] cp1] 80
  replace kx := kx.alloc (.cells #[.func (.func F1) #[] cp1] 80 (0, 0))
  replace c1 := (c1.kx ((Kb.refl _).alloc (.cells #[.func (.func F1) #[] cp1] 80 (0, 0))).kx)
  have cc2 := (show Calls Tryz.prog 39 _ _ (fun r W' => r = .returned (.int .i64 3) ∧ Kb _ W') from cFirst [] [fE true 3] (.slice (some ⟨w1.heap.size, 0, none⟩) 1 1) (w1.alloc (.cells #[.func (.func F1) #[] cp1] 80 (0, 0))) ⟨[.func (.func F1) #[] cp1], rfl, sl_is b2 (by simp) rfl (rows_ok rfl rfl), cks_ok ⟨c1, trivial⟩ rfl⟩ (by simp))
  (with_reducible refine cc2.mono ?_)
  rintro r w2 ⟨rfl, k2⟩
  clear cc2
  replace b1 := b1.kb k2
  replace b2 := b2.kb k2
  replace c1 := c1.kx k2.kx
  replace kx := kx.trans k2
  have s2 := k2.size
  simp only [World.size_alloc] at s2
  clear k2
  clear c1
  go_wp2
  go_ret
  exact ⟨rfl, kx⟩
set_option maxRecDepth 100000 in
set_option maxHeartbeats 1000000 in
theorem fcheckSize_3 (n : ByteArray) (k : Int) (a : Int) (x : Int) (y : Int) (z : Int) (lo : Int) (hi : Int) (fp : Option Addr) (fl : Nat) (fc : Nat)      (h1 : (k == 0) = true) (h2 : (lo == 0) = false) (w : World)  : Calls Tryz.prog 85 #[.agg #[.string n, .int .i64 k, .int .i64 a, .int .i64 x, .int .i64 y, .int .i64 z, .int .i64 lo, .int .i64 hi, .slice fp fl fc]] w fun r W' => r = .returned (.int .i64 3) ∧ Kb w W' := by
  have kx := Kb.refl w
  have j1 := (Is.made w #[.string n, .int .i64 k, .int .i64 a, .int .i64 x, .int .i64 y, .int .i64 z, .int .i64 lo, .int .i64 hi, .slice fp fl fc] 28)
  have f2 := j1.c (i := 1) rfl
  have f3 := j1.c (i := 6) rfl
  have f4 := j1.c (i := 7) rfl
  go_enter Tryz.func85, Tryz.ntmps85
  go_wp2_with fail
  clear f2 f3 f4
  have b1 := j1
  replace kx := kx.alloc (.cells #[.string n, .int .i64 k, .int .i64 a, .int .i64 x, .int .i64 y, .int .i64 z, .int .i64 lo, .int .i64 hi, .slice fp fl fc] 28 (0, 0))
  clear j1
  have cc1 := cWhen [] true 3 (w.alloc (.cells #[.string n, .int .i64 k, .int .i64 a, .int .i64 x, .int .i64 y, .int .i64 z, .int .i64 lo, .int .i64 hi, .slice fp fl fc] 28 (0, 0))) (fun x hx => by simp at hx)
  (with_reducible refine cc1.mono ?_)
  rintro r w1 ⟨_, rfl, ⟨F1, cp1, rfl, he1, hk1⟩, k1⟩
  clear cc1
  replace b1 := b1.kb k1
  replace kx := kx.trans k1
  have s1 := k1.size
  simp only [World.size_alloc] at s1
  clear k1
  have c1 : Ck [] (.func (.func F1) #[] cp1) (fE true 3) w1 := ⟨F1, cp1, rfl, he1, hk1⟩
  clear he1 hk1
  go_wp2_with fail
  replace b1 := (b1.alloc (.cells #[.func (.func F1) #[] cp1] 80 (0, 0)))
  have b2 := Is.made w1 #[.func (.func F1) #[] cp1] 80
  replace kx := kx.alloc (.cells #[.func (.func F1) #[] cp1] 80 (0, 0))
  replace c1 := (c1.kx ((Kb.refl _).alloc (.cells #[.func (.func F1) #[] cp1] 80 (0, 0))).kx)
  have cc2 := (show Calls Tryz.prog 39 _ _ (fun r W' => r = .returned (.int .i64 3) ∧ Kb _ W') from cFirst [] [fE true 3] (.slice (some ⟨w1.heap.size, 0, none⟩) 1 1) (w1.alloc (.cells #[.func (.func F1) #[] cp1] 80 (0, 0))) ⟨[.func (.func F1) #[] cp1], rfl, sl_is b2 (by simp) rfl (rows_ok rfl rfl), cks_ok ⟨c1, trivial⟩ rfl⟩ (by simp))
  (with_reducible refine cc2.mono ?_)
  rintro r w2 ⟨rfl, k2⟩
  clear cc2
  replace b1 := b1.kb k2
  replace b2 := b2.kb k2
  replace c1 := c1.kx k2.kx
  replace kx := kx.trans k2
  have s2 := k2.size
  simp only [World.size_alloc] at s2
  clear k2
  clear c1
  go_wp2
  go_ret
  exact ⟨rfl, kx⟩
set_option maxRecDepth 100000 in
set_option maxHeartbeats 1000000 in
theorem fcheckSize_4 (n : ByteArray) (k : Int) (a : Int) (x : Int) (y : Int) (z : Int) (lo : Int) (hi : Int) (fp : Option Addr) (fl : Nat) (fc : Nat) (r1 : Int)   (q1 : Ca 105 #[.agg #[.int .i64 lo, .int .i64 hi]] (.int .i64 r1))  (h1 : (k == 0) = false) (w : World)  : Calls Tryz.prog 85 #[.agg #[.string n, .int .i64 k, .int .i64 a, .int .i64 x, .int .i64 y, .int .i64 z, .int .i64 lo, .int .i64 hi, .slice fp fl fc]] w fun r W' => r = .returned (.int .i64 (firstE [firstE [r1], fE (decide (lo < 1)) 2])) ∧ Kb w W' := by
  have kx := Kb.refl w
  unfold Ca at q1
  have j1 := (Is.made w #[.string n, .int .i64 k, .int .i64 a, .int .i64 x, .int .i64 y, .int .i64 z, .int .i64 lo, .int .i64 hi, .slice fp fl fc] 28)
  have f2 := j1.c (i := 1) rfl
  go_enter Tryz.func85, Tryz.ntmps85
  go_wp2_with fail
  clear f2
  have b1 := j1
  replace kx := kx.alloc (.cells #[.string n, .int .i64 k, .int .i64 a, .int .i64 x, .int .i64 y, .int .i64 z, .int .i64 lo, .int .i64 hi, .slice fp fl fc] 28 (0, 0))
  clear j1
  replace b1 := b1.drew
  rw [oF_lit]
  refine o_law (⟨24, [some 13, some 14, some 15, some 16, some 17, some 18, some 19, some 20, some 21, some 22, some 23, some 2], [13, 14, 15, 16, 17, 18, 19, 20, 21, 22, 23, 2], [[], [0], [1], [2], [], [4], [5], [6], [7], [3, 8], [9], [10]], [[1], [], [], [], [1], [], [], [], [], [], [], []]⟩ : OT) (Kx []) (RL [fun vv _ => vv = .pointer (some ⟨w.heap.size, 6, none⟩), fun vv _ => vv = .agg #[.int .i64 lo, .int .i64 hi], fun vv ww => Sl [] 2 ww vv [[.int .i64 lo, .int .i64 hi]], fun vv ww => Ck [] vv (firstE [r1]) ww, fun vv _ => vv = .pointer (some ⟨w.heap.size, 6, none⟩), fun vv _ => vv = .pointer (some ⟨w.heap.size, 6, none⟩), fun vv _ => vv = .int .i64 lo, fun vv _ => vv = .bool (decide (lo < 1)), fun vv ww => Ck [] vv (fE (decide (lo < 1)) 2) ww, fun vv ww => SlC [] [firstE [r1], fE (decide (lo < 1)) 2] vv ww, fun vv _ => vv = .int .i64 (firstE [firstE [r1], fE (decide (lo < 1)) 2]), fun vv _ => vv = .int .i64 (firstE [firstE [r1], fE (decide (lo < 1)) 2])]) (by kernel_rfl) ?hk ?hR ?fin
  case hk => kernel_rfl
  case hR =>
    refine ⟨fun _ => (Kx.refl _ _), fun _ _ _ => Kx.trans, rl_stab ⟨fun _ _ _ _ h => h, fun _ _ _ _ h => h, (fun v w w' k h => h.kx k), (fun v w w' k h => h.kx k), fun _ _ _ _ h => h, fun _ _ _ _ h => h, fun _ _ _ _ h => h, fun _ _ _ _ h => h, (fun v w w' k h => h.kx k), (fun v w w' k h => h.kx k), fun _ _ _ _ h => h, fun _ _ _ _ h => h, trivial⟩, ?_⟩
    refine allO_cons ?_ (allO_cons ?_ (allO_cons ?_ (allO_cons ?_ (allO_cons ?_ (allO_cons ?_ (allO_cons ?_ (allO_cons ?_ (allO_cons ?_ (allO_cons ?_ (allO_cons ?_ (allO_cons ?_ (allO_nil))))))))))))
    · intro T w9 hG hD hO Q
      have q0 := hO.1
      have e0 : (oF 24 T).eval (.tmp 1) = .pointer (some ⟨w.heap.size, 0, none⟩) := (oF_eval (by decide)).trans (show T 1 = _ from q0)
      refine og_none rfl ?_
      exact o_val (v := .pointer (some ⟨w.heap.size, 6, none⟩)) (w' := w9) (by generalize (oF 24 T).eval = rr at *; simp [execOp, go_sem, e0]) rfl rfl (Kx.refl _ _)
    · intro T w9 hG hD hO Q
      have d0 := hD.1
      have e0 : (oF 24 T).eval (.tmp 13) = .pointer (some ⟨w.heap.size, 6, none⟩) := (oF_eval (by decide)).trans (show T 13 = _ from d0)
      refine og_none rfl ?_
      have im := b1.kx hG (by simp)
      have m0 := im.c (i := 6) rfl
      have m1 := im.c (i := 7) rfl
      clear im
      exact o_val (v := .agg #[.int .i64 lo, .int .i64 hi]) (w' := w9) (by generalize (oF 24 T).eval = rr at *; simp [execOp, go_sem, e0, m0, m1]) rfl rfl (Kx.refl _ _)
    · intro T w9 hG hD hO Q
      have d0 := hD.1
      have e0 : (oF 24 T).eval (.tmp 14) = .agg #[.int .i64 lo, .int .i64 hi] := (oF_eval (by decide)).trans (show T 14 = _ from d0)
      refine og_none rfl ?_
      have kz : Kb w9 (w9.alloc (.cells #[.int .i64 lo, .int .i64 hi] 25 (0, 0))) := (Kb.refl w9).alloc _
      exact o_val (v := .slice (some ⟨w9.heap.size, 0, none⟩) 1 1) (w' := w9.alloc (.cells #[.int .i64 lo, .int .i64 hi] 25 (0, 0))) (by generalize (oF 24 T).eval = rr at *; simp [execOp, go_sem, e0]) rfl (sl_is (Is.made w9 _ _) (by simp) rfl (rows_ok rfl rfl)) kz.kx
    · intro T w9 hG hD hO Q
      have d0 := hD.1
      have e0 : (oF 24 T).eval (.func 104) = .func (.func 104) #[] #[] := rfl
      have e1 : (oF 24 T).eval (.func 105) = .func (.func 105) #[] #[] := rfl
      have e2 : (oF 24 T).eval (.tmp 15) = T 15 := oF_eval (by decide)
      have p2 : (fun vv ww => Sl [] 2 ww vv [[.int .i64 lo, .int .i64 hi]]) (T 15) w9 := d0
      refine og_none rfl ?_
      refine o_call (oc2 (enters_of Tryz.func104 (by kernel_rfl) rfl) rfl rfl e1 e2) rfl ?_
      exact (cEach_Lim [] _ (0, 0) [(lo, hi)] [r1] _ w9 (by simp) (by simp) rfl p2 (enters_of Tryz.func105 (by kernel_rfl) rfl) (each_ok ⟨q1, trivial⟩ rfl)).mono fun r W' ⟨v, h1, h2, h3⟩ => ⟨v, h1, h2, h3.kx⟩
    · intro T w9 hG hD hO Q
      have q0 := hO.1
      have e0 : (oF 24 T).eval (.tmp 1) = .pointer (some ⟨w.heap.size, 0, none⟩) := (oF_eval (by decide)).trans (show T 1 = _ from q0)
      refine og_none rfl ?_
      exact o_val (v := .pointer (some ⟨w.heap.size, 6, none⟩)) (w' := w9) (by generalize (oF 24 T).eval = rr at *; simp [execOp, go_sem, e0]) rfl rfl (Kx.refl _ _)
    · intro T w9 hG hD hO Q
      have d0 := hD.1
      have e0 : (oF 24 T).eval (.tmp 17) = .pointer (some ⟨w.heap.size, 6, none⟩) := (oF_eval (by decide)).trans (show T 17 = _ from d0)
      refine og_none rfl ?_
      exact o_val (v := .pointer (some ⟨w.heap.size, 6, none⟩)) (w' := w9) (by generalize (oF 24 T).eval = rr at *; simp [execOp, go_sem, e0]) rfl rfl (Kx.refl _ _)
    · intro T w9 hG hD hO Q
      have d0 := hD.1
      have e0 : (oF 24 T).eval (.tmp 18) = .pointer (some ⟨w.heap.size, 6, none⟩) := (oF_eval (by decide)).trans (show T 18 = _ from d0)
      refine og_none rfl ?_
      have im := b1.kx hG (by simp)
      have m0 := im.c (i := 6) rfl
      clear im
      exact o_val (v := .int .i64 lo) (w' := w9) (by generalize (oF 24 T).eval = rr at *; simp [execOp, go_sem, e0, m0]) rfl rfl (Kx.refl _ _)
    · intro T w9 hG hD hO Q
      have d0 := hD.1
      have e0 : (oF 24 T).eval (.tmp 19) = .int .i64 lo := (oF_eval (by decide)).trans (show T 19 = _ from d0)
      have e1 : (oF 24 T).eval (.const (.int .i64 1)) = .int .i64 1 := rfl
      refine og_none rfl ?_
      exact o_val (v := .bool (decide (lo < 1))) (w' := w9) (by generalize (oF 24 T).eval = rr at *; simp [execOp, go_sem, e0, e1]) rfl rfl (Kx.refl _ _)
    · intro T w9 hG hD hO Q
      have d0 := hD.1
      have e0 : (oF 24 T).eval (.func 47) = .func (.func 47) #[] #[] := rfl
      have e1 : (oF 24 T).eval (.tmp 20) = .bool (decide (lo < 1)) := (oF_eval (by decide)).trans (show T 20 = _ from d0)
      have e2 : (oF 24 T).eval (.const (.int .i64 2)) = .int .i64 2 := rfl
      refine og_none rfl ?_
      refine o_call (oc2 (enters_of Tryz.func47 (by kernel_rfl) rfl) rfl rfl e1 e2) rfl ?_
      exact (cWhen [] (decide (lo < 1)) 2 w9 (by simp)).mono fun r W' ⟨v, h1, h2, h3⟩ => ⟨v, h1, h2, h3.kx⟩
    · intro T w9 hG hD hO Q
      have d0 := hD.1
      have d1 := hD.2.1
      have e0 : (oF 24 T).eval (.tmp 16) = T 16 := oF_eval (by decide)
      have p0 : (fun vv ww => Ck [] vv (firstE [r1]) ww) (T 16) w9 := d0
      have e1 : (oF 24 T).eval (.tmp 21) = T 21 := oF_eval (by decide)
      have p1 : (fun vv ww => Ck [] vv (fE (decide (lo < 1)) 2) ww) (T 21) w9 := d1
      refine og_none rfl ?_
      obtain ⟨F0, c0, f0, g0, h0⟩ := p0
      obtain ⟨F1, c1, f1, g1, h1⟩ := p1
      rw [f0] at e0
      rw [f1] at e1
      have kz : Kb w9 (w9.alloc (.cells #[.func (.func F0) #[] c0, .func (.func F1) #[] c1] 80 (0, 0))) := (Kb.refl w9).alloc _
      exact o_val (v := .slice (some ⟨w9.heap.size, 0, none⟩) 2 2) (w' := w9.alloc (.cells #[.func (.func F0) #[] c0, .func (.func F1) #[] c1] 80 (0, 0))) (by generalize (oF 24 T).eval = rr at *; simp [execOp, go_sem, e0, e1]) rfl ⟨[.func (.func F0) #[] c0, .func (.func F1) #[] c1], rfl, sl_is (Is.made w9 _ _) (by simp) rfl (rows_ok rfl rfl), cks_ok ⟨(Ck.kx ⟨F0, c0, rfl, g0, h0⟩ kz.kx), (Ck.kx ⟨F1, c1, rfl, g1, h1⟩ kz.kx), trivial⟩ rfl⟩ kz.kx
    · intro T w9 hG hD hO Q
      have d0 := hD.1
      have e0 : (oF 24 T).eval (.func 39) = .func (.func 39) #[] #[] := rfl
      have e1 : (oF 24 T).eval (.tmp 22) = T 22 := oF_eval (by decide)
      have p1 : (fun vv ww => SlC [] [firstE [r1], fE (decide (lo < 1)) 2] vv ww) (T 22) w9 := d0
      refine og_none rfl ?_
      refine o_call (oc1 (enters_of Tryz.func39 (by kernel_rfl) rfl) rfl rfl e1) rfl ?_
      exact (cFirst [] _ _ w9 p1 (by simp)).mono fun r W' h => ⟨_, h.1, rfl, h.2.kx⟩
    · intro T w9 hG hD hO Q
      have d0 := hD.1
      have e0 : (oF 24 T).eval (.tmp 23) = .int .i64 (firstE [firstE [r1], fE (decide (lo < 1)) 2]) := (oF_eval (by decide)).trans (show T 23 = _ from d0)
      refine og_none rfl ?_
      exact o_val (v := .int .i64 (firstE [firstE [r1], fE (decide (lo < 1)) 2])) (w' := w9) (by generalize (oF 24 T).eval = rr at *; simp [execOp, go_sem, e0]) rfl rfl (Kx.refl _ _)
  case fin =>
    intro T w1 hout hval hG
    have s1 := hG.2.2.2.1
    simp only [World.size_drew, World.size_alloc] at s1
    rw [show oF 24 T = (⟨#[T 0, T 1, T 2, T 3, T 4, T 5, T 6, T 7, T 8, T 9, T 10, T 11, T 12, T 13, T 14, T 15, T 16, T 17, T 18, T 19, T 20, T 21, T 22, T 23], []⟩ : Act) from oF_list 24 T]
    rw [show T 0 = .agg #[.string n, .int .i64 k, .int .i64 a, .int .i64 x, .int .i64 y, .int .i64 z, .int .i64 lo, .int .i64 hi, .slice fp fl fc] from hout 0 rfl]
    rw [show T 1 = .pointer (some ⟨w.heap.size, 0, none⟩) from hout 1 rfl]
    rw [show T 2 = .int .i64 (firstE [firstE [r1], fE (decide (lo < 1)) 2]) from hval 11 (by decide : 11 < 12)]
    rw [show T 3 = .pointer (some ⟨w.heap.size, 1, none⟩) from hout 3 rfl]
    rw [show T 4 = .int .i64 k from hout 4 rfl]
    rw [show T 5 = .bool false from hout 5 rfl]
    replace b1 := b1.kx hG (by simp)
    replace kx := (show Kb _ _ from kx.drew).trans hG.nil
    clear hout hval hG
    go_wp2
    go_ret
    exact ⟨rfl, kx⟩
set_option maxRecDepth 100000 in
theorem fcheckSize_any (n : ByteArray) (k : Int) (a : Int) (x : Int) (y : Int) (z : Int) (lo : Int) (hi : Int) (fp : Option Addr) (fl : Nat) (fc : Nat) (r1 : Int) (q1 : Ca 105 #[.agg #[.int .i64 lo, .int .i64 hi]] (.int .i64 r1))  : Ca 85 #[.agg #[.string n, .int .i64 k, .int .i64 a, .int .i64 x, .int .i64 y, .int .i64 z, .int .i64 lo, .int .i64 hi, .slice fp fl fc]] (if (k == 0) = true then (if (lo == 0) = true then (if (hi == 0) = true then (.int .i64 0) else (.int .i64 3)) else (.int .i64 3)) else (.int .i64 (firstE [firstE [r1], fE (decide (lo < 1)) 2]))) := Lib.hid fun w => by
  rcases Bool.eq_false_or_eq_true (k == 0) with h1 | h1
  · rw [if_pos h1]
    rcases Bool.eq_false_or_eq_true (lo == 0) with h2 | h2
    · rw [if_pos h2]
      rcases Bool.eq_false_or_eq_true (hi == 0) with h3 | h3
      · rw [if_pos h3]
        exact fcheckSize_1 n k a x y z lo hi fp fl fc h1 h2 h3 w
      · rw [if_neg (by rw [h3]; decide)]
        exact fcheckSize_2 n k a x y z lo hi fp fl fc h1 h2 h3 w
    · rw [if_neg (by rw [h2]; decide)]
      exact fcheckSize_3 n k a x y z lo hi fp fl fc h1 h2 w
  · rw [if_neg (by rw [h1]; decide)]
    exact fcheckSize_4 n k a x y z lo hi fp fl fc r1 q1 h1 w
set_option maxRecDepth 100000 in
set_option maxHeartbeats 1000000 in
theorem fCheck1_1 (n : ByteArray) (k : Int) (a : Int) (x : Int) (y : Int) (z : Int) (lo : Int) (hi : Int) (fp : Option Addr) (fl : Nat) (fc : Nat) (b : Nat) (r1 : Int)   (q1 : Ca 85 #[.agg #[.string n, .int .i64 k, .int .i64 a, .int .i64 x, .int .i64 y, .int .i64 z, .int .i64 lo, .int .i64 hi, .slice fp fl fc]] (.int .i64 r1)) (w : World) (b0 : Is w b #[.string n, .int .i64 k, .int .i64 a, .int .i64 x, .int .i64 y, .int .i64 z, .int .i64 lo, .int .i64 hi, .slice fp fl fc] 28)  : Calls Tryz.prog 84 #[.pointer (some ⟨b, 0, none⟩)] w fun r W' => r = .returned (.int .i64 r1) ∧ Kb w W' := by
  have kx := Kb.refl w
  unfold Ca at q1
  have f1 := b0.c (i := 0) rfl
  have f2 := b0.c (i := 1) rfl
  have f3 := b0.c (i := 2) rfl
  have f4 := b0.c (i := 3) rfl
  have f5 := b0.c (i := 4) rfl
  have f6 := b0.c (i := 5) rfl
  have f7 := b0.c (i := 6) rfl
  have f8 := b0.c (i := 7) rfl
  have f9 := b0.c (i := 8) rfl
  go_enter Tryz.func84, Tryz.ntmps84
  go_wp2_with fail
  clear f1 f2 f3 f4 f5 f6 f7 f8 f9
  (with_reducible refine (((q1).out _)).mono ?_)
  rintro r w1 ⟨rfl, k1⟩
  replace b0 := b0.kb k1
  replace kx := kx.trans k1
  have s1 := k1.size
  skip
  clear k1
  go_wp2
  go_ret
  exact ⟨rfl, kx⟩
theorem ckSize {w : World} {n : ByteArray} {k a x y z lo hi : Int} {fp : Option Addr} {fl fc b : Nat} {e : Int} (is : Is w b #[.string n, .int .i64 k, .int .i64 a, .int .i64 x, .int .i64 y, .int .i64 z, .int .i64 lo, .int .i64 hi, .slice fp fl fc] 28) (q : Ca 85 #[.agg #[.string n, .int .i64 k, .int .i64 a, .int .i64 x, .int .i64 y, .int .i64 z, .int .i64 lo, .int .i64 hi, .slice fp fl fc]] (.int .i64 e)) : Ck [] (.func (.func 84) #[] #[.pointer (some ⟨b, 0, none⟩)]) e w :=
  ⟨_, _, rfl, enters_of Tryz.func84 (by kernel_rfl) rfl, fun W hW => fCheck1_1 n k a x y z lo hi fp fl fc b e q W (is.kx hW (by simp))⟩
set_option maxRecDepth 100000 in
set_option maxHeartbeats 1000000 in
theorem fCheck_1 (n : ByteArray) (k : Int) (a : Int) (x : Int) (y : Int) (z : Int) (lo : Int) (hi : Int) (fp : Option Addr) (fl : Nat) (fc : Nat) (r1 : Int) (r2 : Int) (r3 : Int) (r4 : Int)   (q1 : Ca 85 #[.agg #[.string n, .int .i64 k, .int .i64 a, .int .i64 x, .int .i64 y, .int .i64 z, .int .i64 lo, .int .i64 hi, .slice fp fl fc]] (.int .i64 r1)) (q2 : Ca 80 #[.string n] (.int .i64 r2)) (q3 : Ca 81 #[.int .i64 a] (.int .i64 r3)) (q4 : Ca 83 #[.agg #[.int .i64 x, .int .i64 y, .int .i64 z]] (.int .i64 r4)) (w : World)  : Calls Tryz.prog 41 #[.agg #[.string n, .int .i64 k, .int .i64 a, .int .i64 x, .int .i64 y, .int .i64 z, .int .i64 lo, .int .i64 hi, .slice fp fl fc]] w fun r W' => r = .returned (.int .i64 (firstE [firstE [r2], fE ((decide (k < 0)) || (decide (5 ≤ k))) 1, firstE [r3], fE ((k == 4) && (a != 0)) 3, firstE [r4], r1])) ∧ Kb w W' := by
  have kx := Kb.refl w
  unfold Ca at q1 q2 q3 q4
  go_enter Tryz.func41, Tryz.ntmps41
  go_wp2_with fail
  have b1 := Is.made w #[.string n, .int .i64 k, .int .i64 a, .int .i64 x, .int .i64 y, .int .i64 z, .int .i64 lo, .int .i64 hi, .slice fp fl fc] 28
  replace kx := kx.alloc (.cells #[.string n, .int .i64 k, .int .i64 a, .int .i64 x, .int .i64 y, .int .i64 z, .int .i64 lo, .int .i64 hi, .slice fp fl fc] 28 (0, 0))
  replace b1 := b1.drew
  rw [oF_lit]
  refine o_law (⟨36, [some 3, some 4, some 5, some 6, some 7, some 8, some 9, some 10, some 11, some 12, some 13, some 14, some 15, some 16, some 17, some 18, some 19, some 20, some 21, some 22, some 23, some 24, some 25, some 26, some 27, some 28, some 29, some 30, some 31, some 32, some 33, some 34, some 35, some 2], [3, 4, 5, 6, 7, 8, 9, 10, 11, 12, 13, 14, 15, 16, 17, 18, 19, 20, 21, 22, 23, 24, 25, 26, 27, 28, 29, 30, 31, 32, 33, 34, 35, 2], [[], [0], [1], [2], [], [4], [5], [6], [7], [8, 7], [9, 7], [7, 10], [11], [], [13], [14], [15], [], [17], [18], [19], [20], [21, 20], [22, 20], [20, 23], [24], [], [26], [27], [28], [], [3, 12, 16, 25, 29, 30], [31], [32]], [[1], [], [], [], [1], [], [], [], [1], [], [], [], [], [1], [], [], [], [1], [], [], [], [1], [], [], [], [], [1], [], [], [], [1], [], [], []]⟩ : OT) (Kx []) (RL [fun vv _ => vv = .pointer (some ⟨w.heap.size, 0, none⟩), fun vv _ => vv = .string n, fun vv ww => Sl [] 1 ww vv [[.string n]], fun vv ww => Ck [] vv (firstE [r2]) ww, fun vv _ => vv = .pointer (some ⟨w.heap.size, 1, none⟩), fun vv _ => vv = .int .i64 k, fun vv _ => vv = .bool (decide (k < 0)), fun vv _ => vv = .bool (decide (k < 0)), fun vv _ => (decide (k < 0)) = false → vv = .pointer (some ⟨w.heap.size, 1, none⟩), fun vv _ => (decide (k < 0)) = false → vv = .int .i64 k, fun vv _ => (decide (k < 0)) = false → vv = .bool (decide (5 ≤ k)), fun vv _ => vv = .bool ((decide (k < 0)) || (decide (5 ≤ k))), fun vv ww => Ck [] vv (fE ((decide (k < 0)) || (decide (5 ≤ k))) 1) ww, fun vv _ => vv = .pointer (some ⟨w.heap.size, 2, none⟩), fun vv _ => vv = .int .i64 a, fun vv ww => Sl [] 1 ww vv [[.int .i64 a]], fun vv ww => Ck [] vv (firstE [r3]) ww, fun vv _ => vv = .pointer (some ⟨w.heap.size, 1, none⟩), fun vv _ => vv = .int .i64 k, fun vv _ => vv = .bool (k == 4), fun vv _ => vv = .bool (k == 4), fun vv _ => (k == 4) = true → vv = .pointer (some ⟨w.heap.size, 2, none⟩), fun vv _ => (k == 4) = true → vv = .int .i64 a, fun vv _ => (k == 4) = true → vv = .bool (a != 0), fun vv _ => vv = .bool ((k == 4) && (a != 0)), fun vv ww => Ck [] vv (fE ((k == 4) && (a != 0)) 3) ww, fun vv _ => vv = .pointer (some ⟨w.heap.size, 3, none⟩), fun vv _ => vv = .agg #[.int .i64 x, .int .i64 y, .int .i64 z], fun vv ww => Sl [] 3 ww vv [[.int .i64 x, .int .i64 y, .int .i64 z]], fun vv ww => Ck [] vv (firstE [r4]) ww, fun vv ww => Ck [] vv r1 ww, fun vv ww => SlC [] [firstE [r2], fE ((decide (k < 0)) || (decide (5 ≤ k))) 1, firstE [r3], fE ((k == 4) && (a != 0)) 3, firstE [r4], r1] vv ww, fun vv _ => vv = .int .i64 (firstE [firstE [r2], fE ((decide (k < 0)) || (decide (5 ≤ k))) 1, firstE [r3], fE ((k == 4) && (a != 0)) 3, firstE [r4], r1]), fun vv _ => vv = .int .i64 (firstE [firstE [r2], fE ((decide (k < 0)) || (decide (5 ≤ k))) 1, firstE [r3], fE ((k == 4) && (a != 0)) 3, firstE [r4], r1])]) (by kernel_rfl) ?hk ?hR ?fin
  case hk => kernel_rfl
  case hR =>
    refine ⟨fun _ => (Kx.refl _ _), fun _ _ _ => Kx.trans, rl_stab ⟨fun _ _ _ _ h => h, fun _ _ _ _ h => h, (fun v w w' k h => h.kx k), (fun v w w' k h => h.kx k), fun _ _ _ _ h => h, fun _ _ _ _ h => h, fun _ _ _ _ h => h, fun _ _ _ _ h => h, fun _ _ _ _ h => h, fun _ _ _ _ h => h, fun _ _ _ _ h => h, fun _ _ _ _ h => h, (fun v w w' k h => h.kx k), fun _ _ _ _ h => h, fun _ _ _ _ h => h, (fun v w w' k h => h.kx k), (fun v w w' k h => h.kx k), fun _ _ _ _ h => h, fun _ _ _ _ h => h, fun _ _ _ _ h => h, fun _ _ _ _ h => h, fun _ _ _ _ h => h, fun _ _ _ _ h => h, fun _ _ _ _ h => h, fun _ _ _ _ h => h, (fun v w w' k h => h.kx k), fun _ _ _ _ h => h, fun _ _ _ _ h => h, (fun v w w' k h => h.kx k), (fun v w w' k h => h.kx k), (fun v w w' k h => h.kx k), (fun v w w' k h => h.kx k), fun _ _ _ _ h => h, fun _ _ _ _ h => h, trivial⟩, ?_⟩
    refine allO_cons ?_ (allO_cons ?_ (allO_cons ?_ (allO_cons ?_ (allO_cons ?_ (allO_cons ?_ (allO_cons ?_ (allO_cons ?_ (allO_cons ?_ (allO_cons ?_ (allO_cons ?_ (allO_cons ?_ (allO_cons ?_ (allO_cons ?_ (allO_cons ?_ (allO_cons ?_ (allO_cons ?_ (allO_cons ?_ (allO_cons ?_ (allO_cons ?_ (allO_cons ?_ (allO_cons ?_ (allO_cons ?_ (allO_cons ?_ (allO_cons ?_ (allO_cons ?_ (allO_cons ?_ (allO_cons ?_ (allO_cons ?_ (allO_cons ?_ (allO_cons ?_ (allO_cons ?_ (allO_cons ?_ (allO_cons ?_ (allO_nil))))))))))))))))))))))))))))))))))
    · intro T w9 hG hD hO Q
      have q0 := hO.1
      have e0 : (oF 36 T).eval (.tmp 1) = .pointer (some ⟨w.heap.size, 0, none⟩) := (oF_eval (by decide)).trans (show T 1 = _ from q0)
      refine og_none rfl ?_
      exact o_val (v := .pointer (some ⟨w.heap.size, 0, none⟩)) (w' := w9) (by generalize (oF 36 T).eval = rr at *; simp [execOp, go_sem, e0]) rfl rfl (Kx.refl _ _)
    · intro T w9 hG hD hO Q
      have d0 := hD.1
      have e0 : (oF 36 T).eval (.tmp 3) = .pointer (some ⟨w.heap.size, 0, none⟩) := (oF_eval (by decide)).trans (show T 3 = _ from d0)
      refine og_none rfl ?_
      have im := b1.kx hG (by simp)
      have m0 := im.c (i := 0) rfl
      clear im
      exact o_val (v := .string n) (w' := w9) (by generalize (oF 36 T).eval = rr at *; simp [execOp, go_sem, e0, m0]) rfl rfl (Kx.refl _ _)
    · intro T w9 hG hD hO Q
      have d0 := hD.1
      have e0 : (oF 36 T).eval (.tmp 4) = .string n := (oF_eval (by decide)).trans (show T 4 = _ from d0)
      refine og_none rfl ?_
      have kz : Kb w9 (w9.alloc (.cells #[.string n] 9 (0, 0))) := (Kb.refl w9).alloc _
      exact o_val (v := .slice (some ⟨w9.heap.size, 0, none⟩) 1 1) (w' := w9.alloc (.cells #[.string n] 9 (0, 0))) (by generalize (oF 36 T).eval = rr at *; simp [execOp, go_sem, e0]) rfl (sl_is (Is.made w9 _ _) (by simp) rfl (rows_ok rfl rfl)) kz.kx
    · intro T w9 hG hD hO Q
      have d0 := hD.1
      have e0 : (oF 36 T).eval (.func 79) = .func (.func 79) #[] #[] := rfl
      have e1 : (oF 36 T).eval (.func 80) = .func (.func 80) #[] #[] := rfl
      have e2 : (oF 36 T).eval (.tmp 5) = T 5 := oF_eval (by decide)
      have p2 : (fun vv ww => Sl [] 1 ww vv [[.string n]]) (T 5) w9 := d0
      refine og_none rfl ?_
      refine o_call (oc2 (enters_of Tryz.func79 (by kernel_rfl) rfl) rfl rfl e1 e2) rfl ?_
      exact (cEach_Txt [] _ ⟨#[]⟩ [n] [r2] _ w9 (by simp) (by simp) rfl p2 (enters_of Tryz.func80 (by kernel_rfl) rfl) (each_ok ⟨q2, trivial⟩ rfl)).mono fun r W' ⟨v, h1, h2, h3⟩ => ⟨v, h1, h2, h3.kx⟩
    · intro T w9 hG hD hO Q
      have q0 := hO.1
      have e0 : (oF 36 T).eval (.tmp 1) = .pointer (some ⟨w.heap.size, 0, none⟩) := (oF_eval (by decide)).trans (show T 1 = _ from q0)
      refine og_none rfl ?_
      exact o_val (v := .pointer (some ⟨w.heap.size, 1, none⟩)) (w' := w9) (by generalize (oF 36 T).eval = rr at *; simp [execOp, go_sem, e0]) rfl rfl (Kx.refl _ _)
    · intro T w9 hG hD hO Q
      have d0 := hD.1
      have e0 : (oF 36 T).eval (.tmp 7) = .pointer (some ⟨w.heap.size, 1, none⟩) := (oF_eval (by decide)).trans (show T 7 = _ from d0)
      refine og_none rfl ?_
      have im := b1.kx hG (by simp)
      have m0 := im.c (i := 1) rfl
      clear im
      exact o_val (v := .int .i64 k) (w' := w9) (by generalize (oF 36 T).eval = rr at *; simp [execOp, go_sem, e0, m0]) rfl rfl (Kx.refl _ _)
    · intro T w9 hG hD hO Q
      have d0 := hD.1
      have e0 : (oF 36 T).eval (.tmp 8) = .int .i64 k := (oF_eval (by decide)).trans (show T 8 = _ from d0)
      have e1 : (oF 36 T).eval (.const (.int .i64 0)) = .int .i64 0 := rfl
      refine og_none rfl ?_
      exact o_val (v := .bool (decide (k < 0))) (w' := w9) (by generalize (oF 36 T).eval = rr at *; simp [execOp, go_sem, e0, e1]) rfl rfl (Kx.refl _ _)
    · intro T w9 hG hD hO Q
      have d0 := hD.1
      have e0 : (oF 36 T).eval (.tmp 9) = .bool (decide (k < 0)) := (oF_eval (by decide)).trans (show T 9 = _ from d0)
      refine og_none rfl ?_
      exact o_val (v := .bool (decide (k < 0))) (w' := w9) (by generalize (oF 36 T).eval = rr at *; simp [execOp, go_sem, e0]) rfl rfl (Kx.refl _ _)
    · intro T w9 hG hD hO Q
      have d0 := hD.1
      have q0 := hO.1
      have e0 : (oF 36 T).eval (.tmp 1) = .pointer (some ⟨w.heap.size, 0, none⟩) := (oF_eval (by decide)).trans (show T 1 = _ from q0)
      refine og_some (b := false) (c := (decide (k < 0))) rfl (show T 10 = _ from d0) (fun hc => ?_) (fun hc h => absurd h hc)
      exact o_val (v := .pointer (some ⟨w.heap.size, 1, none⟩)) (w' := w9) (by generalize (oF 36 T).eval = rr at *; simp [execOp, go_sem, e0]) rfl (fun _ => rfl) (Kx.refl _ _)
    · intro T w9 hG hD hO Q
      have d0 := hD.1
      have d1 := hD.2.1
      have G0 : (decide (k < 0)) = false → T 11 = .pointer (some ⟨w.heap.size, 1, none⟩) := d0
      refine og_some (b := false) (c := (decide (k < 0))) rfl (show T 10 = _ from d1) (fun hc => ?_) (fun hc h => absurd h hc)
      have e0 : (oF 36 T).eval (.tmp 11) = .pointer (some ⟨w.heap.size, 1, none⟩) := (oF_eval (by decide)).trans (G0 hc)
      have im := b1.kx hG (by simp)
      have m0 := im.c (i := 1) rfl
      clear im
      exact o_val (v := .int .i64 k) (w' := w9) (by generalize (oF 36 T).eval = rr at *; simp [execOp, go_sem, e0, m0]) rfl (fun _ => rfl) (Kx.refl _ _)
    · intro T w9 hG hD hO Q
      have d0 := hD.1
      have d1 := hD.2.1
      have G0 : (decide (k < 0)) = false → T 12 = .int .i64 k := d0
      have e1 : (oF 36 T).eval (.const (.int .i64 5)) = .int .i64 5 := rfl
      refine og_some (b := false) (c := (decide (k < 0))) rfl (show T 10 = _ from d1) (fun hc => ?_) (fun hc h => absurd h hc)
      have e0 : (oF 36 T).eval (.tmp 12) = .int .i64 k := (oF_eval (by decide)).trans (G0 hc)
      exact o_val (v := .bool (decide (5 ≤ k))) (w' := w9) (by generalize (oF 36 T).eval = rr at *; simp [execOp, go_sem, e0, e1]) rfl (fun _ => rfl) (Kx.refl _ _)
    · intro T w9 hG hD hO Q
      have d0 := hD.1
      have d1 := hD.2.1
      have e0 : (oF 36 T).eval (.tmp 10) = .bool (decide (k < 0)) := (oF_eval (by decide)).trans (show T 10 = _ from d0)
      have e1 : (oF 36 T).eval (.const (.bool true)) = .bool true := rfl
      have G2 : (decide (k < 0)) = false → T 13 = .bool (decide (5 ≤ k)) := d1
      have e2 : (oF 36 T).eval (.tmp 13) = T 13 := oF_eval (by decide)
      refine og_none rfl ?_
      rcases Bool.eq_false_or_eq_true (decide (k < 0)) with hb | hb
      · refine o_val (w' := w9) (v := .bool true) (by rw [hb] at e0; generalize (oF 36 T).eval = rr at *; simp [execOp, go_sem, e0, e1, e2]) rfl (by simp [RL, hb]) (Kx.refl _ _)
      · refine o_val (w' := w9) (v := .bool (decide (5 ≤ k))) (by rw [G2 hb] at e2; rw [hb] at e0; generalize (oF 36 T).eval = rr at *; simp [execOp, go_sem, e0, e1, e2]) rfl (by simp [RL, hb]) (Kx.refl _ _)
    · intro T w9 hG hD hO Q
      have d0 := hD.1
      have e0 : (oF 36 T).eval (.func 47) = .func (.func 47) #[] #[] := rfl
      have e1 : (oF 36 T).eval (.tmp 14) = .bool ((decide (k < 0)) || (decide (5 ≤ k))) := (oF_eval (by decide)).trans (show T 14 = _ from d0)
      have e2 : (oF 36 T).eval (.const (.int .i64 1)) = .int .i64 1 := rfl
      refine og_none rfl ?_
      refine o_call (oc2 (enters_of Tryz.func47 (by kernel_rfl) rfl) rfl rfl e1 e2) rfl ?_
      exact (cWhen [] ((decide (k < 0)) || (decide (5 ≤ k))) 1 w9 (by simp)).mono fun r W' ⟨v, h1, h2, h3⟩ => ⟨v, h1, h2, h3.kx⟩
    · intro T w9 hG hD hO Q
      have q0 := hO.1
      have e0 : (oF 36 T).eval (.tmp 1) = .pointer (some ⟨w.heap.size, 0, none⟩) := (oF_eval (by decide)).trans (show T 1 = _ from q0)
      refine og_none rfl ?_
      exact o_val (v := .pointer (some ⟨w.heap.size, 2, none⟩)) (w' := w9) (by generalize (oF 36 T).eval = rr at *; simp [execOp, go_sem, e0]) rfl rfl (Kx.refl _ _)
    · intro T w9 hG hD hO Q
      have d0 := hD.1
      have e0 : (oF 36 T).eval (.tmp 16) = .pointer (some ⟨w.heap.size, 2, none⟩) := (oF_eval (by decide)).trans (show T 16 = _ from d0)
      refine og_none rfl ?_
      have im := b1.kx hG (by simp)
      have m0 := im.c (i := 2) rfl
      clear im
      exact o_val (v := .int .i64 a) (w' := w9) (by generalize (oF 36 T).eval = rr at *; simp [execOp, go_sem, e0, m0]) rfl rfl (Kx.refl _ _)
    · intro T w9 hG hD hO Q
      have d0 := hD.1
      have e0 : (oF 36 T).eval (.tmp 17) = .int .i64 a := (oF_eval (by decide)).trans (show T 17 = _ from d0)
      refine og_none rfl ?_
      have kz : Kb w9 (w9.alloc (.cells #[.int .i64 a] 3 (0, 0))) := (Kb.refl w9).alloc _
      exact o_val (v := .slice (some ⟨w9.heap.size, 0, none⟩) 1 1) (w' := w9.alloc (.cells #[.int .i64 a] 3 (0, 0))) (by generalize (oF 36 T).eval = rr at *; simp [execOp, go_sem, e0]) rfl (sl_is (Is.made w9 _ _) (by simp) rfl (rows_ok rfl rfl)) kz.kx
    · intro T w9 hG hD hO Q
      have d0 := hD.1
      have e0 : (oF 36 T).eval (.func 48) = .func (.func 48) #[] #[] := rfl
      have e1 : (oF 36 T).eval (.func 81) = .func (.func 81) #[] #[] := rfl
      have e2 : (oF 36 T).eval (.tmp 18) = T 18 := oF_eval (by decide)
      have p2 : (fun vv ww => Sl [] 1 ww vv [[.int .i64 a]]) (T 18) w9 := d0
      refine og_none rfl ?_
      refine o_call (oc2 (enters_of Tryz.func48 (by kernel_rfl) rfl) rfl rfl e1 e2) rfl ?_
      exact (cEach_Int [] _ 0 [a] [r3] _ w9 (by simp) (by simp) rfl p2 (enters_of Tryz.func81 (by kernel_rfl) rfl) (each_ok ⟨q3, trivial⟩ rfl)).mono fun r W' ⟨v, h1, h2, h3⟩ => ⟨v, h1, h2, h3.kx⟩
    · intro T w9 hG hD hO Q
      have q0 := hO.1
      have e0 : (oF 36 T).eval (.tmp 1) = .pointer (some ⟨w.heap.size, 0, none⟩) := (oF_eval (by decide)).trans (show T 1 = _ from q0)
      refine og_none rfl ?_
      exact o_val (v := .pointer (some ⟨w.heap.size, 1, none⟩)) (w' := w9) (by generalize (oF 36 T).eval = rr at *; simp [execOp, go_sem, e0]) rfl rfl (Kx.refl _ _)
    · intro T w9 hG hD hO Q
      have d0 := hD.1
      have e0 : (oF 36 T).eval (.tmp 20) = .pointer (some ⟨w.heap.size, 1, none⟩) := (oF_eval (by decide)).trans (show T 20 = _ from d0)
      refine og_none rfl ?_
      have im := b1.kx hG (by simp)
      have m0 := im.c (i := 1) rfl
      clear im
      exact o_val (v := .int .i64 k) (w' := w9) (by generalize (oF 36 T).eval = rr at *; simp [execOp, go_sem, e0, m0]) rfl rfl (Kx.refl _ _)
    · intro T w9 hG hD hO Q
      have d0 := hD.1
      have e0 : (oF 36 T).eval (.tmp 21) = .int .i64 k := (oF_eval (by decide)).trans (show T 21 = _ from d0)
      have e1 : (oF 36 T).eval (.const (.int .i64 4)) = .int .i64 4 := rfl
      refine og_none rfl ?_
      exact o_val (v := .bool (k == 4)) (w' := w9) (by generalize (oF 36 T).eval = rr at *; simp [execOp, go_sem, e0, e1]) rfl rfl (Kx.refl _ _)
    · intro T w9 hG hD hO Q
      have d0 := hD.1
      have e0 : (oF 36 T).eval (.tmp 22) = .bool (k == 4) := (oF_eval (by decide)).trans (show T 22 = _ from d0)
      refine og_none rfl ?_
      exact o_val (v := .bool (k == 4)) (w' := w9) (by generalize (oF 36 T).eval = rr at *; simp [execOp, go_sem, e0]) rfl rfl (Kx.refl _ _)
    · intro T w9 hG hD hO Q
      have d0 := hD.1
      have q0 := hO.1
      have e0 : (oF 36 T).eval (.tmp 1) = .pointer (some ⟨w.heap.size, 0, none⟩) := (oF_eval (by decide)).trans (show T 1 = _ from q0)
      refine og_some (b := true) (c := (k == 4)) rfl (show T 23 = _ from d0) (fun hc => ?_) (fun hc h => absurd h hc)
      exact o_val (v := .pointer (some ⟨w.heap.size, 2, none⟩)) (w' := w9) (by generalize (oF 36 T).eval = rr at *; simp [execOp, go_sem, e0]) rfl (fun _ => rfl) (Kx.refl _ _)
    · intro T w9 hG hD hO Q
      have d0 := hD.1
      have d1 := hD.2.1
      have G0 : (k == 4) = true → T 24 = .pointer (some ⟨w.heap.size, 2, none⟩) := d0
      refine og_some (b := true) (c := (k == 4)) rfl (show T 23 = _ from d1) (fun hc => ?_) (fun hc h => absurd h hc)
      have e0 : (oF 36 T).eval (.tmp 24) = .pointer (some ⟨w.heap.size, 2, none⟩) := (oF_eval (by decide)).trans (G0 hc)
      have im := b1.kx hG (by simp)
      have m0 := im.c (i := 2) rfl
      clear im
      exact o_val (v := .int .i64 a) (w' := w9) (by generalize (oF 36 T).eval = rr at *; simp [execOp, go_sem, e0, m0]) rfl (fun _ => rfl) (Kx.refl _ _)
    · intro T w9 hG hD hO Q
      have d0 := hD.1
      have d1 := hD.2.1
      have G0 : (k == 4) = true → T 25 = .int .i64 a := d0
      have e1 : (oF 36 T).eval (.const (.int .i64 0)) = .int .i64 0 := rfl
      refine og_some (b := true) (c := (k == 4)) rfl (show T 23 = _ from d1) (fun hc => ?_) (fun hc h => absurd h hc)
      have e0 : (oF 36 T).eval (.tmp 25) = .int .i64 a := (oF_eval (by decide)).trans (G0 hc)
      exact o_val (v := .bool (a != 0)) (w' := w9) (by generalize (oF 36 T).eval = rr at *; simp [execOp, go_sem, e0, e1]) rfl (fun _ => rfl) (Kx.refl _ _)
    · intro T w9 hG hD hO Q
      have d0 := hD.1
      have d1 := hD.2.1
      have e0 : (oF 36 T).eval (.tmp 23) = .bool (k == 4) := (oF_eval (by decide)).trans (show T 23 = _ from d0)
      have G1 : (k == 4) = true → T 26 = .bool (a != 0) := d1
      have e1 : (oF 36 T).eval (.tmp 26) = T 26 := oF_eval (by decide)
      have e2 : (oF 36 T).eval (.const (.bool false)) = .bool false := rfl
      refine og_none rfl ?_
      rcases Bool.eq_false_or_eq_true (k == 4) with hb | hb
      · refine o_val (w' := w9) (v := .bool (a != 0)) (by rw [G1 hb] at e1; rw [hb] at e0; generalize (oF 36 T).eval = rr at *; simp [execOp, go_sem, e0, e1, e2]) rfl (by simp [RL, hb]) (Kx.refl _ _)
      · refine o_val (w' := w9) (v := .bool false) (by rw [hb] at e0; generalize (oF 36 T).eval = rr at *; simp [execOp, go_sem, e0, e1, e2]) rfl (by simp [RL, hb]) (Kx.refl _ _)
    · intro T w9 hG hD hO Q
      have d0 := hD.1
      have e0 : (oF 36 T).eval (.func 47) = .func (.func 47) #[] #[] := rfl
      have e1 : (oF 36 T).eval (.tmp 27) = .bool ((k == 4) && (a != 0)) := (oF_eval (by decide)).trans (show T 27 = _ from d0)
      have e2 : (oF 36 T).eval (.const (.int .i64 3)) = .int .i64 3 := rfl
      refine og_none rfl ?_
      refine o_call (oc2 (enters_of Tryz.func47 (by kernel_rfl) rfl) rfl rfl e1 e2) rfl ?_
      exact (cWhen [] ((k == 4) && (a != 0)) 3 w9 (by simp)).mono fun r W' ⟨v, h1, h2, h3⟩ => ⟨v, h1, h2, h3.kx⟩
    · intro T w9 hG hD hO Q
      have q0 := hO.1
      have e0 : (oF 36 T).eval (.tmp 1) = .pointer (some ⟨w.heap.size, 0, none⟩) := (oF_eval (by decide)).trans (show T 1 = _ from q0)
      refine og_none rfl ?_
      exact o_val (v := .pointer (some ⟨w.heap.size, 3, none⟩)) (w' := w9) (by generalize (oF 36 T).eval = rr at *; simp [execOp, go_sem, e0]) rfl rfl (Kx.refl _ _)
    · intro T w9 hG hD hO Q
      have d0 := hD.1
      have e0 : (oF 36 T).eval (.tmp 29) = .pointer (some ⟨w.heap.size, 3, none⟩) := (oF_eval (by decide)).trans (show T 29 = _ from d0)
      refine og_none rfl ?_
      have im := b1.kx hG (by simp)
      have m0 := im.c (i := 3) rfl
      have m1 := im.c (i := 4) rfl
      have m2 := im.c (i := 5) rfl
      clear im
      exact o_val (v := .agg #[.int .i64 x, .int .i64 y, .int .i64 z]) (w' := w9) (by generalize (oF 36 T).eval = rr at *; simp [execOp, go_sem, e0, m0, m1, m2]) rfl rfl (Kx.refl _ _)
    · intro T w9 hG hD hO Q
      have d0 := hD.1
      have e0 : (oF 36 T).eval (.tmp 30) = .agg #[.int .i64 x, .int .i64 y, .int .i64 z] := (oF_eval (by decide)).trans (show T 30 = _ from d0)
      refine og_none rfl ?_
      have kz : Kb w9 (w9.alloc (.cells #[.int .i64 x, .int .i64 y, .int .i64 z] 23 (0, 0))) := (Kb.refl w9).alloc _
      exact o_val (v := .slice (some ⟨w9.heap.size, 0, none⟩) 1 1) (w' := w9.alloc (.cells #[.int .i64 x, .int .i64 y, .int .i64 z] 23 (0, 0))) (by generalize (oF 36 T).eval = rr at *; simp [execOp, go_sem, e0]) rfl (sl_is (Is.made w9 _ _) (by simp) rfl (rows_ok rfl rfl)) kz.kx
    · intro T w9 hG hD hO Q
      have d0 := hD.1
      have e0 : (oF 36 T).eval (.func 82) = .func (.func 82) #[] #[] := rfl
      have e1 : (oF 36 T).eval (.func 83) = .func (.func 83) #[] #[] := rfl
      have e2 : (oF 36 T).eval (.tmp 31) = T 31 := oF_eval (by decide)
      have p2 : (fun vv ww => Sl [] 3 ww vv [[.int .i64 x, .int .i64 y, .int .i64 z]]) (T 31) w9 := d0
      refine og_none rfl ?_
      refine o_call (oc2 (enters_of Tryz.func82 (by kernel_rfl) rfl) rfl rfl e1 e2) rfl ?_
      exact (cEach_Spt [] _ (0, 0, 0) [(x, y, z)] [r4] _ w9 (by simp) (by simp) rfl p2 (enters_of Tryz.func83 (by kernel_rfl) rfl) (each_ok ⟨q4, trivial⟩ rfl)).mono fun r W' ⟨v, h1, h2, h3⟩ => ⟨v, h1, h2, h3.kx⟩
    · intro T w9 hG hD hO Q
      have q0 := hO.1
      have e0 : (oF 36 T).eval (.tmp 1) = .pointer (some ⟨w.heap.size, 0, none⟩) := (oF_eval (by decide)).trans (show T 1 = _ from q0)
      refine og_none rfl ?_
      have im := b1.kx hG (by simp)
      exact o_val (v := .func (.func 84) #[] #[.pointer (some ⟨w.heap.size, 0, none⟩)]) (w' := w9) (by generalize (oF 36 T).eval = rr at *; simp [execOp, go_sem, e0]) rfl (ckSize im q1) (Kx.refl _ _)
    · intro T w9 hG hD hO Q
      have d0 := hD.1
      have d1 := hD.2.1
      have d2 := hD.2.2.1
      have d3 := hD.2.2.2.1
      have d4 := hD.2.2.2.2.1
      have d5 := hD.2.2.2.2.2.1
      have e0 : (oF 36 T).eval (.tmp 6) = T 6 := oF_eval (by decide)
      have p0 : (fun vv ww => Ck [] vv (firstE [r2]) ww) (T 6) w9 := d0
      have e1 : (oF 36 T).eval (.tmp 15) = T 15 := oF_eval (by decide)
      have p1 : (fun vv ww => Ck [] vv (fE ((decide (k < 0)) || (decide (5 ≤ k))) 1) ww) (T 15) w9 := d1
      have e2 : (oF 36 T).eval (.tmp 19) = T 19 := oF_eval (by decide)
      have p2 : (fun vv ww => Ck [] vv (firstE [r3]) ww) (T 19) w9 := d2
      have e3 : (oF 36 T).eval (.tmp 28) = T 28 := oF_eval (by decide)
      have p3 : (fun vv ww => Ck [] vv (fE ((k == 4) && (a != 0)) 3) ww) (T 28) w9 := d3
      have e4 : (oF 36 T).eval (.tmp 32) = T 32 := oF_eval (by decide)
      have p4 : (fun vv ww => Ck [] vv (firstE [r4]) ww) (T 32) w9 := d4
      have e5 : (oF 36 T).eval (.tmp 33) = T 33 := oF_eval (by decide)
      have p5 : (fun vv ww => Ck [] vv r1 ww) (T 33) w9 := d5
      refine og_none rfl ?_
      obtain ⟨F0, c0, f0, g0, h0⟩ := p0
      obtain ⟨F1, c1, f1, g1, h1⟩ := p1
      obtain ⟨F2, c2, f2, g2, h2⟩ := p2
      obtain ⟨F3, c3, f3, g3, h3⟩ := p3
      obtain ⟨F4, c4, f4, g4, h4⟩ := p4
      obtain ⟨F5, c5, f5, g5, h5⟩ := p5
      rw [f0] at e0
      rw [f1] at e1
      rw [f2] at e2
      rw [f3] at e3
      rw [f4] at e4
      rw [f5] at e5
      have kz : Kb w9 (w9.alloc (.cells #[.func (.func F0) #[] c0, .func (.func F1) #[] c1, .func (.func F2) #[] c2, .func (.func F3) #[] c3, .func (.func F4) #[] c4, .func (.func F5) #[] c5] 80 (0, 0))) := (Kb.refl w9).alloc _
      exact o_val (v := .slice (some ⟨w9.heap.size, 0, none⟩) 6 6) (w' := w9.alloc (.cells #[.func (.func F0) #[] c0, .func (.func F1) #[] c1, .func (.func F2) #[] c2, .func (.func F3) #[] c3, .func (.func F4) #[] c4, .func (.func F5) #[] c5] 80 (0, 0))) (by generalize (oF 36 T).eval = rr at *; simp [execOp, go_sem, e0, e1, e2, e3, e4, e5]) rfl ⟨[.func (.func F0) #[] c0, .func (.func F1) #[] c1, .func (.func F2) #[] c2, .func (.func F3) #[] c3, .func (.func F4) #[] c4, .func (.func F5) #[] c5], rfl, sl_is (Is.made w9 _ _) (by simp) rfl (rows_ok rfl rfl), cks_ok ⟨(Ck.kx ⟨F0, c0, rfl, g0, h0⟩ kz.kx), (Ck.kx ⟨F1, c1, rfl, g1, h1⟩ kz.kx), (Ck.kx ⟨F2, c2, rfl, g2, h2⟩ kz.kx), (Ck.kx ⟨F3, c3, rfl, g3, h3⟩ kz.kx), (Ck.kx ⟨F4, c4, rfl, g4, h4⟩ kz.kx), (Ck.kx ⟨F5, c5, rfl, g5, h5⟩ kz.kx), trivial⟩ rfl⟩ kz.kx
    · intro T w9 hG hD hO Q
      have d0 := hD.1
      have e0 : (oF 36 T).eval (.func 39) = .func (.func 39) #[] #[] := rfl
      have e1 : (oF 36 T).eval (.tmp 34) = T 34 := oF_eval (by decide)
      have p1 : (fun vv ww => SlC [] [firstE [r2], fE ((decide (k < 0)) || (decide (5 ≤ k))) 1, firstE [r3], fE ((k == 4) && (a != 0)) 3, firstE [r4], r1] vv ww) (T 34) w9 := d0
      refine og_none rfl ?_
      refine o_call (oc1 (enters_of Tryz.func39 (by kernel_rfl) rfl) rfl rfl e1) rfl ?_
      exact (cFirst [] _ _ w9 p1 (by simp)).mono fun r W' h => ⟨_, h.1, rfl, h.2.kx⟩
    · intro T w9 hG hD hO Q
      have d0 := hD.1
      have e0 : (oF 36 T).eval (.tmp 35) = .int .i64 (firstE [firstE [r2], fE ((decide (k < 0)) || (decide (5 ≤ k))) 1, firstE [r3], fE ((k == 4) && (a != 0)) 3, firstE [r4], r1]) := (oF_eval (by decide)).trans (show T 35 = _ from d0)
      refine og_none rfl ?_
      exact o_val (v := .int .i64 (firstE [firstE [r2], fE ((decide (k < 0)) || (decide (5 ≤ k))) 1, firstE [r3], fE ((k == 4) && (a != 0)) 3, firstE [r4], r1])) (w' := w9) (by generalize (oF 36 T).eval = rr at *; simp [execOp, go_sem, e0]) rfl rfl (Kx.refl _ _)
  case fin =>
    intro T w1 hout hval hG
    have s1 := hG.2.2.2.1
    simp only [World.size_drew, World.size_alloc] at s1
    rw [show oF 36 T = (⟨#[T 0, T 1, T 2, T 3, T 4, T 5, T 6, T 7, T 8, T 9, T 10, T 11, T 12, T 13, T 14, T 15, T 16, T 17, T 18, T 19, T 20, T 21, T 22, T 23, T 24, T 25, T 26, T 27, T 28, T 29, T 30, T 31, T 32, T 33, T 34, T 35], []⟩ : Act) from oF_list 36 T]
    rw [show T 0 = .agg #[.string n, .int .i64 k, .int .i64 a, .int .i64 x, .int .i64 y, .int .i64 z, .int .i64 lo, .int .i64 hi, .slice fp fl fc] from hout 0 rfl]
    rw [show T 2 = .int .i64 (firstE [firstE [r2], fE ((decide (k < 0)) || (decide (5 ≤ k))) 1, firstE [r3], fE ((k == 4) && (a != 0)) 3, firstE [r4], r1]) from hval 33 (by decide : 33 < 34)]
    replace b1 := b1.kx hG (by simp)
    replace kx := (show Kb _ _ from kx.drew).trans hG.nil
    clear hout hval hG
    go_wp2
    go_ret
    exact ⟨rfl, kx⟩
set_option maxRecDepth 100000 in
theorem fCheck_any (n : ByteArray) (k : Int) (a : Int) (x : Int) (y : Int) (z : Int) (lo : Int) (hi : Int) (fp : Option Addr) (fl : Nat) (fc : Nat) (r1 : Int) (r2 : Int) (r3 : Int) (r4 : Int) (q1 : Ca 85 #[.agg #[.string n, .int .i64 k, .int .i64 a, .int .i64 x, .int .i64 y, .int .i64 z, .int .i64 lo, .int .i64 hi, .slice fp fl fc]] (.int .i64 r1)) (q2 : Ca 80 #[.string n] (.int .i64 r2)) (q3 : Ca 81 #[.int .i64 a] (.int .i64 r3)) (q4 : Ca 83 #[.agg #[.int .i64 x, .int .i64 y, .int .i64 z]] (.int .i64 r4))  : Ca 41 #[.agg #[.string n, .int .i64 k, .int .i64 a, .int .i64 x, .int .i64 y, .int .i64 z, .int .i64 lo, .int .i64 hi, .slice fp fl fc]] (.int .i64 (firstE [firstE [r2], fE ((decide (k < 0)) || (decide (5 ≤ k))) 1, firstE [r3], fE ((k == 4) && (a != 0)) 3, firstE [r4], r1])) := Lib.hid fun w => by
  exact fCheck_1 n k a x y z lo hi fp fl fc r1 r2 r3 r4 q1 q2 q3 q4 w
end Go.Proofs.YtlimjohnimgnhaaGreatDoor
