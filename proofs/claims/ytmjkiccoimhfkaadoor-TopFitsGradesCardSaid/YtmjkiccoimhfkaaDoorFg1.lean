/- Fits: checks. -/
import Derived.Test.YtmjkiccoimhfkaaDoorFg
import Derived.Test.YtmjkiccoimhfkaaDoorG9
namespace Go.Proofs.YtmjkiccoimhfkaaDoor
open Go.RowKit

set_option maxRecDepth 100000 in
set_option maxHeartbeats 4000000 in
theorem fcls_1 (z : Int) (k : Int) (gh : Int) (gs : Int)      (h1 : z < 1) (w : World) (gl : Gl w)  : Calls Tryd.prog 34 #[.agg #[.int .i64 z, .bool true, .int .i64 4, .int .i64 gh, .bool false, .int .i64 k, .int .i64 gs]] w fun r W' => r = .returned (.int .i64 2) ∧ Kb w W' := by
  have kx := Kb.refl w
  have gl0 := Lib.hid gl
  have j1 := (Is.made w #[.int .i64 z, .bool true, .int .i64 4, .int .i64 gh, .bool false, .int .i64 k, .int .i64 gs] 34)
  have f2 := j1.c (i := 0) rfl
  clear j1
  go_enter Tryd.func34, Tryd.ntmps34
  go_wp2
  go_ret
  clear f2
  replace kx := kx.alloc (.cells #[.int .i64 z, .bool true, .int .i64 4, .int .i64 gh, .bool false, .int .i64 k, .int .i64 gs] 34 (0, 0))
  exact ⟨rfl, kx⟩
set_option maxRecDepth 100000 in
set_option maxHeartbeats 4000000 in
theorem fcls_2 (z : Int) (k : Int) (gh : Int) (gs : Int)      (h1 : ¬ z < 1) (h2 : 100000 < z) (w : World) (gl : Gl w)  : Calls Tryd.prog 34 #[.agg #[.int .i64 z, .bool true, .int .i64 4, .int .i64 gh, .bool false, .int .i64 k, .int .i64 gs]] w fun r W' => r = .returned (.int .i64 2) ∧ Kb w W' := by
  have kx := Kb.refl w
  have gl0 := Lib.hid gl
  have j1 := (Is.made w #[.int .i64 z, .bool true, .int .i64 4, .int .i64 gh, .bool false, .int .i64 k, .int .i64 gs] 34)
  have f2 := j1.c (i := 0) rfl
  clear j1
  go_enter Tryd.func34, Tryd.ntmps34
  go_wp2
  go_ret
  clear f2
  replace kx := kx.alloc (.cells #[.int .i64 z, .bool true, .int .i64 4, .int .i64 gh, .bool false, .int .i64 k, .int .i64 gs] 34 (0, 0))
  exact ⟨rfl, kx⟩
set_option maxRecDepth 100000 in
set_option maxHeartbeats 4000000 in
theorem fcls_3 (z : Int) (k : Int) (gh : Int) (gs : Int)      (h1 : ¬ z < 1) (h2 : ¬ 100000 < z) (h3 : ((clE 4 gh) != 0) = true) (w : World) (gl : Gl w)  : Calls Tryd.prog 34 #[.agg #[.int .i64 z, .bool true, .int .i64 4, .int .i64 gh, .bool false, .int .i64 k, .int .i64 gs]] w fun r W' => r = .returned (.int .i64 (clE 4 gh)) ∧ Kb w W' := by
  have kx := Kb.refl w
  have gl0 := Lib.hid gl
  have j1 := (Is.made w #[.int .i64 z, .bool true, .int .i64 4, .int .i64 gh, .bool false, .int .i64 k, .int .i64 gs] 34)
  have f2 := j1.c (i := 0) rfl
  have f3 := j1.c (i := 1) rfl
  have f4 := j1.c (i := 2) rfl
  have f5 := j1.c (i := 3) rfl
  clear j1
  go_enter Tryd.func34, Tryd.ntmps34
  go_wp2_with fail
  clear f2 f3 f4 f5
  have b1 := Is.made w #[.int .i64 z, .bool true, .int .i64 4, .int .i64 gh, .bool false, .int .i64 k, .int .i64 gs] 34
  replace kx := kx.alloc (.cells #[.int .i64 z, .bool true, .int .i64 4, .int .i64 gh, .bool false, .int .i64 k, .int .i64 gs] 34 (0, 0))
  replace gl := gl0.out.kb kx
  (with_reducible refine ((Cg.out (Gq.cg (gCheck true 4 gh)) _ gl)).mono ?_)
  rintro r w1 ⟨rfl, k1⟩
  replace gl := gl.kb k1
  replace b1 := b1.kb k1
  replace kx := kx.trans k1
  have s1 := k1.size
  simp only [World.size_alloc] at s1
  clear k1
  go_wp2
  go_ret
  exact ⟨rfl, kx⟩
set_option maxRecDepth 100000 in
set_option maxHeartbeats 4000000 in
theorem fcls_4 (z : Int) (k : Int) (gh : Int) (gs : Int)      (h1 : ¬ z < 1) (h2 : ¬ 100000 < z) (h3 : ((clE 4 gh) != 0) = false) (h4 : ((clE k gs) != 0) = true) (w : World) (gl : Gl w)  : Calls Tryd.prog 34 #[.agg #[.int .i64 z, .bool true, .int .i64 4, .int .i64 gh, .bool false, .int .i64 k, .int .i64 gs]] w fun r W' => r = .returned (.int .i64 (clE k gs)) ∧ Kb w W' := by
  have kx := Kb.refl w
  have gl0 := Lib.hid gl
  have j1 := (Is.made w #[.int .i64 z, .bool true, .int .i64 4, .int .i64 gh, .bool false, .int .i64 k, .int .i64 gs] 34)
  have f2 := j1.c (i := 0) rfl
  have f3 := j1.c (i := 1) rfl
  have f4 := j1.c (i := 2) rfl
  have f5 := j1.c (i := 3) rfl
  clear j1
  go_enter Tryd.func34, Tryd.ntmps34
  go_wp2_with fail
  clear f2 f3 f4 f5
  have b1 := Is.made w #[.int .i64 z, .bool true, .int .i64 4, .int .i64 gh, .bool false, .int .i64 k, .int .i64 gs] 34
  replace kx := kx.alloc (.cells #[.int .i64 z, .bool true, .int .i64 4, .int .i64 gh, .bool false, .int .i64 k, .int .i64 gs] 34 (0, 0))
  replace gl := gl0.out.kb kx
  (with_reducible refine ((Cg.out (Gq.cg (gCheck true 4 gh)) _ gl)).mono ?_)
  rintro r w1 ⟨rfl, k1⟩
  replace gl := gl.kb k1
  replace b1 := b1.kb k1
  replace kx := kx.trans k1
  have s1 := k1.size
  simp only [World.size_alloc] at s1
  clear k1
  have f6 := b1.c (i := 4) rfl
  have f7 := b1.c (i := 5) rfl
  have f8 := b1.c (i := 6) rfl
  go_wp2_with fail
  clear f6 f7 f8
  (with_reducible refine ((Cg.out (Gq.cg (gCheck false k gs)) _ gl)).mono ?_)
  rintro r w2 ⟨rfl, k2⟩
  replace gl := gl.kb k2
  replace b1 := b1.kb k2
  replace kx := kx.trans k2
  have s2 := k2.size
  skip
  clear k2
  go_wp2
  go_ret
  exact ⟨rfl, kx⟩
set_option maxRecDepth 100000 in
set_option maxHeartbeats 4000000 in
theorem fcls_5 (z : Int) (k : Int) (gh : Int) (gs : Int)      (h1 : ¬ z < 1) (h2 : ¬ 100000 < z) (h3 : ((clE 4 gh) != 0) = false) (h4 : ((clE k gs) != 0) = false) (w : World) (gl : Gl w)  : Calls Tryd.prog 34 #[.agg #[.int .i64 z, .bool true, .int .i64 4, .int .i64 gh, .bool false, .int .i64 k, .int .i64 gs]] w fun r W' => r = .returned (.int .i64 0) ∧ Kb w W' := by
  have kx := Kb.refl w
  have gl0 := Lib.hid gl
  have j1 := (Is.made w #[.int .i64 z, .bool true, .int .i64 4, .int .i64 gh, .bool false, .int .i64 k, .int .i64 gs] 34)
  have f2 := j1.c (i := 0) rfl
  have f3 := j1.c (i := 1) rfl
  have f4 := j1.c (i := 2) rfl
  have f5 := j1.c (i := 3) rfl
  clear j1
  go_enter Tryd.func34, Tryd.ntmps34
  go_wp2_with fail
  clear f2 f3 f4 f5
  have b1 := Is.made w #[.int .i64 z, .bool true, .int .i64 4, .int .i64 gh, .bool false, .int .i64 k, .int .i64 gs] 34
  replace kx := kx.alloc (.cells #[.int .i64 z, .bool true, .int .i64 4, .int .i64 gh, .bool false, .int .i64 k, .int .i64 gs] 34 (0, 0))
  replace gl := gl0.out.kb kx
  (with_reducible refine ((Cg.out (Gq.cg (gCheck true 4 gh)) _ gl)).mono ?_)
  rintro r w1 ⟨rfl, k1⟩
  replace gl := gl.kb k1
  replace b1 := b1.kb k1
  replace kx := kx.trans k1
  have s1 := k1.size
  simp only [World.size_alloc] at s1
  clear k1
  have f6 := b1.c (i := 4) rfl
  have f7 := b1.c (i := 5) rfl
  have f8 := b1.c (i := 6) rfl
  go_wp2_with fail
  clear f6 f7 f8
  (with_reducible refine ((Cg.out (Gq.cg (gCheck false k gs)) _ gl)).mono ?_)
  rintro r w2 ⟨rfl, k2⟩
  replace gl := gl.kb k2
  replace b1 := b1.kb k2
  replace kx := kx.trans k2
  have s2 := k2.size
  skip
  clear k2
  have f9 := b1.c (i := 1) rfl
  have f10 := b1.c (i := 4) rfl
  go_wp2
  go_ret
  clear f9 f10
  exact ⟨rfl, kx⟩
set_option maxRecDepth 100000 in
theorem fcls_any (z : Int) (k : Int) (gh : Int) (gs : Int)    : Cg 34 #[.agg #[.int .i64 z, .bool true, .int .i64 4, .int .i64 gh, .bool false, .int .i64 k, .int .i64 gs]] (if z < 1 then (.int .i64 2) else (if 100000 < z then (.int .i64 2) else (if ((clE 4 gh) != 0) = true then (.int .i64 (clE 4 gh)) else (if ((clE k gs) != 0) = true then (.int .i64 (clE k gs)) else (.int .i64 0))))) := Lib.hid fun w gl => by
  by_cases h1 : z < 1
  · rw [if_pos h1]
    exact fcls_1 z k gh gs h1 w gl
  · rw [if_neg h1]
    by_cases h2 : 100000 < z
    · rw [if_pos h2]
      exact fcls_2 z k gh gs h1 h2 w gl
    · rw [if_neg h2]
      rcases Bool.eq_false_or_eq_true ((clE 4 gh) != 0) with h3 | h3
      · rw [if_pos h3]
        exact fcls_3 z k gh gs h1 h2 h3 w gl
      · rw [if_neg (by rw [h3]; decide)]
        rcases Bool.eq_false_or_eq_true ((clE k gs) != 0) with h4 | h4
        · rw [if_pos h4]
          exact fcls_4 z k gh gs h1 h2 h3 h4 w gl
        · rw [if_neg (by rw [h4]; decide)]
          exact fcls_5 z k gh gs h1 h2 h3 h4 w gl
set_option maxRecDepth 100000 in
set_option maxHeartbeats 4000000 in
theorem r16_1 (z : Int) (k : Int) (gh : Int) (gs : Int)      (h1 : ((szE z) != 0) = true) (w : World) (gl : Gl w)  : Calls Tryd.prog 20 #[.agg #[.int .i64 z, .bool true, .int .i64 4, .int .i64 gh, .bool false, .int .i64 k, .int .i64 gs]] w fun r W' => r = .returned (.int .i64 (szE z)) ∧ Kb w W' := by
  have kx := Kb.refl w
  have gl0 := Lib.hid gl
  have j1 := (Is.made w #[.int .i64 z, .bool true, .int .i64 4, .int .i64 gh, .bool false, .int .i64 k, .int .i64 gs] 57)
  have f2 := j1.c (i := 0) rfl
  clear j1
  go_enter Tryd.func20, Tryd.ntmps20
  go_wp2_with fail
  clear f2
  have b1 := Is.made w #[.int .i64 z, .bool true, .int .i64 4, .int .i64 gh, .bool false, .int .i64 k, .int .i64 gs] 57
  replace kx := kx.alloc (.cells #[.int .i64 z, .bool true, .int .i64 4, .int .i64 gh, .bool false, .int .i64 k, .int .i64 gs] 57 (0, 0))
  replace gl := gl0.out.kb kx
  (with_reducible refine ((Cg.out (Gq.cg (rSize z)) _ gl)).mono ?_)
  rintro r w1 ⟨rfl, k1⟩
  replace gl := gl.kb k1
  replace b1 := b1.kb k1
  replace kx := kx.trans k1
  have s1 := k1.size
  simp only [World.size_alloc] at s1
  clear k1
  go_wp2
  go_ret
  exact ⟨rfl, kx⟩
set_option maxRecDepth 100000 in
set_option maxHeartbeats 4000000 in
theorem r16_2 (z : Int) (k : Int) (gh : Int) (gs : Int)      (h1 : ((szE z) != 0) = false) (h2 : ((clE 4 gh) != 0) = true) (w : World) (gl : Gl w)  : Calls Tryd.prog 20 #[.agg #[.int .i64 z, .bool true, .int .i64 4, .int .i64 gh, .bool false, .int .i64 k, .int .i64 gs]] w fun r W' => r = .returned (.int .i64 (clE 4 gh)) ∧ Kb w W' := by
  have kx := Kb.refl w
  have gl0 := Lib.hid gl
  have j1 := (Is.made w #[.int .i64 z, .bool true, .int .i64 4, .int .i64 gh, .bool false, .int .i64 k, .int .i64 gs] 57)
  have f2 := j1.c (i := 0) rfl
  clear j1
  go_enter Tryd.func20, Tryd.ntmps20
  go_wp2_with fail
  clear f2
  have b1 := Is.made w #[.int .i64 z, .bool true, .int .i64 4, .int .i64 gh, .bool false, .int .i64 k, .int .i64 gs] 57
  replace kx := kx.alloc (.cells #[.int .i64 z, .bool true, .int .i64 4, .int .i64 gh, .bool false, .int .i64 k, .int .i64 gs] 57 (0, 0))
  replace gl := gl0.out.kb kx
  (with_reducible refine ((Cg.out (Gq.cg (rSize z)) _ gl)).mono ?_)
  rintro r w1 ⟨rfl, k1⟩
  replace gl := gl.kb k1
  replace b1 := b1.kb k1
  replace kx := kx.trans k1
  have s1 := k1.size
  simp only [World.size_alloc] at s1
  clear k1
  have f3 := b1.c (i := 1) rfl
  have f4 := b1.c (i := 2) rfl
  have f5 := b1.c (i := 3) rfl
  go_wp2_with fail
  clear f3 f4 f5
  (with_reducible refine ((Cg.out (Gq.cg (r15Check true 4 gh)) _ gl)).mono ?_)
  rintro r w2 ⟨rfl, k2⟩
  replace gl := gl.kb k2
  replace b1 := b1.kb k2
  replace kx := kx.trans k2
  have s2 := k2.size
  skip
  clear k2
  go_wp2
  go_ret
  exact ⟨rfl, kx⟩
set_option maxRecDepth 100000 in
set_option maxHeartbeats 4000000 in
theorem r16_3 (z : Int) (k : Int) (gh : Int) (gs : Int)      (h1 : ((szE z) != 0) = false) (h2 : ((clE 4 gh) != 0) = false) (h3 : ((clE k gs) != 0) = true) (w : World) (gl : Gl w)  : Calls Tryd.prog 20 #[.agg #[.int .i64 z, .bool true, .int .i64 4, .int .i64 gh, .bool false, .int .i64 k, .int .i64 gs]] w fun r W' => r = .returned (.int .i64 (clE k gs)) ∧ Kb w W' := by
  have kx := Kb.refl w
  have gl0 := Lib.hid gl
  have j1 := (Is.made w #[.int .i64 z, .bool true, .int .i64 4, .int .i64 gh, .bool false, .int .i64 k, .int .i64 gs] 57)
  have f2 := j1.c (i := 0) rfl
  clear j1
  go_enter Tryd.func20, Tryd.ntmps20
  go_wp2_with fail
  clear f2
  have b1 := Is.made w #[.int .i64 z, .bool true, .int .i64 4, .int .i64 gh, .bool false, .int .i64 k, .int .i64 gs] 57
  replace kx := kx.alloc (.cells #[.int .i64 z, .bool true, .int .i64 4, .int .i64 gh, .bool false, .int .i64 k, .int .i64 gs] 57 (0, 0))
  replace gl := gl0.out.kb kx
  (with_reducible refine ((Cg.out (Gq.cg (rSize z)) _ gl)).mono ?_)
  rintro r w1 ⟨rfl, k1⟩
  replace gl := gl.kb k1
  replace b1 := b1.kb k1
  replace kx := kx.trans k1
  have s1 := k1.size
  simp only [World.size_alloc] at s1
  clear k1
  have f3 := b1.c (i := 1) rfl
  have f4 := b1.c (i := 2) rfl
  have f5 := b1.c (i := 3) rfl
  go_wp2_with fail
  clear f3 f4 f5
  (with_reducible refine ((Cg.out (Gq.cg (r15Check true 4 gh)) _ gl)).mono ?_)
  rintro r w2 ⟨rfl, k2⟩
  replace gl := gl.kb k2
  replace b1 := b1.kb k2
  replace kx := kx.trans k2
  have s2 := k2.size
  skip
  clear k2
  have f6 := b1.c (i := 4) rfl
  have f7 := b1.c (i := 5) rfl
  have f8 := b1.c (i := 6) rfl
  go_wp2_with fail
  clear f6 f7 f8
  (with_reducible refine ((Cg.out (Gq.cg (r15Check false k gs)) _ gl)).mono ?_)
  rintro r w3 ⟨rfl, k3⟩
  replace gl := gl.kb k3
  replace b1 := b1.kb k3
  replace kx := kx.trans k3
  have s3 := k3.size
  skip
  clear k3
  go_wp2
  go_ret
  exact ⟨rfl, kx⟩
set_option maxRecDepth 100000 in
set_option maxHeartbeats 4000000 in
theorem r16_4 (z : Int) (k : Int) (gh : Int) (gs : Int)      (h1 : ((szE z) != 0) = false) (h2 : ((clE 4 gh) != 0) = false) (h3 : ((clE k gs) != 0) = false) (h4 : ((glE z true 4 gh) != 0) = true) (w : World) (gl : Gl w)  : Calls Tryd.prog 20 #[.agg #[.int .i64 z, .bool true, .int .i64 4, .int .i64 gh, .bool false, .int .i64 k, .int .i64 gs]] w fun r W' => r = .returned (.int .i64 (glE z true 4 gh)) ∧ Kb w W' := by
  have kx := Kb.refl w
  have gl0 := Lib.hid gl
  have j1 := (Is.made w #[.int .i64 z, .bool true, .int .i64 4, .int .i64 gh, .bool false, .int .i64 k, .int .i64 gs] 57)
  have f2 := j1.c (i := 0) rfl
  clear j1
  go_enter Tryd.func20, Tryd.ntmps20
  go_wp2_with fail
  clear f2
  have b1 := Is.made w #[.int .i64 z, .bool true, .int .i64 4, .int .i64 gh, .bool false, .int .i64 k, .int .i64 gs] 57
  replace kx := kx.alloc (.cells #[.int .i64 z, .bool true, .int .i64 4, .int .i64 gh, .bool false, .int .i64 k, .int .i64 gs] 57 (0, 0))
  replace gl := gl0.out.kb kx
  (with_reducible refine ((Cg.out (Gq.cg (rSize z)) _ gl)).mono ?_)
  rintro r w1 ⟨rfl, k1⟩
  replace gl := gl.kb k1
  replace b1 := b1.kb k1
  replace kx := kx.trans k1
  have s1 := k1.size
  simp only [World.size_alloc] at s1
  clear k1
  have f3 := b1.c (i := 1) rfl
  have f4 := b1.c (i := 2) rfl
  have f5 := b1.c (i := 3) rfl
  go_wp2_with fail
  clear f3 f4 f5
  (with_reducible refine ((Cg.out (Gq.cg (r15Check true 4 gh)) _ gl)).mono ?_)
  rintro r w2 ⟨rfl, k2⟩
  replace gl := gl.kb k2
  replace b1 := b1.kb k2
  replace kx := kx.trans k2
  have s2 := k2.size
  skip
  clear k2
  have f6 := b1.c (i := 4) rfl
  have f7 := b1.c (i := 5) rfl
  have f8 := b1.c (i := 6) rfl
  go_wp2_with fail
  clear f6 f7 f8
  (with_reducible refine ((Cg.out (Gq.cg (r15Check false k gs)) _ gl)).mono ?_)
  rintro r w3 ⟨rfl, k3⟩
  replace gl := gl.kb k3
  replace b1 := b1.kb k3
  replace kx := kx.trans k3
  have s3 := k3.size
  skip
  clear k3
  have f9 := b1.c (i := 1) rfl
  have f10 := b1.c (i := 4) rfl
  have f11 := b1.c (i := 0) rfl
  have f12 := b1.c (i := 2) rfl
  have f13 := b1.c (i := 3) rfl
  go_wp2_with fail
  clear f9 f10 f11 f12 f13
  (with_reducible refine ((Cg.out (Gq.cg (rLimits z 4 gh true)) _ gl)).mono ?_)
  rintro r w4 ⟨rfl, k4⟩
  replace gl := gl.kb k4
  replace b1 := b1.kb k4
  replace kx := kx.trans k4
  have s4 := k4.size
  skip
  clear k4
  go_wp2
  go_ret
  replace kx := kx.alloc (.cells #[.int .i64 (glL z true 4 gh), .int .i64 (glH z true 4 gh)] 27 (0, 0))
  exact ⟨rfl, kx⟩
set_option maxRecDepth 100000 in
set_option maxHeartbeats 4000000 in
theorem r16_5 (z : Int) (k : Int) (gh : Int) (gs : Int)      (h1 : ((szE z) != 0) = false) (h2 : ((clE 4 gh) != 0) = false) (h3 : ((clE k gs) != 0) = false) (h4 : ((glE z true 4 gh) != 0) = false) (w : World) (gl : Gl w)  : Calls Tryd.prog 20 #[.agg #[.int .i64 z, .bool true, .int .i64 4, .int .i64 gh, .bool false, .int .i64 k, .int .i64 gs]] w fun r W' => r = .returned (.int .i64 (glE z false k gs)) ∧ Kb w W' := by
  have kx := Kb.refl w
  have gl0 := Lib.hid gl
  have j1 := (Is.made w #[.int .i64 z, .bool true, .int .i64 4, .int .i64 gh, .bool false, .int .i64 k, .int .i64 gs] 57)
  have f2 := j1.c (i := 0) rfl
  clear j1
  go_enter Tryd.func20, Tryd.ntmps20
  go_wp2_with fail
  clear f2
  have b1 := Is.made w #[.int .i64 z, .bool true, .int .i64 4, .int .i64 gh, .bool false, .int .i64 k, .int .i64 gs] 57
  replace kx := kx.alloc (.cells #[.int .i64 z, .bool true, .int .i64 4, .int .i64 gh, .bool false, .int .i64 k, .int .i64 gs] 57 (0, 0))
  replace gl := gl0.out.kb kx
  (with_reducible refine ((Cg.out (Gq.cg (rSize z)) _ gl)).mono ?_)
  rintro r w1 ⟨rfl, k1⟩
  replace gl := gl.kb k1
  replace b1 := b1.kb k1
  replace kx := kx.trans k1
  have s1 := k1.size
  simp only [World.size_alloc] at s1
  clear k1
  have f3 := b1.c (i := 1) rfl
  have f4 := b1.c (i := 2) rfl
  have f5 := b1.c (i := 3) rfl
  go_wp2_with fail
  clear f3 f4 f5
  (with_reducible refine ((Cg.out (Gq.cg (r15Check true 4 gh)) _ gl)).mono ?_)
  rintro r w2 ⟨rfl, k2⟩
  replace gl := gl.kb k2
  replace b1 := b1.kb k2
  replace kx := kx.trans k2
  have s2 := k2.size
  skip
  clear k2
  have f6 := b1.c (i := 4) rfl
  have f7 := b1.c (i := 5) rfl
  have f8 := b1.c (i := 6) rfl
  go_wp2_with fail
  clear f6 f7 f8
  (with_reducible refine ((Cg.out (Gq.cg (r15Check false k gs)) _ gl)).mono ?_)
  rintro r w3 ⟨rfl, k3⟩
  replace gl := gl.kb k3
  replace b1 := b1.kb k3
  replace kx := kx.trans k3
  have s3 := k3.size
  skip
  clear k3
  have f9 := b1.c (i := 1) rfl
  have f10 := b1.c (i := 4) rfl
  have f11 := b1.c (i := 0) rfl
  have f12 := b1.c (i := 2) rfl
  have f13 := b1.c (i := 3) rfl
  go_wp2_with fail
  clear f9 f10 f11 f12 f13
  (with_reducible refine ((Cg.out (Gq.cg (rLimits z 4 gh true)) _ gl)).mono ?_)
  rintro r w4 ⟨rfl, k4⟩
  replace gl := gl.kb k4
  replace b1 := b1.kb k4
  replace kx := kx.trans k4
  have s4 := k4.size
  skip
  clear k4
  have j14 := (b1.alloc (.cells #[.int .i64 (glL z true 4 gh), .int .i64 (glH z true 4 gh)] 27 (0, 0)))
  have f15 := j14.c (i := 0) rfl
  have f16 := j14.c (i := 4) rfl
  have f17 := j14.c (i := 5) rfl
  have f18 := j14.c (i := 6) rfl
  clear j14
  go_wp2_with fail
  clear f15 f16 f17 f18
  replace b1 := (b1.alloc (.cells #[.int .i64 (glL z true 4 gh), .int .i64 (glH z true 4 gh)] 27 (0, 0)))
  have b2 := Is.made w4 #[.int .i64 (glL z true 4 gh), .int .i64 (glH z true 4 gh)] 27
  replace kx := kx.alloc (.cells #[.int .i64 (glL z true 4 gh), .int .i64 (glH z true 4 gh)] 27 (0, 0))
  replace gl := gl0.out.kb kx
  (with_reducible refine ((Cg.out (Gq.cg (rLimits z k gs false)) _ gl)).mono ?_)
  rintro r w5 ⟨rfl, k5⟩
  replace gl := gl.kb k5
  replace b1 := b1.kb k5
  replace b2 := b2.kb k5
  replace kx := kx.trans k5
  have s5 := k5.size
  simp only [World.size_alloc] at s5
  clear k5
  go_wp2
  go_ret
  replace kx := kx.alloc (.cells #[.int .i64 (glL z false k gs), .int .i64 (glH z false k gs)] 27 (0, 0))
  exact ⟨rfl, kx⟩
set_option maxRecDepth 100000 in
theorem r16_any (z : Int) (k : Int) (gh : Int) (gs : Int)    : Cg 20 #[.agg #[.int .i64 z, .bool true, .int .i64 4, .int .i64 gh, .bool false, .int .i64 k, .int .i64 gs]] (if ((szE z) != 0) = true then (.int .i64 (szE z)) else (if ((clE 4 gh) != 0) = true then (.int .i64 (clE 4 gh)) else (if ((clE k gs) != 0) = true then (.int .i64 (clE k gs)) else (if ((glE z true 4 gh) != 0) = true then (.int .i64 (glE z true 4 gh)) else (.int .i64 (glE z false k gs)))))) := Lib.hid fun w gl => by
  rcases Bool.eq_false_or_eq_true ((szE z) != 0) with h1 | h1
  · rw [if_pos h1]
    exact r16_1 z k gh gs h1 w gl
  · rw [if_neg (by rw [h1]; decide)]
    rcases Bool.eq_false_or_eq_true ((clE 4 gh) != 0) with h2 | h2
    · rw [if_pos h2]
      exact r16_2 z k gh gs h1 h2 w gl
    · rw [if_neg (by rw [h2]; decide)]
      rcases Bool.eq_false_or_eq_true ((clE k gs) != 0) with h3 | h3
      · rw [if_pos h3]
        exact r16_3 z k gh gs h1 h2 h3 w gl
      · rw [if_neg (by rw [h3]; decide)]
        rcases Bool.eq_false_or_eq_true ((glE z true 4 gh) != 0) with h4 | h4
        · rw [if_pos h4]
          exact r16_4 z k gh gs h1 h2 h3 h4 w gl
        · rw [if_neg (by rw [h4]; decide)]
          exact r16_5 z k gh gs h1 h2 h3 h4 w gl
set_option maxRecDepth 100000 in
set_option maxHeartbeats 4000000 in
theorem rref_1 (z : Int) (k : Int) (gh : Int) (gs : Int) (w : World) (gl : Gl w)  : Calls Tryd.prog 21 #[.agg #[.int .i64 z, .int .i64 k, .int .i64 gh, .int .i64 gs]] w fun r W' => r = .returned (.agg #[.int .i64 z, .bool true, .int .i64 4, .int .i64 gh, .bool false, .int .i64 k, .int .i64 gs]) ∧ Kb w W' := by
  have kx := Kb.refl w
  have gl0 := Lib.hid gl
  have j1 := ((Is.made w #[.int .i64 z, .int .i64 k, .int .i64 gh, .int .i64 gs] 23).alloc (.cells #[.int .i64 0, .bool false, .int .i64 0, .int .i64 0, .bool false, .int .i64 0, .int .i64 0] 57 (0, 0)))
  have f2 := j1.c (i := 0) rfl
  have f3 := j1.c (i := 2) rfl
  have f4 := j1.c (i := 1) rfl
  have f5 := j1.c (i := 3) rfl
  clear j1
  go_enter Tryd.func21, Tryd.ntmps21
  go_wp2
  clear f2 f3 f4 f5
  have b2 := Is.made (w.alloc (.cells #[.int .i64 z, .int .i64 k, .int .i64 gh, .int .i64 gs] 23 (0, 0))) #[.int .i64 z, .bool true, .int .i64 4, .int .i64 gh, .bool false, .int .i64 k, .int .i64 gs] 57
  simp only [World.size_alloc] at b2
  replace kx := kx.alloc (.cells #[.int .i64 z, .int .i64 k, .int .i64 gh, .int .i64 gs] 23 (0, 0))
  replace kx := kx.alloc (.cells #[.int .i64 z, .bool true, .int .i64 4, .int .i64 gh, .bool false, .int .i64 k, .int .i64 gs] 57 (0, 0))
  refine ret_row Tryd.results21 rfl rfl b2 Tryd.underlying57 rfl (by kernel_rfl) ?_
  exact ⟨rfl, kx⟩
set_option maxRecDepth 100000 in
theorem rref_any (z : Int) (k : Int) (gh : Int) (gs : Int)    : Cg 21 #[.agg #[.int .i64 z, .int .i64 k, .int .i64 gh, .int .i64 gs]] (.agg #[.int .i64 z, .bool true, .int .i64 4, .int .i64 gh, .bool false, .int .i64 k, .int .i64 gs]) := Lib.hid fun w gl => by
  exact rref_1 z k gh gs w gl
set_option maxRecDepth 100000 in
set_option maxHeartbeats 4000000 in
theorem rfit_1 (z : Int) (k : Int) (gh : Int) (gs : Int) (w : World) (gl : Gl w)  : Calls Tryd.prog 9 #[.agg #[.int .i64 z, .int .i64 k, .int .i64 gh, .int .i64 gs]] w fun r W' => r = .returned (.agg #[.int .i64 z, .bool true, .int .i64 4, .int .i64 gh, .bool false, .int .i64 k, .int .i64 gs]) ∧ Kb w W' := by
  have kx := Kb.refl w
  have gl0 := Lib.hid gl
  have j1 := ((Is.made w #[.int .i64 z, .int .i64 k, .int .i64 gh, .int .i64 gs] 23).alloc (.cells #[.int .i64 0, .bool false, .int .i64 0, .int .i64 0, .bool false, .int .i64 0, .int .i64 0] 34 (0, 0)))
  have f2 := j1.c (i := 0) rfl
  have f3 := j1.c (i := 2) rfl
  have f4 := j1.c (i := 1) rfl
  have f5 := j1.c (i := 3) rfl
  clear j1
  go_enter Tryd.func9, Tryd.ntmps9
  go_wp2
  clear f2 f3 f4 f5
  have b2 := Is.made (w.alloc (.cells #[.int .i64 z, .int .i64 k, .int .i64 gh, .int .i64 gs] 23 (0, 0))) #[.int .i64 z, .bool true, .int .i64 4, .int .i64 gh, .bool false, .int .i64 k, .int .i64 gs] 34
  simp only [World.size_alloc] at b2
  replace kx := kx.alloc (.cells #[.int .i64 z, .int .i64 k, .int .i64 gh, .int .i64 gs] 23 (0, 0))
  replace kx := kx.alloc (.cells #[.int .i64 z, .bool true, .int .i64 4, .int .i64 gh, .bool false, .int .i64 k, .int .i64 gs] 34 (0, 0))
  refine ret_row Tryd.results9 rfl rfl b2 Tryd.underlying34 rfl (by kernel_rfl) ?_
  exact ⟨rfl, kx⟩
set_option maxRecDepth 100000 in
theorem rfit_any (z : Int) (k : Int) (gh : Int) (gs : Int)    : Cg 9 #[.agg #[.int .i64 z, .int .i64 k, .int .i64 gh, .int .i64 gs]] (.agg #[.int .i64 z, .bool true, .int .i64 4, .int .i64 gh, .bool false, .int .i64 k, .int .i64 gs]) := Lib.hid fun w gl => by
  exact rfit_1 z k gh gs w gl
end Go.Proofs.YtmjkiccoimhfkaaDoor
