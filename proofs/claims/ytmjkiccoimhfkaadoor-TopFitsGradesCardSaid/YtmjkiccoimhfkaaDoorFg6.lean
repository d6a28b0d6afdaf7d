/- T5: walks of TopFitsGrades. -/
import Derived.Test.YtmjkiccoimhfkaaDoorFg4
import Derived.Test.YtmjkiccoimhfkaaDoorOf2
namespace Go.Proofs.YtmjkiccoimhfkaaDoor
open Go.RowKit

set_option maxRecDepth 100000 in
set_option maxHeartbeats 4000000 in
theorem lG_1 (z : Int) (k : Int) (gh : Int) (gs : Int) (g1 : Int) (g2 : Int) (cl : Int) (ch : Int) (c2 : Int) (o1 : Bool) (o2 : Bool)   (q1 : Cg 6 #[.agg #[.int .i64 z, .int .i64 k, .int .i64 gh, .int .i64 gs]] (.bool o1)) (q2 : Cg 6 #[.agg #[.int .i64 z, .int .i64 k, .int .i64 g1, .int .i64 g2]] (.bool o2)) (e1 : wrap64 (gh + 1) = g1) (e2 : wrap64 (gs + 1) = g2) (hlt : ch < c2)  (h1 : (o1) = true) (h2 : (o2) = true) (h3 : 4 < k) (w : World) (gl : Gl w)  : Calls Tryd.prog 4 #[.agg #[.int .i64 z, .int .i64 k, .int .i64 gh, .int .i64 gs]] w fun r W' => r = .returned (.bool true) ∧ Kb w W' := by
  have kx := Kb.refl w
  unfold Cg at q1 q2
  have gl0 := Lib.hid gl
  subst h1
  subst h2
  have y8 : wrap64 (gh + 1) = g1 := e1
  have y8' : IntKind.i64.wrap (gh + 1) = g1 := (Go.IntWalk.i64_left _).trans y8
  have y11 : wrap64 (gs + 1) = g2 := e2
  have y11' : IntKind.i64.wrap (gs + 1) = g2 := (Go.IntWalk.i64_left _).trans y11
  have j1 := (Is.made w #[.int .i64 z, .int .i64 k, .int .i64 gh, .int .i64 gs] 23)
  have f2 := j1.c (i := 0) rfl
  have f3 := j1.c (i := 1) rfl
  have f4 := j1.c (i := 2) rfl
  have f5 := j1.c (i := 3) rfl
  have j6 := (Is.made (w.alloc (.cells #[.int .i64 z, .int .i64 k, .int .i64 gh, .int .i64 gs] 23 (0, 0))) #[.int .i64 z, .int .i64 k, .int .i64 gh, .int .i64 gs] 23)
  simp only [World.size_alloc] at j6
  have f7 := j6.c (i := 2) rfl
  have j9 := (Is.made (w.alloc (.cells #[.int .i64 z, .int .i64 k, .int .i64 gh, .int .i64 gs] 23 (0, 0))) #[.int .i64 z, .int .i64 k, .int .i64 g1, .int .i64 gs] 23)
  simp only [World.size_alloc] at j9
  have f10 := j9.c (i := 3) rfl
  have j12 := ((Is.made w #[.int .i64 z, .int .i64 k, .int .i64 gh, .int .i64 gs] 23).alloc (.cells #[.int .i64 z, .int .i64 k, .int .i64 g1, .int .i64 g2] 23 (0, 0)))
  have f13 := j12.c (i := 0) rfl
  have f14 := j12.c (i := 1) rfl
  have f15 := j12.c (i := 2) rfl
  have f16 := j12.c (i := 3) rfl
  clear j1 j6 j9 j12
  go_enter Tryd.func4, Tryd.ntmps4
  go_wp2_with fail
  clear f2 f3 f4 f5 f7 f10 f13 f14 f15 f16
  have b1 := Is.made w #[.int .i64 z, .int .i64 k, .int .i64 gh, .int .i64 gs] 23
  replace b1 := (b1.alloc (.cells #[.int .i64 z, .int .i64 k, .int .i64 g1, .int .i64 g2] 23 (0, 0)))
  have b2 := Is.made (w.alloc (.cells #[.int .i64 z, .int .i64 k, .int .i64 gh, .int .i64 gs] 23 (0, 0))) #[.int .i64 z, .int .i64 k, .int .i64 g1, .int .i64 g2] 23
  simp only [World.size_alloc] at b2
  replace kx := kx.alloc (.cells #[.int .i64 z, .int .i64 k, .int .i64 gh, .int .i64 gs] 23 (0, 0))
  replace kx := kx.alloc (.cells #[.int .i64 z, .int .i64 k, .int .i64 g1, .int .i64 g2] 23 (0, 0))
  replace gl := gl0.out.kb kx
  (with_reducible refine ((q1.out _ gl)).mono ?_)
  rintro r w1 ⟨rfl, k1⟩
  replace gl := gl.kb k1
  replace b1 := b1.kb k1
  replace b2 := b2.kb k1
  replace kx := kx.trans k1
  have s1 := k1.size
  simp only [World.size_alloc] at s1
  clear k1
  have f17 := b2.c (i := 0) rfl
  have f18 := b2.c (i := 1) rfl
  have f19 := b2.c (i := 2) rfl
  have f20 := b2.c (i := 3) rfl
  go_wp2_with fail
  clear f17 f18 f19 f20
  (with_reducible refine ((q2.out _ gl)).mono ?_)
  rintro r w2 ⟨rfl, k2⟩
  replace gl := gl.kb k2
  replace b1 := b1.kb k2
  replace b2 := b2.kb k2
  replace kx := kx.trans k2
  have s2 := k2.size
  skip
  clear k2
  have f21 := b1.c (i := 1) rfl
  go_wp2_with fail
  clear f21
  (with_reducible refine ((Cg.out fRun _ gl)).mono ?_)
  rintro r w3 ⟨rfl, k3⟩
  replace gl := gl.kb k3
  replace b1 := b1.kb k3
  replace b2 := b2.kb k3
  replace kx := kx.trans k3
  have s3 := k3.size
  skip
  clear k3
  go_wp2
  go_ret
  exact ⟨rfl, kx⟩
set_option maxRecDepth 100000 in
set_option maxHeartbeats 4000000 in
theorem lG_2 (z : Int) (k : Int) (gh : Int) (gs : Int) (g1 : Int) (g2 : Int) (cl : Int) (ch : Int) (c2 : Int) (o1 : Bool) (o2 : Bool)   (q1 : Cg 6 #[.agg #[.int .i64 z, .int .i64 k, .int .i64 gh, .int .i64 gs]] (.bool o1)) (q2 : Cg 6 #[.agg #[.int .i64 z, .int .i64 k, .int .i64 g1, .int .i64 g2]] (.bool o2)) (q3 : Cg 8 #[.agg #[.int .i64 z, .bool true, .int .i64 4, .int .i64 gh, .bool false, .int .i64 k, .int .i64 gs]] (.tuple #[.agg #[.int .i64 cl, .int .i64 ch], .int .i64 0])) (q4 : Cg 8 #[.agg #[.int .i64 z, .bool true, .int .i64 4, .int .i64 g1, .bool false, .int .i64 k, .int .i64 g2]] (.tuple #[.agg #[.int .i64 cl, .int .i64 c2], .int .i64 0])) (q5 : Cg 13 #[.agg #[.int .i64 cl, .int .i64 ch], .agg #[.int .i64 cl, .int .i64 c2]] (.tuple #[.bool true, .int .i64 0])) (e1 : wrap64 (gh + 1) = g1) (e2 : wrap64 (gs + 1) = g2) (hlt : ch < c2)  (h1 : (o1) = true) (h2 : (o2) = true) (h3 : ¬ 4 < k) (w : World) (gl : Gl w)  : Calls Tryd.prog 4 #[.agg #[.int .i64 z, .int .i64 k, .int .i64 gh, .int .i64 gs]] w fun r W' => r = .returned (.bool true) ∧ Kb w W' := by
  have kx := Kb.refl w
  unfold Cg at q1 q2 q3 q4 q5
  have gl0 := Lib.hid gl
  subst h1
  subst h2
  have y8 : wrap64 (gh + 1) = g1 := e1
  have y8' : IntKind.i64.wrap (gh + 1) = g1 := (Go.IntWalk.i64_left _).trans y8
  have y11 : wrap64 (gs + 1) = g2 := e2
  have y11' : IntKind.i64.wrap (gs + 1) = g2 := (Go.IntWalk.i64_left _).trans y11
  have j1 := (Is.made w #[.int .i64 z, .int .i64 k, .int .i64 gh, .int .i64 gs] 23)
  have f2 := j1.c (i := 0) rfl
  have f3 := j1.c (i := 1) rfl
  have f4 := j1.c (i := 2) rfl
  have f5 := j1.c (i := 3) rfl
  have j6 := (Is.made (w.alloc (.cells #[.int .i64 z, .int .i64 k, .int .i64 gh, .int .i64 gs] 23 (0, 0))) #[.int .i64 z, .int .i64 k, .int .i64 gh, .int .i64 gs] 23)
  simp only [World.size_alloc] at j6
  have f7 := j6.c (i := 2) rfl
  have j9 := (Is.made (w.alloc (.cells #[.int .i64 z, .int .i64 k, .int .i64 gh, .int .i64 gs] 23 (0, 0))) #[.int .i64 z, .int .i64 k, .int .i64 g1, .int .i64 gs] 23)
  simp only [World.size_alloc] at j9
  have f10 := j9.c (i := 3) rfl
  have j12 := ((Is.made w #[.int .i64 z, .int .i64 k, .int .i64 gh, .int .i64 gs] 23).alloc (.cells #[.int .i64 z, .int .i64 k, .int .i64 g1, .int .i64 g2] 23 (0, 0)))
  have f13 := j12.c (i := 0) rfl
  have f14 := j12.c (i := 1) rfl
  have f15 := j12.c (i := 2) rfl
  have f16 := j12.c (i := 3) rfl
  clear j1 j6 j9 j12
  go_enter Tryd.func4, Tryd.ntmps4
  go_wp2_with fail
  clear f2 f3 f4 f5 f7 f10 f13 f14 f15 f16
  have b1 := Is.made w #[.int .i64 z, .int .i64 k, .int .i64 gh, .int .i64 gs] 23
  replace b1 := (b1.alloc (.cells #[.int .i64 z, .int .i64 k, .int .i64 g1, .int .i64 g2] 23 (0, 0)))
  have b2 := Is.made (w.alloc (.cells #[.int .i64 z, .int .i64 k, .int .i64 gh, .int .i64 gs] 23 (0, 0))) #[.int .i64 z, .int .i64 k, .int .i64 g1, .int .i64 g2] 23
  simp only [World.size_alloc] at b2
  replace kx := kx.alloc (.cells #[.int .i64 z, .int .i64 k, .int .i64 gh, .int .i64 gs] 23 (0, 0))
  replace kx := kx.alloc (.cells #[.int .i64 z, .int .i64 k, .int .i64 g1, .int .i64 g2] 23 (0, 0))
  replace gl := gl0.out.kb kx
  (with_reducible refine ((q1.out _ gl)).mono ?_)
  rintro r w1 ⟨rfl, k1⟩
  replace gl := gl.kb k1
  replace b1 := b1.kb k1
  replace b2 := b2.kb k1
  replace kx := kx.trans k1
  have s1 := k1.size
  simp only [World.size_alloc] at s1
  clear k1
  have f17 := b2.c (i := 0) rfl
  have f18 := b2.c (i := 1) rfl
  have f19 := b2.c (i := 2) rfl
  have f20 := b2.c (i := 3) rfl
  go_wp2_with fail
  clear f17 f18 f19 f20
  (with_reducible refine ((q2.out _ gl)).mono ?_)
  rintro r w2 ⟨rfl, k2⟩
  replace gl := gl.kb k2
  replace b1 := b1.kb k2
  replace b2 := b2.kb k2
  replace kx := kx.trans k2
  have s2 := k2.size
  skip
  clear k2
  have f21 := b1.c (i := 1) rfl
  have f22 := b1.c (i := 0) rfl
  have f23 := b1.c (i := 2) rfl
  have f24 := b1.c (i := 3) rfl
  go_wp2_with fail
  clear f21 f22 f23 f24
  (with_reducible refine ((Cg.out (rfit_any z k gh gs) _ gl)).mono ?_)
  rintro r w3 ⟨rfl, k3⟩
  replace gl := gl.kb k3
  replace b1 := b1.kb k3
  replace b2 := b2.kb k3
  replace kx := kx.trans k3
  have s3 := k3.size
  skip
  clear k3
  go_wp2_with fail
  (with_reducible refine ((q3.out _ gl)).mono ?_)
  rintro r w4 ⟨rfl, k4⟩
  replace gl := gl.kb k4
  replace b1 := b1.kb k4
  replace b2 := b2.kb k4
  replace kx := kx.trans k4
  have s4 := k4.size
  skip
  clear k4
  have j25 := (b2.alloc (.cells #[.int .i64 cl, .int .i64 ch] 27 (0, 0)))
  have f26 := j25.c (i := 0) rfl
  have f27 := j25.c (i := 1) rfl
  have f28 := j25.c (i := 2) rfl
  have f29 := j25.c (i := 3) rfl
  clear j25
  go_wp2_with fail
  clear f26 f27 f28 f29
  replace b1 := (b1.alloc (.cells #[.int .i64 cl, .int .i64 ch] 27 (0, 0)))
  replace b2 := (b2.alloc (.cells #[.int .i64 cl, .int .i64 ch] 27 (0, 0)))
  have b3 := Is.made w4 #[.int .i64 cl, .int .i64 ch] 27
  replace kx := kx.alloc (.cells #[.int .i64 cl, .int .i64 ch] 27 (0, 0))
  replace gl := gl0.out.kb kx
  (with_reducible refine ((Cg.out (rfit_any z k g1 g2) _ gl)).mono ?_)
  rintro r w5 ⟨rfl, k5⟩
  replace gl := gl.kb k5
  replace b1 := b1.kb k5
  replace b2 := b2.kb k5
  replace b3 := b3.kb k5
  replace kx := kx.trans k5
  have s5 := k5.size
  simp only [World.size_alloc] at s5
  clear k5
  go_wp2_with fail
  (with_reducible refine ((q4.out _ gl)).mono ?_)
  rintro r w6 ⟨rfl, k6⟩
  replace gl := gl.kb k6
  replace b1 := b1.kb k6
  replace b2 := b2.kb k6
  replace b3 := b3.kb k6
  replace kx := kx.trans k6
  have s6 := k6.size
  skip
  clear k6
  have j30 := (b3.alloc (.cells #[.int .i64 cl, .int .i64 c2] 27 (0, 0)))
  have f31 := j30.c (i := 0) rfl
  have f32 := j30.c (i := 1) rfl
  have j33 := (Is.made w6 #[.int .i64 cl, .int .i64 c2] 27)
  have f34 := j33.c (i := 0) rfl
  have f35 := j33.c (i := 1) rfl
  clear j30 j33
  go_wp2_with fail
  clear f31 f32 f34 f35
  replace b1 := (b1.alloc (.cells #[.int .i64 cl, .int .i64 c2] 27 (0, 0)))
  replace b2 := (b2.alloc (.cells #[.int .i64 cl, .int .i64 c2] 27 (0, 0)))
  replace b3 := (b3.alloc (.cells #[.int .i64 cl, .int .i64 c2] 27 (0, 0)))
  have b4 := Is.made w6 #[.int .i64 cl, .int .i64 c2] 27
  replace kx := kx.alloc (.cells #[.int .i64 cl, .int .i64 c2] 27 (0, 0))
  replace gl := gl0.out.kb kx
  (with_reducible refine ((q5.out _ gl)).mono ?_)
  rintro r w7 ⟨rfl, k7⟩
  replace gl := gl.kb k7
  replace b1 := b1.kb k7
  replace b2 := b2.kb k7
  replace b3 := b3.kb k7
  replace b4 := b4.kb k7
  replace kx := kx.trans k7
  have s7 := k7.size
  simp only [World.size_alloc] at s7
  clear k7
  have f36 := b3.c (i := 0) rfl
  have f37 := b4.c (i := 0) rfl
  have f38 := b3.c (i := 1) rfl
  have f39 := b4.c (i := 1) rfl
  go_wp2_with fail
  clear f36 f37 f38 f39
  (with_reducible refine ((Cg.out fRun _ gl)).mono ?_)
  rintro r w8 ⟨rfl, k8⟩
  replace gl := gl.kb k8
  replace b1 := b1.kb k8
  replace b2 := b2.kb k8
  replace b3 := b3.kb k8
  replace b4 := b4.kb k8
  replace kx := kx.trans k8
  have s8 := k8.size
  skip
  clear k8
  go_wp2
  go_ret
  exact ⟨rfl, kx⟩
set_option maxRecDepth 100000 in
set_option maxHeartbeats 4000000 in
theorem lG_3 (z : Int) (k : Int) (gh : Int) (gs : Int) (g1 : Int) (g2 : Int) (cl : Int) (ch : Int) (c2 : Int) (o1 : Bool) (o2 : Bool)   (q1 : Cg 6 #[.agg #[.int .i64 z, .int .i64 k, .int .i64 gh, .int .i64 gs]] (.bool o1)) (q2 : Cg 6 #[.agg #[.int .i64 z, .int .i64 k, .int .i64 g1, .int .i64 g2]] (.bool o2)) (e1 : wrap64 (gh + 1) = g1) (e2 : wrap64 (gs + 1) = g2) (hlt : ch < c2)  (h1 : (o1) = true) (h2 : (o2) = false) (w : World) (gl : Gl w)  : Calls Tryd.prog 4 #[.agg #[.int .i64 z, .int .i64 k, .int .i64 gh, .int .i64 gs]] w fun r W' => r = .returned (.bool true) ∧ Kb w W' := by
  have kx := Kb.refl w
  unfold Cg at q1 q2
  have gl0 := Lib.hid gl
  subst h1
  subst h2
  have y8 : wrap64 (gh + 1) = g1 := e1
  have y8' : IntKind.i64.wrap (gh + 1) = g1 := (Go.IntWalk.i64_left _).trans y8
  have y11 : wrap64 (gs + 1) = g2 := e2
  have y11' : IntKind.i64.wrap (gs + 1) = g2 := (Go.IntWalk.i64_left _).trans y11
  have j1 := (Is.made w #[.int .i64 z, .int .i64 k, .int .i64 gh, .int .i64 gs] 23)
  have f2 := j1.c (i := 0) rfl
  have f3 := j1.c (i := 1) rfl
  have f4 := j1.c (i := 2) rfl
  have f5 := j1.c (i := 3) rfl
  have j6 := (Is.made (w.alloc (.cells #[.int .i64 z, .int .i64 k, .int .i64 gh, .int .i64 gs] 23 (0, 0))) #[.int .i64 z, .int .i64 k, .int .i64 gh, .int .i64 gs] 23)
  simp only [World.size_alloc] at j6
  have f7 := j6.c (i := 2) rfl
  have j9 := (Is.made (w.alloc (.cells #[.int .i64 z, .int .i64 k, .int .i64 gh, .int .i64 gs] 23 (0, 0))) #[.int .i64 z, .int .i64 k, .int .i64 g1, .int .i64 gs] 23)
  simp only [World.size_alloc] at j9
  have f10 := j9.c (i := 3) rfl
  have j12 := ((Is.made w #[.int .i64 z, .int .i64 k, .int .i64 gh, .int .i64 gs] 23).alloc (.cells #[.int .i64 z, .int .i64 k, .int .i64 g1, .int .i64 g2] 23 (0, 0)))
  have f13 := j12.c (i := 0) rfl
  have f14 := j12.c (i := 1) rfl
  have f15 := j12.c (i := 2) rfl
  have f16 := j12.c (i := 3) rfl
  clear j1 j6 j9 j12
  go_enter Tryd.func4, Tryd.ntmps4
  go_wp2_with fail
  clear f2 f3 f4 f5 f7 f10 f13 f14 f15 f16
  have b1 := Is.made w #[.int .i64 z, .int .i64 k, .int .i64 gh, .int .i64 gs] 23
  replace b1 := (b1.alloc (.cells #[.int .i64 z, .int .i64 k, .int .i64 g1, .int .i64 g2] 23 (0, 0)))
  have b2 := Is.made (w.alloc (.cells #[.int .i64 z, .int .i64 k, .int .i64 gh, .int .i64 gs] 23 (0, 0))) #[.int .i64 z, .int .i64 k, .int .i64 g1, .int .i64 g2] 23
  simp only [World.size_alloc] at b2
  replace kx := kx.alloc (.cells #[.int .i64 z, .int .i64 k, .int .i64 gh, .int .i64 gs] 23 (0, 0))
  replace kx := kx.alloc (.cells #[.int .i64 z, .int .i64 k, .int .i64 g1, .int .i64 g2] 23 (0, 0))
  replace gl := gl0.out.kb kx
  (with_reducible refine ((q1.out _ gl)).mono ?_)
  rintro r w1 ⟨rfl, k1⟩
  replace gl := gl.kb k1
  replace b1 := b1.kb k1
  replace b2 := b2.kb k1
  replace kx := kx.trans k1
  have s1 := k1.size
  simp only [World.size_alloc] at s1
  clear k1
  have f17 := b2.c (i := 0) rfl
  have f18 := b2.c (i := 1) rfl
  have f19 := b2.c (i := 2) rfl
  have f20 := b2.c (i := 3) rfl
  go_wp2_with fail
  clear f17 f18 f19 f20
  (with_reducible refine ((q2.out _ gl)).mono ?_)
  rintro r w2 ⟨rfl, k2⟩
  replace gl := gl.kb k2
  replace b1 := b1.kb k2
  replace b2 := b2.kb k2
  replace kx := kx.trans k2
  have s2 := k2.size
  skip
  clear k2
  go_wp2_with fail
  (with_reducible refine ((Cg.out fRun _ gl)).mono ?_)
  rintro r w3 ⟨rfl, k3⟩
  replace gl := gl.kb k3
  replace b1 := b1.kb k3
  replace b2 := b2.kb k3
  replace kx := kx.trans k3
  have s3 := k3.size
  skip
  clear k3
  go_wp2
  go_ret
  exact ⟨rfl, kx⟩
set_option maxRecDepth 100000 in
set_option maxHeartbeats 4000000 in
theorem lG_4 (z : Int) (k : Int) (gh : Int) (gs : Int) (g1 : Int) (g2 : Int) (cl : Int) (ch : Int) (c2 : Int) (o1 : Bool)   (q1 : Cg 6 #[.agg #[.int .i64 z, .int .i64 k, .int .i64 gh, .int .i64 gs]] (.bool o1)) (e1 : wrap64 (gh + 1) = g1) (e2 : wrap64 (gs + 1) = g2) (hlt : ch < c2)  (h1 : (o1) = false) (w : World) (gl : Gl w)  : Calls Tryd.prog 4 #[.agg #[.int .i64 z, .int .i64 k, .int .i64 gh, .int .i64 gs]] w fun r W' => r = .returned (.bool true) ∧ Kb w W' := by
  have kx := Kb.refl w
  unfold Cg at q1
  have gl0 := Lib.hid gl
  subst h1
  have y8 : wrap64 (gh + 1) = g1 := e1
  have y8' : IntKind.i64.wrap (gh + 1) = g1 := (Go.IntWalk.i64_left _).trans y8
  have y11 : wrap64 (gs + 1) = g2 := e2
  have y11' : IntKind.i64.wrap (gs + 1) = g2 := (Go.IntWalk.i64_left _).trans y11
  have j1 := (Is.made w #[.int .i64 z, .int .i64 k, .int .i64 gh, .int .i64 gs] 23)
  have f2 := j1.c (i := 0) rfl
  have f3 := j1.c (i := 1) rfl
  have f4 := j1.c (i := 2) rfl
  have f5 := j1.c (i := 3) rfl
  have j6 := (Is.made (w.alloc (.cells #[.int .i64 z, .int .i64 k, .int .i64 gh, .int .i64 gs] 23 (0, 0))) #[.int .i64 z, .int .i64 k, .int .i64 gh, .int .i64 gs] 23)
  simp only [World.size_alloc] at j6
  have f7 := j6.c (i := 2) rfl
  have j9 := (Is.made (w.alloc (.cells #[.int .i64 z, .int .i64 k, .int .i64 gh, .int .i64 gs] 23 (0, 0))) #[.int .i64 z, .int .i64 k, .int .i64 g1, .int .i64 gs] 23)
  simp only [World.size_alloc] at j9
  have f10 := j9.c (i := 3) rfl
  have j12 := ((Is.made w #[.int .i64 z, .int .i64 k, .int .i64 gh, .int .i64 gs] 23).alloc (.cells #[.int .i64 z, .int .i64 k, .int .i64 g1, .int .i64 g2] 23 (0, 0)))
  have f13 := j12.c (i := 0) rfl
  have f14 := j12.c (i := 1) rfl
  have f15 := j12.c (i := 2) rfl
  have f16 := j12.c (i := 3) rfl
  clear j1 j6 j9 j12
  go_enter Tryd.func4, Tryd.ntmps4
  go_wp2_with fail
  clear f2 f3 f4 f5 f7 f10 f13 f14 f15 f16
  have b1 := Is.made w #[.int .i64 z, .int .i64 k, .int .i64 gh, .int .i64 gs] 23
  replace b1 := (b1.alloc (.cells #[.int .i64 z, .int .i64 k, .int .i64 g1, .int .i64 g2] 23 (0, 0)))
  have b2 := Is.made (w.alloc (.cells #[.int .i64 z, .int .i64 k, .int .i64 gh, .int .i64 gs] 23 (0, 0))) #[.int .i64 z, .int .i64 k, .int .i64 g1, .int .i64 g2] 23
  simp only [World.size_alloc] at b2
  replace kx := kx.alloc (.cells #[.int .i64 z, .int .i64 k, .int .i64 gh, .int .i64 gs] 23 (0, 0))
  replace kx := kx.alloc (.cells #[.int .i64 z, .int .i64 k, .int .i64 g1, .int .i64 g2] 23 (0, 0))
  replace gl := gl0.out.kb kx
  (with_reducible refine ((q1.out _ gl)).mono ?_)
  rintro r w1 ⟨rfl, k1⟩
  replace gl := gl.kb k1
  replace b1 := b1.kb k1
  replace b2 := b2.kb k1
  replace kx := kx.trans k1
  have s1 := k1.size
  simp only [World.size_alloc] at s1
  clear k1
  go_wp2_with fail
  (with_reducible refine ((Cg.out fRun _ gl)).mono ?_)
  rintro r w2 ⟨rfl, k2⟩
  replace gl := gl.kb k2
  replace b1 := b1.kb k2
  replace b2 := b2.kb k2
  replace kx := kx.trans k2
  have s2 := k2.size
  skip
  clear k2
  go_wp2
  go_ret
  exact ⟨rfl, kx⟩
end Go.Proofs.YtmjkiccoimhfkaaDoor
