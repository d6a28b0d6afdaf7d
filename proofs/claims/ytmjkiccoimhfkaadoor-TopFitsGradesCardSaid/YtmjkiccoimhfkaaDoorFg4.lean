/- T5: walks of TopFitsLetters. -/
import Derived.Test.YtmjkiccoimhfkaaDoorFg3
namespace Go.Proofs.YtmjkiccoimhfkaaDoor
open Go.RowKit

abbrev letT : ByteArray := ⟨#[100, 101, 102, 103, 104, 106, 107, 109, 110, 112]⟩
set_option maxRecDepth 100000 in
set_option maxHeartbeats 4000000 in
theorem rRight_1 (z : Int) (k : Int) (gh : Int) (gs : Int) (w : World) (gl : Gl w)  : Calls Tryd.prog 6 #[.agg #[.int .i64 z, .int .i64 k, .int .i64 gh, .int .i64 gs]] w fun r W' => r = .returned (.bool ((c16 z k gh gs) == 0)) ∧ Kb w W' := by
  have kx := Kb.refl w
  have gl0 := Lib.hid gl
  have j1 := (Is.made w #[.int .i64 z, .int .i64 k, .int .i64 gh, .int .i64 gs] 23)
  have f2 := j1.c (i := 0) rfl
  have f3 := j1.c (i := 1) rfl
  have f4 := j1.c (i := 2) rfl
  have f5 := j1.c (i := 3) rfl
  clear j1
  go_enter Tryd.func6, Tryd.ntmps6
  go_wp2_with fail
  clear f2 f3 f4 f5
  have b1 := Is.made w #[.int .i64 z, .int .i64 k, .int .i64 gh, .int .i64 gs] 23
  replace kx := kx.alloc (.cells #[.int .i64 z, .int .i64 k, .int .i64 gh, .int .i64 gs] 23 (0, 0))
  replace gl := gl0.out.kb kx
  (with_reducible refine ((Cg.out (rref_any z k gh gs) _ gl)).mono ?_)
  rintro r w1 ⟨rfl, k1⟩
  replace gl := gl.kb k1
  replace b1 := b1.kb k1
  replace kx := kx.trans k1
  have s1 := k1.size
  simp only [World.size_alloc] at s1
  clear k1
  go_wp2_with fail
  (with_reducible refine ((Cg.out (r16c z k gh gs) _ gl)).mono ?_)
  rintro r w2 ⟨rfl, k2⟩
  replace gl := gl.kb k2
  replace b1 := b1.kb k2
  replace kx := kx.trans k2
  have s2 := k2.size
  skip
  clear k2
  go_wp2
  go_ret
  exact ⟨rfl, kx⟩
set_option maxRecDepth 100000 in
theorem rRight_any (z : Int) (k : Int) (gh : Int) (gs : Int)    : Cg 6 #[.agg #[.int .i64 z, .int .i64 k, .int .i64 gh, .int .i64 gs]] (.bool ((c16 z k gh gs) == 0)) := Lib.hid fun w gl => by
  exact rRight_1 z k gh gs w gl
set_option maxRecDepth 100000 in
set_option maxHeartbeats 4000000 in
theorem lN_1 (z : Int) (k : Nat) (gh : Int) (gs : Int)    (q1 : Cg 6 #[.agg #[.int .i64 z, .int .i64 (k : Int), .int .i64 gh, .int .i64 gs]] (.bool false)) (w : World) (gl : Gl w)  : Calls Tryd.prog 3 #[.agg #[.int .i64 z, .int .i64 (k : Int), .int .i64 gh, .int .i64 gs]] w fun r W' => r = .returned (.bool true) ∧ Kb w W' := by
  have kx := Kb.refl w
  unfold Cg at q1
  have gl0 := Lib.hid gl
  have j1 := (Is.made w #[.int .i64 z, .int .i64 (k : Int), .int .i64 gh, .int .i64 gs] 23)
  have f2 := j1.c (i := 0) rfl
  have f3 := j1.c (i := 1) rfl
  have f4 := j1.c (i := 2) rfl
  have f5 := j1.c (i := 3) rfl
  clear j1
  go_enter Tryd.func3, Tryd.ntmps3
  go_wp2_with fail
  clear f2 f3 f4 f5
  have b1 := Is.made w #[.int .i64 z, .int .i64 (k : Int), .int .i64 gh, .int .i64 gs] 23
  replace kx := kx.alloc (.cells #[.int .i64 z, .int .i64 (k : Int), .int .i64 gh, .int .i64 gs] 23 (0, 0))
  replace gl := gl0.out.kb kx
  (with_reducible refine ((q1.out _ gl)).mono ?_)
  rintro r w1 ⟨rfl, k1⟩
  replace gl := gl.kb k1
  replace b1 := b1.kb k1
  replace kx := kx.trans k1
  have s1 := k1.size
  simp only [World.size_alloc] at s1
  clear k1
  go_wp2_with fail
  (with_reducible refine ((Cg.out fRun _ gl)).mono ?_)
  rintro r w2 ⟨rfl, k2⟩
  replace gl := gl.kb k2
  replace b1 := b1.kb k2
  replace kx := kx.trans k2
  have s2 := k2.size
  skip
  clear k2
  go_wp2
  go_ret
  exact ⟨rfl, kx⟩
set_option maxRecDepth 100000 in
theorem lN_any (z : Int) (k : Nat) (gh : Int) (gs : Int)  (q1 : Cg 6 #[.agg #[.int .i64 z, .int .i64 (k : Int), .int .i64 gh, .int .i64 gs]] (.bool false))  : Cg 3 #[.agg #[.int .i64 z, .int .i64 (k : Int), .int .i64 gh, .int .i64 gs]] (.bool true) := Lib.hid fun w gl => by
  exact lN_1 z k gh gs q1 w gl
set_option maxRecDepth 100000 in
set_option maxHeartbeats 4000000 in
theorem lM_1 (z : Int) (k : Int) (gh : Int) (gs : Int)    (q1 : Cg 6 #[.agg #[.int .i64 z, .int .i64 k, .int .i64 gh, .int .i64 gs]] (.bool false)) (w : World) (gl : Gl w)  : Calls Tryd.prog 3 #[.agg #[.int .i64 z, .int .i64 k, .int .i64 gh, .int .i64 gs]] w fun r W' => r = .returned (.bool true) ∧ Kb w W' := by
  have kx := Kb.refl w
  unfold Cg at q1
  have gl0 := Lib.hid gl
  have j1 := (Is.made w #[.int .i64 z, .int .i64 k, .int .i64 gh, .int .i64 gs] 23)
  have f2 := j1.c (i := 0) rfl
  have f3 := j1.c (i := 1) rfl
  have f4 := j1.c (i := 2) rfl
  have f5 := j1.c (i := 3) rfl
  clear j1
  go_enter Tryd.func3, Tryd.ntmps3
  go_wp2_with fail
  clear f2 f3 f4 f5
  have b1 := Is.made w #[.int .i64 z, .int .i64 k, .int .i64 gh, .int .i64 gs] 23
  replace kx := kx.alloc (.cells #[.int .i64 z, .int .i64 k, .int .i64 gh, .int .i64 gs] 23 (0, 0))
  replace gl := gl0.out.kb kx
  (with_reducible refine ((q1.out _ gl)).mono ?_)
  rintro r w1 ⟨rfl, k1⟩
  replace gl := gl.kb k1
  replace b1 := b1.kb k1
  replace kx := kx.trans k1
  have s1 := k1.size
  simp only [World.size_alloc] at s1
  clear k1
  go_wp2_with fail
  (with_reducible refine ((Cg.out fRun _ gl)).mono ?_)
  rintro r w2 ⟨rfl, k2⟩
  replace gl := gl.kb k2
  replace b1 := b1.kb k2
  replace kx := kx.trans k2
  have s2 := k2.size
  skip
  clear k2
  go_wp2
  go_ret
  exact ⟨rfl, kx⟩
set_option maxRecDepth 100000 in
theorem lM_any (z : Int) (k : Int) (gh : Int) (gs : Int)  (q1 : Cg 6 #[.agg #[.int .i64 z, .int .i64 k, .int .i64 gh, .int .i64 gs]] (.bool false))  : Cg 3 #[.agg #[.int .i64 z, .int .i64 k, .int .i64 gh, .int .i64 gs]] (.bool true) := Lib.hid fun w gl => by
  exact lM_1 z k gh gs q1 w gl
set_option maxRecDepth 100000 in
set_option maxHeartbeats 4000000 in
theorem lA_1 (z : Int) (k : Nat) (gh : Int) (gs : Int) (cl : Int) (ch : Int) (kd : Int) (ta : Int) (tb : Int) (dl : Int) (dh : Int) (s : Int) (d : UInt8)    (q1 : Cg 6 #[.agg #[.int .i64 z, .int .i64 (k : Int), .int .i64 gh, .int .i64 gs]] (.bool true)) (q2 : Cg 8 #[.agg #[.int .i64 z, .bool true, .int .i64 4, .int .i64 gh, .bool false, .int .i64 (k : Int), .int .i64 gs]] (.tuple #[.agg #[.int .i64 cl, .int .i64 ch], .int .i64 0])) (q3 : Cg 10 #[.agg #[.int .i64 z, .bool true, .int .i64 4, .int .i64 gh, .bool false, .int .i64 (k : Int), .int .i64 gs]] (.tuple #[.int .i64 0, .int .i64 0])) (q4 : Cg 11 #[.int .i64 z, .int .i64 gh] (.tuple #[.int .i64 ta, .int .i64 0])) (q5 : Cg 11 #[.int .i64 z, .int .i64 gs] (.tuple #[.int .i64 tb, .int .i64 0])) (q6 : Cg 12 #[.int .i64 z, .agg #[.bool false, .int .i64 (k : Int), .int .i64 gs]] (.tuple #[.agg #[.int .i64 dl, .int .i64 dh], .int .i64 0])) (hk : k < 10) (hd : letT[k]'(show k < 10 from hk) = d) (e1 : wrap64 (-dh) = cl) (e2 : wrap64 (ta - dl) = ch) (h1 : (d.toNat : Int) ≤ 104) (h2 : ¬ cl < 0) (e3 : wrap64 (ch - cl) = s) (e4 : wrap64 (ta + tb) = s) (w : World) (gl : Gl w)  : Calls Tryd.prog 3 #[.agg #[.int .i64 z, .int .i64 (k : Int), .int .i64 gh, .int .i64 gs]] w fun r W' => r = .returned (.bool true) ∧ Kb w W' := by
  have kx := Kb.refl w
  unfold Cg at q1 q2 q3 q4 q5 q6
  have gl0 := Lib.hid gl
  have i0 : (0 : Int) ≤ (k : Int) := by omega
  have i1 : (k : Int) < 10 := by omega
  have i5 : letT[k]'(show k < 10 from hk) = d := hd
  have g1 : ¬ 106 < (d.toNat : Int) := by omega
  have g2 : ((d.toNat : Int) == 106) = false := by simp only [beq_eq_false_iff_ne]; omega
  have j1 := (Is.made w #[.int .i64 z, .int .i64 (k : Int), .int .i64 gh, .int .i64 gs] 23)
  have f2 := j1.c (i := 0) rfl
  have f3 := j1.c (i := 1) rfl
  have f4 := j1.c (i := 2) rfl
  have f5 := j1.c (i := 3) rfl
  clear j1
  go_enter Tryd.func3, Tryd.ntmps3
  go_wp2_with fail
  clear f2 f3 f4 f5
  have b1 := Is.made w #[.int .i64 z, .int .i64 (k : Int), .int .i64 gh, .int .i64 gs] 23
  replace kx := kx.alloc (.cells #[.int .i64 z, .int .i64 (k : Int), .int .i64 gh, .int .i64 gs] 23 (0, 0))
  replace gl := gl0.out.kb kx
  (with_reducible refine ((q1.out _ gl)).mono ?_)
  rintro r w1 ⟨rfl, k1⟩
  replace gl := gl.kb k1
  replace b1 := b1.kb k1
  replace kx := kx.trans k1
  have s1 := k1.size
  simp only [World.size_alloc] at s1
  clear k1
  have f6 := b1.c (i := 0) rfl
  have f7 := b1.c (i := 1) rfl
  have f8 := b1.c (i := 2) rfl
  have f9 := b1.c (i := 3) rfl
  go_wp2_with fail
  clear f6 f7 f8 f9
  (with_reducible refine ((Cg.out (rfit_any z (k : Int) gh gs) _ gl)).mono ?_)
  rintro r w2 ⟨rfl, k2⟩
  replace gl := gl.kb k2
  replace b1 := b1.kb k2
  replace kx := kx.trans k2
  have s2 := k2.size
  skip
  clear k2
  go_wp2_with fail
  (with_reducible refine ((q2.out _ gl)).mono ?_)
  rintro r w3 ⟨rfl, k3⟩
  replace gl := gl.kb k3
  replace b1 := b1.kb k3
  replace kx := kx.trans k3
  have s3 := k3.size
  skip
  clear k3
  have j10 := (b1.alloc (.cells #[.int .i64 cl, .int .i64 ch] 27 (0, 0)))
  have f11 := j10.c (i := 0) rfl
  have f12 := j10.c (i := 1) rfl
  have f13 := j10.c (i := 2) rfl
  have f14 := j10.c (i := 3) rfl
  clear j10
  go_wp2_with fail
  clear f11 f12 f13 f14
  replace b1 := (b1.alloc (.cells #[.int .i64 cl, .int .i64 ch] 27 (0, 0)))
  have b2 := Is.made w3 #[.int .i64 cl, .int .i64 ch] 27
  replace kx := kx.alloc (.cells #[.int .i64 cl, .int .i64 ch] 27 (0, 0))
  replace gl := gl0.out.kb kx
  (with_reducible refine ((Cg.out (rfit_any z (k : Int) gh gs) _ gl)).mono ?_)
  rintro r w4 ⟨rfl, k4⟩
  replace gl := gl.kb k4
  replace b1 := b1.kb k4
  replace b2 := b2.kb k4
  replace kx := kx.trans k4
  have s4 := k4.size
  simp only [World.size_alloc] at s4
  clear k4
  go_wp2_with fail
  (with_reducible refine ((q3.out _ gl)).mono ?_)
  rintro r w5 ⟨rfl, k5⟩
  replace gl := gl.kb k5
  replace b1 := b1.kb k5
  replace b2 := b2.kb k5
  replace kx := kx.trans k5
  have s5 := k5.size
  skip
  clear k5
  have f15 := b1.c (i := 0) rfl
  have f16 := b1.c (i := 2) rfl
  go_wp2_with fail
  clear f15 f16
  (with_reducible refine ((q4.out _ gl)).mono ?_)
  rintro r w6 ⟨rfl, k6⟩
  replace gl := gl.kb k6
  replace b1 := b1.kb k6
  replace b2 := b2.kb k6
  replace kx := kx.trans k6
  have s6 := k6.size
  skip
  clear k6
  have f17 := b1.c (i := 0) rfl
  have f18 := b1.c (i := 3) rfl
  go_wp2_with fail
  clear f17 f18
  (with_reducible refine ((q5.out _ gl)).mono ?_)
  rintro r w7 ⟨rfl, k7⟩
  replace gl := gl.kb k7
  replace b1 := b1.kb k7
  replace b2 := b2.kb k7
  replace kx := kx.trans k7
  have s7 := k7.size
  skip
  clear k7
  have f19 := b1.c (i := 0) rfl
  have f20 := b1.c (i := 1) rfl
  have f21 := b1.c (i := 3) rfl
  go_wp2_with fail
  clear f19 f20 f21
  (with_reducible refine ((q6.out _ gl)).mono ?_)
  rintro r w8 ⟨rfl, k8⟩
  replace gl := gl.kb k8
  replace b1 := b1.kb k8
  replace b2 := b2.kb k8
  replace kx := kx.trans k8
  have s8 := k8.size
  skip
  clear k8
  have y26 : wrap64 (-dh) = cl := e1
  have y26' : IntKind.i64.wrap (-dh) = cl := (Go.IntWalk.i64_left _).trans y26
  have y29 : wrap64 (ta - dl) = ch := e2
  have y29' : IntKind.i64.wrap (ta - dl) = ch := (Go.IntWalk.i64_left _).trans y29
  have y32 : wrap64 (ch - cl) = s := e3
  have y32' : IntKind.i64.wrap (ch - cl) = s := (Go.IntWalk.i64_left _).trans y32
  have y33 : wrap64 (ta + tb) = s := e4
  have y33' : IntKind.i64.wrap (ta + tb) = s := (Go.IntWalk.i64_left _).trans y33
  have j22 := (b2.alloc (.cells #[.int .i64 dl, .int .i64 dh] 27 (0, 0)))
  have f23 := j22.c (i := 0) rfl
  have j24 := (Is.made w8 #[.int .i64 dl, .int .i64 dh] 27)
  have f25 := j24.c (i := 1) rfl
  have f27 := j22.c (i := 1) rfl
  have f28 := j24.c (i := 0) rfl
  have j30 := (b1.alloc (.cells #[.int .i64 dl, .int .i64 dh] 27 (0, 0)))
  have f31 := j30.c (i := 1) rfl
  clear j22 j24 j30
  go_wp2_with fail
  clear f23 f25 f27 f28 f31
  replace b1 := (b1.alloc (.cells #[.int .i64 dl, .int .i64 dh] 27 (0, 0)))
  replace b2 := (b2.alloc (.cells #[.int .i64 dl, .int .i64 dh] 27 (0, 0)))
  have b3 := Is.made w8 #[.int .i64 dl, .int .i64 dh] 27
  replace kx := kx.alloc (.cells #[.int .i64 dl, .int .i64 dh] 27 (0, 0))
  replace gl := gl0.out.kb kx
  (with_reducible refine ((Cg.out fRun _ gl)).mono ?_)
  rintro r w9 ⟨rfl, k9⟩
  replace gl := gl.kb k9
  replace b1 := b1.kb k9
  replace b2 := b2.kb k9
  replace b3 := b3.kb k9
  replace kx := kx.trans k9
  have s9 := k9.size
  simp only [World.size_alloc] at s9
  clear k9
  go_wp2
  go_ret
  exact ⟨rfl, kx⟩
set_option maxRecDepth 100000 in
set_option maxHeartbeats 4000000 in
theorem lJ_1 (z : Int) (k : Nat) (gh : Int) (gs : Int) (cl : Int) (ch : Int) (kd : Int) (ta : Int) (tb : Int) (dl : Int) (dh : Int) (s : Int) (d : UInt8)    (q1 : Cg 6 #[.agg #[.int .i64 z, .int .i64 (k : Int), .int .i64 gh, .int .i64 gs]] (.bool true)) (q2 : Cg 8 #[.agg #[.int .i64 z, .bool true, .int .i64 4, .int .i64 gh, .bool false, .int .i64 (k : Int), .int .i64 gs]] (.tuple #[.agg #[.int .i64 cl, .int .i64 ch], .int .i64 0])) (q3 : Cg 10 #[.agg #[.int .i64 z, .bool true, .int .i64 4, .int .i64 gh, .bool false, .int .i64 (k : Int), .int .i64 gs]] (.tuple #[.int .i64 kd, .int .i64 0])) (q4 : Cg 11 #[.int .i64 z, .int .i64 gh] (.tuple #[.int .i64 ta, .int .i64 0])) (q5 : Cg 11 #[.int .i64 z, .int .i64 gs] (.tuple #[.int .i64 tb, .int .i64 0])) (q6 : Cg 12 #[.int .i64 z, .agg #[.bool false, .int .i64 (k : Int), .int .i64 gs]] (.tuple #[.agg #[.int .i64 dl, .int .i64 dh], .int .i64 0])) (hk : k < 10) (hd : letT[k]'(show k < 10 from hk) = d) (e1 : wrap64 (-dh) = cl) (e2 : wrap64 (ta - dl) = ch) (h1 : (d.toNat : Int) = 106) (w : World) (gl : Gl w)  : Calls Tryd.prog 3 #[.agg #[.int .i64 z, .int .i64 (k : Int), .int .i64 gh, .int .i64 gs]] w fun r W' => r = .returned (.bool true) ∧ Kb w W' := by
  have kx := Kb.refl w
  unfold Cg at q1 q2 q3 q4 q5 q6
  have gl0 := Lib.hid gl
  have i0 : (0 : Int) ≤ (k : Int) := by omega
  have i1 : (k : Int) < 10 := by omega
  have i5 : letT[k]'(show k < 10 from hk) = d := hd
  have g0 : ¬ (d.toNat : Int) ≤ 104 := by omega
  have g1 : ¬ 106 < (d.toNat : Int) := by omega
  have g2 : ((d.toNat : Int) == 106) = true := by simp only [beq_iff_eq]; omega
  have j1 := (Is.made w #[.int .i64 z, .int .i64 (k : Int), .int .i64 gh, .int .i64 gs] 23)
  have f2 := j1.c (i := 0) rfl
  have f3 := j1.c (i := 1) rfl
  have f4 := j1.c (i := 2) rfl
  have f5 := j1.c (i := 3) rfl
  clear j1
  go_enter Tryd.func3, Tryd.ntmps3
  go_wp2_with fail
  clear f2 f3 f4 f5
  have b1 := Is.made w #[.int .i64 z, .int .i64 (k : Int), .int .i64 gh, .int .i64 gs] 23
  replace kx := kx.alloc (.cells #[.int .i64 z, .int .i64 (k : Int), .int .i64 gh, .int .i64 gs] 23 (0, 0))
  replace gl := gl0.out.kb kx
  (with_reducible refine ((q1.out _ gl)).mono ?_)
  rintro r w1 ⟨rfl, k1⟩
  replace gl := gl.kb k1
  replace b1 := b1.kb k1
  replace kx := kx.trans k1
  have s1 := k1.size
  simp only [World.size_alloc] at s1
  clear k1
  have f6 := b1.c (i := 0) rfl
  have f7 := b1.c (i := 1) rfl
  have f8 := b1.c (i := 2) rfl
  have f9 := b1.c (i := 3) rfl
  go_wp2_with fail
  clear f6 f7 f8 f9
  (with_reducible refine ((Cg.out (rfit_any z (k : Int) gh gs) _ gl)).mono ?_)
  rintro r w2 ⟨rfl, k2⟩
  replace gl := gl.kb k2
  replace b1 := b1.kb k2
  replace kx := kx.trans k2
  have s2 := k2.size
  skip
  clear k2
  go_wp2_with fail
  (with_reducible refine ((q2.out _ gl)).mono ?_)
  rintro r w3 ⟨rfl, k3⟩
  replace gl := gl.kb k3
  replace b1 := b1.kb k3
  replace kx := kx.trans k3
  have s3 := k3.size
  skip
  clear k3
  have j10 := (b1.alloc (.cells #[.int .i64 cl, .int .i64 ch] 27 (0, 0)))
  have f11 := j10.c (i := 0) rfl
  have f12 := j10.c (i := 1) rfl
  have f13 := j10.c (i := 2) rfl
  have f14 := j10.c (i := 3) rfl
  clear j10
  go_wp2_with fail
  clear f11 f12 f13 f14
  replace b1 := (b1.alloc (.cells #[.int .i64 cl, .int .i64 ch] 27 (0, 0)))
  have b2 := Is.made w3 #[.int .i64 cl, .int .i64 ch] 27
  replace kx := kx.alloc (.cells #[.int .i64 cl, .int .i64 ch] 27 (0, 0))
  replace gl := gl0.out.kb kx
  (with_reducible refine ((Cg.out (rfit_any z (k : Int) gh gs) _ gl)).mono ?_)
  rintro r w4 ⟨rfl, k4⟩
  replace gl := gl.kb k4
  replace b1 := b1.kb k4
  replace b2 := b2.kb k4
  replace kx := kx.trans k4
  have s4 := k4.size
  simp only [World.size_alloc] at s4
  clear k4
  go_wp2_with fail
  (with_reducible refine ((q3.out _ gl)).mono ?_)
  rintro r w5 ⟨rfl, k5⟩
  replace gl := gl.kb k5
  replace b1 := b1.kb k5
  replace b2 := b2.kb k5
  replace kx := kx.trans k5
  have s5 := k5.size
  skip
  clear k5
  have f15 := b1.c (i := 0) rfl
  have f16 := b1.c (i := 2) rfl
  go_wp2_with fail
  clear f15 f16
  (with_reducible refine ((q4.out _ gl)).mono ?_)
  rintro r w6 ⟨rfl, k6⟩
  replace gl := gl.kb k6
  replace b1 := b1.kb k6
  replace b2 := b2.kb k6
  replace kx := kx.trans k6
  have s6 := k6.size
  skip
  clear k6
  have f17 := b1.c (i := 0) rfl
  have f18 := b1.c (i := 3) rfl
  go_wp2_with fail
  clear f17 f18
  (with_reducible refine ((q5.out _ gl)).mono ?_)
  rintro r w7 ⟨rfl, k7⟩
  replace gl := gl.kb k7
  replace b1 := b1.kb k7
  replace b2 := b2.kb k7
  replace kx := kx.trans k7
  have s7 := k7.size
  skip
  clear k7
  have f19 := b1.c (i := 0) rfl
  have f20 := b1.c (i := 1) rfl
  have f21 := b1.c (i := 3) rfl
  go_wp2_with fail
  clear f19 f20 f21
  (with_reducible refine ((q6.out _ gl)).mono ?_)
  rintro r w8 ⟨rfl, k8⟩
  replace gl := gl.kb k8
  replace b1 := b1.kb k8
  replace b2 := b2.kb k8
  replace kx := kx.trans k8
  have s8 := k8.size
  skip
  clear k8
  have y26 : wrap64 (-dh) = cl := e1
  have y26' : IntKind.i64.wrap (-dh) = cl := (Go.IntWalk.i64_left _).trans y26
  have y29 : wrap64 (ta - dl) = ch := e2
  have y29' : IntKind.i64.wrap (ta - dl) = ch := (Go.IntWalk.i64_left _).trans y29
  have j22 := (b2.alloc (.cells #[.int .i64 dl, .int .i64 dh] 27 (0, 0)))
  have f23 := j22.c (i := 0) rfl
  have j24 := (Is.made w8 #[.int .i64 dl, .int .i64 dh] 27)
  have f25 := j24.c (i := 1) rfl
  have f27 := j22.c (i := 1) rfl
  have f28 := j24.c (i := 0) rfl
  have j30 := (b1.alloc (.cells #[.int .i64 dl, .int .i64 dh] 27 (0, 0)))
  have f31 := j30.c (i := 1) rfl
  clear j22 j24 j30
  go_wp2_with fail
  clear f23 f25 f27 f28 f31
  replace b1 := (b1.alloc (.cells #[.int .i64 dl, .int .i64 dh] 27 (0, 0)))
  replace b2 := (b2.alloc (.cells #[.int .i64 dl, .int .i64 dh] 27 (0, 0)))
  have b3 := Is.made w8 #[.int .i64 dl, .int .i64 dh] 27
  replace kx := kx.alloc (.cells #[.int .i64 dl, .int .i64 dh] 27 (0, 0))
  replace gl := gl0.out.kb kx
  (with_reducible refine ((Cg.out fRun _ gl)).mono ?_)
  rintro r w9 ⟨rfl, k9⟩
  replace gl := gl.kb k9
  replace b1 := b1.kb k9
  replace b2 := b2.kb k9
  replace b3 := b3.kb k9
  replace kx := kx.trans k9
  have s9 := k9.size
  simp only [World.size_alloc] at s9
  clear k9
  go_wp2
  go_ret
  exact ⟨rfl, kx⟩
set_option maxRecDepth 100000 in
set_option maxHeartbeats 4000000 in
theorem lK_1 (z : Int) (k : Nat) (gh : Int) (gs : Int) (cl : Int) (ch : Int) (kd : Int) (ta : Int) (tb : Int) (dl : Int) (dh : Int) (s : Int) (d : UInt8)    (q1 : Cg 6 #[.agg #[.int .i64 z, .int .i64 (k : Int), .int .i64 gh, .int .i64 gs]] (.bool true)) (q2 : Cg 8 #[.agg #[.int .i64 z, .bool true, .int .i64 4, .int .i64 gh, .bool false, .int .i64 (k : Int), .int .i64 gs]] (.tuple #[.agg #[.int .i64 cl, .int .i64 ch], .int .i64 0])) (q3 : Cg 10 #[.agg #[.int .i64 z, .bool true, .int .i64 4, .int .i64 gh, .bool false, .int .i64 (k : Int), .int .i64 gs]] (.tuple #[.int .i64 kd, .int .i64 0])) (q4 : Cg 11 #[.int .i64 z, .int .i64 gh] (.tuple #[.int .i64 ta, .int .i64 0])) (q5 : Cg 11 #[.int .i64 z, .int .i64 gs] (.tuple #[.int .i64 tb, .int .i64 0])) (q6 : Cg 12 #[.int .i64 z, .agg #[.bool false, .int .i64 (k : Int), .int .i64 gs]] (.tuple #[.agg #[.int .i64 dl, .int .i64 dh], .int .i64 0])) (hk : k < 10) (hd : letT[k]'(show k < 10 from hk) = d) (e1 : wrap64 (-dh) = cl) (e2 : wrap64 (ta - dl) = ch) (h1 : 106 < (d.toNat : Int)) (h2 : ¬ 0 ≤ cl) (h3 : (kd == 0) = false) (e3 : wrap64 (ch - cl) = s) (e4 : wrap64 (ta + tb) = s) (w : World) (gl : Gl w)  : Calls Tryd.prog 3 #[.agg #[.int .i64 z, .int .i64 (k : Int), .int .i64 gh, .int .i64 gs]] w fun r W' => r = .returned (.bool true) ∧ Kb w W' := by
  have kx := Kb.refl w
  unfold Cg at q1 q2 q3 q4 q5 q6
  have gl0 := Lib.hid gl
  have i0 : (0 : Int) ≤ (k : Int) := by omega
  have i1 : (k : Int) < 10 := by omega
  have i5 : letT[k]'(show k < 10 from hk) = d := hd
  have g0 : ¬ (d.toNat : Int) ≤ 104 := by omega
  have g2 : ((d.toNat : Int) == 106) = false := by simp only [beq_eq_false_iff_ne]; omega
  have j1 := (Is.made w #[.int .i64 z, .int .i64 (k : Int), .int .i64 gh, .int .i64 gs] 23)
  have f2 := j1.c (i := 0) rfl
  have f3 := j1.c (i := 1) rfl
  have f4 := j1.c (i := 2) rfl
  have f5 := j1.c (i := 3) rfl
  clear j1
  go_enter Tryd.func3, Tryd.ntmps3
  go_wp2_with fail
  clear f2 f3 f4 f5
  have b1 := Is.made w #[.int .i64 z, .int .i64 (k : Int), .int .i64 gh, .int .i64 gs] 23
  replace kx := kx.alloc (.cells #[.int .i64 z, .int .i64 (k : Int), .int .i64 gh, .int .i64 gs] 23 (0, 0))
  replace gl := gl0.out.kb kx
  (with_reducible refine ((q1.out _ gl)).mono ?_)
  rintro r w1 ⟨rfl, k1⟩
  replace gl := gl.kb k1
  replace b1 := b1.kb k1
  replace kx := kx.trans k1
  have s1 := k1.size
  simp only [World.size_alloc] at s1
  clear k1
  have f6 := b1.c (i := 0) rfl
  have f7 := b1.c (i := 1) rfl
  have f8 := b1.c (i := 2) rfl
  have f9 := b1.c (i := 3) rfl
  go_wp2_with fail
  clear f6 f7 f8 f9
  (with_reducible refine ((Cg.out (rfit_any z (k : Int) gh gs) _ gl)).mono ?_)
  rintro r w2 ⟨rfl, k2⟩
  replace gl := gl.kb k2
  replace b1 := b1.kb k2
  replace kx := kx.trans k2
  have s2 := k2.size
  skip
  clear k2
  go_wp2_with fail
  (with_reducible refine ((q2.out _ gl)).mono ?_)
  rintro r w3 ⟨rfl, k3⟩
  replace gl := gl.kb k3
  replace b1 := b1.kb k3
  replace kx := kx.trans k3
  have s3 := k3.size
  skip
  clear k3
  have j10 := (b1.alloc (.cells #[.int .i64 cl, .int .i64 ch] 27 (0, 0)))
  have f11 := j10.c (i := 0) rfl
  have f12 := j10.c (i := 1) rfl
  have f13 := j10.c (i := 2) rfl
  have f14 := j10.c (i := 3) rfl
  clear j10
  go_wp2_with fail
  clear f11 f12 f13 f14
  replace b1 := (b1.alloc (.cells #[.int .i64 cl, .int .i64 ch] 27 (0, 0)))
  have b2 := Is.made w3 #[.int .i64 cl, .int .i64 ch] 27
  replace kx := kx.alloc (.cells #[.int .i64 cl, .int .i64 ch] 27 (0, 0))
  replace gl := gl0.out.kb kx
  (with_reducible refine ((Cg.out (rfit_any z (k : Int) gh gs) _ gl)).mono ?_)
  rintro r w4 ⟨rfl, k4⟩
  replace gl := gl.kb k4
  replace b1 := b1.kb k4
  replace b2 := b2.kb k4
  replace kx := kx.trans k4
  have s4 := k4.size
  simp only [World.size_alloc] at s4
  clear k4
  go_wp2_with fail
  (with_reducible refine ((q3.out _ gl)).mono ?_)
  rintro r w5 ⟨rfl, k5⟩
  replace gl := gl.kb k5
  replace b1 := b1.kb k5
  replace b2 := b2.kb k5
  replace kx := kx.trans k5
  have s5 := k5.size
  skip
  clear k5
  have f15 := b1.c (i := 0) rfl
  have f16 := b1.c (i := 2) rfl
  go_wp2_with fail
  clear f15 f16
  (with_reducible refine ((q4.out _ gl)).mono ?_)
  rintro r w6 ⟨rfl, k6⟩
  replace gl := gl.kb k6
  replace b1 := b1.kb k6
  replace b2 := b2.kb k6
  replace kx := kx.trans k6
  have s6 := k6.size
  skip
  clear k6
  have f17 := b1.c (i := 0) rfl
  have f18 := b1.c (i := 3) rfl
  go_wp2_with fail
  clear f17 f18
  (with_reducible refine ((q5.out _ gl)).mono ?_)
  rintro r w7 ⟨rfl, k7⟩
  replace gl := gl.kb k7
  replace b1 := b1.kb k7
  replace b2 := b2.kb k7
  replace kx := kx.trans k7
  have s7 := k7.size
  skip
  clear k7
  have f19 := b1.c (i := 0) rfl
  have f20 := b1.c (i := 1) rfl
  have f21 := b1.c (i := 3) rfl
  go_wp2_with fail
  clear f19 f20 f21
  (with_reducible refine ((q6.out _ gl)).mono ?_)
  rintro r w8 ⟨rfl, k8⟩
  replace gl := gl.kb k8
  replace b1 := b1.kb k8
  replace b2 := b2.kb k8
  replace kx := kx.trans k8
  have s8 := k8.size
  skip
  clear k8
  have y26 : wrap64 (-dh) = cl := e1
  have y26' : IntKind.i64.wrap (-dh) = cl := (Go.IntWalk.i64_left _).trans y26
  have y29 : wrap64 (ta - dl) = ch := e2
  have y29' : IntKind.i64.wrap (ta - dl) = ch := (Go.IntWalk.i64_left _).trans y29
  have y32 : wrap64 (ch - cl) = s := e3
  have y32' : IntKind.i64.wrap (ch - cl) = s := (Go.IntWalk.i64_left _).trans y32
  have y33 : wrap64 (ta + tb) = s := e4
  have y33' : IntKind.i64.wrap (ta + tb) = s := (Go.IntWalk.i64_left _).trans y33
  have j22 := (b2.alloc (.cells #[.int .i64 dl, .int .i64 dh] 27 (0, 0)))
  have f23 := j22.c (i := 0) rfl
  have j24 := (Is.made w8 #[.int .i64 dl, .int .i64 dh] 27)
  have f25 := j24.c (i := 1) rfl
  have f27 := j22.c (i := 1) rfl
  have f28 := j24.c (i := 0) rfl
  have j30 := (b1.alloc (.cells #[.int .i64 dl, .int .i64 dh] 27 (0, 0)))
  have f31 := j30.c (i := 1) rfl
  clear j22 j24 j30
  go_wp2_with fail
  clear f23 f25 f27 f28 f31
  replace b1 := (b1.alloc (.cells #[.int .i64 dl, .int .i64 dh] 27 (0, 0)))
  replace b2 := (b2.alloc (.cells #[.int .i64 dl, .int .i64 dh] 27 (0, 0)))
  have b3 := Is.made w8 #[.int .i64 dl, .int .i64 dh] 27
  replace kx := kx.alloc (.cells #[.int .i64 dl, .int .i64 dh] 27 (0, 0))
  replace gl := gl0.out.kb kx
  (with_reducible refine ((Cg.out fRun _ gl)).mono ?_)
  rintro r w9 ⟨rfl, k9⟩
  replace gl := gl.kb k9
  replace b1 := b1.kb k9
  replace b2 := b2.kb k9
  replace b3 := b3.kb k9
  replace kx := kx.trans k9
  have s9 := k9.size
  simp only [World.size_alloc] at s9
  clear k9
  go_wp2
  go_ret
  exact ⟨rfl, kx⟩
end Go.Proofs.YtmjkiccoimhfkaaDoor
