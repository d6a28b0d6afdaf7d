/- Texts Un6: each says in its own first comment what it proves. -/
import Derived.Test.YtlfeinajjfbpkaaGreatDoorM34
/- Frames: the reference: Virtual and Bonus, by letters. -/
namespace Go.Proofs.YtlfeinajjfbpkaaGreatDoor
open Go.RowKit

set_option maxRecDepth 100000 in
set_option maxHeartbeats 4000000 in
theorem rvirt_1 (w0 : World) (n : ByteArray) (k : Int) (a : Int) (x : Int) (y : Int) (z : Int) (lo : Int) (hi : Int) (fp : Option Addr) (fl : Nat) (fc : Nat) (fk : Int) (fd : Bool) (ft : Int) (fm : Int) (dp : Option Addr) (dl : Nat) (dc : Nat) (r1 : Int)   (q1 : Cf w0 14 #[.agg #[.string n, .int .i64 k, .int .i64 a, .int .i64 x, .int .i64 y, .int .i64 z, .int .i64 lo, .int .i64 hi, .slice fp fl fc], .agg #[.int .i64 fk, .bool fd, .int .i64 ft, .int .i64 fm, .slice dp dl dc]] (.int .i64 r1))  (h1 : (r1 != 0) = true) (w : World) (gl : Gf w0 w)  : Calls Tryz.prog 23 #[.agg #[.string n, .int .i64 k, .int .i64 a, .int .i64 x, .int .i64 y, .int .i64 z, .int .i64 lo, .int .i64 hi, .slice fp fl fc], .agg #[.int .i64 fk, .bool fd, .int .i64 ft, .int .i64 fm, .slice dp dl dc]] w fun r W' => r = .returned (.tuple #[.int .i64 0, .int .i64 r1]) ∧ Kb w W' := by
  have kx := Kb.refl w
  unfold Cf at q1
  have gl0 := Lib.hid gl
  have j1 := ((Is.made w #[.string n, .int .i64 k, .int .i64 a, .int .i64 x, .int .i64 y, .int .i64 z, .int .i64 lo, .int .i64 hi, .slice fp fl fc] 28).alloc (.cells #[.int .i64 fk, .bool fd, .int .i64 ft, .int .i64 fm, .slice dp dl dc] 31 (0, 0)))
  have f2 := j1.c (i := 0) rfl
  have f3 := j1.c (i := 1) rfl
  have f4 := j1.c (i := 2) rfl
  have f5 := j1.c (i := 3) rfl
  have f6 := j1.c (i := 4) rfl
  have f7 := j1.c (i := 5) rfl
  have f8 := j1.c (i := 6) rfl
  have f9 := j1.c (i := 7) rfl
  have f10 := j1.c (i := 8) rfl
  have j11 := (Is.made (w.alloc (.cells #[.string n, .int .i64 k, .int .i64 a, .int .i64 x, .int .i64 y, .int .i64 z, .int .i64 lo, .int .i64 hi, .slice fp fl fc] 28 (0, 0))) #[.int .i64 fk, .bool fd, .int .i64 ft, .int .i64 fm, .slice dp dl dc] 31)
  simp only [World.size_alloc] at j11
  have f12 := j11.c (i := 0) rfl
  have f13 := j11.c (i := 1) rfl
  have f14 := j11.c (i := 2) rfl
  have f15 := j11.c (i := 3) rfl
  have f16 := j11.c (i := 4) rfl
  go_enter Tryz.func23, Tryz.ntmps23
  go_wp2_with fail
  clear f2 f3 f4 f5 f6 f7 f8 f9 f10 f12 f13 f14 f15 f16
  have b1 := j1
  have b2 := j11
  replace kx := (kx.alloc (.cells #[.string n, .int .i64 k, .int .i64 a, .int .i64 x, .int .i64 y, .int .i64 z, .int .i64 lo, .int .i64 hi, .slice fp fl fc] 28 (0, 0))).alloc (.cells #[.int .i64 fk, .bool fd, .int .i64 ft, .int .i64 fm, .slice dp dl dc] 31 (0, 0))
  clear j1 j11
  replace gl := gl0.out.kb kx
  (with_reducible refine ((q1.out _ gl)).mono ?_)
  rintro r w1 ⟨rfl, k1⟩
  replace gl := gl.kb k1
  replace b1 := b1.kb k1
  replace b2 := b2.kb k1
  replace kx := kx.trans k1
  have s1 := k1.size
  simp only [World.size_alloc] at s1
  clear k1
  go_wp2
  go_ret2
  exact ⟨rfl, kx⟩
set_option maxRecDepth 100000 in
set_option maxHeartbeats 4000000 in
theorem rvirt_2 (w0 : World) (n : ByteArray) (k : Int) (a : Int) (x : Int) (y : Int) (z : Int) (lo : Int) (hi : Int) (fp : Option Addr) (fl : Nat) (fc : Nat) (fk : Int) (fd : Bool) (ft : Int) (fm : Int) (dp : Option Addr) (dl : Nat) (dc : Nat) (r1 : Int)   (q1 : Cf w0 14 #[.agg #[.string n, .int .i64 k, .int .i64 a, .int .i64 x, .int .i64 y, .int .i64 z, .int .i64 lo, .int .i64 hi, .slice fp fl fc], .agg #[.int .i64 fk, .bool fd, .int .i64 ft, .int .i64 fm, .slice dp dl dc]] (.int .i64 r1))  (h1 : (r1 != 0) = false) (h2 : (fm == 0) = true) (w : World) (gl : Gf w0 w)  : Calls Tryz.prog 23 #[.agg #[.string n, .int .i64 k, .int .i64 a, .int .i64 x, .int .i64 y, .int .i64 z, .int .i64 lo, .int .i64 hi, .slice fp fl fc], .agg #[.int .i64 fk, .bool fd, .int .i64 ft, .int .i64 fm, .slice dp dl dc]] w fun r W' => r = .returned (.tuple #[.int .i64 0, .int .i64 14]) ∧ Kb w W' := by
  have kx := Kb.refl w
  unfold Cf at q1
  have gl0 := Lib.hid gl
  have j1 := ((Is.made w #[.string n, .int .i64 k, .int .i64 a, .int .i64 x, .int .i64 y, .int .i64 z, .int .i64 lo, .int .i64 hi, .slice fp fl fc] 28).alloc (.cells #[.int .i64 fk, .bool fd, .int .i64 ft, .int .i64 fm, .slice dp dl dc] 31 (0, 0)))
  have f2 := j1.c (i := 0) rfl
  have f3 := j1.c (i := 1) rfl
  have f4 := j1.c (i := 2) rfl
  have f5 := j1.c (i := 3) rfl
  have f6 := j1.c (i := 4) rfl
  have f7 := j1.c (i := 5) rfl
  have f8 := j1.c (i := 6) rfl
  have f9 := j1.c (i := 7) rfl
  have f10 := j1.c (i := 8) rfl
  have j11 := (Is.made (w.alloc (.cells #[.string n, .int .i64 k, .int .i64 a, .int .i64 x, .int .i64 y, .int .i64 z, .int .i64 lo, .int .i64 hi, .slice fp fl fc] 28 (0, 0))) #[.int .i64 fk, .bool fd, .int .i64 ft, .int .i64 fm, .slice dp dl dc] 31)
  simp only [World.size_alloc] at j11
  have f12 := j11.c (i := 0) rfl
  have f13 := j11.c (i := 1) rfl
  have f14 := j11.c (i := 2) rfl
  have f15 := j11.c (i := 3) rfl
  have f16 := j11.c (i := 4) rfl
  go_enter Tryz.func23, Tryz.ntmps23
  go_wp2_with fail
  clear f2 f3 f4 f5 f6 f7 f8 f9 f10 f12 f13 f14 f15 f16
  have b1 := j1
  have b2 := j11
  replace kx := (kx.alloc (.cells #[.string n, .int .i64 k, .int .i64 a, .int .i64 x, .int .i64 y, .int .i64 z, .int .i64 lo, .int .i64 hi, .slice fp fl fc] 28 (0, 0))).alloc (.cells #[.int .i64 fk, .bool fd, .int .i64 ft, .int .i64 fm, .slice dp dl dc] 31 (0, 0))
  clear j1 j11
  replace gl := gl0.out.kb kx
  (with_reducible refine ((q1.out _ gl)).mono ?_)
  rintro r w1 ⟨rfl, k1⟩
  replace gl := gl.kb k1
  replace b1 := b1.kb k1
  replace b2 := b2.kb k1
  replace kx := kx.trans k1
  have s1 := k1.size
  simp only [World.size_alloc] at s1
  clear k1
  have f17 := b2.c (i := 3) rfl
  go_wp2
  go_ret2
  clear f17
  exact ⟨rfl, kx⟩
set_option maxRecDepth 100000 in
set_option maxHeartbeats 4000000 in
theorem rvirt_3 (w0 : World) (n : ByteArray) (k : Int) (a : Int) (x : Int) (y : Int) (z : Int) (lo : Int) (hi : Int) (fp : Option Addr) (fl : Nat) (fc : Nat) (fk : Int) (fd : Bool) (ft : Int) (fm : Int) (dp : Option Addr) (dl : Nat) (dc : Nat) (r1 : Int) (r2 : Int) (r3 : Int) (r4 : Int) (r5 : Int) (o7 : Bool) (z6 : Int) (z8 : Int) (a1 : wrap64 (-ft) = z6) (a2 : wrap64 (r4 - z6) = z8) (q1 : Cf w0 14 #[.agg #[.string n, .int .i64 k, .int .i64 a, .int .i64 x, .int .i64 y, .int .i64 z, .int .i64 lo, .int .i64 hi, .slice fp fl fc], .agg #[.int .i64 fk, .bool fd, .int .i64 ft, .int .i64 fm, .slice dp dl dc]] (.int .i64 r1)) (q2 : Ca 60 #[.agg #[.string n, .int .i64 k, .int .i64 a, .int .i64 x, .int .i64 y, .int .i64 z, .int .i64 lo, .int .i64 hi, .slice fp fl fc]] (.tuple #[.int .i64 r2, .int .i64 r3])) (q3 : Ca 61 #[.agg #[.string n, .int .i64 k, .int .i64 a, .int .i64 x, .int .i64 y, .int .i64 z, .int .i64 lo, .int .i64 hi, .slice fp fl fc]] (.tuple #[.int .i64 r4, .int .i64 r5])) (q4 : Ca 62 #[.agg #[.string n, .int .i64 k, .int .i64 a, .int .i64 x, .int .i64 y, .int .i64 z, .int .i64 lo, .int .i64 hi, .slice fp fl fc]] (.bool o7))  (h1 : (r1 != 0) = false) (h2 : (fm == 0) = false) (h3 : (fm == 2) = true) (h4 : (o7) = true) (w : World) (gl : Gf w0 w)  : Calls Tryz.prog 23 #[.agg #[.string n, .int .i64 k, .int .i64 a, .int .i64 x, .int .i64 y, .int .i64 z, .int .i64 lo, .int .i64 hi, .slice fp fl fc], .agg #[.int .i64 fk, .bool fd, .int .i64 ft, .int .i64 fm, .slice dp dl dc]] w fun r W' => r = .returned (.tuple #[.int .i64 z8, .int .i64 0]) ∧ Kb w W' := by
  have kx := Kb.refl w
  unfold Ca at q2 q3 q4
  unfold Cf at q1
  have gl0 := Lib.hid gl
  have a1' : IntKind.i64.wrap (-ft) = z6 := (Go.IntWalk.i64_left _).trans a1
  have a2' : IntKind.i64.wrap (r4 - z6) = z8 := (Go.IntWalk.i64_left _).trans a2
  subst h4
  have j1 := ((Is.made w #[.string n, .int .i64 k, .int .i64 a, .int .i64 x, .int .i64 y, .int .i64 z, .int .i64 lo, .int .i64 hi, .slice fp fl fc] 28).alloc (.cells #[.int .i64 fk, .bool fd, .int .i64 ft, .int .i64 fm, .slice dp dl dc] 31 (0, 0)))
  have f2 := j1.c (i := 0) rfl
  have f3 := j1.c (i := 1) rfl
  have f4 := j1.c (i := 2) rfl
  have f5 := j1.c (i := 3) rfl
  have f6 := j1.c (i := 4) rfl
  have f7 := j1.c (i := 5) rfl
  have f8 := j1.c (i := 6) rfl
  have f9 := j1.c (i := 7) rfl
  have f10 := j1.c (i := 8) rfl
  have j11 := (Is.made (w.alloc (.cells #[.string n, .int .i64 k, .int .i64 a, .int .i64 x, .int .i64 y, .int .i64 z, .int .i64 lo, .int .i64 hi, .slice fp fl fc] 28 (0, 0))) #[.int .i64 fk, .bool fd, .int .i64 ft, .int .i64 fm, .slice dp dl dc] 31)
  simp only [World.size_alloc] at j11
  have f12 := j11.c (i := 0) rfl
  have f13 := j11.c (i := 1) rfl
  have f14 := j11.c (i := 2) rfl
  have f15 := j11.c (i := 3) rfl
  have f16 := j11.c (i := 4) rfl
  go_enter Tryz.func23, Tryz.ntmps23
  go_wp2_with fail
  clear f2 f3 f4 f5 f6 f7 f8 f9 f10 f12 f13 f14 f15 f16
  have b1 := j1
  have b2 := j11
  replace kx := (kx.alloc (.cells #[.string n, .int .i64 k, .int .i64 a, .int .i64 x, .int .i64 y, .int .i64 z, .int .i64 lo, .int .i64 hi, .slice fp fl fc] 28 (0, 0))).alloc (.cells #[.int .i64 fk, .bool fd, .int .i64 ft, .int .i64 fm, .slice dp dl dc] 31 (0, 0))
  clear j1 j11
  replace gl := gl0.out.kb kx
  (with_reducible refine ((q1.out _ gl)).mono ?_)
  rintro r w1 ⟨rfl, k1⟩
  replace gl := gl.kb k1
  replace b1 := b1.kb k1
  replace b2 := b2.kb k1
  replace kx := kx.trans k1
  have s1 := k1.size
  simp only [World.size_alloc] at s1
  clear k1
  have f17 := b2.c (i := 3) rfl
  have f18 := b1.c (i := 0) rfl
  have f19 := b1.c (i := 1) rfl
  have f20 := b1.c (i := 2) rfl
  have f21 := b1.c (i := 3) rfl
  have f22 := b1.c (i := 4) rfl
  have f23 := b1.c (i := 5) rfl
  have f24 := b1.c (i := 6) rfl
  have f25 := b1.c (i := 7) rfl
  have f26 := b1.c (i := 8) rfl
  go_wp2_with fail
  clear f17 f18 f19 f20 f21 f22 f23 f24 f25 f26
  (with_reducible refine (((q2).out _)).mono ?_)
  rintro r w2 ⟨rfl, k2⟩
  replace gl := gl.kb k2
  replace b1 := b1.kb k2
  replace b2 := b2.kb k2
  replace kx := kx.trans k2
  have s2 := k2.size
  skip
  clear k2
  have f27 := b2.c (i := 2) rfl
  have f28 := b2.c (i := 3) rfl
  have f29 := b1.c (i := 0) rfl
  have f30 := b1.c (i := 1) rfl
  have f31 := b1.c (i := 2) rfl
  have f32 := b1.c (i := 3) rfl
  have f33 := b1.c (i := 4) rfl
  have f34 := b1.c (i := 5) rfl
  have f35 := b1.c (i := 6) rfl
  have f36 := b1.c (i := 7) rfl
  have f37 := b1.c (i := 8) rfl
  go_wp2_with fail
  clear f27 f28 f29 f30 f31 f32 f33 f34 f35 f36 f37
  (with_reducible refine (((q3).out _)).mono ?_)
  rintro r w3 ⟨rfl, k3⟩
  replace gl := gl.kb k3
  replace b1 := b1.kb k3
  replace b2 := b2.kb k3
  replace kx := kx.trans k3
  have s3 := k3.size
  skip
  clear k3
  have f38 := b1.c (i := 0) rfl
  have f39 := b1.c (i := 1) rfl
  have f40 := b1.c (i := 2) rfl
  have f41 := b1.c (i := 3) rfl
  have f42 := b1.c (i := 4) rfl
  have f43 := b1.c (i := 5) rfl
  have f44 := b1.c (i := 6) rfl
  have f45 := b1.c (i := 7) rfl
  have f46 := b1.c (i := 8) rfl
  go_wp2_with fail
  clear f38 f39 f40 f41 f42 f43 f44 f45 f46
  (with_reducible refine (((q4).out _)).mono ?_)
  rintro r w4 ⟨rfl, k4⟩
  replace gl := gl.kb k4
  replace b1 := b1.kb k4
  replace b2 := b2.kb k4
  replace kx := kx.trans k4
  have s4 := k4.size
  skip
  clear k4
  go_wp2
  go_ret2
  exact ⟨rfl, kx⟩
set_option maxRecDepth 100000 in
set_option maxHeartbeats 4000000 in
theorem rvirt_4 (w0 : World) (n : ByteArray) (k : Int) (a : Int) (x : Int) (y : Int) (z : Int) (lo : Int) (hi : Int) (fp : Option Addr) (fl : Nat) (fc : Nat) (fk : Int) (fd : Bool) (ft : Int) (fm : Int) (dp : Option Addr) (dl : Nat) (dc : Nat) (r1 : Int) (r2 : Int) (r3 : Int) (r4 : Int) (r5 : Int) (o7 : Bool) (z6 : Int) (z9 : Int) (a1 : wrap64 (-ft) = z6) (a3 : wrap64 (r4 + z6) = z9) (q1 : Cf w0 14 #[.agg #[.string n, .int .i64 k, .int .i64 a, .int .i64 x, .int .i64 y, .int .i64 z, .int .i64 lo, .int .i64 hi, .slice fp fl fc], .agg #[.int .i64 fk, .bool fd, .int .i64 ft, .int .i64 fm, .slice dp dl dc]] (.int .i64 r1)) (q2 : Ca 60 #[.agg #[.string n, .int .i64 k, .int .i64 a, .int .i64 x, .int .i64 y, .int .i64 z, .int .i64 lo, .int .i64 hi, .slice fp fl fc]] (.tuple #[.int .i64 r2, .int .i64 r3])) (q3 : Ca 61 #[.agg #[.string n, .int .i64 k, .int .i64 a, .int .i64 x, .int .i64 y, .int .i64 z, .int .i64 lo, .int .i64 hi, .slice fp fl fc]] (.tuple #[.int .i64 r4, .int .i64 r5])) (q4 : Ca 62 #[.agg #[.string n, .int .i64 k, .int .i64 a, .int .i64 x, .int .i64 y, .int .i64 z, .int .i64 lo, .int .i64 hi, .slice fp fl fc]] (.bool o7))  (h1 : (r1 != 0) = false) (h2 : (fm == 0) = false) (h3 : (fm == 2) = true) (h4 : (o7) = false) (w : World) (gl : Gf w0 w)  : Calls Tryz.prog 23 #[.agg #[.string n, .int .i64 k, .int .i64 a, .int .i64 x, .int .i64 y, .int .i64 z, .int .i64 lo, .int .i64 hi, .slice fp fl fc], .agg #[.int .i64 fk, .bool fd, .int .i64 ft, .int .i64 fm, .slice dp dl dc]] w fun r W' => r = .returned (.tuple #[.int .i64 z9, .int .i64 0]) ∧ Kb w W' := by
  have kx := Kb.refl w
  unfold Ca at q2 q3 q4
  unfold Cf at q1
  have gl0 := Lib.hid gl
  have a1' : IntKind.i64.wrap (-ft) = z6 := (Go.IntWalk.i64_left _).trans a1
  have a3' : IntKind.i64.wrap (r4 + z6) = z9 := (Go.IntWalk.i64_left _).trans a3
  subst h4
  have j1 := ((Is.made w #[.string n, .int .i64 k, .int .i64 a, .int .i64 x, .int .i64 y, .int .i64 z, .int .i64 lo, .int .i64 hi, .slice fp fl fc] 28).alloc (.cells #[.int .i64 fk, .bool fd, .int .i64 ft, .int .i64 fm, .slice dp dl dc] 31 (0, 0)))
  have f2 := j1.c (i := 0) rfl
  have f3 := j1.c (i := 1) rfl
  have f4 := j1.c (i := 2) rfl
  have f5 := j1.c (i := 3) rfl
  have f6 := j1.c (i := 4) rfl
  have f7 := j1.c (i := 5) rfl
  have f8 := j1.c (i := 6) rfl
  have f9 := j1.c (i := 7) rfl
  have f10 := j1.c (i := 8) rfl
  have j11 := (Is.made (w.alloc (.cells #[.string n, .int .i64 k, .int .i64 a, .int .i64 x, .int .i64 y, .int .i64 z, .int .i64 lo, .int .i64 hi, .slice fp fl fc] 28 (0, 0))) #[.int .i64 fk, .bool fd, .int .i64 ft, .int .i64 fm, .slice dp dl dc] 31)
  simp only [World.size_alloc] at j11
  have f12 := j11.c (i := 0) rfl
  have f13 := j11.c (i := 1) rfl
  have f14 := j11.c (i := 2) rfl
  have f15 := j11.c (i := 3) rfl
  have f16 := j11.c (i := 4) rfl
  go_enter Tryz.func23, Tryz.ntmps23
  go_wp2_with fail
  clear f2 f3 f4 f5 f6 f7 f8 f9 f10 f12 f13 f14 f15 f16
  have b1 := j1
  have b2 := j11
  replace kx := (kx.alloc (.cells #[.string n, .int .i64 k, .int .i64 a, .int .i64 x, .int .i64 y, .int .i64 z, .int .i64 lo, .int .i64 hi, .slice fp fl fc] 28 (0, 0))).alloc (.cells #[.int .i64 fk, .bool fd, .int .i64 ft, .int .i64 fm, .slice dp dl dc] 31 (0, 0))
  clear j1 j11
  replace gl := gl0.out.kb kx
  (with_reducible refine ((q1.out _ gl)).mono ?_)
  rintro r w1 ⟨rfl, k1⟩
  replace gl := gl.kb k1
  replace b1 := b1.kb k1
  replace b2 := b2.kb k1
  replace kx := kx.trans k1
  have s1 := k1.size
  simp only [World.size_alloc] at s1
  clear k1
  have f17 := b2.c (i := 3) rfl
  have f18 := b1.c (i := 0) rfl
  have f19 := b1.c (i := 1) rfl
  have f20 := b1.c (i := 2) rfl
  have f21 := b1.c (i := 3) rfl
  have f22 := b1.c (i := 4) rfl
  have f23 := b1.c (i := 5) rfl
  have f24 := b1.c (i := 6) rfl
  have f25 := b1.c (i := 7) rfl
  have f26 := b1.c (i := 8) rfl
  go_wp2_with fail
  clear f17 f18 f19 f20 f21 f22 f23 f24 f25 f26
  (with_reducible refine (((q2).out _)).mono ?_)
  rintro r w2 ⟨rfl, k2⟩
  replace gl := gl.kb k2
  replace b1 := b1.kb k2
  replace b2 := b2.kb k2
  replace kx := kx.trans k2
  have s2 := k2.size
  skip
  clear k2
  have f27 := b2.c (i := 2) rfl
  have f28 := b2.c (i := 3) rfl
  have f29 := b1.c (i := 0) rfl
  have f30 := b1.c (i := 1) rfl
  have f31 := b1.c (i := 2) rfl
  have f32 := b1.c (i := 3) rfl
  have f33 := b1.c (i := 4) rfl
  have f34 := b1.c (i := 5) rfl
  have f35 := b1.c (i := 6) rfl
  have f36 := b1.c (i := 7) rfl
  have f37 := b1.c (i := 8) rfl
  go_wp2_with fail
  clear f27 f28 f29 f30 f31 f32 f33 f34 f35 f36 f37
  (with_reducible refine (((q3).out _)).mono ?_)
  rintro r w3 ⟨rfl, k3⟩
  replace gl := gl.kb k3
  replace b1 := b1.kb k3
  replace b2 := b2.kb k3
  replace kx := kx.trans k3
  have s3 := k3.size
  skip
  clear k3
  have f38 := b1.c (i := 0) rfl
  have f39 := b1.c (i := 1) rfl
  have f40 := b1.c (i := 2) rfl
  have f41 := b1.c (i := 3) rfl
  have f42 := b1.c (i := 4) rfl
  have f43 := b1.c (i := 5) rfl
  have f44 := b1.c (i := 6) rfl
  have f45 := b1.c (i := 7) rfl
  have f46 := b1.c (i := 8) rfl
  go_wp2_with fail
  clear f38 f39 f40 f41 f42 f43 f44 f45 f46
  (with_reducible refine (((q4).out _)).mono ?_)
  rintro r w4 ⟨rfl, k4⟩
  replace gl := gl.kb k4
  replace b1 := b1.kb k4
  replace b2 := b2.kb k4
  replace kx := kx.trans k4
  have s4 := k4.size
  skip
  clear k4
  go_wp2
  go_ret2
  exact ⟨rfl, kx⟩
set_option maxRecDepth 100000 in
set_option maxHeartbeats 4000000 in
theorem rvirt_5 (w0 : World) (n : ByteArray) (k : Int) (a : Int) (x : Int) (y : Int) (z : Int) (lo : Int) (hi : Int) (fp : Option Addr) (fl : Nat) (fc : Nat) (fk : Int) (fd : Bool) (ft : Int) (fm : Int) (dp : Option Addr) (dl : Nat) (dc : Nat) (r1 : Int) (r2 : Int) (r3 : Int) (o7 : Bool) (z10 : Int) (a4 : wrap64 (r2 - ft) = z10) (q1 : Cf w0 14 #[.agg #[.string n, .int .i64 k, .int .i64 a, .int .i64 x, .int .i64 y, .int .i64 z, .int .i64 lo, .int .i64 hi, .slice fp fl fc], .agg #[.int .i64 fk, .bool fd, .int .i64 ft, .int .i64 fm, .slice dp dl dc]] (.int .i64 r1)) (q2 : Ca 60 #[.agg #[.string n, .int .i64 k, .int .i64 a, .int .i64 x, .int .i64 y, .int .i64 z, .int .i64 lo, .int .i64 hi, .slice fp fl fc]] (.tuple #[.int .i64 r2, .int .i64 r3])) (q4 : Ca 62 #[.agg #[.string n, .int .i64 k, .int .i64 a, .int .i64 x, .int .i64 y, .int .i64 z, .int .i64 lo, .int .i64 hi, .slice fp fl fc]] (.bool o7))  (h1 : (r1 != 0) = false) (h2 : (fm == 0) = false) (h3 : (fm == 2) = false) (h4 : (o7) = true) (w : World) (gl : Gf w0 w)  : Calls Tryz.prog 23 #[.agg #[.string n, .int .i64 k, .int .i64 a, .int .i64 x, .int .i64 y, .int .i64 z, .int .i64 lo, .int .i64 hi, .slice fp fl fc], .agg #[.int .i64 fk, .bool fd, .int .i64 ft, .int .i64 fm, .slice dp dl dc]] w fun r W' => r = .returned (.tuple #[.int .i64 z10, .int .i64 0]) ∧ Kb w W' := by
  have kx := Kb.refl w
  unfold Ca at q2 q4
  unfold Cf at q1
  have gl0 := Lib.hid gl
  have a4' : IntKind.i64.wrap (r2 - ft) = z10 := (Go.IntWalk.i64_left _).trans a4
  subst h4
  have j1 := ((Is.made w #[.string n, .int .i64 k, .int .i64 a, .int .i64 x, .int .i64 y, .int .i64 z, .int .i64 lo, .int .i64 hi, .slice fp fl fc] 28).alloc (.cells #[.int .i64 fk, .bool fd, .int .i64 ft, .int .i64 fm, .slice dp dl dc] 31 (0, 0)))
  have f2 := j1.c (i := 0) rfl
  have f3 := j1.c (i := 1) rfl
  have f4 := j1.c (i := 2) rfl
  have f5 := j1.c (i := 3) rfl
  have f6 := j1.c (i := 4) rfl
  have f7 := j1.c (i := 5) rfl
  have f8 := j1.c (i := 6) rfl
  have f9 := j1.c (i := 7) rfl
  have f10 := j1.c (i := 8) rfl
  have j11 := (Is.made (w.alloc (.cells #[.string n, .int .i64 k, .int .i64 a, .int .i64 x, .int .i64 y, .int .i64 z, .int .i64 lo, .int .i64 hi, .slice fp fl fc] 28 (0, 0))) #[.int .i64 fk, .bool fd, .int .i64 ft, .int .i64 fm, .slice dp dl dc] 31)
  simp only [World.size_alloc] at j11
  have f12 := j11.c (i := 0) rfl
  have f13 := j11.c (i := 1) rfl
  have f14 := j11.c (i := 2) rfl
  have f15 := j11.c (i := 3) rfl
  have f16 := j11.c (i := 4) rfl
  go_enter Tryz.func23, Tryz.ntmps23
  go_wp2_with fail
  clear f2 f3 f4 f5 f6 f7 f8 f9 f10 f12 f13 f14 f15 f16
  have b1 := j1
  have b2 := j11
  replace kx := (kx.alloc (.cells #[.string n, .int .i64 k, .int .i64 a, .int .i64 x, .int .i64 y, .int .i64 z, .int .i64 lo, .int .i64 hi, .slice fp fl fc] 28 (0, 0))).alloc (.cells #[.int .i64 fk, .bool fd, .int .i64 ft, .int .i64 fm, .slice dp dl dc] 31 (0, 0))
  clear j1 j11
  replace gl := gl0.out.kb kx
  (with_reducible refine ((q1.out _ gl)).mono ?_)
  rintro r w1 ⟨rfl, k1⟩
  replace gl := gl.kb k1
  replace b1 := b1.kb k1
  replace b2 := b2.kb k1
  replace kx := kx.trans k1
  have s1 := k1.size
  simp only [World.size_alloc] at s1
  clear k1
  have f17 := b2.c (i := 3) rfl
  have f18 := b1.c (i := 0) rfl
  have f19 := b1.c (i := 1) rfl
  have f20 := b1.c (i := 2) rfl
  have f21 := b1.c (i := 3) rfl
  have f22 := b1.c (i := 4) rfl
  have f23 := b1.c (i := 5) rfl
  have f24 := b1.c (i := 6) rfl
  have f25 := b1.c (i := 7) rfl
  have f26 := b1.c (i := 8) rfl
  go_wp2_with fail
  clear f17 f18 f19 f20 f21 f22 f23 f24 f25 f26
  (with_reducible refine (((q2).out _)).mono ?_)
  rintro r w2 ⟨rfl, k2⟩
  replace gl := gl.kb k2
  replace b1 := b1.kb k2
  replace b2 := b2.kb k2
  replace kx := kx.trans k2
  have s2 := k2.size
  skip
  clear k2
  have f27 := b2.c (i := 2) rfl
  have f28 := b2.c (i := 3) rfl
  have f29 := b1.c (i := 0) rfl
  have f30 := b1.c (i := 1) rfl
  have f31 := b1.c (i := 2) rfl
  have f32 := b1.c (i := 3) rfl
  have f33 := b1.c (i := 4) rfl
  have f34 := b1.c (i := 5) rfl
  have f35 := b1.c (i := 6) rfl
  have f36 := b1.c (i := 7) rfl
  have f37 := b1.c (i := 8) rfl
  go_wp2_with fail
  clear f27 f28 f29 f30 f31 f32 f33 f34 f35 f36 f37
  (with_reducible refine (((q4).out _)).mono ?_)
  rintro r w3 ⟨rfl, k3⟩
  replace gl := gl.kb k3
  replace b1 := b1.kb k3
  replace b2 := b2.kb k3
  replace kx := kx.trans k3
  have s3 := k3.size
  skip
  clear k3
  go_wp2
  go_ret2
  exact ⟨rfl, kx⟩
set_option maxRecDepth 100000 in
set_option maxHeartbeats 4000000 in
theorem rvirt_6 (w0 : World) (n : ByteArray) (k : Int) (a : Int) (x : Int) (y : Int) (z : Int) (lo : Int) (hi : Int) (fp : Option Addr) (fl : Nat) (fc : Nat) (fk : Int) (fd : Bool) (ft : Int) (fm : Int) (dp : Option Addr) (dl : Nat) (dc : Nat) (r1 : Int) (r2 : Int) (r3 : Int) (o7 : Bool) (z11 : Int) (a5 : wrap64 (r2 + ft) = z11) (q1 : Cf w0 14 #[.agg #[.string n, .int .i64 k, .int .i64 a, .int .i64 x, .int .i64 y, .int .i64 z, .int .i64 lo, .int .i64 hi, .slice fp fl fc], .agg #[.int .i64 fk, .bool fd, .int .i64 ft, .int .i64 fm, .slice dp dl dc]] (.int .i64 r1)) (q2 : Ca 60 #[.agg #[.string n, .int .i64 k, .int .i64 a, .int .i64 x, .int .i64 y, .int .i64 z, .int .i64 lo, .int .i64 hi, .slice fp fl fc]] (.tuple #[.int .i64 r2, .int .i64 r3])) (q4 : Ca 62 #[.agg #[.string n, .int .i64 k, .int .i64 a, .int .i64 x, .int .i64 y, .int .i64 z, .int .i64 lo, .int .i64 hi, .slice fp fl fc]] (.bool o7))  (h1 : (r1 != 0) = false) (h2 : (fm == 0) = false) (h3 : (fm == 2) = false) (h4 : (o7) = false) (w : World) (gl : Gf w0 w)  : Calls Tryz.prog 23 #[.agg #[.string n, .int .i64 k, .int .i64 a, .int .i64 x, .int .i64 y, .int .i64 z, .int .i64 lo, .int .i64 hi, .slice fp fl fc], .agg #[.int .i64 fk, .bool fd, .int .i64 ft, .int .i64 fm, .slice dp dl dc]] w fun r W' => r = .returned (.tuple #[.int .i64 z11, .int .i64 0]) ∧ Kb w W' := by
  have kx := Kb.refl w
  unfold Ca at q2 q4
  unfold Cf at q1
  have gl0 := Lib.hid gl
  have a5' : IntKind.i64.wrap (r2 + ft) = z11 := (Go.IntWalk.i64_left _).trans a5
  subst h4
  have j1 := ((Is.made w #[.string n, .int .i64 k, .int .i64 a, .int .i64 x, .int .i64 y, .int .i64 z, .int .i64 lo, .int .i64 hi, .slice fp fl fc] 28).alloc (.cells #[.int .i64 fk, .bool fd, .int .i64 ft, .int .i64 fm, .slice dp dl dc] 31 (0, 0)))
  have f2 := j1.c (i := 0) rfl
  have f3 := j1.c (i := 1) rfl
  have f4 := j1.c (i := 2) rfl
  have f5 := j1.c (i := 3) rfl
  have f6 := j1.c (i := 4) rfl
  have f7 := j1.c (i := 5) rfl
  have f8 := j1.c (i := 6) rfl
  have f9 := j1.c (i := 7) rfl
  have f10 := j1.c (i := 8) rfl
  have j11 := (Is.made (w.alloc (.cells #[.string n, .int .i64 k, .int .i64 a, .int .i64 x, .int .i64 y, .int .i64 z, .int .i64 lo, .int .i64 hi, .slice fp fl fc] 28 (0, 0))) #[.int .i64 fk, .bool fd, .int .i64 ft, .int .i64 fm, .slice dp dl dc] 31)
  simp only [World.size_alloc] at j11
  have f12 := j11.c (i := 0) rfl
  have f13 := j11.c (i := 1) rfl
  have f14 := j11.c (i := 2) rfl
  have f15 := j11.c (i := 3) rfl
  have f16 := j11.c (i := 4) rfl
  go_enter Tryz.func23, Tryz.ntmps23
  go_wp2_with fail
  clear f2 f3 f4 f5 f6 f7 f8 f9 f10 f12 f13 f14 f15 f16
  have b1 := j1
  have b2 := j11
  replace kx := (kx.alloc (.cells #[.string n, .int .i64 k, .int .i64 a, .int .i64 x, .int .i64 y, .int .i64 z, .int .i64 lo, .int .i64 hi, .slice fp fl fc] 28 (0, 0))).alloc (.cells #[.int .i64 fk, .bool fd, .int .i64 ft, .int .i64 fm, .slice dp dl dc] 31 (0, 0))
  clear j1 j11
  replace gl := gl0.out.kb kx
  (with_reducible refine ((q1.out _ gl)).mono ?_)
  rintro r w1 ⟨rfl, k1⟩
  replace gl := gl.kb k1
  replace b1 := b1.kb k1
  replace b2 := b2.kb k1
  replace kx := kx.trans k1
  have s1 := k1.size
  simp only [World.size_alloc] at s1
  clear k1
  have f17 := b2.c (i := 3) rfl
  have f18 := b1.c (i := 0) rfl
  have f19 := b1.c (i := 1) rfl
  have f20 := b1.c (i := 2) rfl
  have f21 := b1.c (i := 3) rfl
  have f22 := b1.c (i := 4) rfl
  have f23 := b1.c (i := 5) rfl
  have f24 := b1.c (i := 6) rfl
  have f25 := b1.c (i := 7) rfl
  have f26 := b1.c (i := 8) rfl
  go_wp2_with fail
  clear f17 f18 f19 f20 f21 f22 f23 f24 f25 f26
  (with_reducible refine (((q2).out _)).mono ?_)
  rintro r w2 ⟨rfl, k2⟩
  replace gl := gl.kb k2
  replace b1 := b1.kb k2
  replace b2 := b2.kb k2
  replace kx := kx.trans k2
  have s2 := k2.size
  skip
  clear k2
  have f27 := b2.c (i := 2) rfl
  have f28 := b2.c (i := 3) rfl
  have f29 := b1.c (i := 0) rfl
  have f30 := b1.c (i := 1) rfl
  have f31 := b1.c (i := 2) rfl
  have f32 := b1.c (i := 3) rfl
  have f33 := b1.c (i := 4) rfl
  have f34 := b1.c (i := 5) rfl
  have f35 := b1.c (i := 6) rfl
  have f36 := b1.c (i := 7) rfl
  have f37 := b1.c (i := 8) rfl
  go_wp2_with fail
  clear f27 f28 f29 f30 f31 f32 f33 f34 f35 f36 f37
  (with_reducible refine (((q4).out _)).mono ?_)
  rintro r w3 ⟨rfl, k3⟩
  replace gl := gl.kb k3
  replace b1 := b1.kb k3
  replace b2 := b2.kb k3
  replace kx := kx.trans k3
  have s3 := k3.size
  skip
  clear k3
  go_wp2
  go_ret2
  exact ⟨rfl, kx⟩
set_option maxRecDepth 100000 in
theorem rvirt_any (w0 : World) (n : ByteArray) (k : Int) (a : Int) (x : Int) (y : Int) (z : Int) (lo : Int) (hi : Int) (fp : Option Addr) (fl : Nat) (fc : Nat) (fk : Int) (fd : Bool) (ft : Int) (fm : Int) (dp : Option Addr) (dl : Nat) (dc : Nat) (r1 : Int) (r2 : Int) (r3 : Int) (r4 : Int) (r5 : Int) (o7 : Bool) (q1 : Cf w0 14 #[.agg #[.string n, .int .i64 k, .int .i64 a, .int .i64 x, .int .i64 y, .int .i64 z, .int .i64 lo, .int .i64 hi, .slice fp fl fc], .agg #[.int .i64 fk, .bool fd, .int .i64 ft, .int .i64 fm, .slice dp dl dc]] (.int .i64 r1)) (q2 : Ca 60 #[.agg #[.string n, .int .i64 k, .int .i64 a, .int .i64 x, .int .i64 y, .int .i64 z, .int .i64 lo, .int .i64 hi, .slice fp fl fc]] (.tuple #[.int .i64 r2, .int .i64 r3])) (q3 : Ca 61 #[.agg #[.string n, .int .i64 k, .int .i64 a, .int .i64 x, .int .i64 y, .int .i64 z, .int .i64 lo, .int .i64 hi, .slice fp fl fc]] (.tuple #[.int .i64 r4, .int .i64 r5])) (q4 : Ca 62 #[.agg #[.string n, .int .i64 k, .int .i64 a, .int .i64 x, .int .i64 y, .int .i64 z, .int .i64 lo, .int .i64 hi, .slice fp fl fc]] (.bool o7))  : Cf w0 23 #[.agg #[.string n, .int .i64 k, .int .i64 a, .int .i64 x, .int .i64 y, .int .i64 z, .int .i64 lo, .int .i64 hi, .slice fp fl fc], .agg #[.int .i64 fk, .bool fd, .int .i64 ft, .int .i64 fm, .slice dp dl dc]] (if (r1 != 0) = true then (.tuple #[.int .i64 0, .int .i64 r1]) else (if (fm == 0) = true then (.tuple #[.int .i64 0, .int .i64 14]) else (if (fm == 2) = true then (if (o7) = true then (.tuple #[.int .i64 (wrap64 (r4 - (wrap64 (-ft)))), .int .i64 0]) else (.tuple #[.int .i64 (wrap64 (r4 + (wrap64 (-ft)))), .int .i64 0])) else (if (o7) = true then (.tuple #[.int .i64 (wrap64 (r2 - ft)), .int .i64 0]) else (.tuple #[.int .i64 (wrap64 (r2 + ft)), .int .i64 0]))))) := Lib.hid fun w gl => by
  rcases Bool.eq_false_or_eq_true (r1 != 0) with h1 | h1
  · rw [if_pos h1]
    exact rvirt_1 w0 n k a x y z lo hi fp fl fc fk fd ft fm dp dl dc r1 q1 h1 w gl
  · rw [if_neg (by rw [h1]; decide)]
    rcases Bool.eq_false_or_eq_true (fm == 0) with h2 | h2
    · rw [if_pos h2]
      exact rvirt_2 w0 n k a x y z lo hi fp fl fc fk fd ft fm dp dl dc r1 q1 h1 h2 w gl
    · rw [if_neg (by rw [h2]; decide)]
      rcases Bool.eq_false_or_eq_true (fm == 2) with h3 | h3
      · rw [if_pos h3]
        rcases Bool.eq_false_or_eq_true (o7) with h4 | h4
        · rw [if_pos h4]
          exact rvirt_3 w0 n k a x y z lo hi fp fl fc fk fd ft fm dp dl dc r1 r2 r3 r4 r5 o7 ((wrap64 (-ft))) ((wrap64 (r4 - (wrap64 (-ft))))) rfl rfl q1 q2 q3 q4 h1 h2 h3 h4 w gl
        · rw [if_neg (by rw [h4]; decide)]
          exact rvirt_4 w0 n k a x y z lo hi fp fl fc fk fd ft fm dp dl dc r1 r2 r3 r4 r5 o7 ((wrap64 (-ft))) ((wrap64 (r4 + (wrap64 (-ft))))) rfl rfl q1 q2 q3 q4 h1 h2 h3 h4 w gl
      · rw [if_neg (by rw [h3]; decide)]
        rcases Bool.eq_false_or_eq_true (o7) with h4 | h4
        · rw [if_pos h4]
          exact rvirt_5 w0 n k a x y z lo hi fp fl fc fk fd ft fm dp dl dc r1 r2 r3 o7 ((wrap64 (r2 - ft))) rfl q1 q2 q4 h1 h2 h3 h4 w gl
        · rw [if_neg (by rw [h4]; decide)]
          exact rvirt_6 w0 n k a x y z lo hi fp fl fc fk fd ft fm dp dl dc r1 r2 r3 o7 ((wrap64 (r2 + ft))) rfl q1 q2 q4 h1 h2 h3 h4 w gl
set_option maxRecDepth 100000 in
set_option maxHeartbeats 4000000 in
theorem rbon_1 (w0 : World) (n : ByteArray) (k : Int) (a : Int) (x : Int) (y : Int) (z : Int) (lo : Int) (hi : Int) (fp : Option Addr) (fl : Nat) (fc : Nat) (fk : Int) (fd : Bool) (ft : Int) (fm : Int) (dp : Option Addr) (dl : Nat) (dc : Nat) (u : Int) (r1 : Int)   (q1 : Cf w0 14 #[.agg #[.string n, .int .i64 k, .int .i64 a, .int .i64 x, .int .i64 y, .int .i64 z, .int .i64 lo, .int .i64 hi, .slice fp fl fc], .agg #[.int .i64 fk, .bool fd, .int .i64 ft, .int .i64 fm, .slice dp dl dc]] (.int .i64 r1))  (h1 : (r1 != 0) = true) (w : World) (gl : Gf w0 w)  : Calls Tryz.prog 25 #[.agg #[.string n, .int .i64 k, .int .i64 a, .int .i64 x, .int .i64 y, .int .i64 z, .int .i64 lo, .int .i64 hi, .slice fp fl fc], .agg #[.int .i64 fk, .bool fd, .int .i64 ft, .int .i64 fm, .slice dp dl dc], .int .i64 u] w fun r W' => r = .returned (.tuple #[.int .i64 0, .int .i64 r1]) ∧ Kb w W' := by
  have kx := Kb.refl w
  unfold Cf at q1
  have gl0 := Lib.hid gl
  have j1 := ((Is.made w #[.string n, .int .i64 k, .int .i64 a, .int .i64 x, .int .i64 y, .int .i64 z, .int .i64 lo, .int .i64 hi, .slice fp fl fc] 28).alloc (.cells #[.int .i64 fk, .bool fd, .int .i64 ft, .int .i64 fm, .slice dp dl dc] 31 (0, 0)))
  have f2 := j1.c (i := 0) rfl
  have f3 := j1.c (i := 1) rfl
  have f4 := j1.c (i := 2) rfl
  have f5 := j1.c (i := 3) rfl
  have f6 := j1.c (i := 4) rfl
  have f7 := j1.c (i := 5) rfl
  have f8 := j1.c (i := 6) rfl
  have f9 := j1.c (i := 7) rfl
  have f10 := j1.c (i := 8) rfl
  have j11 := (Is.made (w.alloc (.cells #[.string n, .int .i64 k, .int .i64 a, .int .i64 x, .int .i64 y, .int .i64 z, .int .i64 lo, .int .i64 hi, .slice fp fl fc] 28 (0, 0))) #[.int .i64 fk, .bool fd, .int .i64 ft, .int .i64 fm, .slice dp dl dc] 31)
  simp only [World.size_alloc] at j11
  have f12 := j11.c (i := 0) rfl
  have f13 := j11.c (i := 1) rfl
  have f14 := j11.c (i := 2) rfl
  have f15 := j11.c (i := 3) rfl
  have f16 := j11.c (i := 4) rfl
  go_enter Tryz.func25, Tryz.ntmps25
  go_wp2_with fail
  clear f2 f3 f4 f5 f6 f7 f8 f9 f10 f12 f13 f14 f15 f16
  have b1 := j1
  have b2 := j11
  replace kx := (kx.alloc (.cells #[.string n, .int .i64 k, .int .i64 a, .int .i64 x, .int .i64 y, .int .i64 z, .int .i64 lo, .int .i64 hi, .slice fp fl fc] 28 (0, 0))).alloc (.cells #[.int .i64 fk, .bool fd, .int .i64 ft, .int .i64 fm, .slice dp dl dc] 31 (0, 0))
  clear j1 j11
  replace gl := gl0.out.kb kx
  (with_reducible refine ((q1.out _ gl)).mono ?_)
  rintro r w1 ⟨rfl, k1⟩
  replace gl := gl.kb k1
  replace b1 := b1.kb k1
  replace b2 := b2.kb k1
  replace kx := kx.trans k1
  have s1 := k1.size
  simp only [World.size_alloc] at s1
  clear k1
  go_wp2
  go_ret2
  exact ⟨rfl, kx⟩
set_option maxRecDepth 100000 in
set_option maxHeartbeats 4000000 in
theorem rbon_2 (w0 : World) (n : ByteArray) (k : Int) (a : Int) (x : Int) (y : Int) (z : Int) (lo : Int) (hi : Int) (fp : Option Addr) (fl : Nat) (fc : Nat) (fk : Int) (fd : Bool) (ft : Int) (fm : Int) (dp : Option Addr) (dl : Nat) (dc : Nat) (u : Int) (r1 : Int)   (q1 : Cf w0 14 #[.agg #[.string n, .int .i64 k, .int .i64 a, .int .i64 x, .int .i64 y, .int .i64 z, .int .i64 lo, .int .i64 hi, .slice fp fl fc], .agg #[.int .i64 fk, .bool fd, .int .i64 ft, .int .i64 fm, .slice dp dl dc]] (.int .i64 r1))  (h1 : (r1 != 0) = false) (h2 : (k == 0) = true) (w : World) (gl : Gf w0 w)  : Calls Tryz.prog 25 #[.agg #[.string n, .int .i64 k, .int .i64 a, .int .i64 x, .int .i64 y, .int .i64 z, .int .i64 lo, .int .i64 hi, .slice fp fl fc], .agg #[.int .i64 fk, .bool fd, .int .i64 ft, .int .i64 fm, .slice dp dl dc], .int .i64 u] w fun r W' => r = .returned (.tuple #[.int .i64 0, .int .i64 14]) ∧ Kb w W' := by
  have kx := Kb.refl w
  unfold Cf at q1
  have gl0 := Lib.hid gl
  have j1 := ((Is.made w #[.string n, .int .i64 k, .int .i64 a, .int .i64 x, .int .i64 y, .int .i64 z, .int .i64 lo, .int .i64 hi, .slice fp fl fc] 28).alloc (.cells #[.int .i64 fk, .bool fd, .int .i64 ft, .int .i64 fm, .slice dp dl dc] 31 (0, 0)))
  have f2 := j1.c (i := 0) rfl
  have f3 := j1.c (i := 1) rfl
  have f4 := j1.c (i := 2) rfl
  have f5 := j1.c (i := 3) rfl
  have f6 := j1.c (i := 4) rfl
  have f7 := j1.c (i := 5) rfl
  have f8 := j1.c (i := 6) rfl
  have f9 := j1.c (i := 7) rfl
  have f10 := j1.c (i := 8) rfl
  have j11 := (Is.made (w.alloc (.cells #[.string n, .int .i64 k, .int .i64 a, .int .i64 x, .int .i64 y, .int .i64 z, .int .i64 lo, .int .i64 hi, .slice fp fl fc] 28 (0, 0))) #[.int .i64 fk, .bool fd, .int .i64 ft, .int .i64 fm, .slice dp dl dc] 31)
  simp only [World.size_alloc] at j11
  have f12 := j11.c (i := 0) rfl
  have f13 := j11.c (i := 1) rfl
  have f14 := j11.c (i := 2) rfl
  have f15 := j11.c (i := 3) rfl
  have f16 := j11.c (i := 4) rfl
  go_enter Tryz.func25, Tryz.ntmps25
  go_wp2_with fail
  clear f2 f3 f4 f5 f6 f7 f8 f9 f10 f12 f13 f14 f15 f16
  have b1 := j1
  have b2 := j11
  replace kx := (kx.alloc (.cells #[.string n, .int .i64 k, .int .i64 a, .int .i64 x, .int .i64 y, .int .i64 z, .int .i64 lo, .int .i64 hi, .slice fp fl fc] 28 (0, 0))).alloc (.cells #[.int .i64 fk, .bool fd, .int .i64 ft, .int .i64 fm, .slice dp dl dc] 31 (0, 0))
  clear j1 j11
  replace gl := gl0.out.kb kx
  (with_reducible refine ((q1.out _ gl)).mono ?_)
  rintro r w1 ⟨rfl, k1⟩
  replace gl := gl.kb k1
  replace b1 := b1.kb k1
  replace b2 := b2.kb k1
  replace kx := kx.trans k1
  have s1 := k1.size
  simp only [World.size_alloc] at s1
  clear k1
  have f17 := b1.c (i := 1) rfl
  go_wp2
  go_ret2
  clear f17
  exact ⟨rfl, kx⟩
set_option maxRecDepth 100000 in
set_option maxHeartbeats 4000000 in
theorem rbon_3 (w0 : World) (n : ByteArray) (k : Int) (a : Int) (x : Int) (y : Int) (z : Int) (lo : Int) (hi : Int) (fp : Option Addr) (fl : Nat) (fc : Nat) (fk : Int) (fd : Bool) (ft : Int) (fm : Int) (dp : Option Addr) (dl : Nat) (dc : Nat) (u : Int) (r1 : Int) (o2 : Bool)   (q1 : Cf w0 14 #[.agg #[.string n, .int .i64 k, .int .i64 a, .int .i64 x, .int .i64 y, .int .i64 z, .int .i64 lo, .int .i64 hi, .slice fp fl fc], .agg #[.int .i64 fk, .bool fd, .int .i64 ft, .int .i64 fm, .slice dp dl dc]] (.int .i64 r1)) (q2 : Ca 33 #[.agg #[.int .i64 lo, .int .i64 hi], .int .i64 u] (.bool o2))  (h1 : (r1 != 0) = false) (h2 : (k == 0) = false) (h3 : (o2) = true) (h4 : (fm == 0) = true) (w : World) (gl : Gf w0 w)  : Calls Tryz.prog 25 #[.agg #[.string n, .int .i64 k, .int .i64 a, .int .i64 x, .int .i64 y, .int .i64 z, .int .i64 lo, .int .i64 hi, .slice fp fl fc], .agg #[.int .i64 fk, .bool fd, .int .i64 ft, .int .i64 fm, .slice dp dl dc], .int .i64 u] w fun r W' => r = .returned (.tuple #[.int .i64 0, .int .i64 0]) ∧ Kb w W' := by
  have kx := Kb.refl w
  unfold Ca at q2
  unfold Cf at q1
  have gl0 := Lib.hid gl
  subst h3
  have j1 := ((Is.made w #[.string n, .int .i64 k, .int .i64 a, .int .i64 x, .int .i64 y, .int .i64 z, .int .i64 lo, .int .i64 hi, .slice fp fl fc] 28).alloc (.cells #[.int .i64 fk, .bool fd, .int .i64 ft, .int .i64 fm, .slice dp dl dc] 31 (0, 0)))
  have f2 := j1.c (i := 0) rfl
  have f3 := j1.c (i := 1) rfl
  have f4 := j1.c (i := 2) rfl
  have f5 := j1.c (i := 3) rfl
  have f6 := j1.c (i := 4) rfl
  have f7 := j1.c (i := 5) rfl
  have f8 := j1.c (i := 6) rfl
  have f9 := j1.c (i := 7) rfl
  have f10 := j1.c (i := 8) rfl
  have j11 := (Is.made (w.alloc (.cells #[.string n, .int .i64 k, .int .i64 a, .int .i64 x, .int .i64 y, .int .i64 z, .int .i64 lo, .int .i64 hi, .slice fp fl fc] 28 (0, 0))) #[.int .i64 fk, .bool fd, .int .i64 ft, .int .i64 fm, .slice dp dl dc] 31)
  simp only [World.size_alloc] at j11
  have f12 := j11.c (i := 0) rfl
  have f13 := j11.c (i := 1) rfl
  have f14 := j11.c (i := 2) rfl
  have f15 := j11.c (i := 3) rfl
  have f16 := j11.c (i := 4) rfl
  go_enter Tryz.func25, Tryz.ntmps25
  go_wp2_with fail
  clear f2 f3 f4 f5 f6 f7 f8 f9 f10 f12 f13 f14 f15 f16
  have b1 := j1
  have b2 := j11
  replace kx := (kx.alloc (.cells #[.string n, .int .i64 k, .int .i64 a, .int .i64 x, .int .i64 y, .int .i64 z, .int .i64 lo, .int .i64 hi, .slice fp fl fc] 28 (0, 0))).alloc (.cells #[.int .i64 fk, .bool fd, .int .i64 ft, .int .i64 fm, .slice dp dl dc] 31 (0, 0))
  clear j1 j11
  replace gl := gl0.out.kb kx
  (with_reducible refine ((q1.out _ gl)).mono ?_)
  rintro r w1 ⟨rfl, k1⟩
  replace gl := gl.kb k1
  replace b1 := b1.kb k1
  replace b2 := b2.kb k1
  replace kx := kx.trans k1
  have s1 := k1.size
  simp only [World.size_alloc] at s1
  clear k1
  have f17 := b1.c (i := 1) rfl
  have f18 := b1.c (i := 6) rfl
  have f19 := b1.c (i := 7) rfl
  go_wp2_with fail
  clear f17 f18 f19
  (with_reducible refine (((q2).out _)).mono ?_)
  rintro r w2 ⟨rfl, k2⟩
  replace gl := gl.kb k2
  replace b1 := b1.kb k2
  replace b2 := b2.kb k2
  replace kx := kx.trans k2
  have s2 := k2.size
  skip
  clear k2
  have f20 := b2.c (i := 3) rfl
  go_wp2
  go_ret2
  clear f20
  exact ⟨rfl, kx⟩
set_option maxRecDepth 100000 in
set_option maxHeartbeats 4000000 in
theorem rbon_4 (w0 : World) (n : ByteArray) (k : Int) (a : Int) (x : Int) (y : Int) (z : Int) (lo : Int) (hi : Int) (fp : Option Addr) (fl : Nat) (fc : Nat) (fk : Int) (fd : Bool) (ft : Int) (fm : Int) (dp : Option Addr) (dl : Nat) (dc : Nat) (u : Int) (r1 : Int) (o2 : Bool) (r3 : Int) (r4 : Int) (r5 : Int) (r6 : Int) (z7 : Int) (z8 : Int) (z9 : Int) (a1 : wrap64 (u - r5) = z7) (a2 : wrap64 (r5 - u) = z8) (a3 : max z7 z8 = z9) (q1 : Cf w0 14 #[.agg #[.string n, .int .i64 k, .int .i64 a, .int .i64 x, .int .i64 y, .int .i64 z, .int .i64 lo, .int .i64 hi, .slice fp fl fc], .agg #[.int .i64 fk, .bool fd, .int .i64 ft, .int .i64 fm, .slice dp dl dc]] (.int .i64 r1)) (q2 : Ca 33 #[.agg #[.int .i64 lo, .int .i64 hi], .int .i64 u] (.bool o2)) (q3 : Ca 60 #[.agg #[.string n, .int .i64 k, .int .i64 a, .int .i64 x, .int .i64 y, .int .i64 z, .int .i64 lo, .int .i64 hi, .slice fp fl fc]] (.tuple #[.int .i64 r3, .int .i64 r4])) (q4 : Ca 61 #[.agg #[.string n, .int .i64 k, .int .i64 a, .int .i64 x, .int .i64 y, .int .i64 z, .int .i64 lo, .int .i64 hi, .slice fp fl fc]] (.tuple #[.int .i64 r5, .int .i64 r6]))  (h1 : (r1 != 0) = false) (h2 : (k == 0) = false) (h3 : (o2) = true) (h4 : (fm == 0) = false) (h5 : (fm == 2) = true) (w : World) (gl : Gf w0 w)  : Calls Tryz.prog 25 #[.agg #[.string n, .int .i64 k, .int .i64 a, .int .i64 x, .int .i64 y, .int .i64 z, .int .i64 lo, .int .i64 hi, .slice fp fl fc], .agg #[.int .i64 fk, .bool fd, .int .i64 ft, .int .i64 fm, .slice dp dl dc], .int .i64 u] w fun r W' => r = .returned (.tuple #[.int .i64 z9, .int .i64 0]) ∧ Kb w W' := by
  have kx := Kb.refl w
  unfold Ca at q2 q3 q4
  unfold Cf at q1
  have gl0 := Lib.hid gl
  have a1' : IntKind.i64.wrap (u - r5) = z7 := (Go.IntWalk.i64_left _).trans a1
  have a2' : IntKind.i64.wrap (r5 - u) = z8 := (Go.IntWalk.i64_left _).trans a2
  subst h3
  have j1 := ((Is.made w #[.string n, .int .i64 k, .int .i64 a, .int .i64 x, .int .i64 y, .int .i64 z, .int .i64 lo, .int .i64 hi, .slice fp fl fc] 28).alloc (.cells #[.int .i64 fk, .bool fd, .int .i64 ft, .int .i64 fm, .slice dp dl dc] 31 (0, 0)))
  have f2 := j1.c (i := 0) rfl
  have f3 := j1.c (i := 1) rfl
  have f4 := j1.c (i := 2) rfl
  have f5 := j1.c (i := 3) rfl
  have f6 := j1.c (i := 4) rfl
  have f7 := j1.c (i := 5) rfl
  have f8 := j1.c (i := 6) rfl
  have f9 := j1.c (i := 7) rfl
  have f10 := j1.c (i := 8) rfl
  have j11 := (Is.made (w.alloc (.cells #[.string n, .int .i64 k, .int .i64 a, .int .i64 x, .int .i64 y, .int .i64 z, .int .i64 lo, .int .i64 hi, .slice fp fl fc] 28 (0, 0))) #[.int .i64 fk, .bool fd, .int .i64 ft, .int .i64 fm, .slice dp dl dc] 31)
  simp only [World.size_alloc] at j11
  have f12 := j11.c (i := 0) rfl
  have f13 := j11.c (i := 1) rfl
  have f14 := j11.c (i := 2) rfl
  have f15 := j11.c (i := 3) rfl
  have f16 := j11.c (i := 4) rfl
  go_enter Tryz.func25, Tryz.ntmps25
  go_wp2_with fail
  clear f2 f3 f4 f5 f6 f7 f8 f9 f10 f12 f13 f14 f15 f16
  have b1 := j1
  have b2 := j11
  replace kx := (kx.alloc (.cells #[.string n, .int .i64 k, .int .i64 a, .int .i64 x, .int .i64 y, .int .i64 z, .int .i64 lo, .int .i64 hi, .slice fp fl fc] 28 (0, 0))).alloc (.cells #[.int .i64 fk, .bool fd, .int .i64 ft, .int .i64 fm, .slice dp dl dc] 31 (0, 0))
  clear j1 j11
  replace gl := gl0.out.kb kx
  (with_reducible refine ((q1.out _ gl)).mono ?_)
  rintro r w1 ⟨rfl, k1⟩
  replace gl := gl.kb k1
  replace b1 := b1.kb k1
  replace b2 := b2.kb k1
  replace kx := kx.trans k1
  have s1 := k1.size
  simp only [World.size_alloc] at s1
  clear k1
  have f17 := b1.c (i := 1) rfl
  have f18 := b1.c (i := 6) rfl
  have f19 := b1.c (i := 7) rfl
  go_wp2_with fail
  clear f17 f18 f19
  (with_reducible refine (((q2).out _)).mono ?_)
  rintro r w2 ⟨rfl, k2⟩
  replace gl := gl.kb k2
  replace b1 := b1.kb k2
  replace b2 := b2.kb k2
  replace kx := kx.trans k2
  have s2 := k2.size
  skip
  clear k2
  have f20 := b2.c (i := 3) rfl
  have f21 := b1.c (i := 0) rfl
  have f22 := b1.c (i := 1) rfl
  have f23 := b1.c (i := 2) rfl
  have f24 := b1.c (i := 3) rfl
  have f25 := b1.c (i := 4) rfl
  have f26 := b1.c (i := 5) rfl
  have f27 := b1.c (i := 6) rfl
  have f28 := b1.c (i := 7) rfl
  have f29 := b1.c (i := 8) rfl
  go_wp2_with fail
  clear f20 f21 f22 f23 f24 f25 f26 f27 f28 f29
  (with_reducible refine (((q3).out _)).mono ?_)
  rintro r w3 ⟨rfl, k3⟩
  replace gl := gl.kb k3
  replace b1 := b1.kb k3
  replace b2 := b2.kb k3
  replace kx := kx.trans k3
  have s3 := k3.size
  skip
  clear k3
  have f30 := b2.c (i := 3) rfl
  have f31 := b1.c (i := 0) rfl
  have f32 := b1.c (i := 1) rfl
  have f33 := b1.c (i := 2) rfl
  have f34 := b1.c (i := 3) rfl
  have f35 := b1.c (i := 4) rfl
  have f36 := b1.c (i := 5) rfl
  have f37 := b1.c (i := 6) rfl
  have f38 := b1.c (i := 7) rfl
  have f39 := b1.c (i := 8) rfl
  go_wp2_with fail
  clear f30 f31 f32 f33 f34 f35 f36 f37 f38 f39
  (with_reducible refine (((q4).out _)).mono ?_)
  rintro r w4 ⟨rfl, k4⟩
  replace gl := gl.kb k4
  replace b1 := b1.kb k4
  replace b2 := b2.kb k4
  replace kx := kx.trans k4
  have s4 := k4.size
  skip
  clear k4
  go_wp2
  go_ret2
  exact ⟨rfl, kx⟩
set_option maxRecDepth 100000 in
set_option maxHeartbeats 4000000 in
theorem rbon_5 (w0 : World) (n : ByteArray) (k : Int) (a : Int) (x : Int) (y : Int) (z : Int) (lo : Int) (hi : Int) (fp : Option Addr) (fl : Nat) (fc : Nat) (fk : Int) (fd : Bool) (ft : Int) (fm : Int) (dp : Option Addr) (dl : Nat) (dc : Nat) (u : Int) (r1 : Int) (o2 : Bool) (r3 : Int) (r4 : Int) (z10 : Int) (z11 : Int) (z12 : Int) (a4 : wrap64 (u - r3) = z10) (a5 : wrap64 (r3 - u) = z11) (a6 : max z10 z11 = z12) (q1 : Cf w0 14 #[.agg #[.string n, .int .i64 k, .int .i64 a, .int .i64 x, .int .i64 y, .int .i64 z, .int .i64 lo, .int .i64 hi, .slice fp fl fc], .agg #[.int .i64 fk, .bool fd, .int .i64 ft, .int .i64 fm, .slice dp dl dc]] (.int .i64 r1)) (q2 : Ca 33 #[.agg #[.int .i64 lo, .int .i64 hi], .int .i64 u] (.bool o2)) (q3 : Ca 60 #[.agg #[.string n, .int .i64 k, .int .i64 a, .int .i64 x, .int .i64 y, .int .i64 z, .int .i64 lo, .int .i64 hi, .slice fp fl fc]] (.tuple #[.int .i64 r3, .int .i64 r4]))  (h1 : (r1 != 0) = false) (h2 : (k == 0) = false) (h3 : (o2) = true) (h4 : (fm == 0) = false) (h5 : (fm == 2) = false) (w : World) (gl : Gf w0 w)  : Calls Tryz.prog 25 #[.agg #[.string n, .int .i64 k, .int .i64 a, .int .i64 x, .int .i64 y, .int .i64 z, .int .i64 lo, .int .i64 hi, .slice fp fl fc], .agg #[.int .i64 fk, .bool fd, .int .i64 ft, .int .i64 fm, .slice dp dl dc], .int .i64 u] w fun r W' => r = .returned (.tuple #[.int .i64 z12, .int .i64 0]) ∧ Kb w W' := by
  have kx := Kb.refl w
  unfold Ca at q2 q3
  unfold Cf at q1
  have gl0 := Lib.hid gl
  have a4' : IntKind.i64.wrap (u - r3) = z10 := (Go.IntWalk.i64_left _).trans a4
  have a5' : IntKind.i64.wrap (r3 - u) = z11 := (Go.IntWalk.i64_left _).trans a5
  subst h3
  have j1 := ((Is.made w #[.string n, .int .i64 k, .int .i64 a, .int .i64 x, .int .i64 y, .int .i64 z, .int .i64 lo, .int .i64 hi, .slice fp fl fc] 28).alloc (.cells #[.int .i64 fk, .bool fd, .int .i64 ft, .int .i64 fm, .slice dp dl dc] 31 (0, 0)))
  have f2 := j1.c (i := 0) rfl
  have f3 := j1.c (i := 1) rfl
  have f4 := j1.c (i := 2) rfl
  have f5 := j1.c (i := 3) rfl
  have f6 := j1.c (i := 4) rfl
  have f7 := j1.c (i := 5) rfl
  have f8 := j1.c (i := 6) rfl
  have f9 := j1.c (i := 7) rfl
  have f10 := j1.c (i := 8) rfl
  have j11 := (Is.made (w.alloc (.cells #[.string n, .int .i64 k, .int .i64 a, .int .i64 x, .int .i64 y, .int .i64 z, .int .i64 lo, .int .i64 hi, .slice fp fl fc] 28 (0, 0))) #[.int .i64 fk, .bool fd, .int .i64 ft, .int .i64 fm, .slice dp dl dc] 31)
  simp only [World.size_alloc] at j11
  have f12 := j11.c (i := 0) rfl
  have f13 := j11.c (i := 1) rfl
  have f14 := j11.c (i := 2) rfl
  have f15 := j11.c (i := 3) rfl
  have f16 := j11.c (i := 4) rfl
  go_enter Tryz.func25, Tryz.ntmps25
  go_wp2_with fail
  clear f2 f3 f4 f5 f6 f7 f8 f9 f10 f12 f13 f14 f15 f16
  have b1 := j1
  have b2 := j11
  replace kx := (kx.alloc (.cells #[.string n, .int .i64 k, .int .i64 a, .int .i64 x, .int .i64 y, .int .i64 z, .int .i64 lo, .int .i64 hi, .slice fp fl fc] 28 (0, 0))).alloc (.cells #[.int .i64 fk, .bool fd, .int .i64 ft, .int .i64 fm, .slice dp dl dc] 31 (0, 0))
  clear j1 j11
  replace gl := gl0.out.kb kx
  (with_reducible refine ((q1.out _ gl)).mono ?_)
  rintro r w1 ⟨rfl, k1⟩
  replace gl := gl.kb k1
  replace b1 := b1.kb k1
  replace b2 := b2.kb k1
  replace kx := kx.trans k1
  have s1 := k1.size
  simp only [World.size_alloc] at s1
  clear k1
  have f17 := b1.c (i := 1) rfl
  have f18 := b1.c (i := 6) rfl
  have f19 := b1.c (i := 7) rfl
  go_wp2_with fail
  clear f17 f18 f19
  (with_reducible refine (((q2).out _)).mono ?_)
  rintro r w2 ⟨rfl, k2⟩
  replace gl := gl.kb k2
  replace b1 := b1.kb k2
  replace b2 := b2.kb k2
  replace kx := kx.trans k2
  have s2 := k2.size
  skip
  clear k2
  have f20 := b2.c (i := 3) rfl
  have f21 := b1.c (i := 0) rfl
  have f22 := b1.c (i := 1) rfl
  have f23 := b1.c (i := 2) rfl
  have f24 := b1.c (i := 3) rfl
  have f25 := b1.c (i := 4) rfl
  have f26 := b1.c (i := 5) rfl
  have f27 := b1.c (i := 6) rfl
  have f28 := b1.c (i := 7) rfl
  have f29 := b1.c (i := 8) rfl
  go_wp2_with fail
  clear f20 f21 f22 f23 f24 f25 f26 f27 f28 f29
  (with_reducible refine (((q3).out _)).mono ?_)
  rintro r w3 ⟨rfl, k3⟩
  replace gl := gl.kb k3
  replace b1 := b1.kb k3
  replace b2 := b2.kb k3
  replace kx := kx.trans k3
  have s3 := k3.size
  skip
  clear k3
  have f30 := b2.c (i := 3) rfl
  go_wp2
  go_ret2
  clear f30
  exact ⟨rfl, kx⟩
set_option maxRecDepth 100000 in
set_option maxHeartbeats 4000000 in
theorem rbon_6 (w0 : World) (n : ByteArray) (k : Int) (a : Int) (x : Int) (y : Int) (z : Int) (lo : Int) (hi : Int) (fp : Option Addr) (fl : Nat) (fc : Nat) (fk : Int) (fd : Bool) (ft : Int) (fm : Int) (dp : Option Addr) (dl : Nat) (dc : Nat) (u : Int) (r1 : Int) (o2 : Bool)   (q1 : Cf w0 14 #[.agg #[.string n, .int .i64 k, .int .i64 a, .int .i64 x, .int .i64 y, .int .i64 z, .int .i64 lo, .int .i64 hi, .slice fp fl fc], .agg #[.int .i64 fk, .bool fd, .int .i64 ft, .int .i64 fm, .slice dp dl dc]] (.int .i64 r1)) (q2 : Ca 33 #[.agg #[.int .i64 lo, .int .i64 hi], .int .i64 u] (.bool o2))  (h1 : (r1 != 0) = false) (h2 : (k == 0) = false) (h3 : (o2) = false) (w : World) (gl : Gf w0 w)  : Calls Tryz.prog 25 #[.agg #[.string n, .int .i64 k, .int .i64 a, .int .i64 x, .int .i64 y, .int .i64 z, .int .i64 lo, .int .i64 hi, .slice fp fl fc], .agg #[.int .i64 fk, .bool fd, .int .i64 ft, .int .i64 fm, .slice dp dl dc], .int .i64 u] w fun r W' => r = .returned (.tuple #[.int .i64 0, .int .i64 2]) ∧ Kb w W' := by
  have kx := Kb.refl w
  unfold Ca at q2
  unfold Cf at q1
  have gl0 := Lib.hid gl
  subst h3
  have j1 := ((Is.made w #[.string n, .int .i64 k, .int .i64 a, .int .i64 x, .int .i64 y, .int .i64 z, .int .i64 lo, .int .i64 hi, .slice fp fl fc] 28).alloc (.cells #[.int .i64 fk, .bool fd, .int .i64 ft, .int .i64 fm, .slice dp dl dc] 31 (0, 0)))
  have f2 := j1.c (i := 0) rfl
  have f3 := j1.c (i := 1) rfl
  have f4 := j1.c (i := 2) rfl
  have f5 := j1.c (i := 3) rfl
  have f6 := j1.c (i := 4) rfl
  have f7 := j1.c (i := 5) rfl
  have f8 := j1.c (i := 6) rfl
  have f9 := j1.c (i := 7) rfl
  have f10 := j1.c (i := 8) rfl
  have j11 := (Is.made (w.alloc (.cells #[.string n, .int .i64 k, .int .i64 a, .int .i64 x, .int .i64 y, .int .i64 z, .int .i64 lo, .int .i64 hi, .slice fp fl fc] 28 (0, 0))) #[.int .i64 fk, .bool fd, .int .i64 ft, .int .i64 fm, .slice dp dl dc] 31)
  simp only [World.size_alloc] at j11
  have f12 := j11.c (i := 0) rfl
  have f13 := j11.c (i := 1) rfl
  have f14 := j11.c (i := 2) rfl
  have f15 := j11.c (i := 3) rfl
  have f16 := j11.c (i := 4) rfl
  go_enter Tryz.func25, Tryz.ntmps25
  go_wp2_with fail
  clear f2 f3 f4 f5 f6 f7 f8 f9 f10 f12 f13 f14 f15 f16
  have b1 := j1
  have b2 := j11
  replace kx := (kx.alloc (.cells #[.string n, .int .i64 k, .int .i64 a, .int .i64 x, .int .i64 y, .int .i64 z, .int .i64 lo, .int .i64 hi, .slice fp fl fc] 28 (0, 0))).alloc (.cells #[.int .i64 fk, .bool fd, .int .i64 ft, .int .i64 fm, .slice dp dl dc] 31 (0, 0))
  clear j1 j11
  replace gl := gl0.out.kb kx
  (with_reducible refine ((q1.out _ gl)).mono ?_)
  rintro r w1 ⟨rfl, k1⟩
  replace gl := gl.kb k1
  replace b1 := b1.kb k1
  replace b2 := b2.kb k1
  replace kx := kx.trans k1
  have s1 := k1.size
  simp only [World.size_alloc] at s1
  clear k1
  have f17 := b1.c (i := 1) rfl
  have f18 := b1.c (i := 6) rfl
  have f19 := b1.c (i := 7) rfl
  go_wp2_with fail
  clear f17 f18 f19
  (with_reducible refine (((q2).out _)).mono ?_)
  rintro r w2 ⟨rfl, k2⟩
  replace gl := gl.kb k2
  replace b1 := b1.kb k2
  replace b2 := b2.kb k2
  replace kx := kx.trans k2
  have s2 := k2.size
  skip
  clear k2
  go_wp2
  go_ret2
  exact ⟨rfl, kx⟩
set_option maxRecDepth 100000 in
theorem rbon_any (w0 : World) (n : ByteArray) (k : Int) (a : Int) (x : Int) (y : Int) (z : Int) (lo : Int) (hi : Int) (fp : Option Addr) (fl : Nat) (fc : Nat) (fk : Int) (fd : Bool) (ft : Int) (fm : Int) (dp : Option Addr) (dl : Nat) (dc : Nat) (u : Int) (r1 : Int) (o2 : Bool) (r3 : Int) (r4 : Int) (r5 : Int) (r6 : Int) (q1 : Cf w0 14 #[.agg #[.string n, .int .i64 k, .int .i64 a, .int .i64 x, .int .i64 y, .int .i64 z, .int .i64 lo, .int .i64 hi, .slice fp fl fc], .agg #[.int .i64 fk, .bool fd, .int .i64 ft, .int .i64 fm, .slice dp dl dc]] (.int .i64 r1)) (q2 : Ca 33 #[.agg #[.int .i64 lo, .int .i64 hi], .int .i64 u] (.bool o2)) (q3 : Ca 60 #[.agg #[.string n, .int .i64 k, .int .i64 a, .int .i64 x, .int .i64 y, .int .i64 z, .int .i64 lo, .int .i64 hi, .slice fp fl fc]] (.tuple #[.int .i64 r3, .int .i64 r4])) (q4 : Ca 61 #[.agg #[.string n, .int .i64 k, .int .i64 a, .int .i64 x, .int .i64 y, .int .i64 z, .int .i64 lo, .int .i64 hi, .slice fp fl fc]] (.tuple #[.int .i64 r5, .int .i64 r6]))  : Cf w0 25 #[.agg #[.string n, .int .i64 k, .int .i64 a, .int .i64 x, .int .i64 y, .int .i64 z, .int .i64 lo, .int .i64 hi, .slice fp fl fc], .agg #[.int .i64 fk, .bool fd, .int .i64 ft, .int .i64 fm, .slice dp dl dc], .int .i64 u] (if (r1 != 0) = true then (.tuple #[.int .i64 0, .int .i64 r1]) else (if (k == 0) = true then (.tuple #[.int .i64 0, .int .i64 14]) else (if (o2) = true then (if (fm == 0) = true then (.tuple #[.int .i64 0, .int .i64 0]) else (if (fm == 2) = true then (.tuple #[.int .i64 (max (wrap64 (u - r5)) (wrap64 (r5 - u))), .int .i64 0]) else (.tuple #[.int .i64 (max (wrap64 (u - r3)) (wrap64 (r3 - u))), .int .i64 0]))) else (.tuple #[.int .i64 0, .int .i64 2])))) := Lib.hid fun w gl => by
  rcases Bool.eq_false_or_eq_true (r1 != 0) with h1 | h1
  · rw [if_pos h1]
    exact rbon_1 w0 n k a x y z lo hi fp fl fc fk fd ft fm dp dl dc u r1 q1 h1 w gl
  · rw [if_neg (by rw [h1]; decide)]
    rcases Bool.eq_false_or_eq_true (k == 0) with h2 | h2
    · rw [if_pos h2]
      exact rbon_2 w0 n k a x y z lo hi fp fl fc fk fd ft fm dp dl dc u r1 q1 h1 h2 w gl
    · rw [if_neg (by rw [h2]; decide)]
      rcases Bool.eq_false_or_eq_true (o2) with h3 | h3
      · rw [if_pos h3]
        rcases Bool.eq_false_or_eq_true (fm == 0) with h4 | h4
        · rw [if_pos h4]
          exact rbon_3 w0 n k a x y z lo hi fp fl fc fk fd ft fm dp dl dc u r1 o2 q1 q2 h1 h2 h3 h4 w gl
        · rw [if_neg (by rw [h4]; decide)]
          rcases Bool.eq_false_or_eq_true (fm == 2) with h5 | h5
          · rw [if_pos h5]
            exact rbon_4 w0 n k a x y z lo hi fp fl fc fk fd ft fm dp dl dc u r1 o2 r3 r4 r5 r6 ((wrap64 (u - r5))) ((wrap64 (r5 - u))) ((max (wrap64 (u - r5)) (wrap64 (r5 - u)))) rfl rfl rfl q1 q2 q3 q4 h1 h2 h3 h4 h5 w gl
          · rw [if_neg (by rw [h5]; decide)]
            exact rbon_5 w0 n k a x y z lo hi fp fl fc fk fd ft fm dp dl dc u r1 o2 r3 r4 ((wrap64 (u - r3))) ((wrap64 (r3 - u))) ((max (wrap64 (u - r3)) (wrap64 (r3 - u)))) rfl rfl rfl q1 q2 q3 h1 h2 h3 h4 h5 w gl
      · rw [if_neg (by rw [h3]; decide)]
        exact rbon_6 w0 n k a x y z lo hi fp fl fc fk fd ft fm dp dl dc u r1 o2 q1 q2 h1 h2 h3 w gl
end Go.Proofs.YtlfeinajjfbpkaaGreatDoor
