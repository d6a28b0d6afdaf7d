/- Texts Ue: each says in its own first comment what it proves. -/
import Derived.Test.YtlimjohnimgnhaaGreatDoorM18
import Derived.Lib.MinMax
/- Frames: Virtual and Bonus, by letters. -/
namespace Go.Proofs.YtlimjohnimgnhaaGreatDoor
open Go.RowKit

set_option maxRecDepth 100000 in
set_option maxHeartbeats 4000000 in
theorem fextreme_1 (w0 : World) (n : ByteArray) (k : Int) (a : Int) (x : Int) (y : Int) (z : Int) (lo : Int) (hi : Int) (fp : Option Addr) (fl : Nat) (fc : Nat) (m : Int) (r1 : Int) (r2 : Int) (r3 : Int) (r4 : Int)   (q1 : Cf w0 100 #[.agg #[.string n, .int .i64 k, .int .i64 a, .int .i64 x, .int .i64 y, .int .i64 z, .int .i64 lo, .int .i64 hi, .slice fp fl fc]] (.tuple #[.int .i64 r1, .int .i64 r2])) (q2 : Cf w0 101 #[.agg #[.string n, .int .i64 k, .int .i64 a, .int .i64 x, .int .i64 y, .int .i64 z, .int .i64 lo, .int .i64 hi, .slice fp fl fc]] (.tuple #[.int .i64 r3, .int .i64 r4]))  (h1 : (m == 1) = true) (w : World) (gl : Gf w0 w)  : Calls Tryz.prog 59 #[.agg #[.string n, .int .i64 k, .int .i64 a, .int .i64 x, .int .i64 y, .int .i64 z, .int .i64 lo, .int .i64 hi, .slice fp fl fc], .int .i64 m] w fun r W' => r = .returned (.int .i64 r3) ∧ Kb w W' := by
  have kx := Kb.refl w
  unfold Cf at q1 q2
  have gl0 := Lib.hid gl
  have j1 := (Is.made w #[.string n, .int .i64 k, .int .i64 a, .int .i64 x, .int .i64 y, .int .i64 z, .int .i64 lo, .int .i64 hi, .slice fp fl fc] 28)
  have f2 := j1.c (i := 0) rfl
  have f3 := j1.c (i := 1) rfl
  have f4 := j1.c (i := 2) rfl
  have f5 := j1.c (i := 3) rfl
  have f6 := j1.c (i := 4) rfl
  have f7 := j1.c (i := 5) rfl
  have f8 := j1.c (i := 6) rfl
  have f9 := j1.c (i := 7) rfl
  have f10 := j1.c (i := 8) rfl
  go_enter Tryz.func59, Tryz.ntmps59
  go_wp2_with fail
  clear f2 f3 f4 f5 f6 f7 f8 f9 f10
  have b1 := j1
  replace kx := kx.alloc (.cells #[.string n, .int .i64 k, .int .i64 a, .int .i64 x, .int .i64 y, .int .i64 z, .int .i64 lo, .int .i64 hi, .slice fp fl fc] 28 (0, 0))
  clear j1
  replace gl := gl0.out.kb kx
  (with_reducible refine ((q1.out _ gl)).mono ?_)
  rintro r w1 ⟨rfl, k1⟩
  replace gl := gl.kb k1
  replace b1 := b1.kb k1
  replace kx := kx.trans k1
  have s1 := k1.size
  simp only [World.size_alloc] at s1
  clear k1
  have f11 := b1.c (i := 0) rfl
  have f12 := b1.c (i := 1) rfl
  have f13 := b1.c (i := 2) rfl
  have f14 := b1.c (i := 3) rfl
  have f15 := b1.c (i := 4) rfl
  have f16 := b1.c (i := 5) rfl
  have f17 := b1.c (i := 6) rfl
  have f18 := b1.c (i := 7) rfl
  have f19 := b1.c (i := 8) rfl
  go_wp2_with fail
  clear f11 f12 f13 f14 f15 f16 f17 f18 f19
  (with_reducible refine ((q2.out _ gl)).mono ?_)
  rintro r w2 ⟨rfl, k2⟩
  replace gl := gl.kb k2
  replace b1 := b1.kb k2
  replace kx := kx.trans k2
  have s2 := k2.size
  skip
  clear k2
  go_wp2
  go_ret
  exact ⟨rfl, kx⟩
set_option maxRecDepth 100000 in
set_option maxHeartbeats 4000000 in
theorem fextreme_2 (w0 : World) (n : ByteArray) (k : Int) (a : Int) (x : Int) (y : Int) (z : Int) (lo : Int) (hi : Int) (fp : Option Addr) (fl : Nat) (fc : Nat) (m : Int) (r1 : Int) (r2 : Int)   (q1 : Cf w0 100 #[.agg #[.string n, .int .i64 k, .int .i64 a, .int .i64 x, .int .i64 y, .int .i64 z, .int .i64 lo, .int .i64 hi, .slice fp fl fc]] (.tuple #[.int .i64 r1, .int .i64 r2]))  (h1 : (m == 1) = false) (w : World) (gl : Gf w0 w)  : Calls Tryz.prog 59 #[.agg #[.string n, .int .i64 k, .int .i64 a, .int .i64 x, .int .i64 y, .int .i64 z, .int .i64 lo, .int .i64 hi, .slice fp fl fc], .int .i64 m] w fun r W' => r = .returned (.int .i64 r1) ∧ Kb w W' := by
  have kx := Kb.refl w
  unfold Cf at q1
  have gl0 := Lib.hid gl
  have j1 := (Is.made w #[.string n, .int .i64 k, .int .i64 a, .int .i64 x, .int .i64 y, .int .i64 z, .int .i64 lo, .int .i64 hi, .slice fp fl fc] 28)
  have f2 := j1.c (i := 0) rfl
  have f3 := j1.c (i := 1) rfl
  have f4 := j1.c (i := 2) rfl
  have f5 := j1.c (i := 3) rfl
  have f6 := j1.c (i := 4) rfl
  have f7 := j1.c (i := 5) rfl
  have f8 := j1.c (i := 6) rfl
  have f9 := j1.c (i := 7) rfl
  have f10 := j1.c (i := 8) rfl
  go_enter Tryz.func59, Tryz.ntmps59
  go_wp2_with fail
  clear f2 f3 f4 f5 f6 f7 f8 f9 f10
  have b1 := j1
  replace kx := kx.alloc (.cells #[.string n, .int .i64 k, .int .i64 a, .int .i64 x, .int .i64 y, .int .i64 z, .int .i64 lo, .int .i64 hi, .slice fp fl fc] 28 (0, 0))
  clear j1
  replace gl := gl0.out.kb kx
  (with_reducible refine ((q1.out _ gl)).mono ?_)
  rintro r w1 ⟨rfl, k1⟩
  replace gl := gl.kb k1
  replace b1 := b1.kb k1
  replace kx := kx.trans k1
  have s1 := k1.size
  simp only [World.size_alloc] at s1
  clear k1
  go_wp2
  go_ret
  exact ⟨rfl, kx⟩
set_option maxRecDepth 100000 in
theorem fextreme_any (w0 : World) (n : ByteArray) (k : Int) (a : Int) (x : Int) (y : Int) (z : Int) (lo : Int) (hi : Int) (fp : Option Addr) (fl : Nat) (fc : Nat) (m : Int) (r1 : Int) (r2 : Int) (r3 : Int) (r4 : Int) (q1 : Cf w0 100 #[.agg #[.string n, .int .i64 k, .int .i64 a, .int .i64 x, .int .i64 y, .int .i64 z, .int .i64 lo, .int .i64 hi, .slice fp fl fc]] (.tuple #[.int .i64 r1, .int .i64 r2])) (q2 : Cf w0 101 #[.agg #[.string n, .int .i64 k, .int .i64 a, .int .i64 x, .int .i64 y, .int .i64 z, .int .i64 lo, .int .i64 hi, .slice fp fl fc]] (.tuple #[.int .i64 r3, .int .i64 r4]))  : Cf w0 59 #[.agg #[.string n, .int .i64 k, .int .i64 a, .int .i64 x, .int .i64 y, .int .i64 z, .int .i64 lo, .int .i64 hi, .slice fp fl fc], .int .i64 m] (if (m == 1) = true then (.int .i64 r3) else (.int .i64 r1)) := Lib.hid fun w gl => by
  rcases Bool.eq_false_or_eq_true (m == 1) with h1 | h1
  · rw [if_pos h1]
    exact fextreme_1 w0 n k a x y z lo hi fp fl fc m r1 r2 r3 r4 q1 q2 h1 w gl
  · rw [if_neg (by rw [h1]; decide)]
    exact fextreme_2 w0 n k a x y z lo hi fp fl fc m r1 r2 q1 h1 w gl
set_option maxRecDepth 100000 in
set_option maxHeartbeats 4000000 in
theorem fVirtual_1 (w0 : World) (n : ByteArray) (k : Int) (a : Int) (x : Int) (y : Int) (z : Int) (lo : Int) (hi : Int) (fp : Option Addr) (fl : Nat) (fc : Nat) (fk : Int) (fd : Bool) (ft : Int) (fm : Int) (dp : Option Addr) (dl : Nat) (dc : Nat) (r1 : Int)   (q1 : Cf w0 13 #[.agg #[.string n, .int .i64 k, .int .i64 a, .int .i64 x, .int .i64 y, .int .i64 z, .int .i64 lo, .int .i64 hi, .slice fp fl fc], .agg #[.int .i64 fk, .bool fd, .int .i64 ft, .int .i64 fm, .slice dp dl dc]] (.int .i64 r1))  (h1 : (r1 != 0) = true) (w : World) (gl : Gf w0 w)  : Calls Tryz.prog 22 #[.agg #[.string n, .int .i64 k, .int .i64 a, .int .i64 x, .int .i64 y, .int .i64 z, .int .i64 lo, .int .i64 hi, .slice fp fl fc], .agg #[.int .i64 fk, .bool fd, .int .i64 ft, .int .i64 fm, .slice dp dl dc]] w fun r W' => r = .returned (.tuple #[.int .i64 0, .int .i64 r1]) ∧ Kb w W' := by
  have kx := Kb.refl w
  unfold Cf at q1
  have gl0 := Lib.hid gl
  have j1 := ((Is.made w #[.string n, .int .i64 k, .int .i64 a, .int .i64 x, .int .i64 y, .int .i64 z, .int .i64 lo, .int .i64 hi, .slice fp fl fc] 28).alloc (.cells #[.int .i64 fk, .bool fd, .int .i64 ft, .int .i64 fm, .slice dp dl dc] 31 (0, 0)))
  have f2 := j1.c (i := 0) rfl
  have f3 := j1.c (i := 1) rfl
  have f4 := j1.c (i := 2) rfl
  have f5 := j1.c (i := 3) rfl
  have f6 := j1.c (i := 4) rfl
  have f7 := j1.c (i := 5) rfl
  have f8 := j1.c (i := 6) rfl
  have f9 := j1.c (i := 7) rfl
  have f10 := j1.c (i := 8) rfl
  have j11 := (Is.made (w.alloc (.cells #[.string n, .int .i64 k, .int .i64 a, .int .i64 x, .int .i64 y, .int .i64 z, .int .i64 lo, .int .i64 hi, .slice fp fl fc] 28 (0, 0))) #[.int .i64 fk, .bool fd, .int .i64 ft, .int .i64 fm, .slice dp dl dc] 31)
  simp only [World.size_alloc] at j11
  have f12 := j11.c (i := 0) rfl
  have f13 := j11.c (i := 1) rfl
  have f14 := j11.c (i := 2) rfl
  have f15 := j11.c (i := 3) rfl
  have f16 := j11.c (i := 4) rfl
  go_enter Tryz.func22, Tryz.ntmps22
  go_wp2_with fail
  clear f2 f3 f4 f5 f6 f7 f8 f9 f10 f12 f13 f14 f15 f16
  have b1 := j1
  have b2 := j11
  replace kx := (kx.alloc (.cells #[.string n, .int .i64 k, .int .i64 a, .int .i64 x, .int .i64 y, .int .i64 z, .int .i64 lo, .int .i64 hi, .slice fp fl fc] 28 (0, 0))).alloc (.cells #[.int .i64 fk, .bool fd, .int .i64 ft, .int .i64 fm, .slice dp dl dc] 31 (0, 0))
  clear j1 j11
  replace gl := gl0.out.kb kx
  (with_reducible refine ((q1.out _ gl)).mono ?_)
  rintro r w1 ⟨rfl, k1⟩
  replace gl := gl.kb k1
  replace b1 := b1.kb k1
  replace b2 := b2.kb k1
  replace kx := kx.trans k1
  have s1 := k1.size
  simp only [World.size_alloc] at s1
  clear k1
  go_wp2
  go_ret2
  exact ⟨rfl, kx⟩
set_option maxRecDepth 100000 in
set_option maxHeartbeats 4000000 in
theorem fVirtual_2 (w0 : World) (n : ByteArray) (k : Int) (a : Int) (x : Int) (y : Int) (z : Int) (lo : Int) (hi : Int) (fp : Option Addr) (fl : Nat) (fc : Nat) (fk : Int) (fd : Bool) (ft : Int) (fm : Int) (dp : Option Addr) (dl : Nat) (dc : Nat) (r1 : Int)   (q1 : Cf w0 13 #[.agg #[.string n, .int .i64 k, .int .i64 a, .int .i64 x, .int .i64 y, .int .i64 z, .int .i64 lo, .int .i64 hi, .slice fp fl fc], .agg #[.int .i64 fk, .bool fd, .int .i64 ft, .int .i64 fm, .slice dp dl dc]] (.int .i64 r1))  (h1 : (r1 != 0) = false) (h2 : (fm == 0) = true) (w : World) (gl : Gf w0 w)  : Calls Tryz.prog 22 #[.agg #[.string n, .int .i64 k, .int .i64 a, .int .i64 x, .int .i64 y, .int .i64 z, .int .i64 lo, .int .i64 hi, .slice fp fl fc], .agg #[.int .i64 fk, .bool fd, .int .i64 ft, .int .i64 fm, .slice dp dl dc]] w fun r W' => r = .returned (.tuple #[.int .i64 0, .int .i64 14]) ∧ Kb w W' := by
  have kx := Kb.refl w
  unfold Cf at q1
  have gl0 := Lib.hid gl
  have j1 := ((Is.made w #[.string n, .int .i64 k, .int .i64 a, .int .i64 x, .int .i64 y, .int .i64 z, .int .i64 lo, .int .i64 hi, .slice fp fl fc] 28).alloc (.cells #[.int .i64 fk, .bool fd, .int .i64 ft, .int .i64 fm, .slice dp dl dc] 31 (0, 0)))
  have f2 := j1.c (i := 0) rfl
  have f3 := j1.c (i := 1) rfl
  have f4 := j1.c (i := 2) rfl
  have f5 := j1.c (i := 3) rfl
  have f6 := j1.c (i := 4) rfl
  have f7 := j1.c (i := 5) rfl
  have f8 := j1.c (i := 6) rfl
  have f9 := j1.c (i := 7) rfl
  have f10 := j1.c (i := 8) rfl
  have j11 := (Is.made (w.alloc (.cells #[.string n, .int .i64 k, .int .i64 a, .int .i64 x, .int .i64 y, .int .i64 z, .int .i64 lo, .int .i64 hi, .slice fp fl fc] 28 (0, 0))) #[.int .i64 fk, .bool fd, .int .i64 ft, .int .i64 fm, .slice dp dl dc] 31)
  simp only [World.size_alloc] at j11
  have f12 := j11.c (i := 0) rfl
  have f13 := j11.c (i := 1) rfl
  have f14 := j11.c (i := 2) rfl
  have f15 := j11.c (i := 3) rfl
  have f16 := j11.c (i := 4) rfl
  go_enter Tryz.func22, Tryz.ntmps22
  go_wp2_with fail
  clear f2 f3 f4 f5 f6 f7 f8 f9 f10 f12 f13 f14 f15 f16
  have b1 := j1
  have b2 := j11
  replace kx := (kx.alloc (.cells #[.string n, .int .i64 k, .int .i64 a, .int .i64 x, .int .i64 y, .int .i64 z, .int .i64 lo, .int .i64 hi, .slice fp fl fc] 28 (0, 0))).alloc (.cells #[.int .i64 fk, .bool fd, .int .i64 ft, .int .i64 fm, .slice dp dl dc] 31 (0, 0))
  clear j1 j11
  replace gl := gl0.out.kb kx
  (with_reducible refine ((q1.out _ gl)).mono ?_)
  rintro r w1 ⟨rfl, k1⟩
  replace gl := gl.kb k1
  replace b1 := b1.kb k1
  replace b2 := b2.kb k1
  replace kx := kx.trans k1
  have s1 := k1.size
  simp only [World.size_alloc] at s1
  clear k1
  have f17 := b2.c (i := 3) rfl
  go_wp2
  go_ret2
  clear f17
  exact ⟨rfl, kx⟩
set_option maxRecDepth 100000 in
set_option maxHeartbeats 4000000 in
theorem fVirtual_3 (w0 : World) (n : ByteArray) (k : Int) (a : Int) (x : Int) (y : Int) (z : Int) (lo : Int) (hi : Int) (fp : Option Addr) (fl : Nat) (fc : Nat) (fk : Int) (fd : Bool) (ft : Int) (fm : Int) (dp : Option Addr) (dl : Nat) (dc : Nat) (r1 : Int) (o2 : Bool) (r3 : Int) (r4 : Int) (z5 : Int) (a1 : wrap64 (r4 - ft) = z5) (q1 : Cf w0 13 #[.agg #[.string n, .int .i64 k, .int .i64 a, .int .i64 x, .int .i64 y, .int .i64 z, .int .i64 lo, .int .i64 hi, .slice fp fl fc], .agg #[.int .i64 fk, .bool fd, .int .i64 ft, .int .i64 fm, .slice dp dl dc]] (.int .i64 r1)) (q2 : Cf w0 32 #[.agg #[.string n, .int .i64 k, .int .i64 a, .int .i64 x, .int .i64 y, .int .i64 z, .int .i64 lo, .int .i64 hi, .slice fp fl fc]] (.tuple #[.bool o2, .int .i64 r3])) (q3 : Cf w0 59 #[.agg #[.string n, .int .i64 k, .int .i64 a, .int .i64 x, .int .i64 y, .int .i64 z, .int .i64 lo, .int .i64 hi, .slice fp fl fc], .int .i64 fm] (.int .i64 r4))  (h1 : (r1 != 0) = false) (h2 : (fm == 0) = false) (h3 : (o2) = true) (h4 : (fm == 1) = true) (w : World) (gl : Gf w0 w)  : Calls Tryz.prog 22 #[.agg #[.string n, .int .i64 k, .int .i64 a, .int .i64 x, .int .i64 y, .int .i64 z, .int .i64 lo, .int .i64 hi, .slice fp fl fc], .agg #[.int .i64 fk, .bool fd, .int .i64 ft, .int .i64 fm, .slice dp dl dc]] w fun r W' => r = .returned (.tuple #[.int .i64 z5, .int .i64 0]) ∧ Kb w W' := by
  have kx := Kb.refl w
  unfold Cf at q1 q2 q3
  have gl0 := Lib.hid gl
  have a1' : IntKind.i64.wrap (r4 - ft) = z5 := (Go.IntWalk.i64_left _).trans a1
  subst h3
  have j1 := ((Is.made w #[.string n, .int .i64 k, .int .i64 a, .int .i64 x, .int .i64 y, .int .i64 z, .int .i64 lo, .int .i64 hi, .slice fp fl fc] 28).alloc (.cells #[.int .i64 fk, .bool fd, .int .i64 ft, .int .i64 fm, .slice dp dl dc] 31 (0, 0)))
  have f2 := j1.c (i := 0) rfl
  have f3 := j1.c (i := 1) rfl
  have f4 := j1.c (i := 2) rfl
  have f5 := j1.c (i := 3) rfl
  have f6 := j1.c (i := 4) rfl
  have f7 := j1.c (i := 5) rfl
  have f8 := j1.c (i := 6) rfl
  have f9 := j1.c (i := 7) rfl
  have f10 := j1.c (i := 8) rfl
  have j11 := (Is.made (w.alloc (.cells #[.string n, .int .i64 k, .int .i64 a, .int .i64 x, .int .i64 y, .int .i64 z, .int .i64 lo, .int .i64 hi, .slice fp fl fc] 28 (0, 0))) #[.int .i64 fk, .bool fd, .int .i64 ft, .int .i64 fm, .slice dp dl dc] 31)
  simp only [World.size_alloc] at j11
  have f12 := j11.c (i := 0) rfl
  have f13 := j11.c (i := 1) rfl
  have f14 := j11.c (i := 2) rfl
  have f15 := j11.c (i := 3) rfl
  have f16 := j11.c (i := 4) rfl
  go_enter Tryz.func22, Tryz.ntmps22
  go_wp2_with fail
  clear f2 f3 f4 f5 f6 f7 f8 f9 f10 f12 f13 f14 f15 f16
  have b1 := j1
  have b2 := j11
  replace kx := (kx.alloc (.cells #[.string n, .int .i64 k, .int .i64 a, .int .i64 x, .int .i64 y, .int .i64 z, .int .i64 lo, .int .i64 hi, .slice fp fl fc] 28 (0, 0))).alloc (.cells #[.int .i64 fk, .bool fd, .int .i64 ft, .int .i64 fm, .slice dp dl dc] 31 (0, 0))
  clear j1 j11
  replace gl := gl0.out.kb kx
  (with_reducible refine ((q1.out _ gl)).mono ?_)
  rintro r w1 ⟨rfl, k1⟩
  replace gl := gl.kb k1
  replace b1 := b1.kb k1
  replace b2 := b2.kb k1
  replace kx := kx.trans k1
  have s1 := k1.size
  simp only [World.size_alloc] at s1
  clear k1
  have f17 := b2.c (i := 3) rfl
  have f18 := b1.c (i := 0) rfl
  have f19 := b1.c (i := 1) rfl
  have f20 := b1.c (i := 2) rfl
  have f21 := b1.c (i := 3) rfl
  have f22 := b1.c (i := 4) rfl
  have f23 := b1.c (i := 5) rfl
  have f24 := b1.c (i := 6) rfl
  have f25 := b1.c (i := 7) rfl
  have f26 := b1.c (i := 8) rfl
  go_wp2_with fail
  clear f17 f18 f19 f20 f21 f22 f23 f24 f25 f26
  (with_reducible refine ((q2.out _ gl)).mono ?_)
  rintro r w2 ⟨rfl, k2⟩
  replace gl := gl.kb k2
  replace b1 := b1.kb k2
  replace b2 := b2.kb k2
  replace kx := kx.trans k2
  have s2 := k2.size
  skip
  clear k2
  have f27 := b2.c (i := 3) rfl
  go_wp2_with fail
  clear f27
  replace gl := gl.drew
  replace b1 := b1.drew
  replace b2 := b2.drew
  rw [oF_lit]
  refine o_law (⟨42, [some 28, some 29, some 30, some 31, some 32, some 33, some 34, some 4, some 5], [28, 29, 30, 31, 32, 33, 34, 4, 5], [[], [], [1], [0, 2], [], [4], [3, 5], [6], []], [[2], [3], [], [], [3], [], [], [], []]⟩ : OT) (Kx []) (RL [fun vv _ => vv = .agg #[.string n, .int .i64 k, .int .i64 a, .int .i64 x, .int .i64 y, .int .i64 z, .int .i64 lo, .int .i64 hi, .slice fp fl fc], fun vv _ => vv = .pointer (some ⟨w.heap.size + 1, 3, none⟩), fun vv _ => vv = .int .i64 fm, fun vv _ => vv = .int .i64 r4, fun vv _ => vv = .pointer (some ⟨w.heap.size + 1, 2, none⟩), fun vv _ => vv = .int .i64 ft, fun vv _ => vv = .int .i64 z5, fun vv _ => vv = .int .i64 z5, fun vv _ => vv = .int .i64 0]) (by kernel_rfl) ?hk ?hR ?fin
  case hk => kernel_rfl
  case hR =>
    refine ⟨fun _ => (Kx.refl _ _), fun _ _ _ => Kx.trans, rl_stab ⟨fun _ _ _ _ h => h, fun _ _ _ _ h => h, fun _ _ _ _ h => h, fun _ _ _ _ h => h, fun _ _ _ _ h => h, fun _ _ _ _ h => h, fun _ _ _ _ h => h, fun _ _ _ _ h => h, fun _ _ _ _ h => h, trivial⟩, ?_⟩
    refine allO_cons ?_ (allO_cons ?_ (allO_cons ?_ (allO_cons ?_ (allO_cons ?_ (allO_cons ?_ (allO_cons ?_ (allO_cons ?_ (allO_cons ?_ (allO_nil)))))))))
    · intro T w9 hG hD hO Q
      have q0 := hO.1
      have e0 : (oF 42 T).eval (.tmp 2) = .pointer (some ⟨w.heap.size, 0, none⟩) := (oF_eval (by decide)).trans (show T 2 = _ from q0)
      refine og_none rfl ?_
      have im := b1.kx hG (by simp)
      have m0 := im.c (i := 0) rfl
      have m1 := im.c (i := 1) rfl
      have m2 := im.c (i := 2) rfl
      have m3 := im.c (i := 3) rfl
      have m4 := im.c (i := 4) rfl
      have m5 := im.c (i := 5) rfl
      have m6 := im.c (i := 6) rfl
      have m7 := im.c (i := 7) rfl
      have m8 := im.c (i := 8) rfl
      clear im
      exact o_val (v := .agg #[.string n, .int .i64 k, .int .i64 a, .int .i64 x, .int .i64 y, .int .i64 z, .int .i64 lo, .int .i64 hi, .slice fp fl fc]) (w' := w9) (by generalize (oF 42 T).eval = rr at *; simp [execOp, go_sem, e0, m0, m1, m2, m3, m4, m5, m6, m7, m8]) rfl rfl (Kx.refl _ _)
    · intro T w9 hG hD hO Q
      have q0 := hO.1
      have e0 : (oF 42 T).eval (.tmp 3) = .pointer (some ⟨w.heap.size + 1, 0, none⟩) := (oF_eval (by decide)).trans (show T 3 = _ from q0)
      refine og_none rfl ?_
      exact o_val (v := .pointer (some ⟨w.heap.size + 1, 3, none⟩)) (w' := w9) (by generalize (oF 42 T).eval = rr at *; simp [execOp, go_sem, e0]) rfl rfl (Kx.refl _ _)
    · intro T w9 hG hD hO Q
      have d0 := hD.1
      have e0 : (oF 42 T).eval (.tmp 29) = .pointer (some ⟨w.heap.size + 1, 3, none⟩) := (oF_eval (by decide)).trans (show T 29 = _ from d0)
      refine og_none rfl ?_
      have im := b2.kx hG (by simp)
      have m0 := im.c (i := 3) rfl
      clear im
      exact o_val (v := .int .i64 fm) (w' := w9) (by generalize (oF 42 T).eval = rr at *; simp [execOp, go_sem, e0, m0]) rfl rfl (Kx.refl _ _)
    · intro T w9 hG hD hO Q
      have d0 := hD.1
      have d1 := hD.2.1
      have e0 : (oF 42 T).eval (.func 59) = .func (.func 59) #[] #[] := rfl
      have e1 : (oF 42 T).eval (.tmp 28) = .agg #[.string n, .int .i64 k, .int .i64 a, .int .i64 x, .int .i64 y, .int .i64 z, .int .i64 lo, .int .i64 hi, .slice fp fl fc] := (oF_eval (by decide)).trans (show T 28 = _ from d0)
      have e2 : (oF 42 T).eval (.tmp 30) = .int .i64 fm := (oF_eval (by decide)).trans (show T 30 = _ from d1)
      refine og_none rfl ?_
      refine o_call (oc2 (enters_of Tryz.func59 (by kernel_rfl) rfl) rfl rfl e1 e2) rfl ?_
      exact (q3.out w9 (gl.kx hG (by simp))).mono fun r W' h => ⟨_, h.1, rfl, h.2.kx⟩
    · intro T w9 hG hD hO Q
      have q0 := hO.1
      have e0 : (oF 42 T).eval (.tmp 3) = .pointer (some ⟨w.heap.size + 1, 0, none⟩) := (oF_eval (by decide)).trans (show T 3 = _ from q0)
      refine og_none rfl ?_
      exact o_val (v := .pointer (some ⟨w.heap.size + 1, 2, none⟩)) (w' := w9) (by generalize (oF 42 T).eval = rr at *; simp [execOp, go_sem, e0]) rfl rfl (Kx.refl _ _)
    · intro T w9 hG hD hO Q
      have d0 := hD.1
      have e0 : (oF 42 T).eval (.tmp 32) = .pointer (some ⟨w.heap.size + 1, 2, none⟩) := (oF_eval (by decide)).trans (show T 32 = _ from d0)
      refine og_none rfl ?_
      have im := b2.kx hG (by simp)
      have m0 := im.c (i := 2) rfl
      clear im
      exact o_val (v := .int .i64 ft) (w' := w9) (by generalize (oF 42 T).eval = rr at *; simp [execOp, go_sem, e0, m0]) rfl rfl (Kx.refl _ _)
    · intro T w9 hG hD hO Q
      have d0 := hD.1
      have d1 := hD.2.1
      have e0 : (oF 42 T).eval (.tmp 31) = .int .i64 r4 := (oF_eval (by decide)).trans (show T 31 = _ from d0)
      have e1 : (oF 42 T).eval (.tmp 33) = .int .i64 ft := (oF_eval (by decide)).trans (show T 33 = _ from d1)
      refine og_none rfl ?_
      exact o_val (v := .int .i64 z5) (w' := w9) (by generalize (oF 42 T).eval = rr at *; simp [execOp, go_sem, e0, e1, a1']) rfl rfl (Kx.refl _ _)
    · intro T w9 hG hD hO Q
      have d0 := hD.1
      have e0 : (oF 42 T).eval (.tmp 34) = .int .i64 z5 := (oF_eval (by decide)).trans (show T 34 = _ from d0)
      refine og_none rfl ?_
      exact o_val (v := .int .i64 z5) (w' := w9) (by generalize (oF 42 T).eval = rr at *; simp [execOp, go_sem, e0]) rfl rfl (Kx.refl _ _)
    · intro T w9 hG hD hO Q
      have e0 : (oF 42 T).eval (.const (.int .i64 0)) = .int .i64 0 := rfl
      refine og_none rfl ?_
      exact o_val (v := .int .i64 0) (w' := w9) (by generalize (oF 42 T).eval = rr at *; simp [execOp, go_sem, e0]) rfl rfl (Kx.refl _ _)
  case fin =>
    intro T w3 hout hval hG
    have s3 := hG.2.2.2.1
    simp only [World.size_drew] at s3
    rw [show oF 42 T = (⟨#[T 0, T 1, T 2, T 3, T 4, T 5, T 6, T 7, T 8, T 9, T 10, T 11, T 12, T 13, T 14, T 15, T 16, T 17, T 18, T 19, T 20, T 21, T 22, T 23, T 24, T 25, T 26, T 27, T 28, T 29, T 30, T 31, T 32, T 33, T 34, T 35, T 36, T 37, T 38, T 39, T 40, T 41], []⟩ : Act) from oF_list 42 T]
    rw [show T 0 = .agg #[.string n, .int .i64 k, .int .i64 a, .int .i64 x, .int .i64 y, .int .i64 z, .int .i64 lo, .int .i64 hi, .slice fp fl fc] from hout 0 rfl]
    rw [show T 1 = .agg #[.int .i64 fk, .bool fd, .int .i64 ft, .int .i64 fm, .slice dp dl dc] from hout 1 rfl]
    rw [show T 2 = .pointer (some ⟨w.heap.size, 0, none⟩) from hout 2 rfl]
    rw [show T 3 = .pointer (some ⟨w.heap.size + 1, 0, none⟩) from hout 3 rfl]
    rw [show T 4 = .int .i64 z5 from hval 7 (by decide : 7 < 9)]
    rw [show T 5 = .int .i64 0 from hval 8 (by decide : 8 < 9)]
    rw [show T 6 = .int .i64 r1 from hout 6 rfl]
    rw [show T 7 = .bool true from hout 7 rfl]
    rw [show T 9 = .agg #[.string n, .int .i64 k, .int .i64 a, .int .i64 x, .int .i64 y, .int .i64 z, .int .i64 lo, .int .i64 hi, .slice fp fl fc] from hout 9 rfl]
    rw [show T 10 = .agg #[.int .i64 fk, .bool fd, .int .i64 ft, .int .i64 fm, .slice dp dl dc] from hout 10 rfl]
    rw [show T 11 = .int .i64 r1 from hout 11 rfl]
    rw [show T 12 = .int .i64 r1 from hout 12 rfl]
    rw [show T 13 = .bool false from hout 13 rfl]
    rw [show T 15 = .pointer (some ⟨w.heap.size + 1, 3, none⟩) from hout 15 rfl]
    rw [show T 16 = .int .i64 fm from hout 16 rfl]
    rw [show T 17 = .bool false from hout 17 rfl]
    rw [show T 18 = .tuple #[.bool true, .int .i64 r3] from hout 18 rfl]
    rw [show T 19 = .agg #[.string n, .int .i64 k, .int .i64 a, .int .i64 x, .int .i64 y, .int .i64 z, .int .i64 lo, .int .i64 hi, .slice fp fl fc] from hout 19 rfl]
    rw [show T 20 = .tuple #[.bool true, .int .i64 r3] from hout 20 rfl]
    rw [show T 21 = .bool true from hout 21 rfl]
    rw [show T 22 = .int .i64 r3 from hout 22 rfl]
    rw [show T 23 = .bool true from hout 23 rfl]
    rw [show T 24 = .pointer (some ⟨w.heap.size + 1, 3, none⟩) from hout 24 rfl]
    rw [show T 25 = .int .i64 fm from hout 25 rfl]
    rw [show T 26 = .bool true from hout 26 rfl]
    rw [show T 27 = .bool true from hout 27 rfl]
    replace b1 := b1.kx hG (by simp)
    replace b2 := b2.kx hG (by simp)
    replace kx := (show Kb _ _ from kx.drew).trans hG.nil
    replace gl := gl0.out.kb kx
    clear hout hval hG
    go_wp2
    go_ret2
    exact ⟨rfl, kx⟩
set_option maxRecDepth 100000 in
set_option maxHeartbeats 4000000 in
theorem fVirtual_4 (w0 : World) (n : ByteArray) (k : Int) (a : Int) (x : Int) (y : Int) (z : Int) (lo : Int) (hi : Int) (fp : Option Addr) (fl : Nat) (fc : Nat) (fk : Int) (fd : Bool) (ft : Int) (fm : Int) (dp : Option Addr) (dl : Nat) (dc : Nat) (r1 : Int) (o2 : Bool) (r3 : Int) (r4 : Int) (z6 : Int) (a2 : wrap64 (r4 + ft) = z6) (q1 : Cf w0 13 #[.agg #[.string n, .int .i64 k, .int .i64 a, .int .i64 x, .int .i64 y, .int .i64 z, .int .i64 lo, .int .i64 hi, .slice fp fl fc], .agg #[.int .i64 fk, .bool fd, .int .i64 ft, .int .i64 fm, .slice dp dl dc]] (.int .i64 r1)) (q2 : Cf w0 32 #[.agg #[.string n, .int .i64 k, .int .i64 a, .int .i64 x, .int .i64 y, .int .i64 z, .int .i64 lo, .int .i64 hi, .slice fp fl fc]] (.tuple #[.bool o2, .int .i64 r3])) (q3 : Cf w0 59 #[.agg #[.string n, .int .i64 k, .int .i64 a, .int .i64 x, .int .i64 y, .int .i64 z, .int .i64 lo, .int .i64 hi, .slice fp fl fc], .int .i64 fm] (.int .i64 r4))  (h1 : (r1 != 0) = false) (h2 : (fm == 0) = false) (h3 : (o2) = true) (h4 : (fm == 1) = false) (w : World) (gl : Gf w0 w)  : Calls Tryz.prog 22 #[.agg #[.string n, .int .i64 k, .int .i64 a, .int .i64 x, .int .i64 y, .int .i64 z, .int .i64 lo, .int .i64 hi, .slice fp fl fc], .agg #[.int .i64 fk, .bool fd, .int .i64 ft, .int .i64 fm, .slice dp dl dc]] w fun r W' => r = .returned (.tuple #[.int .i64 z6, .int .i64 0]) ∧ Kb w W' := by
  have kx := Kb.refl w
  unfold Cf at q1 q2 q3
  have gl0 := Lib.hid gl
  have a2' : IntKind.i64.wrap (r4 + ft) = z6 := (Go.IntWalk.i64_left _).trans a2
  subst h3
  have j1 := ((Is.made w #[.string n, .int .i64 k, .int .i64 a, .int .i64 x, .int .i64 y, .int .i64 z, .int .i64 lo, .int .i64 hi, .slice fp fl fc] 28).alloc (.cells #[.int .i64 fk, .bool fd, .int .i64 ft, .int .i64 fm, .slice dp dl dc] 31 (0, 0)))
  have f2 := j1.c (i := 0) rfl
  have f3 := j1.c (i := 1) rfl
  have f4 := j1.c (i := 2) rfl
  have f5 := j1.c (i := 3) rfl
  have f6 := j1.c (i := 4) rfl
  have f7 := j1.c (i := 5) rfl
  have f8 := j1.c (i := 6) rfl
  have f9 := j1.c (i := 7) rfl
  have f10 := j1.c (i := 8) rfl
  have j11 := (Is.made (w.alloc (.cells #[.string n, .int .i64 k, .int .i64 a, .int .i64 x, .int .i64 y, .int .i64 z, .int .i64 lo, .int .i64 hi, .slice fp fl fc] 28 (0, 0))) #[.int .i64 fk, .bool fd, .int .i64 ft, .int .i64 fm, .slice dp dl dc] 31)
  simp only [World.size_alloc] at j11
  have f12 := j11.c (i := 0) rfl
  have f13 := j11.c (i := 1) rfl
  have f14 := j11.c (i := 2) rfl
  have f15 := j11.c (i := 3) rfl
  have f16 := j11.c (i := 4) rfl
  go_enter Tryz.func22, Tryz.ntmps22
  go_wp2_with fail
  clear f2 f3 f4 f5 f6 f7 f8 f9 f10 f12 f13 f14 f15 f16
  have b1 := j1
  have b2 := j11
  replace kx := (kx.alloc (.cells #[.string n, .int .i64 k, .int .i64 a, .int .i64 x, .int .i64 y, .int .i64 z, .int .i64 lo, .int .i64 hi, .slice fp fl fc] 28 (0, 0))).alloc (.cells #[.int .i64 fk, .bool fd, .int .i64 ft, .int .i64 fm, .slice dp dl dc] 31 (0, 0))
  clear j1 j11
  replace gl := gl0.out.kb kx
  (with_reducible refine ((q1.out _ gl)).mono ?_)
  rintro r w1 ⟨rfl, k1⟩
  replace gl := gl.kb k1
  replace b1 := b1.kb k1
  replace b2 := b2.kb k1
  replace kx := kx.trans k1
  have s1 := k1.size
  simp only [World.size_alloc] at s1
  clear k1
  have f17 := b2.c (i := 3) rfl
  have f18 := b1.c (i := 0) rfl
  have f19 := b1.c (i := 1) rfl
  have f20 := b1.c (i := 2) rfl
  have f21 := b1.c (i := 3) rfl
  have f22 := b1.c (i := 4) rfl
  have f23 := b1.c (i := 5) rfl
  have f24 := b1.c (i := 6) rfl
  have f25 := b1.c (i := 7) rfl
  have f26 := b1.c (i := 8) rfl
  go_wp2_with fail
  clear f17 f18 f19 f20 f21 f22 f23 f24 f25 f26
  (with_reducible refine ((q2.out _ gl)).mono ?_)
  rintro r w2 ⟨rfl, k2⟩
  replace gl := gl.kb k2
  replace b1 := b1.kb k2
  replace b2 := b2.kb k2
  replace kx := kx.trans k2
  have s2 := k2.size
  skip
  clear k2
  have f27 := b2.c (i := 3) rfl
  go_wp2_with fail
  clear f27
  replace gl := gl.drew
  replace b1 := b1.drew
  replace b2 := b2.drew
  rw [oF_lit]
  refine o_law (⟨42, [some 35, some 36, some 37, some 38, some 39, some 40, some 41, some 4, some 5], [35, 36, 37, 38, 39, 40, 41, 4, 5], [[], [], [1], [0, 2], [], [4], [3, 5], [6], []], [[2], [3], [], [], [3], [], [], [], []]⟩ : OT) (Kx []) (RL [fun vv _ => vv = .agg #[.string n, .int .i64 k, .int .i64 a, .int .i64 x, .int .i64 y, .int .i64 z, .int .i64 lo, .int .i64 hi, .slice fp fl fc], fun vv _ => vv = .pointer (some ⟨w.heap.size + 1, 3, none⟩), fun vv _ => vv = .int .i64 fm, fun vv _ => vv = .int .i64 r4, fun vv _ => vv = .pointer (some ⟨w.heap.size + 1, 2, none⟩), fun vv _ => vv = .int .i64 ft, fun vv _ => vv = .int .i64 z6, fun vv _ => vv = .int .i64 z6, fun vv _ => vv = .int .i64 0]) (by kernel_rfl) ?hk ?hR ?fin
  case hk => kernel_rfl
  case hR =>
    refine ⟨fun _ => (Kx.refl _ _), fun _ _ _ => Kx.trans, rl_stab ⟨fun _ _ _ _ h => h, fun _ _ _ _ h => h, fun _ _ _ _ h => h, fun _ _ _ _ h => h, fun _ _ _ _ h => h, fun _ _ _ _ h => h, fun _ _ _ _ h => h, fun _ _ _ _ h => h, fun _ _ _ _ h => h, trivial⟩, ?_⟩
    refine allO_cons ?_ (allO_cons ?_ (allO_cons ?_ (allO_cons ?_ (allO_cons ?_ (allO_cons ?_ (allO_cons ?_ (allO_cons ?_ (allO_cons ?_ (allO_nil)))))))))
    · intro T w9 hG hD hO Q
      have q0 := hO.1
      have e0 : (oF 42 T).eval (.tmp 2) = .pointer (some ⟨w.heap.size, 0, none⟩) := (oF_eval (by decide)).trans (show T 2 = _ from q0)
      refine og_none rfl ?_
      have im := b1.kx hG (by simp)
      have m0 := im.c (i := 0) rfl
      have m1 := im.c (i := 1) rfl
      have m2 := im.c (i := 2) rfl
      have m3 := im.c (i := 3) rfl
      have m4 := im.c (i := 4) rfl
      have m5 := im.c (i := 5) rfl
      have m6 := im.c (i := 6) rfl
      have m7 := im.c (i := 7) rfl
      have m8 := im.c (i := 8) rfl
      clear im
      exact o_val (v := .agg #[.string n, .int .i64 k, .int .i64 a, .int .i64 x, .int .i64 y, .int .i64 z, .int .i64 lo, .int .i64 hi, .slice fp fl fc]) (w' := w9) (by generalize (oF 42 T).eval = rr at *; simp [execOp, go_sem, e0, m0, m1, m2, m3, m4, m5, m6, m7, m8]) rfl rfl (Kx.refl _ _)
    · intro T w9 hG hD hO Q
      have q0 := hO.1
      have e0 : (oF 42 T).eval (.tmp 3) = .pointer (some ⟨w.heap.size + 1, 0, none⟩) := (oF_eval (by decide)).trans (show T 3 = _ from q0)
      refine og_none rfl ?_
      exact o_val (v := .pointer (some ⟨w.heap.size + 1, 3, none⟩)) (w' := w9) (by generalize (oF 42 T).eval = rr at *; simp [execOp, go_sem, e0]) rfl rfl (Kx.refl _ _)
    · intro T w9 hG hD hO Q
      have d0 := hD.1
      have e0 : (oF 42 T).eval (.tmp 36) = .pointer (some ⟨w.heap.size + 1, 3, none⟩) := (oF_eval (by decide)).trans (show T 36 = _ from d0)
      refine og_none rfl ?_
      have im := b2.kx hG (by simp)
      have m0 := im.c (i := 3) rfl
      clear im
      exact o_val (v := .int .i64 fm) (w' := w9) (by generalize (oF 42 T).eval = rr at *; simp [execOp, go_sem, e0, m0]) rfl rfl (Kx.refl _ _)
    · intro T w9 hG hD hO Q
      have d0 := hD.1
      have d1 := hD.2.1
      have e0 : (oF 42 T).eval (.func 59) = .func (.func 59) #[] #[] := rfl
      have e1 : (oF 42 T).eval (.tmp 35) = .agg #[.string n, .int .i64 k, .int .i64 a, .int .i64 x, .int .i64 y, .int .i64 z, .int .i64 lo, .int .i64 hi, .slice fp fl fc] := (oF_eval (by decide)).trans (show T 35 = _ from d0)
      have e2 : (oF 42 T).eval (.tmp 37) = .int .i64 fm := (oF_eval (by decide)).trans (show T 37 = _ from d1)
      refine og_none rfl ?_
      refine o_call (oc2 (enters_of Tryz.func59 (by kernel_rfl) rfl) rfl rfl e1 e2) rfl ?_
      exact (q3.out w9 (gl.kx hG (by simp))).mono fun r W' h => ⟨_, h.1, rfl, h.2.kx⟩
    · intro T w9 hG hD hO Q
      have q0 := hO.1
      have e0 : (oF 42 T).eval (.tmp 3) = .pointer (some ⟨w.heap.size + 1, 0, none⟩) := (oF_eval (by decide)).trans (show T 3 = _ from q0)
      refine og_none rfl ?_
      exact o_val (v := .pointer (some ⟨w.heap.size + 1, 2, none⟩)) (w' := w9) (by generalize (oF 42 T).eval = rr at *; simp [execOp, go_sem, e0]) rfl rfl (Kx.refl _ _)
    · intro T w9 hG hD hO Q
      have d0 := hD.1
      have e0 : (oF 42 T).eval (.tmp 39) = .pointer (some ⟨w.heap.size + 1, 2, none⟩) := (oF_eval (by decide)).trans (show T 39 = _ from d0)
      refine og_none rfl ?_
      have im := b2.kx hG (by simp)
      have m0 := im.c (i := 2) rfl
      clear im
      exact o_val (v := .int .i64 ft) (w' := w9) (by generalize (oF 42 T).eval = rr at *; simp [execOp, go_sem, e0, m0]) rfl rfl (Kx.refl _ _)
    · intro T w9 hG hD hO Q
      have d0 := hD.1
      have d1 := hD.2.1
      have e0 : (oF 42 T).eval (.tmp 38) = .int .i64 r4 := (oF_eval (by decide)).trans (show T 38 = _ from d0)
      have e1 : (oF 42 T).eval (.tmp 40) = .int .i64 ft := (oF_eval (by decide)).trans (show T 40 = _ from d1)
      refine og_none rfl ?_
      exact o_val (v := .int .i64 z6) (w' := w9) (by generalize (oF 42 T).eval = rr at *; simp [execOp, go_sem, e0, e1, a2']) rfl rfl (Kx.refl _ _)
    · intro T w9 hG hD hO Q
      have d0 := hD.1
      have e0 : (oF 42 T).eval (.tmp 41) = .int .i64 z6 := (oF_eval (by decide)).trans (show T 41 = _ from d0)
      refine og_none rfl ?_
      exact o_val (v := .int .i64 z6) (w' := w9) (by generalize (oF 42 T).eval = rr at *; simp [execOp, go_sem, e0]) rfl rfl (Kx.refl _ _)
    · intro T w9 hG hD hO Q
      have e0 : (oF 42 T).eval (.const (.int .i64 0)) = .int .i64 0 := rfl
      refine og_none rfl ?_
      exact o_val (v := .int .i64 0) (w' := w9) (by generalize (oF 42 T).eval = rr at *; simp [execOp, go_sem, e0]) rfl rfl (Kx.refl _ _)
  case fin =>
    intro T w3 hout hval hG
    have s3 := hG.2.2.2.1
    simp only [World.size_drew] at s3
    rw [show oF 42 T = (⟨#[T 0, T 1, T 2, T 3, T 4, T 5, T 6, T 7, T 8, T 9, T 10, T 11, T 12, T 13, T 14, T 15, T 16, T 17, T 18, T 19, T 20, T 21, T 22, T 23, T 24, T 25, T 26, T 27, T 28, T 29, T 30, T 31, T 32, T 33, T 34, T 35, T 36, T 37, T 38, T 39, T 40, T 41], []⟩ : Act) from oF_list 42 T]
    rw [show T 0 = .agg #[.string n, .int .i64 k, .int .i64 a, .int .i64 x, .int .i64 y, .int .i64 z, .int .i64 lo, .int .i64 hi, .slice fp fl fc] from hout 0 rfl]
    rw [show T 1 = .agg #[.int .i64 fk, .bool fd, .int .i64 ft, .int .i64 fm, .slice dp dl dc] from hout 1 rfl]
    rw [show T 2 = .pointer (some ⟨w.heap.size, 0, none⟩) from hout 2 rfl]
    rw [show T 3 = .pointer (some ⟨w.heap.size + 1, 0, none⟩) from hout 3 rfl]
    rw [show T 4 = .int .i64 z6 from hval 7 (by decide : 7 < 9)]
    rw [show T 5 = .int .i64 0 from hval 8 (by decide : 8 < 9)]
    rw [show T 6 = .int .i64 r1 from hout 6 rfl]
    rw [show T 7 = .bool true from hout 7 rfl]
    rw [show T 9 = .agg #[.string n, .int .i64 k, .int .i64 a, .int .i64 x, .int .i64 y, .int .i64 z, .int .i64 lo, .int .i64 hi, .slice fp fl fc] from hout 9 rfl]
    rw [show T 10 = .agg #[.int .i64 fk, .bool fd, .int .i64 ft, .int .i64 fm, .slice dp dl dc] from hout 10 rfl]
    rw [show T 11 = .int .i64 r1 from hout 11 rfl]
    rw [show T 12 = .int .i64 r1 from hout 12 rfl]
    rw [show T 13 = .bool false from hout 13 rfl]
    rw [show T 15 = .pointer (some ⟨w.heap.size + 1, 3, none⟩) from hout 15 rfl]
    rw [show T 16 = .int .i64 fm from hout 16 rfl]
    rw [show T 17 = .bool false from hout 17 rfl]
    rw [show T 18 = .tuple #[.bool true, .int .i64 r3] from hout 18 rfl]
    rw [show T 19 = .agg #[.string n, .int .i64 k, .int .i64 a, .int .i64 x, .int .i64 y, .int .i64 z, .int .i64 lo, .int .i64 hi, .slice fp fl fc] from hout 19 rfl]
    rw [show T 20 = .tuple #[.bool true, .int .i64 r3] from hout 20 rfl]
    rw [show T 21 = .bool true from hout 21 rfl]
    rw [show T 22 = .int .i64 r3 from hout 22 rfl]
    rw [show T 23 = .bool true from hout 23 rfl]
    rw [show T 24 = .pointer (some ⟨w.heap.size + 1, 3, none⟩) from hout 24 rfl]
    rw [show T 25 = .int .i64 fm from hout 25 rfl]
    rw [show T 26 = .bool false from hout 26 rfl]
    rw [show T 27 = .bool false from hout 27 rfl]
    replace b1 := b1.kx hG (by simp)
    replace b2 := b2.kx hG (by simp)
    replace kx := (show Kb _ _ from kx.drew).trans hG.nil
    replace gl := gl0.out.kb kx
    clear hout hval hG
    go_wp2
    go_ret2
    exact ⟨rfl, kx⟩
set_option maxRecDepth 100000 in
set_option maxHeartbeats 4000000 in
theorem fVirtual_5 (w0 : World) (n : ByteArray) (k : Int) (a : Int) (x : Int) (y : Int) (z : Int) (lo : Int) (hi : Int) (fp : Option Addr) (fl : Nat) (fc : Nat) (fk : Int) (fd : Bool) (ft : Int) (fm : Int) (dp : Option Addr) (dl : Nat) (dc : Nat) (r1 : Int) (o2 : Bool) (r3 : Int) (r4 : Int) (z6 : Int) (a2 : wrap64 (r4 + ft) = z6) (q1 : Cf w0 13 #[.agg #[.string n, .int .i64 k, .int .i64 a, .int .i64 x, .int .i64 y, .int .i64 z, .int .i64 lo, .int .i64 hi, .slice fp fl fc], .agg #[.int .i64 fk, .bool fd, .int .i64 ft, .int .i64 fm, .slice dp dl dc]] (.int .i64 r1)) (q2 : Cf w0 32 #[.agg #[.string n, .int .i64 k, .int .i64 a, .int .i64 x, .int .i64 y, .int .i64 z, .int .i64 lo, .int .i64 hi, .slice fp fl fc]] (.tuple #[.bool o2, .int .i64 r3])) (q3 : Cf w0 59 #[.agg #[.string n, .int .i64 k, .int .i64 a, .int .i64 x, .int .i64 y, .int .i64 z, .int .i64 lo, .int .i64 hi, .slice fp fl fc], .int .i64 fm] (.int .i64 r4))  (h1 : (r1 != 0) = false) (h2 : (fm == 0) = false) (h3 : (o2) = false) (h4 : (fm == 1) = true) (w : World) (gl : Gf w0 w)  : Calls Tryz.prog 22 #[.agg #[.string n, .int .i64 k, .int .i64 a, .int .i64 x, .int .i64 y, .int .i64 z, .int .i64 lo, .int .i64 hi, .slice fp fl fc], .agg #[.int .i64 fk, .bool fd, .int .i64 ft, .int .i64 fm, .slice dp dl dc]] w fun r W' => r = .returned (.tuple #[.int .i64 z6, .int .i64 0]) ∧ Kb w W' := by
  have kx := Kb.refl w
  unfold Cf at q1 q2 q3
  have gl0 := Lib.hid gl
  have a2' : IntKind.i64.wrap (r4 + ft) = z6 := (Go.IntWalk.i64_left _).trans a2
  subst h3
  have j1 := ((Is.made w #[.string n, .int .i64 k, .int .i64 a, .int .i64 x, .int .i64 y, .int .i64 z, .int .i64 lo, .int .i64 hi, .slice fp fl fc] 28).alloc (.cells #[.int .i64 fk, .bool fd, .int .i64 ft, .int .i64 fm, .slice dp dl dc] 31 (0, 0)))
  have f2 := j1.c (i := 0) rfl
  have f3 := j1.c (i := 1) rfl
  have f4 := j1.c (i := 2) rfl
  have f5 := j1.c (i := 3) rfl
  have f6 := j1.c (i := 4) rfl
  have f7 := j1.c (i := 5) rfl
  have f8 := j1.c (i := 6) rfl
  have f9 := j1.c (i := 7) rfl
  have f10 := j1.c (i := 8) rfl
  have j11 := (Is.made (w.alloc (.cells #[.string n, .int .i64 k, .int .i64 a, .int .i64 x, .int .i64 y, .int .i64 z, .int .i64 lo, .int .i64 hi, .slice fp fl fc] 28 (0, 0))) #[.int .i64 fk, .bool fd, .int .i64 ft, .int .i64 fm, .slice dp dl dc] 31)
  simp only [World.size_alloc] at j11
  have f12 := j11.c (i := 0) rfl
  have f13 := j11.c (i := 1) rfl
  have f14 := j11.c (i := 2) rfl
  have f15 := j11.c (i := 3) rfl
  have f16 := j11.c (i := 4) rfl
  go_enter Tryz.func22, Tryz.ntmps22
  go_wp2_with fail
  clear f2 f3 f4 f5 f6 f7 f8 f9 f10 f12 f13 f14 f15 f16
  have b1 := j1
  have b2 := j11
  replace kx := (kx.alloc (.cells #[.string n, .int .i64 k, .int .i64 a, .int .i64 x, .int .i64 y, .int .i64 z, .int .i64 lo, .int .i64 hi, .slice fp fl fc] 28 (0, 0))).alloc (.cells #[.int .i64 fk, .bool fd, .int .i64 ft, .int .i64 fm, .slice dp dl dc] 31 (0, 0))
  clear j1 j11
  replace gl := gl0.out.kb kx
  (with_reducible refine ((q1.out _ gl)).mono ?_)
  rintro r w1 ⟨rfl, k1⟩
  replace gl := gl.kb k1
  replace b1 := b1.kb k1
  replace b2 := b2.kb k1
  replace kx := kx.trans k1
  have s1 := k1.size
  simp only [World.size_alloc] at s1
  clear k1
  have f17 := b2.c (i := 3) rfl
  have f18 := b1.c (i := 0) rfl
  have f19 := b1.c (i := 1) rfl
  have f20 := b1.c (i := 2) rfl
  have f21 := b1.c (i := 3) rfl
  have f22 := b1.c (i := 4) rfl
  have f23 := b1.c (i := 5) rfl
  have f24 := b1.c (i := 6) rfl
  have f25 := b1.c (i := 7) rfl
  have f26 := b1.c (i := 8) rfl
  go_wp2_with fail
  clear f17 f18 f19 f20 f21 f22 f23 f24 f25 f26
  (with_reducible refine ((q2.out _ gl)).mono ?_)
  rintro r w2 ⟨rfl, k2⟩
  replace gl := gl.kb k2
  replace b1 := b1.kb k2
  replace b2 := b2.kb k2
  replace kx := kx.trans k2
  have s2 := k2.size
  skip
  clear k2
  have f27 := b2.c (i := 3) rfl
  go_wp2_with fail
  clear f27
  replace gl := gl.drew
  replace b1 := b1.drew
  replace b2 := b2.drew
  rw [oF_lit]
  refine o_law (⟨42, [some 35, some 36, some 37, some 38, some 39, some 40, some 41, some 4, some 5], [35, 36, 37, 38, 39, 40, 41, 4, 5], [[], [], [1], [0, 2], [], [4], [3, 5], [6], []], [[2], [3], [], [], [3], [], [], [], []]⟩ : OT) (Kx []) (RL [fun vv _ => vv = .agg #[.string n, .int .i64 k, .int .i64 a, .int .i64 x, .int .i64 y, .int .i64 z, .int .i64 lo, .int .i64 hi, .slice fp fl fc], fun vv _ => vv = .pointer (some ⟨w.heap.size + 1, 3, none⟩), fun vv _ => vv = .int .i64 fm, fun vv _ => vv = .int .i64 r4, fun vv _ => vv = .pointer (some ⟨w.heap.size + 1, 2, none⟩), fun vv _ => vv = .int .i64 ft, fun vv _ => vv = .int .i64 z6, fun vv _ => vv = .int .i64 z6, fun vv _ => vv = .int .i64 0]) (by kernel_rfl) ?hk ?hR ?fin
  case hk => kernel_rfl
  case hR =>
    refine ⟨fun _ => (Kx.refl _ _), fun _ _ _ => Kx.trans, rl_stab ⟨fun _ _ _ _ h => h, fun _ _ _ _ h => h, fun _ _ _ _ h => h, fun _ _ _ _ h => h, fun _ _ _ _ h => h, fun _ _ _ _ h => h, fun _ _ _ _ h => h, fun _ _ _ _ h => h, fun _ _ _ _ h => h, trivial⟩, ?_⟩
    refine allO_cons ?_ (allO_cons ?_ (allO_cons ?_ (allO_cons ?_ (allO_cons ?_ (allO_cons ?_ (allO_cons ?_ (allO_cons ?_ (allO_cons ?_ (allO_nil)))))))))
    · intro T w9 hG hD hO Q
      have q0 := hO.1
      have e0 : (oF 42 T).eval (.tmp 2) = .pointer (some ⟨w.heap.size, 0, none⟩) := (oF_eval (by decide)).trans (show T 2 = _ from q0)
      refine og_none rfl ?_
      have im := b1.kx hG (by simp)
      have m0 := im.c (i := 0) rfl
      have m1 := im.c (i := 1) rfl
      have m2 := im.c (i := 2) rfl
      have m3 := im.c (i := 3) rfl
      have m4 := im.c (i := 4) rfl
      have m5 := im.c (i := 5) rfl
      have m6 := im.c (i := 6) rfl
      have m7 := im.c (i := 7) rfl
      have m8 := im.c (i := 8) rfl
      clear im
      exact o_val (v := .agg #[.string n, .int .i64 k, .int .i64 a, .int .i64 x, .int .i64 y, .int .i64 z, .int .i64 lo, .int .i64 hi, .slice fp fl fc]) (w' := w9) (by generalize (oF 42 T).eval = rr at *; simp [execOp, go_sem, e0, m0, m1, m2, m3, m4, m5, m6, m7, m8]) rfl rfl (Kx.refl _ _)
    · intro T w9 hG hD hO Q
      have q0 := hO.1
      have e0 : (oF 42 T).eval (.tmp 3) = .pointer (some ⟨w.heap.size + 1, 0, none⟩) := (oF_eval (by decide)).trans (show T 3 = _ from q0)
      refine og_none rfl ?_
      exact o_val (v := .pointer (some ⟨w.heap.size + 1, 3, none⟩)) (w' := w9) (by generalize (oF 42 T).eval = rr at *; simp [execOp, go_sem, e0]) rfl rfl (Kx.refl _ _)
    · intro T w9 hG hD hO Q
      have d0 := hD.1
      have e0 : (oF 42 T).eval (.tmp 36) = .pointer (some ⟨w.heap.size + 1, 3, none⟩) := (oF_eval (by decide)).trans (show T 36 = _ from d0)
      refine og_none rfl ?_
      have im := b2.kx hG (by simp)
      have m0 := im.c (i := 3) rfl
      clear im
      exact o_val (v := .int .i64 fm) (w' := w9) (by generalize (oF 42 T).eval = rr at *; simp [execOp, go_sem, e0, m0]) rfl rfl (Kx.refl _ _)
    · intro T w9 hG hD hO Q
      have d0 := hD.1
      have d1 := hD.2.1
      have e0 : (oF 42 T).eval (.func 59) = .func (.func 59) #[] #[] := rfl
      have e1 : (oF 42 T).eval (.tmp 35) = .agg #[.string n, .int .i64 k, .int .i64 a, .int .i64 x, .int .i64 y, .int .i64 z, .int .i64 lo, .int .i64 hi, .slice fp fl fc] := (oF_eval (by decide)).trans (show T 35 = _ from d0)
      have e2 : (oF 42 T).eval (.tmp 37) = .int .i64 fm := (oF_eval (by decide)).trans (show T 37 = _ from d1)
      refine og_none rfl ?_
      refine o_call (oc2 (enters_of Tryz.func59 (by kernel_rfl) rfl) rfl rfl e1 e2) rfl ?_
      exact (q3.out w9 (gl.kx hG (by simp))).mono fun r W' h => ⟨_, h.1, rfl, h.2.kx⟩
    · intro T w9 hG hD hO Q
      have q0 := hO.1
      have e0 : (oF 42 T).eval (.tmp 3) = .pointer (some ⟨w.heap.size + 1, 0, none⟩) := (oF_eval (by decide)).trans (show T 3 = _ from q0)
      refine og_none rfl ?_
      exact o_val (v := .pointer (some ⟨w.heap.size + 1, 2, none⟩)) (w' := w9) (by generalize (oF 42 T).eval = rr at *; simp [execOp, go_sem, e0]) rfl rfl (Kx.refl _ _)
    · intro T w9 hG hD hO Q
      have d0 := hD.1
      have e0 : (oF 42 T).eval (.tmp 39) = .pointer (some ⟨w.heap.size + 1, 2, none⟩) := (oF_eval (by decide)).trans (show T 39 = _ from d0)
      refine og_none rfl ?_
      have im := b2.kx hG (by simp)
      have m0 := im.c (i := 2) rfl
      clear im
      exact o_val (v := .int .i64 ft) (w' := w9) (by generalize (oF 42 T).eval = rr at *; simp [execOp, go_sem, e0, m0]) rfl rfl (Kx.refl _ _)
    · intro T w9 hG hD hO Q
      have d0 := hD.1
      have d1 := hD.2.1
      have e0 : (oF 42 T).eval (.tmp 38) = .int .i64 r4 := (oF_eval (by decide)).trans (show T 38 = _ from d0)
      have e1 : (oF 42 T).eval (.tmp 40) = .int .i64 ft := (oF_eval (by decide)).trans (show T 40 = _ from d1)
      refine og_none rfl ?_
      exact o_val (v := .int .i64 z6) (w' := w9) (by generalize (oF 42 T).eval = rr at *; simp [execOp, go_sem, e0, e1, a2']) rfl rfl (Kx.refl _ _)
    · intro T w9 hG hD hO Q
      have d0 := hD.1
      have e0 : (oF 42 T).eval (.tmp 41) = .int .i64 z6 := (oF_eval (by decide)).trans (show T 41 = _ from d0)
      refine og_none rfl ?_
      exact o_val (v := .int .i64 z6) (w' := w9) (by generalize (oF 42 T).eval = rr at *; simp [execOp, go_sem, e0]) rfl rfl (Kx.refl _ _)
    · intro T w9 hG hD hO Q
      have e0 : (oF 42 T).eval (.const (.int .i64 0)) = .int .i64 0 := rfl
      refine og_none rfl ?_
      exact o_val (v := .int .i64 0) (w' := w9) (by generalize (oF 42 T).eval = rr at *; simp [execOp, go_sem, e0]) rfl rfl (Kx.refl _ _)
  case fin =>
    intro T w3 hout hval hG
    have s3 := hG.2.2.2.1
    simp only [World.size_drew] at s3
    rw [show oF 42 T = (⟨#[T 0, T 1, T 2, T 3, T 4, T 5, T 6, T 7, T 8, T 9, T 10, T 11, T 12, T 13, T 14, T 15, T 16, T 17, T 18, T 19, T 20, T 21, T 22, T 23, T 24, T 25, T 26, T 27, T 28, T 29, T 30, T 31, T 32, T 33, T 34, T 35, T 36, T 37, T 38, T 39, T 40, T 41], []⟩ : Act) from oF_list 42 T]
    rw [show T 0 = .agg #[.string n, .int .i64 k, .int .i64 a, .int .i64 x, .int .i64 y, .int .i64 z, .int .i64 lo, .int .i64 hi, .slice fp fl fc] from hout 0 rfl]
    rw [show T 1 = .agg #[.int .i64 fk, .bool fd, .int .i64 ft, .int .i64 fm, .slice dp dl dc] from hout 1 rfl]
    rw [show T 2 = .pointer (some ⟨w.heap.size, 0, none⟩) from hout 2 rfl]
    rw [show T 3 = .pointer (some ⟨w.heap.size + 1, 0, none⟩) from hout 3 rfl]
    rw [show T 4 = .int .i64 z6 from hval 7 (by decide : 7 < 9)]
    rw [show T 5 = .int .i64 0 from hval 8 (by decide : 8 < 9)]
    rw [show T 6 = .int .i64 r1 from hout 6 rfl]
    rw [show T 7 = .bool false from hout 7 rfl]
    rw [show T 9 = .agg #[.string n, .int .i64 k, .int .i64 a, .int .i64 x, .int .i64 y, .int .i64 z, .int .i64 lo, .int .i64 hi, .slice fp fl fc] from hout 9 rfl]
    rw [show T 10 = .agg #[.int .i64 fk, .bool fd, .int .i64 ft, .int .i64 fm, .slice dp dl dc] from hout 10 rfl]
    rw [show T 11 = .int .i64 r1 from hout 11 rfl]
    rw [show T 12 = .int .i64 r1 from hout 12 rfl]
    rw [show T 13 = .bool false from hout 13 rfl]
    rw [show T 15 = .pointer (some ⟨w.heap.size + 1, 3, none⟩) from hout 15 rfl]
    rw [show T 16 = .int .i64 fm from hout 16 rfl]
    rw [show T 17 = .bool false from hout 17 rfl]
    rw [show T 18 = .tuple #[.bool false, .int .i64 r3] from hout 18 rfl]
    rw [show T 19 = .agg #[.string n, .int .i64 k, .int .i64 a, .int .i64 x, .int .i64 y, .int .i64 z, .int .i64 lo, .int .i64 hi, .slice fp fl fc] from hout 19 rfl]
    rw [show T 20 = .tuple #[.bool false, .int .i64 r3] from hout 20 rfl]
    rw [show T 21 = .bool false from hout 21 rfl]
    rw [show T 22 = .int .i64 r3 from hout 22 rfl]
    rw [show T 23 = .bool false from hout 23 rfl]
    rw [show T 24 = .pointer (some ⟨w.heap.size + 1, 3, none⟩) from hout 24 rfl]
    rw [show T 25 = .int .i64 fm from hout 25 rfl]
    rw [show T 26 = .bool true from hout 26 rfl]
    rw [show T 27 = .bool false from hout 27 rfl]
    replace b1 := b1.kx hG (by simp)
    replace b2 := b2.kx hG (by simp)
    replace kx := (show Kb _ _ from kx.drew).trans hG.nil
    replace gl := gl0.out.kb kx
    clear hout hval hG
    go_wp2
    go_ret2
    exact ⟨rfl, kx⟩
set_option maxRecDepth 100000 in
set_option maxHeartbeats 4000000 in
theorem fVirtual_6 (w0 : World) (n : ByteArray) (k : Int) (a : Int) (x : Int) (y : Int) (z : Int) (lo : Int) (hi : Int) (fp : Option Addr) (fl : Nat) (fc : Nat) (fk : Int) (fd : Bool) (ft : Int) (fm : Int) (dp : Option Addr) (dl : Nat) (dc : Nat) (r1 : Int) (o2 : Bool) (r3 : Int) (r4 : Int) (z5 : Int) (a1 : wrap64 (r4 - ft) = z5) (q1 : Cf w0 13 #[.agg #[.string n, .int .i64 k, .int .i64 a, .int .i64 x, .int .i64 y, .int .i64 z, .int .i64 lo, .int .i64 hi, .slice fp fl fc], .agg #[.int .i64 fk, .bool fd, .int .i64 ft, .int .i64 fm, .slice dp dl dc]] (.int .i64 r1)) (q2 : Cf w0 32 #[.agg #[.string n, .int .i64 k, .int .i64 a, .int .i64 x, .int .i64 y, .int .i64 z, .int .i64 lo, .int .i64 hi, .slice fp fl fc]] (.tuple #[.bool o2, .int .i64 r3])) (q3 : Cf w0 59 #[.agg #[.string n, .int .i64 k, .int .i64 a, .int .i64 x, .int .i64 y, .int .i64 z, .int .i64 lo, .int .i64 hi, .slice fp fl fc], .int .i64 fm] (.int .i64 r4))  (h1 : (r1 != 0) = false) (h2 : (fm == 0) = false) (h3 : (o2) = false) (h4 : (fm == 1) = false) (w : World) (gl : Gf w0 w)  : Calls Tryz.prog 22 #[.agg #[.string n, .int .i64 k, .int .i64 a, .int .i64 x, .int .i64 y, .int .i64 z, .int .i64 lo, .int .i64 hi, .slice fp fl fc], .agg #[.int .i64 fk, .bool fd, .int .i64 ft, .int .i64 fm, .slice dp dl dc]] w fun r W' => r = .returned (.tuple #[.int .i64 z5, .int .i64 0]) ∧ Kb w W' := by
  have kx := Kb.refl w
  unfold Cf at q1 q2 q3
  have gl0 := Lib.hid gl
  have a1' : IntKind.i64.wrap (r4 - ft) = z5 := (Go.IntWalk.i64_left _).trans a1
  subst h3
  have j1 := ((Is.made w #[.string n, .int .i64 k, .int .i64 a, .int .i64 x, .int .i64 y, .int .i64 z, .int .i64 lo, .int .i64 hi, .slice fp fl fc] 28).alloc (.cells #[.int .i64 fk, .bool fd, .int .i64 ft, .int .i64 fm, .slice dp dl dc] 31 (0, 0)))
  have f2 := j1.c (i := 0) rfl
  have f3 := j1.c (i := 1) rfl
  have f4 := j1.c (i := 2) rfl
  have f5 := j1.c (i := 3) rfl
  have f6 := j1.c (i := 4) rfl
  have f7 := j1.c (i := 5) rfl
  have f8 := j1.c (i := 6) rfl
  have f9 := j1.c (i := 7) rfl
  have f10 := j1.c (i := 8) rfl
  have j11 := (Is.made (w.alloc (.cells #[.string n, .int .i64 k, .int .i64 a, .int .i64 x, .int .i64 y, .int .i64 z, .int .i64 lo, .int .i64 hi, .slice fp fl fc] 28 (0, 0))) #[.int .i64 fk, .bool fd, .int .i64 ft, .int .i64 fm, .slice dp dl dc] 31)
  simp only [World.size_alloc] at j11
  have f12 := j11.c (i := 0) rfl
  have f13 := j11.c (i := 1) rfl
  have f14 := j11.c (i := 2) rfl
  have f15 := j11.c (i := 3) rfl
  have f16 := j11.c (i := 4) rfl
  go_enter Tryz.func22, Tryz.ntmps22
  go_wp2_with fail
  clear f2 f3 f4 f5 f6 f7 f8 f9 f10 f12 f13 f14 f15 f16
  have b1 := j1
  have b2 := j11
  replace kx := (kx.alloc (.cells #[.string n, .int .i64 k, .int .i64 a, .int .i64 x, .int .i64 y, .int .i64 z, .int .i64 lo, .int .i64 hi, .slice fp fl fc] 28 (0, 0))).alloc (.cells #[.int .i64 fk, .bool fd, .int .i64 ft, .int .i64 fm, .slice dp dl dc] 31 (0, 0))
  clear j1 j11
  replace gl := gl0.out.kb kx
  (with_reducible refine ((q1.out _ gl)).mono ?_)
  rintro r w1 ⟨rfl, k1⟩
  replace gl := gl.kb k1
  replace b1 := b1.kb k1
  replace b2 := b2.kb k1
  replace kx := kx.trans k1
  have s1 := k1.size
  simp only [World.size_alloc] at s1
  clear k1
  have f17 := b2.c (i := 3) rfl
  have f18 := b1.c (i := 0) rfl
  have f19 := b1.c (i := 1) rfl
  have f20 := b1.c (i := 2) rfl
  have f21 := b1.c (i := 3) rfl
  have f22 := b1.c (i := 4) rfl
  have f23 := b1.c (i := 5) rfl
  have f24 := b1.c (i := 6) rfl
  have f25 := b1.c (i := 7) rfl
  have f26 := b1.c (i := 8) rfl
  go_wp2_with fail
  clear f17 f18 f19 f20 f21 f22 f23 f24 f25 f26
  (with_reducible refine ((q2.out _ gl)).mono ?_)
  rintro r w2 ⟨rfl, k2⟩
  replace gl := gl.kb k2
  replace b1 := b1.kb k2
  replace b2 := b2.kb k2
  replace kx := kx.trans k2
  have s2 := k2.size
  skip
  clear k2
  have f27 := b2.c (i := 3) rfl
  go_wp2_with fail
  clear f27
  replace gl := gl.drew
  replace b1 := b1.drew
  replace b2 := b2.drew
  rw [oF_lit]
  refine o_law (⟨42, [some 28, some 29, some 30, some 31, some 32, some 33, some 34, some 4, some 5], [28, 29, 30, 31, 32, 33, 34, 4, 5], [[], [], [1], [0, 2], [], [4], [3, 5], [6], []], [[2], [3], [], [], [3], [], [], [], []]⟩ : OT) (Kx []) (RL [fun vv _ => vv = .agg #[.string n, .int .i64 k, .int .i64 a, .int .i64 x, .int .i64 y, .int .i64 z, .int .i64 lo, .int .i64 hi, .slice fp fl fc], fun vv _ => vv = .pointer (some ⟨w.heap.size + 1, 3, none⟩), fun vv _ => vv = .int .i64 fm, fun vv _ => vv = .int .i64 r4, fun vv _ => vv = .pointer (some ⟨w.heap.size + 1, 2, none⟩), fun vv _ => vv = .int .i64 ft, fun vv _ => vv = .int .i64 z5, fun vv _ => vv = .int .i64 z5, fun vv _ => vv = .int .i64 0]) (by kernel_rfl) ?hk ?hR ?fin
  case hk => kernel_rfl
  case hR =>
    refine ⟨fun _ => (Kx.refl _ _), fun _ _ _ => Kx.trans, rl_stab ⟨fun _ _ _ _ h => h, fun _ _ _ _ h => h, fun _ _ _ _ h => h, fun _ _ _ _ h => h, fun _ _ _ _ h => h, fun _ _ _ _ h => h, fun _ _ _ _ h => h, fun _ _ _ _ h => h, fun _ _ _ _ h => h, trivial⟩, ?_⟩
    refine allO_cons ?_ (allO_cons ?_ (allO_cons ?_ (allO_cons ?_ (allO_cons ?_ (allO_cons ?_ (allO_cons ?_ (allO_cons ?_ (allO_cons ?_ (allO_nil)))))))))
    · intro T w9 hG hD hO Q
      have q0 := hO.1
      have e0 : (oF 42 T).eval (.tmp 2) = .pointer (some ⟨w.heap.size, 0, none⟩) := (oF_eval (by decide)).trans (show T 2 = _ from q0)
      refine og_none rfl ?_
      have im := b1.kx hG (by simp)
      have m0 := im.c (i := 0) rfl
      have m1 := im.c (i := 1) rfl
      have m2 := im.c (i := 2) rfl
      have m3 := im.c (i := 3) rfl
      have m4 := im.c (i := 4) rfl
      have m5 := im.c (i := 5) rfl
      have m6 := im.c (i := 6) rfl
      have m7 := im.c (i := 7) rfl
      have m8 := im.c (i := 8) rfl
      clear im
      exact o_val (v := .agg #[.string n, .int .i64 k, .int .i64 a, .int .i64 x, .int .i64 y, .int .i64 z, .int .i64 lo, .int .i64 hi, .slice fp fl fc]) (w' := w9) (by generalize (oF 42 T).eval = rr at *; simp [execOp, go_sem, e0, m0, m1, m2, m3, m4, m5, m6, m7, m8]) rfl rfl (Kx.refl _ _)
    · intro T w9 hG hD hO Q
      have q0 := hO.1
      have e0 : (oF 42 T).eval (.tmp 3) = .pointer (some ⟨w.heap.size + 1, 0, none⟩) := (oF_eval (by decide)).trans (show T 3 = _ from q0)
      refine og_none rfl ?_
      exact o_val (v := .pointer (some ⟨w.heap.size + 1, 3, none⟩)) (w' := w9) (by generalize (oF 42 T).eval = rr at *; simp [execOp, go_sem, e0]) rfl rfl (Kx.refl _ _)
    · intro T w9 hG hD hO Q
      have d0 := hD.1
      have e0 : (oF 42 T).eval (.tmp 29) = .pointer (some ⟨w.heap.size + 1, 3, none⟩) := (oF_eval (by decide)).trans (show T 29 = _ from d0)
      refine og_none rfl ?_
      have im := b2.kx hG (by simp)
      have m0 := im.c (i := 3) rfl
      clear im
      exact o_val (v := .int .i64 fm) (w' := w9) (by generalize (oF 42 T).eval = rr at *; simp [execOp, go_sem, e0, m0]) rfl rfl (Kx.refl _ _)
    · intro T w9 hG hD hO Q
      have d0 := hD.1
      have d1 := hD.2.1
      have e0 : (oF 42 T).eval (.func 59) = .func (.func 59) #[] #[] := rfl
      have e1 : (oF 42 T).eval (.tmp 28) = .agg #[.string n, .int .i64 k, .int .i64 a, .int .i64 x, .int .i64 y, .int .i64 z, .int .i64 lo, .int .i64 hi, .slice fp fl fc] := (oF_eval (by decide)).trans (show T 28 = _ from d0)
      have e2 : (oF 42 T).eval (.tmp 30) = .int .i64 fm := (oF_eval (by decide)).trans (show T 30 = _ from d1)
      refine og_none rfl ?_
      refine o_call (oc2 (enters_of Tryz.func59 (by kernel_rfl) rfl) rfl rfl e1 e2) rfl ?_
      exact (q3.out w9 (gl.kx hG (by simp))).mono fun r W' h => ⟨_, h.1, rfl, h.2.kx⟩
    · intro T w9 hG hD hO Q
      have q0 := hO.1
      have e0 : (oF 42 T).eval (.tmp 3) = .pointer (some ⟨w.heap.size + 1, 0, none⟩) := (oF_eval (by decide)).trans (show T 3 = _ from q0)
      refine og_none rfl ?_
      exact o_val (v := .pointer (some ⟨w.heap.size + 1, 2, none⟩)) (w' := w9) (by generalize (oF 42 T).eval = rr at *; simp [execOp, go_sem, e0]) rfl rfl (Kx.refl _ _)
    · intro T w9 hG hD hO Q
      have d0 := hD.1
      have e0 : (oF 42 T).eval (.tmp 32) = .pointer (some ⟨w.heap.size + 1, 2, none⟩) := (oF_eval (by decide)).trans (show T 32 = _ from d0)
      refine og_none rfl ?_
      have im := b2.kx hG (by simp)
      have m0 := im.c (i := 2) rfl
      clear im
      exact o_val (v := .int .i64 ft) (w' := w9) (by generalize (oF 42 T).eval = rr at *; simp [execOp, go_sem, e0, m0]) rfl rfl (Kx.refl _ _)
    · intro T w9 hG hD hO Q
      have d0 := hD.1
      have d1 := hD.2.1
      have e0 : (oF 42 T).eval (.tmp 31) = .int .i64 r4 := (oF_eval (by decide)).trans (show T 31 = _ from d0)
      have e1 : (oF 42 T).eval (.tmp 33) = .int .i64 ft := (oF_eval (by decide)).trans (show T 33 = _ from d1)
      refine og_none rfl ?_
      exact o_val (v := .int .i64 z5) (w' := w9) (by generalize (oF 42 T).eval = rr at *; simp [execOp, go_sem, e0, e1, a1']) rfl rfl (Kx.refl _ _)
    · intro T w9 hG hD hO Q
      have d0 := hD.1
      have e0 : (oF 42 T).eval (.tmp 34) = .int .i64 z5 := (oF_eval (by decide)).trans (show T 34 = _ from d0)
      refine og_none rfl ?_
      exact o_val (v := .int .i64 z5) (w' := w9) (by generalize (oF 42 T).eval = rr at *; simp [execOp, go_sem, e0]) rfl rfl (Kx.refl _ _)
    · intro T w9 hG hD hO Q
      have e0 : (oF 42 T).eval (.const (.int .i64 0)) = .int .i64 0 := rfl
      refine og_none rfl ?_
      exact o_val (v := .int .i64 0) (w' := w9) (by generalize (oF 42 T).eval = rr at *; simp [execOp, go_sem, e0]) rfl rfl (Kx.refl _ _)
  case fin =>
    intro T w3 hout hval hG
    have s3 := hG.2.2.2.1
    simp only [World.size_drew] at s3
    rw [show oF 42 T = (⟨#[T 0, T 1, T 2, T 3, T 4, T 5, T 6, T 7, T 8, T 9, T 10, T 11, T 12, T 13, T 14, T 15, T 16, T 17, T 18, T 19, T 20, T 21, T 22, T 23, T 24, T 25, T 26, T 27, T 28, T 29, T 30, T 31, T 32, T 33, T 34, T 35, T 36, T 37, T 38, T 39, T 40, T 41], []⟩ : Act) from oF_list 42 T]
    rw [show T 0 = .agg #[.string n, .int .i64 k, .int .i64 a, .int .i64 x, .int .i64 y, .int .i64 z, .int .i64 lo, .int .i64 hi, .slice fp fl fc] from hout 0 rfl]
    rw [show T 1 = .agg #[.int .i64 fk, .bool fd, .int .i64 ft, .int .i64 fm, .slice dp dl dc] from hout 1 rfl]
    rw [show T 2 = .pointer (some ⟨w.heap.size, 0, none⟩) from hout 2 rfl]
    rw [show T 3 = .pointer (some ⟨w.heap.size + 1, 0, none⟩) from hout 3 rfl]
    rw [show T 4 = .int .i64 z5 from hval 7 (by decide : 7 < 9)]
    rw [show T 5 = .int .i64 0 from hval 8 (by decide : 8 < 9)]
    rw [show T 6 = .int .i64 r1 from hout 6 rfl]
    rw [show T 7 = .bool false from hout 7 rfl]
    rw [show T 9 = .agg #[.string n, .int .i64 k, .int .i64 a, .int .i64 x, .int .i64 y, .int .i64 z, .int .i64 lo, .int .i64 hi, .slice fp fl fc] from hout 9 rfl]
    rw [show T 10 = .agg #[.int .i64 fk, .bool fd, .int .i64 ft, .int .i64 fm, .slice dp dl dc] from hout 10 rfl]
    rw [show T 11 = .int .i64 r1 from hout 11 rfl]
    rw [show T 12 = .int .i64 r1 from hout 12 rfl]
    rw [show T 13 = .bool false from hout 13 rfl]
    rw [show T 15 = .pointer (some ⟨w.heap.size + 1, 3, none⟩) from hout 15 rfl]
    rw [show T 16 = .int .i64 fm from hout 16 rfl]
    rw [show T 17 = .bool false from hout 17 rfl]
    rw [show T 18 = .tuple #[.bool false, .int .i64 r3] from hout 18 rfl]
    rw [show T 19 = .agg #[.string n, .int .i64 k, .int .i64 a, .int .i64 x, .int .i64 y, .int .i64 z, .int .i64 lo, .int .i64 hi, .slice fp fl fc] from hout 19 rfl]
    rw [show T 20 = .tuple #[.bool false, .int .i64 r3] from hout 20 rfl]
    rw [show T 21 = .bool false from hout 21 rfl]
    rw [show T 22 = .int .i64 r3 from hout 22 rfl]
    rw [show T 23 = .bool false from hout 23 rfl]
    rw [show T 24 = .pointer (some ⟨w.heap.size + 1, 3, none⟩) from hout 24 rfl]
    rw [show T 25 = .int .i64 fm from hout 25 rfl]
    rw [show T 26 = .bool false from hout 26 rfl]
    rw [show T 27 = .bool true from hout 27 rfl]
    replace b1 := b1.kx hG (by simp)
    replace b2 := b2.kx hG (by simp)
    replace kx := (show Kb _ _ from kx.drew).trans hG.nil
    replace gl := gl0.out.kb kx
    clear hout hval hG
    go_wp2
    go_ret2
    exact ⟨rfl, kx⟩
set_option maxRecDepth 100000 in
theorem fVirtual_any (w0 : World) (n : ByteArray) (k : Int) (a : Int) (x : Int) (y : Int) (z : Int) (lo : Int) (hi : Int) (fp : Option Addr) (fl : Nat) (fc : Nat) (fk : Int) (fd : Bool) (ft : Int) (fm : Int) (dp : Option Addr) (dl : Nat) (dc : Nat) (r1 : Int) (o2 : Bool) (r3 : Int) (r4 : Int) (q1 : Cf w0 13 #[.agg #[.string n, .int .i64 k, .int .i64 a, .int .i64 x, .int .i64 y, .int .i64 z, .int .i64 lo, .int .i64 hi, .slice fp fl fc], .agg #[.int .i64 fk, .bool fd, .int .i64 ft, .int .i64 fm, .slice dp dl dc]] (.int .i64 r1)) (q2 : Cf w0 32 #[.agg #[.string n, .int .i64 k, .int .i64 a, .int .i64 x, .int .i64 y, .int .i64 z, .int .i64 lo, .int .i64 hi, .slice fp fl fc]] (.tuple #[.bool o2, .int .i64 r3])) (q3 : Cf w0 59 #[.agg #[.string n, .int .i64 k, .int .i64 a, .int .i64 x, .int .i64 y, .int .i64 z, .int .i64 lo, .int .i64 hi, .slice fp fl fc], .int .i64 fm] (.int .i64 r4))  : Cf w0 22 #[.agg #[.string n, .int .i64 k, .int .i64 a, .int .i64 x, .int .i64 y, .int .i64 z, .int .i64 lo, .int .i64 hi, .slice fp fl fc], .agg #[.int .i64 fk, .bool fd, .int .i64 ft, .int .i64 fm, .slice dp dl dc]] (if (r1 != 0) = true then (.tuple #[.int .i64 0, .int .i64 r1]) else (if (fm == 0) = true then (.tuple #[.int .i64 0, .int .i64 14]) else (if (o2) = true then (if (fm == 1) = true then (.tuple #[.int .i64 (wrap64 (r4 - ft)), .int .i64 0]) else (.tuple #[.int .i64 (wrap64 (r4 + ft)), .int .i64 0])) else (if (fm == 1) = true then (.tuple #[.int .i64 (wrap64 (r4 + ft)), .int .i64 0]) else (.tuple #[.int .i64 (wrap64 (r4 - ft)), .int .i64 0]))))) := Lib.hid fun w gl => by
  rcases Bool.eq_false_or_eq_true (r1 != 0) with h1 | h1
  · rw [if_pos h1]
    exact fVirtual_1 w0 n k a x y z lo hi fp fl fc fk fd ft fm dp dl dc r1 q1 h1 w gl
  · rw [if_neg (by rw [h1]; decide)]
    rcases Bool.eq_false_or_eq_true (fm == 0) with h2 | h2
    · rw [if_pos h2]
      exact fVirtual_2 w0 n k a x y z lo hi fp fl fc fk fd ft fm dp dl dc r1 q1 h1 h2 w gl
    · rw [if_neg (by rw [h2]; decide)]
      rcases Bool.eq_false_or_eq_true (o2) with h3 | h3
      · rw [if_pos h3]
        rcases Bool.eq_false_or_eq_true (fm == 1) with h4 | h4
        · rw [if_pos h4]
          exact fVirtual_3 w0 n k a x y z lo hi fp fl fc fk fd ft fm dp dl dc r1 o2 r3 r4 ((wrap64 (r4 - ft))) rfl q1 q2 q3 h1 h2 h3 h4 w gl
        · rw [if_neg (by rw [h4]; decide)]
          exact fVirtual_4 w0 n k a x y z lo hi fp fl fc fk fd ft fm dp dl dc r1 o2 r3 r4 ((wrap64 (r4 + ft))) rfl q1 q2 q3 h1 h2 h3 h4 w gl
      · rw [if_neg (by rw [h3]; decide)]
        rcases Bool.eq_false_or_eq_true (fm == 1) with h4 | h4
        · rw [if_pos h4]
          exact fVirtual_5 w0 n k a x y z lo hi fp fl fc fk fd ft fm dp dl dc r1 o2 r3 r4 ((wrap64 (r4 + ft))) rfl q1 q2 q3 h1 h2 h3 h4 w gl
        · rw [if_neg (by rw [h4]; decide)]
          exact fVirtual_6 w0 n k a x y z lo hi fp fl fc fk fd ft fm dp dl dc r1 o2 r3 r4 ((wrap64 (r4 - ft))) rfl q1 q2 q3 h1 h2 h3 h4 w gl
set_option maxRecDepth 100000 in
set_option maxHeartbeats 4000000 in
theorem fBonus_1 (w0 : World) (n : ByteArray) (k : Int) (a : Int) (x : Int) (y : Int) (z : Int) (lo : Int) (hi : Int) (fp : Option Addr) (fl : Nat) (fc : Nat) (fk : Int) (fd : Bool) (ft : Int) (fm : Int) (dp : Option Addr) (dl : Nat) (dc : Nat) (u : Int) (r1 : Int)   (q1 : Cf w0 13 #[.agg #[.string n, .int .i64 k, .int .i64 a, .int .i64 x, .int .i64 y, .int .i64 z, .int .i64 lo, .int .i64 hi, .slice fp fl fc], .agg #[.int .i64 fk, .bool fd, .int .i64 ft, .int .i64 fm, .slice dp dl dc]] (.int .i64 r1))  (h1 : (r1 != 0) = true) (w : World) (gl : Gf w0 w)  : Calls Tryz.prog 24 #[.agg #[.string n, .int .i64 k, .int .i64 a, .int .i64 x, .int .i64 y, .int .i64 z, .int .i64 lo, .int .i64 hi, .slice fp fl fc], .agg #[.int .i64 fk, .bool fd, .int .i64 ft, .int .i64 fm, .slice dp dl dc], .int .i64 u] w fun r W' => r = .returned (.tuple #[.int .i64 0, .int .i64 r1]) ∧ Kb w W' := by
  have kx := Kb.refl w
  unfold Cf at q1
  have gl0 := Lib.hid gl
  have j1 := ((Is.made w #[.string n, .int .i64 k, .int .i64 a, .int .i64 x, .int .i64 y, .int .i64 z, .int .i64 lo, .int .i64 hi, .slice fp fl fc] 28).alloc (.cells #[.int .i64 fk, .bool fd, .int .i64 ft, .int .i64 fm, .slice dp dl dc] 31 (0, 0)))
  have f2 := j1.c (i := 0) rfl
  have f3 := j1.c (i := 1) rfl
  have f4 := j1.c (i := 2) rfl
  have f5 := j1.c (i := 3) rfl
  have f6 := j1.c (i := 4) rfl
  have f7 := j1.c (i := 5) rfl
  have f8 := j1.c (i := 6) rfl
  have f9 := j1.c (i := 7) rfl
  have f10 := j1.c (i := 8) rfl
  have j11 := (Is.made (w.alloc (.cells #[.string n, .int .i64 k, .int .i64 a, .int .i64 x, .int .i64 y, .int .i64 z, .int .i64 lo, .int .i64 hi, .slice fp fl fc] 28 (0, 0))) #[.int .i64 fk, .bool fd, .int .i64 ft, .int .i64 fm, .slice dp dl dc] 31)
  simp only [World.size_alloc] at j11
  have f12 := j11.c (i := 0) rfl
  have f13 := j11.c (i := 1) rfl
  have f14 := j11.c (i := 2) rfl
  have f15 := j11.c (i := 3) rfl
  have f16 := j11.c (i := 4) rfl
  go_enter Tryz.func24, Tryz.ntmps24
  go_wp2_with fail
  clear f2 f3 f4 f5 f6 f7 f8 f9 f10 f12 f13 f14 f15 f16
  have b1 := j1
  have b2 := j11
  replace kx := (kx.alloc (.cells #[.string n, .int .i64 k, .int .i64 a, .int .i64 x, .int .i64 y, .int .i64 z, .int .i64 lo, .int .i64 hi, .slice fp fl fc] 28 (0, 0))).alloc (.cells #[.int .i64 fk, .bool fd, .int .i64 ft, .int .i64 fm, .slice dp dl dc] 31 (0, 0))
  clear j1 j11
  replace gl := gl0.out.kb kx
  (with_reducible refine ((q1.out _ gl)).mono ?_)
  rintro r w1 ⟨rfl, k1⟩
  replace gl := gl.kb k1
  replace b1 := b1.kb k1
  replace b2 := b2.kb k1
  replace kx := kx.trans k1
  have s1 := k1.size
  simp only [World.size_alloc] at s1
  clear k1
  go_wp2
  go_ret2
  exact ⟨rfl, kx⟩
set_option maxRecDepth 100000 in
set_option maxHeartbeats 4000000 in
theorem fBonus_2 (w0 : World) (n : ByteArray) (k : Int) (a : Int) (x : Int) (y : Int) (z : Int) (lo : Int) (hi : Int) (fp : Option Addr) (fl : Nat) (fc : Nat) (fk : Int) (fd : Bool) (ft : Int) (fm : Int) (dp : Option Addr) (dl : Nat) (dc : Nat) (u : Int) (r1 : Int)   (q1 : Cf w0 13 #[.agg #[.string n, .int .i64 k, .int .i64 a, .int .i64 x, .int .i64 y, .int .i64 z, .int .i64 lo, .int .i64 hi, .slice fp fl fc], .agg #[.int .i64 fk, .bool fd, .int .i64 ft, .int .i64 fm, .slice dp dl dc]] (.int .i64 r1))  (h1 : (r1 != 0) = false) (h2 : (k == 0) = true) (w : World) (gl : Gf w0 w)  : Calls Tryz.prog 24 #[.agg #[.string n, .int .i64 k, .int .i64 a, .int .i64 x, .int .i64 y, .int .i64 z, .int .i64 lo, .int .i64 hi, .slice fp fl fc], .agg #[.int .i64 fk, .bool fd, .int .i64 ft, .int .i64 fm, .slice dp dl dc], .int .i64 u] w fun r W' => r = .returned (.tuple #[.int .i64 0, .int .i64 14]) ∧ Kb w W' := by
  have kx := Kb.refl w
  unfold Cf at q1
  have gl0 := Lib.hid gl
  have j1 := ((Is.made w #[.string n, .int .i64 k, .int .i64 a, .int .i64 x, .int .i64 y, .int .i64 z, .int .i64 lo, .int .i64 hi, .slice fp fl fc] 28).alloc (.cells #[.int .i64 fk, .bool fd, .int .i64 ft, .int .i64 fm, .slice dp dl dc] 31 (0, 0)))
  have f2 := j1.c (i := 0) rfl
  have f3 := j1.c (i := 1) rfl
  have f4 := j1.c (i := 2) rfl
  have f5 := j1.c (i := 3) rfl
  have f6 := j1.c (i := 4) rfl
  have f7 := j1.c (i := 5) rfl
  have f8 := j1.c (i := 6) rfl
  have f9 := j1.c (i := 7) rfl
  have f10 := j1.c (i := 8) rfl
  have j11 := (Is.made (w.alloc (.cells #[.string n, .int .i64 k, .int .i64 a, .int .i64 x, .int .i64 y, .int .i64 z, .int .i64 lo, .int .i64 hi, .slice fp fl fc] 28 (0, 0))) #[.int .i64 fk, .bool fd, .int .i64 ft, .int .i64 fm, .slice dp dl dc] 31)
  simp only [World.size_alloc] at j11
  have f12 := j11.c (i := 0) rfl
  have f13 := j11.c (i := 1) rfl
  have f14 := j11.c (i := 2) rfl
  have f15 := j11.c (i := 3) rfl
  have f16 := j11.c (i := 4) rfl
  go_enter Tryz.func24, Tryz.ntmps24
  go_wp2_with fail
  clear f2 f3 f4 f5 f6 f7 f8 f9 f10 f12 f13 f14 f15 f16
  have b1 := j1
  have b2 := j11
  replace kx := (kx.alloc (.cells #[.string n, .int .i64 k, .int .i64 a, .int .i64 x, .int .i64 y, .int .i64 z, .int .i64 lo, .int .i64 hi, .slice fp fl fc] 28 (0, 0))).alloc (.cells #[.int .i64 fk, .bool fd, .int .i64 ft, .int .i64 fm, .slice dp dl dc] 31 (0, 0))
  clear j1 j11
  replace gl := gl0.out.kb kx
  (with_reducible refine ((q1.out _ gl)).mono ?_)
  rintro r w1 ⟨rfl, k1⟩
  replace gl := gl.kb k1
  replace b1 := b1.kb k1
  replace b2 := b2.kb k1
  replace kx := kx.trans k1
  have s1 := k1.size
  simp only [World.size_alloc] at s1
  clear k1
  have f17 := b1.c (i := 1) rfl
  go_wp2
  go_ret2
  clear f17
  exact ⟨rfl, kx⟩
set_option maxRecDepth 100000 in
set_option maxHeartbeats 4000000 in
theorem fBonus_3 (w0 : World) (n : ByteArray) (k : Int) (a : Int) (x : Int) (y : Int) (z : Int) (lo : Int) (hi : Int) (fp : Option Addr) (fl : Nat) (fc : Nat) (fk : Int) (fd : Bool) (ft : Int) (fm : Int) (dp : Option Addr) (dl : Nat) (dc : Nat) (u : Int) (r1 : Int) (o2 : Bool) (r3 : Int)   (q1 : Cf w0 13 #[.agg #[.string n, .int .i64 k, .int .i64 a, .int .i64 x, .int .i64 y, .int .i64 z, .int .i64 lo, .int .i64 hi, .slice fp fl fc], .agg #[.int .i64 fk, .bool fd, .int .i64 ft, .int .i64 fm, .slice dp dl dc]] (.int .i64 r1)) (q2 : Ca 63 #[.agg #[.int .i64 lo, .int .i64 hi], .int .i64 u] (.tuple #[.bool o2, .int .i64 r3]))  (h1 : (r1 != 0) = false) (h2 : (k == 0) = false) (h3 : (o2) = true) (h4 : (fm == 0) = true) (w : World) (gl : Gf w0 w)  : Calls Tryz.prog 24 #[.agg #[.string n, .int .i64 k, .int .i64 a, .int .i64 x, .int .i64 y, .int .i64 z, .int .i64 lo, .int .i64 hi, .slice fp fl fc], .agg #[.int .i64 fk, .bool fd, .int .i64 ft, .int .i64 fm, .slice dp dl dc], .int .i64 u] w fun r W' => r = .returned (.tuple #[.int .i64 0, .int .i64 0]) ∧ Kb w W' := by
  have kx := Kb.refl w
  unfold Ca at q2
  unfold Cf at q1
  have gl0 := Lib.hid gl
  subst h3
  have j1 := ((Is.made w #[.string n, .int .i64 k, .int .i64 a, .int .i64 x, .int .i64 y, .int .i64 z, .int .i64 lo, .int .i64 hi, .slice fp fl fc] 28).alloc (.cells #[.int .i64 fk, .bool fd, .int .i64 ft, .int .i64 fm, .slice dp dl dc] 31 (0, 0)))
  have f2 := j1.c (i := 0) rfl
  have f3 := j1.c (i := 1) rfl
  have f4 := j1.c (i := 2) rfl
  have f5 := j1.c (i := 3) rfl
  have f6 := j1.c (i := 4) rfl
  have f7 := j1.c (i := 5) rfl
  have f8 := j1.c (i := 6) rfl
  have f9 := j1.c (i := 7) rfl
  have f10 := j1.c (i := 8) rfl
  have j11 := (Is.made (w.alloc (.cells #[.string n, .int .i64 k, .int .i64 a, .int .i64 x, .int .i64 y, .int .i64 z, .int .i64 lo, .int .i64 hi, .slice fp fl fc] 28 (0, 0))) #[.int .i64 fk, .bool fd, .int .i64 ft, .int .i64 fm, .slice dp dl dc] 31)
  simp only [World.size_alloc] at j11
  have f12 := j11.c (i := 0) rfl
  have f13 := j11.c (i := 1) rfl
  have f14 := j11.c (i := 2) rfl
  have f15 := j11.c (i := 3) rfl
  have f16 := j11.c (i := 4) rfl
  go_enter Tryz.func24, Tryz.ntmps24
  go_wp2_with fail
  clear f2 f3 f4 f5 f6 f7 f8 f9 f10 f12 f13 f14 f15 f16
  have b1 := j1
  have b2 := j11
  replace kx := (kx.alloc (.cells #[.string n, .int .i64 k, .int .i64 a, .int .i64 x, .int .i64 y, .int .i64 z, .int .i64 lo, .int .i64 hi, .slice fp fl fc] 28 (0, 0))).alloc (.cells #[.int .i64 fk, .bool fd, .int .i64 ft, .int .i64 fm, .slice dp dl dc] 31 (0, 0))
  clear j1 j11
  replace gl := gl0.out.kb kx
  (with_reducible refine ((q1.out _ gl)).mono ?_)
  rintro r w1 ⟨rfl, k1⟩
  replace gl := gl.kb k1
  replace b1 := b1.kb k1
  replace b2 := b2.kb k1
  replace kx := kx.trans k1
  have s1 := k1.size
  simp only [World.size_alloc] at s1
  clear k1
  have f17 := b1.c (i := 1) rfl
  have f18 := b1.c (i := 6) rfl
  have f19 := b1.c (i := 7) rfl
  go_wp2_with fail
  clear f17 f18 f19
  (with_reducible refine (((q2).out _)).mono ?_)
  rintro r w2 ⟨rfl, k2⟩
  replace gl := gl.kb k2
  replace b1 := b1.kb k2
  replace b2 := b2.kb k2
  replace kx := kx.trans k2
  have s2 := k2.size
  skip
  clear k2
  have f20 := b2.c (i := 3) rfl
  go_wp2
  go_ret2
  clear f20
  exact ⟨rfl, kx⟩
set_option maxRecDepth 100000 in
set_option maxHeartbeats 4000000 in
theorem fBonus_4 (w0 : World) (n : ByteArray) (k : Int) (a : Int) (x : Int) (y : Int) (z : Int) (lo : Int) (hi : Int) (fp : Option Addr) (fl : Nat) (fc : Nat) (fk : Int) (fd : Bool) (ft : Int) (fm : Int) (dp : Option Addr) (dl : Nat) (dc : Nat) (u : Int) (r1 : Int) (o2 : Bool) (r3 : Int) (r4 : Int) (z5 : Int) (z6 : Int) (z7 : Int) (a1 : wrap64 (u - r4) = z5) (a2 : wrap64 (-z5) = z6) (a3 : max z5 z6 = z7) (q1 : Cf w0 13 #[.agg #[.string n, .int .i64 k, .int .i64 a, .int .i64 x, .int .i64 y, .int .i64 z, .int .i64 lo, .int .i64 hi, .slice fp fl fc], .agg #[.int .i64 fk, .bool fd, .int .i64 ft, .int .i64 fm, .slice dp dl dc]] (.int .i64 r1)) (q2 : Ca 63 #[.agg #[.int .i64 lo, .int .i64 hi], .int .i64 u] (.tuple #[.bool o2, .int .i64 r3])) (q3 : Cf w0 59 #[.agg #[.string n, .int .i64 k, .int .i64 a, .int .i64 x, .int .i64 y, .int .i64 z, .int .i64 lo, .int .i64 hi, .slice fp fl fc], .int .i64 fm] (.int .i64 r4))  (h1 : (r1 != 0) = false) (h2 : (k == 0) = false) (h3 : (o2) = true) (h4 : (fm == 0) = false) (w : World) (gl : Gf w0 w)  : Calls Tryz.prog 24 #[.agg #[.string n, .int .i64 k, .int .i64 a, .int .i64 x, .int .i64 y, .int .i64 z, .int .i64 lo, .int .i64 hi, .slice fp fl fc], .agg #[.int .i64 fk, .bool fd, .int .i64 ft, .int .i64 fm, .slice dp dl dc], .int .i64 u] w fun r W' => r = .returned (.tuple #[.int .i64 z7, .int .i64 0]) ∧ Kb w W' := by
  have kx := Kb.refl w
  unfold Ca at q2
  unfold Cf at q1 q3
  have gl0 := Lib.hid gl
  have a1' : IntKind.i64.wrap (u - r4) = z5 := (Go.IntWalk.i64_left _).trans a1
  have a2' : IntKind.i64.wrap (-z5) = z6 := (Go.IntWalk.i64_left _).trans a2
  subst h3
  have j1 := ((Is.made w #[.string n, .int .i64 k, .int .i64 a, .int .i64 x, .int .i64 y, .int .i64 z, .int .i64 lo, .int .i64 hi, .slice fp fl fc] 28).alloc (.cells #[.int .i64 fk, .bool fd, .int .i64 ft, .int .i64 fm, .slice dp dl dc] 31 (0, 0)))
  have f2 := j1.c (i := 0) rfl
  have f3 := j1.c (i := 1) rfl
  have f4 := j1.c (i := 2) rfl
  have f5 := j1.c (i := 3) rfl
  have f6 := j1.c (i := 4) rfl
  have f7 := j1.c (i := 5) rfl
  have f8 := j1.c (i := 6) rfl
  have f9 := j1.c (i := 7) rfl
  have f10 := j1.c (i := 8) rfl
  have j11 := (Is.made (w.alloc (.cells #[.string n, .int .i64 k, .int .i64 a, .int .i64 x, .int .i64 y, .int .i64 z, .int .i64 lo, .int .i64 hi, .slice fp fl fc] 28 (0, 0))) #[.int .i64 fk, .bool fd, .int .i64 ft, .int .i64 fm, .slice dp dl dc] 31)
  simp only [World.size_alloc] at j11
  have f12 := j11.c (i := 0) rfl
  have f13 := j11.c (i := 1) rfl
  have f14 := j11.c (i := 2) rfl
  have f15 := j11.c (i := 3) rfl
  have f16 := j11.c (i := 4) rfl
  go_enter Tryz.func24, Tryz.ntmps24
  go_wp2_with fail
  clear f2 f3 f4 f5 f6 f7 f8 f9 f10 f12 f13 f14 f15 f16
  have b1 := j1
  have b2 := j11
  replace kx := (kx.alloc (.cells #[.string n, .int .i64 k, .int .i64 a, .int .i64 x, .int .i64 y, .int .i64 z, .int .i64 lo, .int .i64 hi, .slice fp fl fc] 28 (0, 0))).alloc (.cells #[.int .i64 fk, .bool fd, .int .i64 ft, .int .i64 fm, .slice dp dl dc] 31 (0, 0))
  clear j1 j11
  replace gl := gl0.out.kb kx
  (with_reducible refine ((q1.out _ gl)).mono ?_)
  rintro r w1 ⟨rfl, k1⟩
  replace gl := gl.kb k1
  replace b1 := b1.kb k1
  replace b2 := b2.kb k1
  replace kx := kx.trans k1
  have s1 := k1.size
  simp only [World.size_alloc] at s1
  clear k1
  have f17 := b1.c (i := 1) rfl
  have f18 := b1.c (i := 6) rfl
  have f19 := b1.c (i := 7) rfl
  go_wp2_with fail
  clear f17 f18 f19
  (with_reducible refine (((q2).out _)).mono ?_)
  rintro r w2 ⟨rfl, k2⟩
  replace gl := gl.kb k2
  replace b1 := b1.kb k2
  replace b2 := b2.kb k2
  replace kx := kx.trans k2
  have s2 := k2.size
  skip
  clear k2
  have f20 := b2.c (i := 3) rfl
  have f21 := b1.c (i := 0) rfl
  have f22 := b1.c (i := 1) rfl
  have f23 := b1.c (i := 2) rfl
  have f24 := b1.c (i := 3) rfl
  have f25 := b1.c (i := 4) rfl
  have f26 := b1.c (i := 5) rfl
  have f27 := b1.c (i := 6) rfl
  have f28 := b1.c (i := 7) rfl
  have f29 := b1.c (i := 8) rfl
  go_wp2_with fail
  clear f20 f21 f22 f23 f24 f25 f26 f27 f28 f29
  (with_reducible refine ((q3.out _ gl)).mono ?_)
  rintro r w3 ⟨rfl, k3⟩
  replace gl := gl.kb k3
  replace b1 := b1.kb k3
  replace b2 := b2.kb k3
  replace kx := kx.trans k3
  have s3 := k3.size
  skip
  clear k3
  go_wp2
  go_ret2
  exact ⟨rfl, kx⟩
set_option maxRecDepth 100000 in
set_option maxHeartbeats 4000000 in
theorem fBonus_5 (w0 : World) (n : ByteArray) (k : Int) (a : Int) (x : Int) (y : Int) (z : Int) (lo : Int) (hi : Int) (fp : Option Addr) (fl : Nat) (fc : Nat) (fk : Int) (fd : Bool) (ft : Int) (fm : Int) (dp : Option Addr) (dl : Nat) (dc : Nat) (u : Int) (r1 : Int) (o2 : Bool) (r3 : Int)   (q1 : Cf w0 13 #[.agg #[.string n, .int .i64 k, .int .i64 a, .int .i64 x, .int .i64 y, .int .i64 z, .int .i64 lo, .int .i64 hi, .slice fp fl fc], .agg #[.int .i64 fk, .bool fd, .int .i64 ft, .int .i64 fm, .slice dp dl dc]] (.int .i64 r1)) (q2 : Ca 63 #[.agg #[.int .i64 lo, .int .i64 hi], .int .i64 u] (.tuple #[.bool o2, .int .i64 r3]))  (h1 : (r1 != 0) = false) (h2 : (k == 0) = false) (h3 : (o2) = false) (w : World) (gl : Gf w0 w)  : Calls Tryz.prog 24 #[.agg #[.string n, .int .i64 k, .int .i64 a, .int .i64 x, .int .i64 y, .int .i64 z, .int .i64 lo, .int .i64 hi, .slice fp fl fc], .agg #[.int .i64 fk, .bool fd, .int .i64 ft, .int .i64 fm, .slice dp dl dc], .int .i64 u] w fun r W' => r = .returned (.tuple #[.int .i64 0, .int .i64 2]) ∧ Kb w W' := by
  have kx := Kb.refl w
  unfold Ca at q2
  unfold Cf at q1
  have gl0 := Lib.hid gl
  subst h3
  have j1 := ((Is.made w #[.string n, .int .i64 k, .int .i64 a, .int .i64 x, .int .i64 y, .int .i64 z, .int .i64 lo, .int .i64 hi, .slice fp fl fc] 28).alloc (.cells #[.int .i64 fk, .bool fd, .int .i64 ft, .int .i64 fm, .slice dp dl dc] 31 (0, 0)))
  have f2 := j1.c (i := 0) rfl
  have f3 := j1.c (i := 1) rfl
  have f4 := j1.c (i := 2) rfl
  have f5 := j1.c (i := 3) rfl
  have f6 := j1.c (i := 4) rfl
  have f7 := j1.c (i := 5) rfl
  have f8 := j1.c (i := 6) rfl
  have f9 := j1.c (i := 7) rfl
  have f10 := j1.c (i := 8) rfl
  have j11 := (Is.made (w.alloc (.cells #[.string n, .int .i64 k, .int .i64 a, .int .i64 x, .int .i64 y, .int .i64 z, .int .i64 lo, .int .i64 hi, .slice fp fl fc] 28 (0, 0))) #[.int .i64 fk, .bool fd, .int .i64 ft, .int .i64 fm, .slice dp dl dc] 31)
  simp only [World.size_alloc] at j11
  have f12 := j11.c (i := 0) rfl
  have f13 := j11.c (i := 1) rfl
  have f14 := j11.c (i := 2) rfl
  have f15 := j11.c (i := 3) rfl
  have f16 := j11.c (i := 4) rfl
  go_enter Tryz.func24, Tryz.ntmps24
  go_wp2_with fail
  clear f2 f3 f4 f5 f6 f7 f8 f9 f10 f12 f13 f14 f15 f16
  have b1 := j1
  have b2 := j11
  replace kx := (kx.alloc (.cells #[.string n, .int .i64 k, .int .i64 a, .int .i64 x, .int .i64 y, .int .i64 z, .int .i64 lo, .int .i64 hi, .slice fp fl fc] 28 (0, 0))).alloc (.cells #[.int .i64 fk, .bool fd, .int .i64 ft, .int .i64 fm, .slice dp dl dc] 31 (0, 0))
  clear j1 j11
  replace gl := gl0.out.kb kx
  (with_reducible refine ((q1.out _ gl)).mono ?_)
  rintro r w1 ⟨rfl, k1⟩
  replace gl := gl.kb k1
  replace b1 := b1.kb k1
  replace b2 := b2.kb k1
  replace kx := kx.trans k1
  have s1 := k1.size
  simp only [World.size_alloc] at s1
  clear k1
  have f17 := b1.c (i := 1) rfl
  have f18 := b1.c (i := 6) rfl
  have f19 := b1.c (i := 7) rfl
  go_wp2_with fail
  clear f17 f18 f19
  (with_reducible refine (((q2).out _)).mono ?_)
  rintro r w2 ⟨rfl, k2⟩
  replace gl := gl.kb k2
  replace b1 := b1.kb k2
  replace b2 := b2.kb k2
  replace kx := kx.trans k2
  have s2 := k2.size
  skip
  clear k2
  go_wp2
  go_ret2
  exact ⟨rfl, kx⟩
set_option maxRecDepth 100000 in
theorem fBonus_any (w0 : World) (n : ByteArray) (k : Int) (a : Int) (x : Int) (y : Int) (z : Int) (lo : Int) (hi : Int) (fp : Option Addr) (fl : Nat) (fc : Nat) (fk : Int) (fd : Bool) (ft : Int) (fm : Int) (dp : Option Addr) (dl : Nat) (dc : Nat) (u : Int) (r1 : Int) (o2 : Bool) (r3 : Int) (r4 : Int) (q1 : Cf w0 13 #[.agg #[.string n, .int .i64 k, .int .i64 a, .int .i64 x, .int .i64 y, .int .i64 z, .int .i64 lo, .int .i64 hi, .slice fp fl fc], .agg #[.int .i64 fk, .bool fd, .int .i64 ft, .int .i64 fm, .slice dp dl dc]] (.int .i64 r1)) (q2 : Ca 63 #[.agg #[.int .i64 lo, .int .i64 hi], .int .i64 u] (.tuple #[.bool o2, .int .i64 r3])) (q3 : Cf w0 59 #[.agg #[.string n, .int .i64 k, .int .i64 a, .int .i64 x, .int .i64 y, .int .i64 z, .int .i64 lo, .int .i64 hi, .slice fp fl fc], .int .i64 fm] (.int .i64 r4))  : Cf w0 24 #[.agg #[.string n, .int .i64 k, .int .i64 a, .int .i64 x, .int .i64 y, .int .i64 z, .int .i64 lo, .int .i64 hi, .slice fp fl fc], .agg #[.int .i64 fk, .bool fd, .int .i64 ft, .int .i64 fm, .slice dp dl dc], .int .i64 u] (if (r1 != 0) = true then (.tuple #[.int .i64 0, .int .i64 r1]) else (if (k == 0) = true then (.tuple #[.int .i64 0, .int .i64 14]) else (if (o2) = true then (if (fm == 0) = true then (.tuple #[.int .i64 0, .int .i64 0]) else (.tuple #[.int .i64 (max (wrap64 (u - r4)) (wrap64 (-(wrap64 (u - r4))))), .int .i64 0])) else (.tuple #[.int .i64 0, .int .i64 2])))) := Lib.hid fun w gl => by
  rcases Bool.eq_false_or_eq_true (r1 != 0) with h1 | h1
  · rw [if_pos h1]
    exact fBonus_1 w0 n k a x y z lo hi fp fl fc fk fd ft fm dp dl dc u r1 q1 h1 w gl
  · rw [if_neg (by rw [h1]; decide)]
    rcases Bool.eq_false_or_eq_true (k == 0) with h2 | h2
    · rw [if_pos h2]
      exact fBonus_2 w0 n k a x y z lo hi fp fl fc fk fd ft fm dp dl dc u r1 q1 h1 h2 w gl
    · rw [if_neg (by rw [h2]; decide)]
      rcases Bool.eq_false_or_eq_true (o2) with h3 | h3
      · rw [if_pos h3]
        rcases Bool.eq_false_or_eq_true (fm == 0) with h4 | h4
        · rw [if_pos h4]
          exact fBonus_3 w0 n k a x y z lo hi fp fl fc fk fd ft fm dp dl dc u r1 o2 r3 q1 q2 h1 h2 h3 h4 w gl
        · rw [if_neg (by rw [h4]; decide)]
          exact fBonus_4 w0 n k a x y z lo hi fp fl fc fk fd ft fm dp dl dc u r1 o2 r3 r4 ((wrap64 (u - r4))) ((wrap64 (-(wrap64 (u - r4))))) ((max (wrap64 (u - r4)) (wrap64 (-(wrap64 (u - r4)))))) rfl rfl rfl q1 q2 q3 h1 h2 h3 h4 w gl
      · rw [if_neg (by rw [h3]; decide)]
        exact fBonus_5 w0 n k a x y z lo hi fp fl fc fk fd ft fm dp dl dc u r1 o2 r3 q1 q2 h1 h2 h3 w gl
end Go.Proofs.YtlimjohnimgnhaaGreatDoor
