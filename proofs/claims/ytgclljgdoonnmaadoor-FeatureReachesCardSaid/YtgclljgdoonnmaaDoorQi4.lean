/- Features: the law Reaches. -/
import Derived.Test.YtgclljgdoonnmaaDoorQi3
import Derived.Test.YtgclljgdoonnmaaDoorQg5
import Derived.Test.YtgclljgdoonnmaaDoorQg9
namespace Go.Proofs.YtgclljgdoonnmaaDoor
open Go.RowKit

set_option maxRecDepth 100000 in
set_option maxHeartbeats 4000000 in
theorem lwReaches_1 (n : ByteArray) (k : Int) (a : Int) (x : Int) (y : Int) (z : Int) (lo : Int) (hi : Int) (fp : Option Addr) (fl : Nat) (fc : Nat) (n2 : ByteArray) (k2 : Int) (a2 : Int) (x2 : Int) (y2 : Int) (z2 : Int) (lo2 : Int) (hi2 : Int) (fp2 : Option Addr) (fl2 : Nat) (fc2 : Nat) (fs : List FrT) (fs2 : List FrT) (c : Int) (r1 : Int) (r2 : Int) (r3 : Int) (o4 : Bool) (r5 : Int)   (q1 : Cg 20 #[.agg #[.string n, .int .i64 k, .int .i64 a, .int .i64 x, .int .i64 y, .int .i64 z, .int .i64 lo, .int .i64 hi, .slice fp fl fc], .int .i64 c] (.tuple #[.agg #[.int .i64 r1, .int .i64 r2], .int .i64 r3])) (q2 : Ca 21 #[.agg #[.string n, .int .i64 k, .int .i64 a, .int .i64 x, .int .i64 y, .int .i64 z, .int .i64 lo, .int .i64 hi, .slice fp fl fc], .int .i64 c] (.tuple #[.agg #[.int .i64 r1, .int .i64 r2], .int .i64 r3])) (q3 : Cg 22 #[.agg #[.string n, .int .i64 k, .int .i64 a, .int .i64 x, .int .i64 y, .int .i64 z, .int .i64 lo, .int .i64 hi, .slice fp fl fc], .agg #[.string n2, .int .i64 k2, .int .i64 a2, .int .i64 x2, .int .i64 y2, .int .i64 z2, .int .i64 lo2, .int .i64 hi2, .slice fp2 fl2 fc2]] (.tuple #[.bool o4, .int .i64 r5])) (q4 : Ca 23 #[.agg #[.string n, .int .i64 k, .int .i64 a, .int .i64 x, .int .i64 y, .int .i64 z, .int .i64 lo, .int .i64 hi, .slice fp fl fc], .agg #[.string n2, .int .i64 k2, .int .i64 a2, .int .i64 x2, .int .i64 y2, .int .i64 z2, .int .i64 lo2, .int .i64 hi2, .slice fp2 fl2 fc2]] (.tuple #[.bool o4, .int .i64 r5]))  (h1 : (fewB n fs) = true) (h2 : (fewB n2 fs2) = true) (w : World) (gl : Gl w) (fr : FrS w (.slice fp fl fc) fs) (fr2 : FrS w (.slice fp2 fl2 fc2) fs2)  : Calls Tryd.prog 4 #[.agg #[.string n, .int .i64 k, .int .i64 a, .int .i64 x, .int .i64 y, .int .i64 z, .int .i64 lo, .int .i64 hi, .slice fp fl fc], .agg #[.string n2, .int .i64 k2, .int .i64 a2, .int .i64 x2, .int .i64 y2, .int .i64 z2, .int .i64 lo2, .int .i64 hi2, .slice fp2 fl2 fc2], .int .i64 c] w fun r W' => r = .returned (.bool true) ∧ Kb w W' := by
  have kx := Kb.refl w
  unfold Ca at q2 q4
  unfold Cg at q1 q3
  have f1 := ((Is.made w #[.string n, .int .i64 k, .int .i64 a, .int .i64 x, .int .i64 y, .int .i64 z, .int .i64 lo, .int .i64 hi, .slice fp fl fc] 28).alloc (.cells #[.string n2, .int .i64 k2, .int .i64 a2, .int .i64 x2, .int .i64 y2, .int .i64 z2, .int .i64 lo2, .int .i64 hi2, .slice fp2 fl2 fc2] 28 (0, 0))).c (i := 0) rfl
  have f2 := ((Is.made w #[.string n, .int .i64 k, .int .i64 a, .int .i64 x, .int .i64 y, .int .i64 z, .int .i64 lo, .int .i64 hi, .slice fp fl fc] 28).alloc (.cells #[.string n2, .int .i64 k2, .int .i64 a2, .int .i64 x2, .int .i64 y2, .int .i64 z2, .int .i64 lo2, .int .i64 hi2, .slice fp2 fl2 fc2] 28 (0, 0))).c (i := 1) rfl
  have f3 := ((Is.made w #[.string n, .int .i64 k, .int .i64 a, .int .i64 x, .int .i64 y, .int .i64 z, .int .i64 lo, .int .i64 hi, .slice fp fl fc] 28).alloc (.cells #[.string n2, .int .i64 k2, .int .i64 a2, .int .i64 x2, .int .i64 y2, .int .i64 z2, .int .i64 lo2, .int .i64 hi2, .slice fp2 fl2 fc2] 28 (0, 0))).c (i := 2) rfl
  have f4 := ((Is.made w #[.string n, .int .i64 k, .int .i64 a, .int .i64 x, .int .i64 y, .int .i64 z, .int .i64 lo, .int .i64 hi, .slice fp fl fc] 28).alloc (.cells #[.string n2, .int .i64 k2, .int .i64 a2, .int .i64 x2, .int .i64 y2, .int .i64 z2, .int .i64 lo2, .int .i64 hi2, .slice fp2 fl2 fc2] 28 (0, 0))).c (i := 3) rfl
  have f5 := ((Is.made w #[.string n, .int .i64 k, .int .i64 a, .int .i64 x, .int .i64 y, .int .i64 z, .int .i64 lo, .int .i64 hi, .slice fp fl fc] 28).alloc (.cells #[.string n2, .int .i64 k2, .int .i64 a2, .int .i64 x2, .int .i64 y2, .int .i64 z2, .int .i64 lo2, .int .i64 hi2, .slice fp2 fl2 fc2] 28 (0, 0))).c (i := 4) rfl
  have f6 := ((Is.made w #[.string n, .int .i64 k, .int .i64 a, .int .i64 x, .int .i64 y, .int .i64 z, .int .i64 lo, .int .i64 hi, .slice fp fl fc] 28).alloc (.cells #[.string n2, .int .i64 k2, .int .i64 a2, .int .i64 x2, .int .i64 y2, .int .i64 z2, .int .i64 lo2, .int .i64 hi2, .slice fp2 fl2 fc2] 28 (0, 0))).c (i := 5) rfl
  have f7 := ((Is.made w #[.string n, .int .i64 k, .int .i64 a, .int .i64 x, .int .i64 y, .int .i64 z, .int .i64 lo, .int .i64 hi, .slice fp fl fc] 28).alloc (.cells #[.string n2, .int .i64 k2, .int .i64 a2, .int .i64 x2, .int .i64 y2, .int .i64 z2, .int .i64 lo2, .int .i64 hi2, .slice fp2 fl2 fc2] 28 (0, 0))).c (i := 6) rfl
  have f8 := ((Is.made w #[.string n, .int .i64 k, .int .i64 a, .int .i64 x, .int .i64 y, .int .i64 z, .int .i64 lo, .int .i64 hi, .slice fp fl fc] 28).alloc (.cells #[.string n2, .int .i64 k2, .int .i64 a2, .int .i64 x2, .int .i64 y2, .int .i64 z2, .int .i64 lo2, .int .i64 hi2, .slice fp2 fl2 fc2] 28 (0, 0))).c (i := 7) rfl
  have f9 := ((Is.made w #[.string n, .int .i64 k, .int .i64 a, .int .i64 x, .int .i64 y, .int .i64 z, .int .i64 lo, .int .i64 hi, .slice fp fl fc] 28).alloc (.cells #[.string n2, .int .i64 k2, .int .i64 a2, .int .i64 x2, .int .i64 y2, .int .i64 z2, .int .i64 lo2, .int .i64 hi2, .slice fp2 fl2 fc2] 28 (0, 0))).c (i := 8) rfl
  go_enter Tryd.func4, Tryd.ntmps4
  go_wp2_with fail
  clear f1 f2 f3 f4 f5 f6 f7 f8 f9
  replace fr := ((fr.alloc (.cells #[.string n, .int .i64 k, .int .i64 a, .int .i64 x, .int .i64 y, .int .i64 z, .int .i64 lo, .int .i64 hi, .slice fp fl fc] 28 (0, 0))).alloc (.cells #[.string n2, .int .i64 k2, .int .i64 a2, .int .i64 x2, .int .i64 y2, .int .i64 z2, .int .i64 lo2, .int .i64 hi2, .slice fp2 fl2 fc2] 28 (0, 0)))
  replace fr2 := ((fr2.alloc (.cells #[.string n, .int .i64 k, .int .i64 a, .int .i64 x, .int .i64 y, .int .i64 z, .int .i64 lo, .int .i64 hi, .slice fp fl fc] 28 (0, 0))).alloc (.cells #[.string n2, .int .i64 k2, .int .i64 a2, .int .i64 x2, .int .i64 y2, .int .i64 z2, .int .i64 lo2, .int .i64 hi2, .slice fp2 fl2 fc2] 28 (0, 0)))
  replace gl := ((gl.alloc (.cells #[.string n, .int .i64 k, .int .i64 a, .int .i64 x, .int .i64 y, .int .i64 z, .int .i64 lo, .int .i64 hi, .slice fp fl fc] 28 (0, 0))).alloc (.cells #[.string n2, .int .i64 k2, .int .i64 a2, .int .i64 x2, .int .i64 y2, .int .i64 z2, .int .i64 lo2, .int .i64 hi2, .slice fp2 fl2 fc2] 28 (0, 0)))
  have b1 := Is.made w #[.string n, .int .i64 k, .int .i64 a, .int .i64 x, .int .i64 y, .int .i64 z, .int .i64 lo, .int .i64 hi, .slice fp fl fc] 28
  replace b1 := (b1.alloc (.cells #[.string n2, .int .i64 k2, .int .i64 a2, .int .i64 x2, .int .i64 y2, .int .i64 z2, .int .i64 lo2, .int .i64 hi2, .slice fp2 fl2 fc2] 28 (0, 0)))
  have b2 := Is.made (w.alloc (.cells #[.string n, .int .i64 k, .int .i64 a, .int .i64 x, .int .i64 y, .int .i64 z, .int .i64 lo, .int .i64 hi, .slice fp fl fc] 28 (0, 0))) #[.string n2, .int .i64 k2, .int .i64 a2, .int .i64 x2, .int .i64 y2, .int .i64 z2, .int .i64 lo2, .int .i64 hi2, .slice fp2 fl2 fc2] 28
  simp only [World.size_alloc] at b2
  replace kx := kx.alloc (.cells #[.string n, .int .i64 k, .int .i64 a, .int .i64 x, .int .i64 y, .int .i64 z, .int .i64 lo, .int .i64 hi, .slice fp fl fc] 28 (0, 0))
  replace kx := kx.alloc (.cells #[.string n2, .int .i64 k2, .int .i64 a2, .int .i64 x2, .int .i64 y2, .int .i64 z2, .int .i64 lo2, .int .i64 hi2, .slice fp2 fl2 fc2] 28 (0, 0))
  (with_reducible refine (rFew n k a x y z lo hi fp fl fc fs _ fr).mono ?_)
  rintro r w1 ⟨rfl, k1⟩
  replace fr := fr.kb k1
  replace fr2 := fr2.kb k1
  replace gl := gl.kb k1
  replace b1 := b1.kb k1
  replace b2 := b2.kb k1
  replace kx := kx.trans k1
  have s1 := k1.size
  simp only [World.size_alloc] at s1
  clear k1
  have f10 := b2.c (i := 0) rfl
  have f11 := b2.c (i := 1) rfl
  have f12 := b2.c (i := 2) rfl
  have f13 := b2.c (i := 3) rfl
  have f14 := b2.c (i := 4) rfl
  have f15 := b2.c (i := 5) rfl
  have f16 := b2.c (i := 6) rfl
  have f17 := b2.c (i := 7) rfl
  have f18 := b2.c (i := 8) rfl
  go_wp2_with fail
  clear f10 f11 f12 f13 f14 f15 f16 f17 f18
  (with_reducible refine (rFew n2 k2 a2 x2 y2 z2 lo2 hi2 fp2 fl2 fc2 fs2 _ fr2).mono ?_)
  rintro r w2 ⟨rfl, k2⟩
  replace fr := fr.kb k2
  replace fr2 := fr2.kb k2
  replace gl := gl.kb k2
  replace b1 := b1.kb k2
  replace b2 := b2.kb k2
  replace kx := kx.trans k2
  have s2 := k2.size
  skip
  clear k2
  have f19 := b1.c (i := 0) rfl
  have f20 := b1.c (i := 1) rfl
  have f21 := b1.c (i := 2) rfl
  have f22 := b1.c (i := 3) rfl
  have f23 := b1.c (i := 4) rfl
  have f24 := b1.c (i := 5) rfl
  have f25 := b1.c (i := 6) rfl
  have f26 := b1.c (i := 7) rfl
  have f27 := b1.c (i := 8) rfl
  go_wp2_with fail
  clear f19 f20 f21 f22 f23 f24 f25 f26 f27
  (with_reducible refine ((q1.out _ gl)).mono ?_)
  rintro r w3 ⟨rfl, k3⟩
  replace fr := fr.kb k3
  replace fr2 := fr2.kb k3
  replace gl := gl.kb k3
  replace b1 := b1.kb k3
  replace b2 := b2.kb k3
  replace kx := kx.trans k3
  have s3 := k3.size
  skip
  clear k3
  have f28 := (b1.alloc (.cells #[.int .i64 r1, .int .i64 r2] 25 (0, 0))).c (i := 0) rfl
  have f29 := (b1.alloc (.cells #[.int .i64 r1, .int .i64 r2] 25 (0, 0))).c (i := 1) rfl
  have f30 := (b1.alloc (.cells #[.int .i64 r1, .int .i64 r2] 25 (0, 0))).c (i := 2) rfl
  have f31 := (b1.alloc (.cells #[.int .i64 r1, .int .i64 r2] 25 (0, 0))).c (i := 3) rfl
  have f32 := (b1.alloc (.cells #[.int .i64 r1, .int .i64 r2] 25 (0, 0))).c (i := 4) rfl
  have f33 := (b1.alloc (.cells #[.int .i64 r1, .int .i64 r2] 25 (0, 0))).c (i := 5) rfl
  have f34 := (b1.alloc (.cells #[.int .i64 r1, .int .i64 r2] 25 (0, 0))).c (i := 6) rfl
  have f35 := (b1.alloc (.cells #[.int .i64 r1, .int .i64 r2] 25 (0, 0))).c (i := 7) rfl
  have f36 := (b1.alloc (.cells #[.int .i64 r1, .int .i64 r2] 25 (0, 0))).c (i := 8) rfl
  go_wp2_with fail
  clear f28 f29 f30 f31 f32 f33 f34 f35 f36
  replace fr := (fr.alloc (.cells #[.int .i64 r1, .int .i64 r2] 25 (0, 0)))
  replace fr2 := (fr2.alloc (.cells #[.int .i64 r1, .int .i64 r2] 25 (0, 0)))
  replace gl := (gl.alloc (.cells #[.int .i64 r1, .int .i64 r2] 25 (0, 0)))
  replace b1 := (b1.alloc (.cells #[.int .i64 r1, .int .i64 r2] 25 (0, 0)))
  replace b2 := (b2.alloc (.cells #[.int .i64 r1, .int .i64 r2] 25 (0, 0)))
  have b3 := Is.made w3 #[.int .i64 r1, .int .i64 r2] 25
  replace kx := kx.alloc (.cells #[.int .i64 r1, .int .i64 r2] 25 (0, 0))
  (with_reducible refine (((q2).out _)).mono ?_)
  rintro r w4 ⟨rfl, k4⟩
  replace fr := fr.kb k4
  replace fr2 := fr2.kb k4
  replace gl := gl.kb k4
  replace b1 := b1.kb k4
  replace b2 := b2.kb k4
  replace b3 := b3.kb k4
  replace kx := kx.trans k4
  have s4 := k4.size
  simp only [World.size_alloc] at s4
  clear k4
  have f37 := (b1.alloc (.cells #[.int .i64 r1, .int .i64 r2] 25 (0, 0))).c (i := 0) rfl
  have f38 := (b1.alloc (.cells #[.int .i64 r1, .int .i64 r2] 25 (0, 0))).c (i := 1) rfl
  have f39 := (b1.alloc (.cells #[.int .i64 r1, .int .i64 r2] 25 (0, 0))).c (i := 2) rfl
  have f40 := (b1.alloc (.cells #[.int .i64 r1, .int .i64 r2] 25 (0, 0))).c (i := 3) rfl
  have f41 := (b1.alloc (.cells #[.int .i64 r1, .int .i64 r2] 25 (0, 0))).c (i := 4) rfl
  have f42 := (b1.alloc (.cells #[.int .i64 r1, .int .i64 r2] 25 (0, 0))).c (i := 5) rfl
  have f43 := (b1.alloc (.cells #[.int .i64 r1, .int .i64 r2] 25 (0, 0))).c (i := 6) rfl
  have f44 := (b1.alloc (.cells #[.int .i64 r1, .int .i64 r2] 25 (0, 0))).c (i := 7) rfl
  have f45 := (b1.alloc (.cells #[.int .i64 r1, .int .i64 r2] 25 (0, 0))).c (i := 8) rfl
  have f46 := (b2.alloc (.cells #[.int .i64 r1, .int .i64 r2] 25 (0, 0))).c (i := 0) rfl
  have f47 := (b2.alloc (.cells #[.int .i64 r1, .int .i64 r2] 25 (0, 0))).c (i := 1) rfl
  have f48 := (b2.alloc (.cells #[.int .i64 r1, .int .i64 r2] 25 (0, 0))).c (i := 2) rfl
  have f49 := (b2.alloc (.cells #[.int .i64 r1, .int .i64 r2] 25 (0, 0))).c (i := 3) rfl
  have f50 := (b2.alloc (.cells #[.int .i64 r1, .int .i64 r2] 25 (0, 0))).c (i := 4) rfl
  have f51 := (b2.alloc (.cells #[.int .i64 r1, .int .i64 r2] 25 (0, 0))).c (i := 5) rfl
  have f52 := (b2.alloc (.cells #[.int .i64 r1, .int .i64 r2] 25 (0, 0))).c (i := 6) rfl
  have f53 := (b2.alloc (.cells #[.int .i64 r1, .int .i64 r2] 25 (0, 0))).c (i := 7) rfl
  have f54 := (b2.alloc (.cells #[.int .i64 r1, .int .i64 r2] 25 (0, 0))).c (i := 8) rfl
  go_wp2_with fail
  clear f37 f38 f39 f40 f41 f42 f43 f44 f45 f46 f47 f48 f49 f50 f51 f52 f53 f54
  replace fr := (fr.alloc (.cells #[.int .i64 r1, .int .i64 r2] 25 (0, 0)))
  replace fr2 := (fr2.alloc (.cells #[.int .i64 r1, .int .i64 r2] 25 (0, 0)))
  replace gl := (gl.alloc (.cells #[.int .i64 r1, .int .i64 r2] 25 (0, 0)))
  replace b1 := (b1.alloc (.cells #[.int .i64 r1, .int .i64 r2] 25 (0, 0)))
  replace b2 := (b2.alloc (.cells #[.int .i64 r1, .int .i64 r2] 25 (0, 0)))
  replace b3 := (b3.alloc (.cells #[.int .i64 r1, .int .i64 r2] 25 (0, 0)))
  have b4 := Is.made w4 #[.int .i64 r1, .int .i64 r2] 25
  replace kx := kx.alloc (.cells #[.int .i64 r1, .int .i64 r2] 25 (0, 0))
  (with_reducible refine ((q3.out _ gl)).mono ?_)
  rintro r w5 ⟨rfl, k5⟩
  replace fr := fr.kb k5
  replace fr2 := fr2.kb k5
  replace gl := gl.kb k5
  replace b1 := b1.kb k5
  replace b2 := b2.kb k5
  replace b3 := b3.kb k5
  replace b4 := b4.kb k5
  replace kx := kx.trans k5
  have s5 := k5.size
  simp only [World.size_alloc] at s5
  clear k5
  have f55 := b1.c (i := 0) rfl
  have f56 := b1.c (i := 1) rfl
  have f57 := b1.c (i := 2) rfl
  have f58 := b1.c (i := 3) rfl
  have f59 := b1.c (i := 4) rfl
  have f60 := b1.c (i := 5) rfl
  have f61 := b1.c (i := 6) rfl
  have f62 := b1.c (i := 7) rfl
  have f63 := b1.c (i := 8) rfl
  have f64 := b2.c (i := 0) rfl
  have f65 := b2.c (i := 1) rfl
  have f66 := b2.c (i := 2) rfl
  have f67 := b2.c (i := 3) rfl
  have f68 := b2.c (i := 4) rfl
  have f69 := b2.c (i := 5) rfl
  have f70 := b2.c (i := 6) rfl
  have f71 := b2.c (i := 7) rfl
  have f72 := b2.c (i := 8) rfl
  go_wp2_with fail
  clear f55 f56 f57 f58 f59 f60 f61 f62 f63 f64 f65 f66 f67 f68 f69 f70 f71 f72
  (with_reducible refine (((q4).out _)).mono ?_)
  rintro r w6 ⟨rfl, k6⟩
  replace fr := fr.kb k6
  replace fr2 := fr2.kb k6
  replace gl := gl.kb k6
  replace b1 := b1.kb k6
  replace b2 := b2.kb k6
  replace b3 := b3.kb k6
  replace b4 := b4.kb k6
  replace kx := kx.trans k6
  have s6 := k6.size
  skip
  clear k6
  go_wp2_with fail
  (with_reducible refine ((Cg.out awake_any _ gl)).mono ?_)
  rintro r w7 ⟨rfl, k7⟩
  replace fr := fr.kb k7
  replace fr2 := fr2.kb k7
  replace gl := gl.kb k7
  replace b1 := b1.kb k7
  replace b2 := b2.kb k7
  replace b3 := b3.kb k7
  replace b4 := b4.kb k7
  replace kx := kx.trans k7
  have s7 := k7.size
  skip
  clear k7
  have f73 := b3.c (i := 0) rfl
  have f74 := b3.c (i := 1) rfl
  have f75 := b4.c (i := 0) rfl
  have f76 := b4.c (i := 1) rfl
  go_wp2
  go_ret
  clear f73 f74 f75 f76
  exact ⟨rfl, kx⟩
set_option maxRecDepth 100000 in
set_option maxHeartbeats 4000000 in
theorem lwReaches_2 (n : ByteArray) (k : Int) (a : Int) (x : Int) (y : Int) (z : Int) (lo : Int) (hi : Int) (fp : Option Addr) (fl : Nat) (fc : Nat) (n2 : ByteArray) (k2 : Int) (a2 : Int) (x2 : Int) (y2 : Int) (z2 : Int) (lo2 : Int) (hi2 : Int) (fp2 : Option Addr) (fl2 : Nat) (fc2 : Nat) (fs : List FrT) (fs2 : List FrT) (c : Int)      (h1 : (fewB n fs) = true) (h2 : (fewB n2 fs2) = false) (w : World) (gl : Gl w) (fr : FrS w (.slice fp fl fc) fs) (fr2 : FrS w (.slice fp2 fl2 fc2) fs2)  : Calls Tryd.prog 4 #[.agg #[.string n, .int .i64 k, .int .i64 a, .int .i64 x, .int .i64 y, .int .i64 z, .int .i64 lo, .int .i64 hi, .slice fp fl fc], .agg #[.string n2, .int .i64 k2, .int .i64 a2, .int .i64 x2, .int .i64 y2, .int .i64 z2, .int .i64 lo2, .int .i64 hi2, .slice fp2 fl2 fc2], .int .i64 c] w fun r W' => r = .returned (.bool true) ∧ Kb w W' := by
  have kx := Kb.refl w
  have f1 := ((Is.made w #[.string n, .int .i64 k, .int .i64 a, .int .i64 x, .int .i64 y, .int .i64 z, .int .i64 lo, .int .i64 hi, .slice fp fl fc] 28).alloc (.cells #[.string n2, .int .i64 k2, .int .i64 a2, .int .i64 x2, .int .i64 y2, .int .i64 z2, .int .i64 lo2, .int .i64 hi2, .slice fp2 fl2 fc2] 28 (0, 0))).c (i := 0) rfl
  have f2 := ((Is.made w #[.string n, .int .i64 k, .int .i64 a, .int .i64 x, .int .i64 y, .int .i64 z, .int .i64 lo, .int .i64 hi, .slice fp fl fc] 28).alloc (.cells #[.string n2, .int .i64 k2, .int .i64 a2, .int .i64 x2, .int .i64 y2, .int .i64 z2, .int .i64 lo2, .int .i64 hi2, .slice fp2 fl2 fc2] 28 (0, 0))).c (i := 1) rfl
  have f3 := ((Is.made w #[.string n, .int .i64 k, .int .i64 a, .int .i64 x, .int .i64 y, .int .i64 z, .int .i64 lo, .int .i64 hi, .slice fp fl fc] 28).alloc (.cells #[.string n2, .int .i64 k2, .int .i64 a2, .int .i64 x2, .int .i64 y2, .int .i64 z2, .int .i64 lo2, .int .i64 hi2, .slice fp2 fl2 fc2] 28 (0, 0))).c (i := 2) rfl
  have f4 := ((Is.made w #[.string n, .int .i64 k, .int .i64 a, .int .i64 x, .int .i64 y, .int .i64 z, .int .i64 lo, .int .i64 hi, .slice fp fl fc] 28).alloc (.cells #[.string n2, .int .i64 k2, .int .i64 a2, .int .i64 x2, .int .i64 y2, .int .i64 z2, .int .i64 lo2, .int .i64 hi2, .slice fp2 fl2 fc2] 28 (0, 0))).c (i := 3) rfl
  have f5 := ((Is.made w #[.string n, .int .i64 k, .int .i64 a, .int .i64 x, .int .i64 y, .int .i64 z, .int .i64 lo, .int .i64 hi, .slice fp fl fc] 28).alloc (.cells #[.string n2, .int .i64 k2, .int .i64 a2, .int .i64 x2, .int .i64 y2, .int .i64 z2, .int .i64 lo2, .int .i64 hi2, .slice fp2 fl2 fc2] 28 (0, 0))).c (i := 4) rfl
  have f6 := ((Is.made w #[.string n, .int .i64 k, .int .i64 a, .int .i64 x, .int .i64 y, .int .i64 z, .int .i64 lo, .int .i64 hi, .slice fp fl fc] 28).alloc (.cells #[.string n2, .int .i64 k2, .int .i64 a2, .int .i64 x2, .int .i64 y2, .int .i64 z2, .int .i64 lo2, .int .i64 hi2, .slice fp2 fl2 fc2] 28 (0, 0))).c (i := 5) rfl
  have f7 := ((Is.made w #[.string n, .int .i64 k, .int .i64 a, .int .i64 x, .int .i64 y, .int .i64 z, .int .i64 lo, .int .i64 hi, .slice fp fl fc] 28).alloc (.cells #[.string n2, .int .i64 k2, .int .i64 a2, .int .i64 x2, .int .i64 y2, .int .i64 z2, .int .i64 lo2, .int .i64 hi2, .slice fp2 fl2 fc2] 28 (0, 0))).c (i := 6) rfl
  have f8 := ((Is.made w #[.string n, .int .i64 k, .int .i64 a, .int .i64 x, .int .i64 y, .int .i64 z, .int .i64 lo, .int .i64 hi, .slice fp fl fc] 28).alloc (.cells #[.string n2, .int .i64 k2, .int .i64 a2, .int .i64 x2, .int .i64 y2, .int .i64 z2, .int .i64 lo2, .int .i64 hi2, .slice fp2 fl2 fc2] 28 (0, 0))).c (i := 7) rfl
  have f9 := ((Is.made w #[.string n, .int .i64 k, .int .i64 a, .int .i64 x, .int .i64 y, .int .i64 z, .int .i64 lo, .int .i64 hi, .slice fp fl fc] 28).alloc (.cells #[.string n2, .int .i64 k2, .int .i64 a2, .int .i64 x2, .int .i64 y2, .int .i64 z2, .int .i64 lo2, .int .i64 hi2, .slice fp2 fl2 fc2] 28 (0, 0))).c (i := 8) rfl
  go_enter Tryd.func4, Tryd.ntmps4
  go_wp2_with fail
  clear f1 f2 f3 f4 f5 f6 f7 f8 f9
  replace fr := ((fr.alloc (.cells #[.string n, .int .i64 k, .int .i64 a, .int .i64 x, .int .i64 y, .int .i64 z, .int .i64 lo, .int .i64 hi, .slice fp fl fc] 28 (0, 0))).alloc (.cells #[.string n2, .int .i64 k2, .int .i64 a2, .int .i64 x2, .int .i64 y2, .int .i64 z2, .int .i64 lo2, .int .i64 hi2, .slice fp2 fl2 fc2] 28 (0, 0)))
  replace fr2 := ((fr2.alloc (.cells #[.string n, .int .i64 k, .int .i64 a, .int .i64 x, .int .i64 y, .int .i64 z, .int .i64 lo, .int .i64 hi, .slice fp fl fc] 28 (0, 0))).alloc (.cells #[.string n2, .int .i64 k2, .int .i64 a2, .int .i64 x2, .int .i64 y2, .int .i64 z2, .int .i64 lo2, .int .i64 hi2, .slice fp2 fl2 fc2] 28 (0, 0)))
  replace gl := ((gl.alloc (.cells #[.string n, .int .i64 k, .int .i64 a, .int .i64 x, .int .i64 y, .int .i64 z, .int .i64 lo, .int .i64 hi, .slice fp fl fc] 28 (0, 0))).alloc (.cells #[.string n2, .int .i64 k2, .int .i64 a2, .int .i64 x2, .int .i64 y2, .int .i64 z2, .int .i64 lo2, .int .i64 hi2, .slice fp2 fl2 fc2] 28 (0, 0)))
  have b1 := Is.made w #[.string n, .int .i64 k, .int .i64 a, .int .i64 x, .int .i64 y, .int .i64 z, .int .i64 lo, .int .i64 hi, .slice fp fl fc] 28
  replace b1 := (b1.alloc (.cells #[.string n2, .int .i64 k2, .int .i64 a2, .int .i64 x2, .int .i64 y2, .int .i64 z2, .int .i64 lo2, .int .i64 hi2, .slice fp2 fl2 fc2] 28 (0, 0)))
  have b2 := Is.made (w.alloc (.cells #[.string n, .int .i64 k, .int .i64 a, .int .i64 x, .int .i64 y, .int .i64 z, .int .i64 lo, .int .i64 hi, .slice fp fl fc] 28 (0, 0))) #[.string n2, .int .i64 k2, .int .i64 a2, .int .i64 x2, .int .i64 y2, .int .i64 z2, .int .i64 lo2, .int .i64 hi2, .slice fp2 fl2 fc2] 28
  simp only [World.size_alloc] at b2
  replace kx := kx.alloc (.cells #[.string n, .int .i64 k, .int .i64 a, .int .i64 x, .int .i64 y, .int .i64 z, .int .i64 lo, .int .i64 hi, .slice fp fl fc] 28 (0, 0))
  replace kx := kx.alloc (.cells #[.string n2, .int .i64 k2, .int .i64 a2, .int .i64 x2, .int .i64 y2, .int .i64 z2, .int .i64 lo2, .int .i64 hi2, .slice fp2 fl2 fc2] 28 (0, 0))
  (with_reducible refine (rFew n k a x y z lo hi fp fl fc fs _ fr).mono ?_)
  rintro r w1 ⟨rfl, k1⟩
  replace fr := fr.kb k1
  replace fr2 := fr2.kb k1
  replace gl := gl.kb k1
  replace b1 := b1.kb k1
  replace b2 := b2.kb k1
  replace kx := kx.trans k1
  have s1 := k1.size
  simp only [World.size_alloc] at s1
  clear k1
  have f10 := b2.c (i := 0) rfl
  have f11 := b2.c (i := 1) rfl
  have f12 := b2.c (i := 2) rfl
  have f13 := b2.c (i := 3) rfl
  have f14 := b2.c (i := 4) rfl
  have f15 := b2.c (i := 5) rfl
  have f16 := b2.c (i := 6) rfl
  have f17 := b2.c (i := 7) rfl
  have f18 := b2.c (i := 8) rfl
  go_wp2_with fail
  clear f10 f11 f12 f13 f14 f15 f16 f17 f18
  (with_reducible refine (rFew n2 k2 a2 x2 y2 z2 lo2 hi2 fp2 fl2 fc2 fs2 _ fr2).mono ?_)
  rintro r w2 ⟨rfl, k2⟩
  replace fr := fr.kb k2
  replace fr2 := fr2.kb k2
  replace gl := gl.kb k2
  replace b1 := b1.kb k2
  replace b2 := b2.kb k2
  replace kx := kx.trans k2
  have s2 := k2.size
  skip
  clear k2
  go_wp2_with fail
  (with_reducible refine ((Cg.out awake_any _ gl)).mono ?_)
  rintro r w3 ⟨rfl, k3⟩
  replace fr := fr.kb k3
  replace fr2 := fr2.kb k3
  replace gl := gl.kb k3
  replace b1 := b1.kb k3
  replace b2 := b2.kb k3
  replace kx := kx.trans k3
  have s3 := k3.size
  skip
  clear k3
  go_wp2
  go_ret
  exact ⟨rfl, kx⟩
set_option maxRecDepth 100000 in
set_option maxHeartbeats 4000000 in
theorem lwReaches_3 (n : ByteArray) (k : Int) (a : Int) (x : Int) (y : Int) (z : Int) (lo : Int) (hi : Int) (fp : Option Addr) (fl : Nat) (fc : Nat) (n2 : ByteArray) (k2 : Int) (a2 : Int) (x2 : Int) (y2 : Int) (z2 : Int) (lo2 : Int) (hi2 : Int) (fp2 : Option Addr) (fl2 : Nat) (fc2 : Nat) (fs : List FrT) (fs2 : List FrT) (c : Int)      (h1 : (fewB n fs) = false) (w : World) (gl : Gl w) (fr : FrS w (.slice fp fl fc) fs) (fr2 : FrS w (.slice fp2 fl2 fc2) fs2)  : Calls Tryd.prog 4 #[.agg #[.string n, .int .i64 k, .int .i64 a, .int .i64 x, .int .i64 y, .int .i64 z, .int .i64 lo, .int .i64 hi, .slice fp fl fc], .agg #[.string n2, .int .i64 k2, .int .i64 a2, .int .i64 x2, .int .i64 y2, .int .i64 z2, .int .i64 lo2, .int .i64 hi2, .slice fp2 fl2 fc2], .int .i64 c] w fun r W' => r = .returned (.bool true) ∧ Kb w W' := by
  have kx := Kb.refl w
  have f1 := ((Is.made w #[.string n, .int .i64 k, .int .i64 a, .int .i64 x, .int .i64 y, .int .i64 z, .int .i64 lo, .int .i64 hi, .slice fp fl fc] 28).alloc (.cells #[.string n2, .int .i64 k2, .int .i64 a2, .int .i64 x2, .int .i64 y2, .int .i64 z2, .int .i64 lo2, .int .i64 hi2, .slice fp2 fl2 fc2] 28 (0, 0))).c (i := 0) rfl
  have f2 := ((Is.made w #[.string n, .int .i64 k, .int .i64 a, .int .i64 x, .int .i64 y, .int .i64 z, .int .i64 lo, .int .i64 hi, .slice fp fl fc] 28).alloc (.cells #[.string n2, .int .i64 k2, .int .i64 a2, .int .i64 x2, .int .i64 y2, .int .i64 z2, .int .i64 lo2, .int .i64 hi2, .slice fp2 fl2 fc2] 28 (0, 0))).c (i := 1) rfl
  have f3 := ((Is.made w #[.string n, .int .i64 k, .int .i64 a, .int .i64 x, .int .i64 y, .int .i64 z, .int .i64 lo, .int .i64 hi, .slice fp fl fc] 28).alloc (.cells #[.string n2, .int .i64 k2, .int .i64 a2, .int .i64 x2, .int .i64 y2, .int .i64 z2, .int .i64 lo2, .int .i64 hi2, .slice fp2 fl2 fc2] 28 (0, 0))).c (i := 2) rfl
  have f4 := ((Is.made w #[.string n, .int .i64 k, .int .i64 a, .int .i64 x, .int .i64 y, .int .i64 z, .int .i64 lo, .int .i64 hi, .slice fp fl fc] 28).alloc (.cells #[.string n2, .int .i64 k2, .int .i64 a2, .int .i64 x2, .int .i64 y2, .int .i64 z2, .int .i64 lo2, .int .i64 hi2, .slice fp2 fl2 fc2] 28 (0, 0))).c (i := 3) rfl
  have f5 := ((Is.made w #[.string n, .int .i64 k, .int .i64 a, .int .i64 x, .int .i64 y, .int .i64 z, .int .i64 lo, .int .i64 hi, .slice fp fl fc] 28).alloc (.cells #[.string n2, .int .i64 k2, .int .i64 a2, .int .i64 x2, .int .i64 y2, .int .i64 z2, .int .i64 lo2, .int .i64 hi2, .slice fp2 fl2 fc2] 28 (0, 0))).c (i := 4) rfl
  have f6 := ((Is.made w #[.string n, .int .i64 k, .int .i64 a, .int .i64 x, .int .i64 y, .int .i64 z, .int .i64 lo, .int .i64 hi, .slice fp fl fc] 28).alloc (.cells #[.string n2, .int .i64 k2, .int .i64 a2, .int .i64 x2, .int .i64 y2, .int .i64 z2, .int .i64 lo2, .int .i64 hi2, .slice fp2 fl2 fc2] 28 (0, 0))).c (i := 5) rfl
  have f7 := ((Is.made w #[.string n, .int .i64 k, .int .i64 a, .int .i64 x, .int .i64 y, .int .i64 z, .int .i64 lo, .int .i64 hi, .slice fp fl fc] 28).alloc (.cells #[.string n2, .int .i64 k2, .int .i64 a2, .int .i64 x2, .int .i64 y2, .int .i64 z2, .int .i64 lo2, .int .i64 hi2, .slice fp2 fl2 fc2] 28 (0, 0))).c (i := 6) rfl
  have f8 := ((Is.made w #[.string n, .int .i64 k, .int .i64 a, .int .i64 x, .int .i64 y, .int .i64 z, .int .i64 lo, .int .i64 hi, .slice fp fl fc] 28).alloc (.cells #[.string n2, .int .i64 k2, .int .i64 a2, .int .i64 x2, .int .i64 y2, .int .i64 z2, .int .i64 lo2, .int .i64 hi2, .slice fp2 fl2 fc2] 28 (0, 0))).c (i := 7) rfl
  have f9 := ((Is.made w #[.string n, .int .i64 k, .int .i64 a, .int .i64 x, .int .i64 y, .int .i64 z, .int .i64 lo, .int .i64 hi, .slice fp fl fc] 28).alloc (.cells #[.string n2, .int .i64 k2, .int .i64 a2, .int .i64 x2, .int .i64 y2, .int .i64 z2, .int .i64 lo2, .int .i64 hi2, .slice fp2 fl2 fc2] 28 (0, 0))).c (i := 8) rfl
  go_enter Tryd.func4, Tryd.ntmps4
  go_wp2_with fail
  clear f1 f2 f3 f4 f5 f6 f7 f8 f9
  replace fr := ((fr.alloc (.cells #[.string n, .int .i64 k, .int .i64 a, .int .i64 x, .int .i64 y, .int .i64 z, .int .i64 lo, .int .i64 hi, .slice fp fl fc] 28 (0, 0))).alloc (.cells #[.string n2, .int .i64 k2, .int .i64 a2, .int .i64 x2, .int .i64 y2, .int .i64 z2, .int .i64 lo2, .int .i64 hi2, .slice fp2 fl2 fc2] 28 (0, 0)))
  replace fr2 := ((fr2.alloc (.cells #[.string n, .int .i64 k, .int .i64 a, .int .i64 x, .int .i64 y, .int .i64 z, .int .i64 lo, .int .i64 hi, .slice fp fl fc] 28 (0, 0))).alloc (.cells #[.string n2, .int .i64 k2, .int .i64 a2, .int .i64 x2, .int .i64 y2, .int .i64 z2, .int .i64 lo2, .int .i64 hi2, .slice fp2 fl2 fc2] 28 (0, 0)))
  replace gl := ((gl.alloc (.cells #[.string n, .int .i64 k, .int .i64 a, .int .i64 x, .int .i64 y, .int .i64 z, .int .i64 lo, .int .i64 hi, .slice fp fl fc] 28 (0, 0))).alloc (.cells #[.string n2, .int .i64 k2, .int .i64 a2, .int .i64 x2, .int .i64 y2, .int .i64 z2, .int .i64 lo2, .int .i64 hi2, .slice fp2 fl2 fc2] 28 (0, 0)))
  have b1 := Is.made w #[.string n, .int .i64 k, .int .i64 a, .int .i64 x, .int .i64 y, .int .i64 z, .int .i64 lo, .int .i64 hi, .slice fp fl fc] 28
  replace b1 := (b1.alloc (.cells #[.string n2, .int .i64 k2, .int .i64 a2, .int .i64 x2, .int .i64 y2, .int .i64 z2, .int .i64 lo2, .int .i64 hi2, .slice fp2 fl2 fc2] 28 (0, 0)))
  have b2 := Is.made (w.alloc (.cells #[.string n, .int .i64 k, .int .i64 a, .int .i64 x, .int .i64 y, .int .i64 z, .int .i64 lo, .int .i64 hi, .slice fp fl fc] 28 (0, 0))) #[.string n2, .int .i64 k2, .int .i64 a2, .int .i64 x2, .int .i64 y2, .int .i64 z2, .int .i64 lo2, .int .i64 hi2, .slice fp2 fl2 fc2] 28
  simp only [World.size_alloc] at b2
  replace kx := kx.alloc (.cells #[.string n, .int .i64 k, .int .i64 a, .int .i64 x, .int .i64 y, .int .i64 z, .int .i64 lo, .int .i64 hi, .slice fp fl fc] 28 (0, 0))
  replace kx := kx.alloc (.cells #[.string n2, .int .i64 k2, .int .i64 a2, .int .i64 x2, .int .i64 y2, .int .i64 z2, .int .i64 lo2, .int .i64 hi2, .slice fp2 fl2 fc2] 28 (0, 0))
  (with_reducible refine (rFew n k a x y z lo hi fp fl fc fs _ fr).mono ?_)
  rintro r w1 ⟨rfl, k1⟩
  replace fr := fr.kb k1
  replace fr2 := fr2.kb k1
  replace gl := gl.kb k1
  replace b1 := b1.kb k1
  replace b2 := b2.kb k1
  replace kx := kx.trans k1
  have s1 := k1.size
  simp only [World.size_alloc] at s1
  clear k1
  go_wp2_with fail
  (with_reducible refine ((Cg.out awake_any _ gl)).mono ?_)
  rintro r w2 ⟨rfl, k2⟩
  replace fr := fr.kb k2
  replace fr2 := fr2.kb k2
  replace gl := gl.kb k2
  replace b1 := b1.kb k2
  replace b2 := b2.kb k2
  replace kx := kx.trans k2
  have s2 := k2.size
  skip
  clear k2
  go_wp2
  go_ret
  exact ⟨rfl, kx⟩
theorem cReaches (n : ByteArray) (k a x y z lo hi : Int) (fp : Option Addr) (fl fc : Nat) (n2 : ByteArray) (k2 a2 x2 y2 z2 lo2 hi2 : Int) (fp2 : Option Addr) (fl2 fc2 : Nat) (fs fs2 : List FrT) (c : Int) (w : World) (gl : Gl w) (fr : FrS w (.slice fp fl fc) fs) (fr2 : FrS w (.slice fp2 fl2 fc2) fs2) : Calls Tryd.prog 4 #[.agg #[.string n, .int .i64 k, .int .i64 a, .int .i64 x, .int .i64 y, .int .i64 z, .int .i64 lo, .int .i64 hi, .slice fp fl fc], .agg #[.string n2, .int .i64 k2, .int .i64 a2, .int .i64 x2, .int .i64 y2, .int .i64 z2, .int .i64 lo2, .int .i64 hi2, .slice fp2 fl2 fc2], .int .i64 c] w fun r W' => r = .returned (.bool true) ∧ Kb w W' := by
  rcases Bool.eq_false_or_eq_true (fewB n fs) with h | h
  · rcases Bool.eq_false_or_eq_true (fewB n2 fs2) with h2 | h2
    · obtain ⟨u, v, e, p1, p2⟩ := reach_both n k a x y z lo hi fp fl fc c (few_n h)
      obtain ⟨o, e2, p3, p4⟩ := sep_both n k a x y z lo hi fp fl fc n2 k2 a2 x2 y2 z2 lo2 hi2 fp2 fl2 fc2 (few_n h) (few_n h2)
      exact lwReaches_1 n k a x y z lo hi fp fl fc n2 k2 a2 x2 y2 z2 lo2 hi2 fp2 fl2 fc2 fs fs2 c _ _ _ _ _ p1 p2 p3 p4 h h2 w gl fr fr2
    · exact lwReaches_2 n k a x y z lo hi fp fl fc n2 k2 a2 x2 y2 z2 lo2 hi2 fp2 fl2 fc2 fs fs2 c h h2 w gl fr fr2
  · exact lwReaches_3 n k a x y z lo hi fp fl fc n2 k2 a2 x2 y2 z2 lo2 hi2 fp2 fl2 fc2 fs fs2 c h w gl fr fr2
end Go.Proofs.YtgclljgdoonnmaaDoor
