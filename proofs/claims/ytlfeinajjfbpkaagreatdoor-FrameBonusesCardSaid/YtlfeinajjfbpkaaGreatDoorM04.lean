/- Texts Un8: each says in its own first comment what it proves. -/
import Derived.Test.YtlfeinajjfbpkaaGreatDoorM09
/- Frames: the law FrameBonuses: its ways. -/
namespace Go.Proofs.YtlfeinajjfbpkaaGreatDoor
open Go.RowKit

set_option maxRecDepth 100000 in
set_option maxHeartbeats 4000000 in
theorem lbA_1 (w0 : World) (n : ByteArray) (k : Int) (a : Int) (x : Int) (y : Int) (z : Int) (lo : Int) (hi : Int) (fp : Option Addr) (fl : Nat) (fc : Nat) (fk : Int) (fd : Bool) (ft : Int) (fm : Int) (dp : Option Addr) (dl : Nat) (dc : Nat) (u : Int)     (fs : List FrT) (ds : List DatT) (hfr : FrS w0 (.slice fp fl fc) fs) (_hd : DatS w0 (.slice dp dl dc) ds) (_hcd : dl ≤ dc) (hfa : (fewB n fs) = false) (w : World) (gl : Gf w0 w)  : Calls Tryz.prog 8 #[.agg #[.string n, .int .i64 k, .int .i64 a, .int .i64 x, .int .i64 y, .int .i64 z, .int .i64 lo, .int .i64 hi, .slice fp fl fc], .agg #[.int .i64 fk, .bool fd, .int .i64 ft, .int .i64 fm, .slice dp dl dc], .int .u16 u] w fun r W' => r = .returned (.bool true) ∧ Kb w W' := by
  have kx := Kb.refl w
  have gl0 := Lib.hid gl
  have j1 := ((Is.made w #[.string n, .int .i64 k, .int .i64 a, .int .i64 x, .int .i64 y, .int .i64 z, .int .i64 lo, .int .i64 hi, .slice fp fl fc] 28).alloc (.cells #[.int .i64 fk, .bool fd, .int .i64 ft, .int .i64 fm, .slice dp dl dc] 31 (0, 0)))
  have f2 := j1.c (i := 0) rfl
  have f3 := j1.c (i := 1) rfl
  have f4 := j1.c (i := 2) rfl
  have f5 := j1.c (i := 3) rfl
  have f6 := j1.c (i := 4) rfl
  have f7 := j1.c (i := 5) rfl
  have f8 := j1.c (i := 6) rfl
  have f9 := j1.c (i := 7) rfl
  have f10 := j1.c (i := 8) rfl
  go_enter Tryz.func8, Tryz.ntmps8
  go_wp2_with fail
  clear f2 f3 f4 f5 f6 f7 f8 f9 f10
  have b1 := j1
  have b2 := Is.made (w.alloc (.cells #[.string n, .int .i64 k, .int .i64 a, .int .i64 x, .int .i64 y, .int .i64 z, .int .i64 lo, .int .i64 hi, .slice fp fl fc] 28 (0, 0))) #[.int .i64 fk, .bool fd, .int .i64 ft, .int .i64 fm, .slice dp dl dc] 31
  simp only [World.size_alloc] at b2
  replace kx := (kx.alloc (.cells #[.string n, .int .i64 k, .int .i64 a, .int .i64 x, .int .i64 y, .int .i64 z, .int .i64 lo, .int .i64 hi, .slice fp fl fc] 28 (0, 0))).alloc (.cells #[.int .i64 fk, .bool fd, .int .i64 ft, .int .i64 fm, .slice dp dl dc] 31 (0, 0))
  clear j1
  replace gl := gl0.out.kb kx
  (with_reducible refine ((Cf.out (cFew n k a x y z lo hi fp fl fc fs hfr) _ gl)).mono ?_)
  rintro r w1 ⟨rfl, k1⟩
  replace gl := gl.kb k1
  replace b1 := b1.kb k1
  replace b2 := b2.kb k1
  replace kx := kx.trans k1
  have s1 := k1.size
  simp only [World.size_alloc] at s1
  clear k1
  go_wp2_with fail
  (with_reducible refine ((Cf.out (fawakeC) _ gl)).mono ?_)
  rintro r w2 ⟨rfl, k2⟩
  replace gl := gl.kb k2
  replace b1 := b1.kb k2
  replace b2 := b2.kb k2
  replace kx := kx.trans k2
  have s2 := k2.size
  skip
  clear k2
  go_wp2
  go_ret
  exact ⟨rfl, kx⟩
set_option maxRecDepth 100000 in
set_option maxHeartbeats 4000000 in
theorem lbB_1 (w0 : World) (n : ByteArray) (k : Int) (a : Int) (x : Int) (y : Int) (z : Int) (lo : Int) (hi : Int) (fp : Option Addr) (fl : Nat) (fc : Nat) (fk : Int) (fd : Bool) (ft : Int) (fm : Int) (dp : Option Addr) (dl : Nat) (dc : Nat) (u : Int)     (fs : List FrT) (ds : List DatT) (hfr : FrS w0 (.slice fp fl fc) fs) (hd : DatS w0 (.slice dp dl dc) ds) (_hcd : dl ≤ dc) (hfa : (fewB n fs) = true) (hfb : (fewX fk fd ft fm ds) = false) (w : World) (gl : Gf w0 w)  : Calls Tryz.prog 8 #[.agg #[.string n, .int .i64 k, .int .i64 a, .int .i64 x, .int .i64 y, .int .i64 z, .int .i64 lo, .int .i64 hi, .slice fp fl fc], .agg #[.int .i64 fk, .bool fd, .int .i64 ft, .int .i64 fm, .slice dp dl dc], .int .u16 u] w fun r W' => r = .returned (.bool true) ∧ Kb w W' := by
  have kx := Kb.refl w
  have gl0 := Lib.hid gl
  have j1 := ((Is.made w #[.string n, .int .i64 k, .int .i64 a, .int .i64 x, .int .i64 y, .int .i64 z, .int .i64 lo, .int .i64 hi, .slice fp fl fc] 28).alloc (.cells #[.int .i64 fk, .bool fd, .int .i64 ft, .int .i64 fm, .slice dp dl dc] 31 (0, 0)))
  have f2 := j1.c (i := 0) rfl
  have f3 := j1.c (i := 1) rfl
  have f4 := j1.c (i := 2) rfl
  have f5 := j1.c (i := 3) rfl
  have f6 := j1.c (i := 4) rfl
  have f7 := j1.c (i := 5) rfl
  have f8 := j1.c (i := 6) rfl
  have f9 := j1.c (i := 7) rfl
  have f10 := j1.c (i := 8) rfl
  go_enter Tryz.func8, Tryz.ntmps8
  go_wp2_with fail
  clear f2 f3 f4 f5 f6 f7 f8 f9 f10
  have b1 := j1
  have b2 := Is.made (w.alloc (.cells #[.string n, .int .i64 k, .int .i64 a, .int .i64 x, .int .i64 y, .int .i64 z, .int .i64 lo, .int .i64 hi, .slice fp fl fc] 28 (0, 0))) #[.int .i64 fk, .bool fd, .int .i64 ft, .int .i64 fm, .slice dp dl dc] 31
  simp only [World.size_alloc] at b2
  replace kx := (kx.alloc (.cells #[.string n, .int .i64 k, .int .i64 a, .int .i64 x, .int .i64 y, .int .i64 z, .int .i64 lo, .int .i64 hi, .slice fp fl fc] 28 (0, 0))).alloc (.cells #[.int .i64 fk, .bool fd, .int .i64 ft, .int .i64 fm, .slice dp dl dc] 31 (0, 0))
  clear j1
  replace gl := gl0.out.kb kx
  (with_reducible refine ((Cf.out (cFew n k a x y z lo hi fp fl fc fs hfr) _ gl)).mono ?_)
  rintro r w1 ⟨rfl, k1⟩
  replace gl := gl.kb k1
  replace b1 := b1.kb k1
  replace b2 := b2.kb k1
  replace kx := kx.trans k1
  have s1 := k1.size
  simp only [World.size_alloc] at s1
  clear k1
  have f11 := b2.c (i := 0) rfl
  have f12 := b2.c (i := 1) rfl
  have f13 := b2.c (i := 2) rfl
  have f14 := b2.c (i := 3) rfl
  have f15 := b2.c (i := 4) rfl
  go_wp2_with fail
  clear f11 f12 f13 f14 f15
  (with_reducible refine ((Cf.out (cFewX fk fd ft fm dp dl dc ds hd) _ gl)).mono ?_)
  rintro r w2 ⟨rfl, k2⟩
  replace gl := gl.kb k2
  replace b1 := b1.kb k2
  replace b2 := b2.kb k2
  replace kx := kx.trans k2
  have s2 := k2.size
  skip
  clear k2
  go_wp2_with fail
  (with_reducible refine ((Cf.out (fawakeC) _ gl)).mono ?_)
  rintro r w3 ⟨rfl, k3⟩
  replace gl := gl.kb k3
  replace b1 := b1.kb k3
  replace b2 := b2.kb k3
  replace kx := kx.trans k3
  have s3 := k3.size
  skip
  clear k3
  go_wp2
  go_ret
  exact ⟨rfl, kx⟩
set_option maxRecDepth 100000 in
set_option maxHeartbeats 4000000 in
theorem lbC_1 (w0 : World) (n : ByteArray) (k : Int) (a : Int) (x : Int) (y : Int) (z : Int) (lo : Int) (hi : Int) (fp : Option Addr) (fl : Nat) (fc : Nat) (fk : Int) (fd : Bool) (ft : Int) (fm : Int) (dp : Option Addr) (dl : Nat) (dc : Nat) (u : Int)     (fs : List FrT) (ds : List DatT) (hfr : FrS w0 (.slice fp fl fc) fs) (hd : DatS w0 (.slice dp dl dc) ds) (_hcd : dl ≤ dc) (hfa : (fewB n fs) = true) (hfb : (fewX fk fd ft fm ds) = true) (hnz : n.size ≤ 1000000) (_hdn : dl ≤ 100000) (hz : ∀ d ∈ ds, d.1.size ≤ 1000000) (hfc : ((fcE n k a x y z lo hi fk fd ft fm ds) != 0) = true) (w : World) (gl : Gf w0 w)  : Calls Tryz.prog 8 #[.agg #[.string n, .int .i64 k, .int .i64 a, .int .i64 x, .int .i64 y, .int .i64 z, .int .i64 lo, .int .i64 hi, .slice fp fl fc], .agg #[.int .i64 fk, .bool fd, .int .i64 ft, .int .i64 fm, .slice dp dl dc], .int .u16 u] w fun r W' => r = .returned (.bool true) ∧ Kb w W' := by
  have kx := Kb.refl w
  have gl0 := Lib.hid gl
  have j1 := ((Is.made w #[.string n, .int .i64 k, .int .i64 a, .int .i64 x, .int .i64 y, .int .i64 z, .int .i64 lo, .int .i64 hi, .slice fp fl fc] 28).alloc (.cells #[.int .i64 fk, .bool fd, .int .i64 ft, .int .i64 fm, .slice dp dl dc] 31 (0, 0)))
  have f2 := j1.c (i := 0) rfl
  have f3 := j1.c (i := 1) rfl
  have f4 := j1.c (i := 2) rfl
  have f5 := j1.c (i := 3) rfl
  have f6 := j1.c (i := 4) rfl
  have f7 := j1.c (i := 5) rfl
  have f8 := j1.c (i := 6) rfl
  have f9 := j1.c (i := 7) rfl
  have f10 := j1.c (i := 8) rfl
  go_enter Tryz.func8, Tryz.ntmps8
  go_wp2_with fail
  clear f2 f3 f4 f5 f6 f7 f8 f9 f10
  have b1 := j1
  have b2 := Is.made (w.alloc (.cells #[.string n, .int .i64 k, .int .i64 a, .int .i64 x, .int .i64 y, .int .i64 z, .int .i64 lo, .int .i64 hi, .slice fp fl fc] 28 (0, 0))) #[.int .i64 fk, .bool fd, .int .i64 ft, .int .i64 fm, .slice dp dl dc] 31
  simp only [World.size_alloc] at b2
  replace kx := (kx.alloc (.cells #[.string n, .int .i64 k, .int .i64 a, .int .i64 x, .int .i64 y, .int .i64 z, .int .i64 lo, .int .i64 hi, .slice fp fl fc] 28 (0, 0))).alloc (.cells #[.int .i64 fk, .bool fd, .int .i64 ft, .int .i64 fm, .slice dp dl dc] 31 (0, 0))
  clear j1
  replace gl := gl0.out.kb kx
  (with_reducible refine ((Cf.out (cFew n k a x y z lo hi fp fl fc fs hfr) _ gl)).mono ?_)
  rintro r w1 ⟨rfl, k1⟩
  replace gl := gl.kb k1
  replace b1 := b1.kb k1
  replace b2 := b2.kb k1
  replace kx := kx.trans k1
  have s1 := k1.size
  simp only [World.size_alloc] at s1
  clear k1
  have f11 := b2.c (i := 0) rfl
  have f12 := b2.c (i := 1) rfl
  have f13 := b2.c (i := 2) rfl
  have f14 := b2.c (i := 3) rfl
  have f15 := b2.c (i := 4) rfl
  go_wp2_with fail
  clear f11 f12 f13 f14 f15
  (with_reducible refine ((Cf.out (cFewX fk fd ft fm dp dl dc ds hd) _ gl)).mono ?_)
  rintro r w2 ⟨rfl, k2⟩
  replace gl := gl.kb k2
  replace b1 := b1.kb k2
  replace b2 := b2.kb k2
  replace kx := kx.trans k2
  have s2 := k2.size
  skip
  clear k2
  have f16 := b1.c (i := 0) rfl
  have f17 := b1.c (i := 1) rfl
  have f18 := b1.c (i := 2) rfl
  have f19 := b1.c (i := 3) rfl
  have f20 := b1.c (i := 4) rfl
  have f21 := b1.c (i := 5) rfl
  have f22 := b1.c (i := 6) rfl
  have f23 := b1.c (i := 7) rfl
  have f24 := b1.c (i := 8) rfl
  have f25 := b2.c (i := 0) rfl
  have f26 := b2.c (i := 1) rfl
  have f27 := b2.c (i := 2) rfl
  have f28 := b2.c (i := 3) rfl
  have f29 := b2.c (i := 4) rfl
  go_wp2_with fail
  clear f16 f17 f18 f19 f20 f21 f22 f23 f24 f25 f26 f27 f28 f29
  (with_reducible refine ((Cf.out (rfrCheck n k a x y z lo hi fp fl fc fk fd ft fm dp dl dc ds hnz hd hz) _ gl)).mono ?_)
  rintro r w3 ⟨rfl, k3⟩
  replace gl := gl.kb k3
  replace b1 := b1.kb k3
  replace b2 := b2.kb k3
  replace kx := kx.trans k3
  have s3 := k3.size
  skip
  clear k3
  go_wp2_with fail
  (with_reducible refine ((Cf.out (fawakeC) _ gl)).mono ?_)
  rintro r w4 ⟨rfl, k4⟩
  replace gl := gl.kb k4
  replace b1 := b1.kb k4
  replace b2 := b2.kb k4
  replace kx := kx.trans k4
  have s4 := k4.size
  skip
  clear k4
  go_wp2
  go_ret
  exact ⟨rfl, kx⟩
set_option maxRecDepth 100000 in
set_option maxHeartbeats 4000000 in
theorem lbE_1 (w0 : World) (n : ByteArray) (k : Int) (a : Int) (x : Int) (y : Int) (z : Int) (lo : Int) (hi : Int) (fp : Option Addr) (fl : Nat) (fc : Nat) (fk : Int) (fd : Bool) (ft : Int) (fm : Int) (dp : Option Addr) (dl : Nat) (dc : Nat) (u : Int)     (fs : List FrT) (ds : List DatT) (hfr : FrS w0 (.slice fp fl fc) fs) (hd : DatS w0 (.slice dp dl dc) ds) (_hcd : dl ≤ dc) (hfa : (fewB n fs) = true) (hfb : (fewX fk fd ft fm ds) = true) (hnz : n.size ≤ 1000000) (_hdn : dl ≤ 100000) (hz : ∀ d ∈ ds, d.1.size ≤ 1000000) (hfc : ((fcE n k a x y z lo hi fk fd ft fm ds) != 0) = false) (hfm : (fm == 0) = true) (w : World) (gl : Gf w0 w)  : Calls Tryz.prog 8 #[.agg #[.string n, .int .i64 k, .int .i64 a, .int .i64 x, .int .i64 y, .int .i64 z, .int .i64 lo, .int .i64 hi, .slice fp fl fc], .agg #[.int .i64 fk, .bool fd, .int .i64 ft, .int .i64 fm, .slice dp dl dc], .int .u16 u] w fun r W' => r = .returned (.bool true) ∧ Kb w W' := by
  have kx := Kb.refl w
  have gl0 := Lib.hid gl
  have j1 := ((Is.made w #[.string n, .int .i64 k, .int .i64 a, .int .i64 x, .int .i64 y, .int .i64 z, .int .i64 lo, .int .i64 hi, .slice fp fl fc] 28).alloc (.cells #[.int .i64 fk, .bool fd, .int .i64 ft, .int .i64 fm, .slice dp dl dc] 31 (0, 0)))
  have f2 := j1.c (i := 0) rfl
  have f3 := j1.c (i := 1) rfl
  have f4 := j1.c (i := 2) rfl
  have f5 := j1.c (i := 3) rfl
  have f6 := j1.c (i := 4) rfl
  have f7 := j1.c (i := 5) rfl
  have f8 := j1.c (i := 6) rfl
  have f9 := j1.c (i := 7) rfl
  have f10 := j1.c (i := 8) rfl
  go_enter Tryz.func8, Tryz.ntmps8
  go_wp2_with fail
  clear f2 f3 f4 f5 f6 f7 f8 f9 f10
  have b1 := j1
  have b2 := Is.made (w.alloc (.cells #[.string n, .int .i64 k, .int .i64 a, .int .i64 x, .int .i64 y, .int .i64 z, .int .i64 lo, .int .i64 hi, .slice fp fl fc] 28 (0, 0))) #[.int .i64 fk, .bool fd, .int .i64 ft, .int .i64 fm, .slice dp dl dc] 31
  simp only [World.size_alloc] at b2
  replace kx := (kx.alloc (.cells #[.string n, .int .i64 k, .int .i64 a, .int .i64 x, .int .i64 y, .int .i64 z, .int .i64 lo, .int .i64 hi, .slice fp fl fc] 28 (0, 0))).alloc (.cells #[.int .i64 fk, .bool fd, .int .i64 ft, .int .i64 fm, .slice dp dl dc] 31 (0, 0))
  clear j1
  replace gl := gl0.out.kb kx
  (with_reducible refine ((Cf.out (cFew n k a x y z lo hi fp fl fc fs hfr) _ gl)).mono ?_)
  rintro r w1 ⟨rfl, k1⟩
  replace gl := gl.kb k1
  replace b1 := b1.kb k1
  replace b2 := b2.kb k1
  replace kx := kx.trans k1
  have s1 := k1.size
  simp only [World.size_alloc] at s1
  clear k1
  have f11 := b2.c (i := 0) rfl
  have f12 := b2.c (i := 1) rfl
  have f13 := b2.c (i := 2) rfl
  have f14 := b2.c (i := 3) rfl
  have f15 := b2.c (i := 4) rfl
  go_wp2_with fail
  clear f11 f12 f13 f14 f15
  (with_reducible refine ((Cf.out (cFewX fk fd ft fm dp dl dc ds hd) _ gl)).mono ?_)
  rintro r w2 ⟨rfl, k2⟩
  replace gl := gl.kb k2
  replace b1 := b1.kb k2
  replace b2 := b2.kb k2
  replace kx := kx.trans k2
  have s2 := k2.size
  skip
  clear k2
  have f16 := b1.c (i := 0) rfl
  have f17 := b1.c (i := 1) rfl
  have f18 := b1.c (i := 2) rfl
  have f19 := b1.c (i := 3) rfl
  have f20 := b1.c (i := 4) rfl
  have f21 := b1.c (i := 5) rfl
  have f22 := b1.c (i := 6) rfl
  have f23 := b1.c (i := 7) rfl
  have f24 := b1.c (i := 8) rfl
  have f25 := b2.c (i := 0) rfl
  have f26 := b2.c (i := 1) rfl
  have f27 := b2.c (i := 2) rfl
  have f28 := b2.c (i := 3) rfl
  have f29 := b2.c (i := 4) rfl
  go_wp2_with fail
  clear f16 f17 f18 f19 f20 f21 f22 f23 f24 f25 f26 f27 f28 f29
  (with_reducible refine ((Cf.out (rfrCheck n k a x y z lo hi fp fl fc fk fd ft fm dp dl dc ds hnz hd hz) _ gl)).mono ?_)
  rintro r w3 ⟨rfl, k3⟩
  replace gl := gl.kb k3
  replace b1 := b1.kb k3
  replace b2 := b2.kb k3
  replace kx := kx.trans k3
  have s3 := k3.size
  skip
  clear k3
  have f30 := b2.c (i := 3) rfl
  go_wp2_with fail
  clear f30
  (with_reducible refine ((Cf.out (fawakeC) _ gl)).mono ?_)
  rintro r w4 ⟨rfl, k4⟩
  replace gl := gl.kb k4
  replace b1 := b1.kb k4
  replace b2 := b2.kb k4
  replace kx := kx.trans k4
  have s4 := k4.size
  skip
  clear k4
  go_wp2
  go_ret
  exact ⟨rfl, kx⟩
set_option maxRecDepth 100000 in
set_option maxHeartbeats 4000000 in
theorem lbP_1 (w0 : World) (n : ByteArray) (k : Int) (a : Int) (x : Int) (y : Int) (z : Int) (lo : Int) (hi : Int) (fp : Option Addr) (fl : Nat) (fc : Nat) (fk : Int) (fd : Bool) (ft : Int) (fm : Int) (dp : Option Addr) (dl : Nat) (dc : Nat) (u : Int) (va : Int) (ba : Int) (z1 : Int) (z2 : Int) (z3 : Int) (z4 : Int) (z5 : Int) (z6 : Int) (a1 : wrap64 (hi - lo) = z1) (a2 : wrap64 (z1 + 1) = z2) (a3 : u.tmod z2 = z3) (a4 : wrap64 (lo + z3) = z4) (a5 : wrap64 (z4 - ft) = z5) (a6 : wrap64 (z5 - ba) = z6) (q1 : Cf w0 22 #[.agg #[.string n, .int .i64 k, .int .i64 a, .int .i64 x, .int .i64 y, .int .i64 z, .int .i64 lo, .int .i64 hi, .slice fp fl fc], .agg #[.int .i64 fk, .bool fd, .int .i64 ft, .int .i64 fm, .slice dp dl dc]] (.tuple #[.int .i64 va, .int .i64 0])) (q2 : Cf w0 24 #[.agg #[.string n, .int .i64 k, .int .i64 a, .int .i64 x, .int .i64 y, .int .i64 z, .int .i64 lo, .int .i64 hi, .slice fp fl fc], .agg #[.int .i64 fk, .bool fd, .int .i64 ft, .int .i64 fm, .slice dp dl dc], .int .i64 z4] (.tuple #[.int .i64 ba, .int .i64 0])) (q3 : Cf w0 32 #[.agg #[.string n, .int .i64 k, .int .i64 a, .int .i64 x, .int .i64 y, .int .i64 z, .int .i64 lo, .int .i64 hi, .slice fp fl fc]] (.tuple #[.bool true, .int .i64 0])) (q4 : Ca 33 #[.agg #[.int .i64 lo, .int .i64 hi], .int .i64 z4] (.bool true)) (fs : List FrT) (ds : List DatT) (hfr : FrS w0 (.slice fp fl fc) fs) (hd : DatS w0 (.slice dp dl dc) ds) (_hcd : dl ≤ dc) (hfa : (fewB n fs) = true) (hfb : (fewX fk fd ft fm ds) = true) (hnz : n.size ≤ 1000000) (_hdn : dl ≤ 100000) (hz : ∀ d ∈ ds, d.1.size ≤ 1000000) (hfc : ((fcE n k a x y z lo hi fk fd ft fm ds) != 0) = false) (hfm : (fm == 0) = false) (hf1 : (fm == 1) = true) (hva : (z6 == va) = true) (hcv : (IntKind.i64.wrap u) = u) (hne : z2 ≠ 0) (hba : ¬ ba < 0) (hbb : ¬ z1 < ba) (w : World) (gl : Gf w0 w)  : Calls Tryz.prog 8 #[.agg #[.string n, .int .i64 k, .int .i64 a, .int .i64 x, .int .i64 y, .int .i64 z, .int .i64 lo, .int .i64 hi, .slice fp fl fc], .agg #[.int .i64 fk, .bool fd, .int .i64 ft, .int .i64 fm, .slice dp dl dc], .int .u16 u] w fun r W' => r = .returned (.bool true) ∧ Kb w W' := by
  have kx := Kb.refl w
  unfold Ca at q4
  unfold Cf at q1 q2 q3
  have gl0 := Lib.hid gl
  have a1' : IntKind.i64.wrap (hi - lo) = z1 := (Go.IntWalk.i64_left _).trans a1
  have a2' : IntKind.i64.wrap (z1 + 1) = z2 := (Go.IntWalk.i64_left _).trans a2
  have a4' : IntKind.i64.wrap (lo + z3) = z4 := (Go.IntWalk.i64_left _).trans a4
  have a5' : IntKind.i64.wrap (z4 - ft) = z5 := (Go.IntWalk.i64_left _).trans a5
  have a6' : IntKind.i64.wrap (z5 - ba) = z6 := (Go.IntWalk.i64_left _).trans a6
  have j1 := ((Is.made w #[.string n, .int .i64 k, .int .i64 a, .int .i64 x, .int .i64 y, .int .i64 z, .int .i64 lo, .int .i64 hi, .slice fp fl fc] 28).alloc (.cells #[.int .i64 fk, .bool fd, .int .i64 ft, .int .i64 fm, .slice dp dl dc] 31 (0, 0)))
  have f2 := j1.c (i := 0) rfl
  have f3 := j1.c (i := 1) rfl
  have f4 := j1.c (i := 2) rfl
  have f5 := j1.c (i := 3) rfl
  have f6 := j1.c (i := 4) rfl
  have f7 := j1.c (i := 5) rfl
  have f8 := j1.c (i := 6) rfl
  have f9 := j1.c (i := 7) rfl
  have f10 := j1.c (i := 8) rfl
  go_enter Tryz.func8, Tryz.ntmps8
  go_wp2_with fail
  clear f2 f3 f4 f5 f6 f7 f8 f9 f10
  have b1 := j1
  have b2 := Is.made (w.alloc (.cells #[.string n, .int .i64 k, .int .i64 a, .int .i64 x, .int .i64 y, .int .i64 z, .int .i64 lo, .int .i64 hi, .slice fp fl fc] 28 (0, 0))) #[.int .i64 fk, .bool fd, .int .i64 ft, .int .i64 fm, .slice dp dl dc] 31
  simp only [World.size_alloc] at b2
  replace kx := (kx.alloc (.cells #[.string n, .int .i64 k, .int .i64 a, .int .i64 x, .int .i64 y, .int .i64 z, .int .i64 lo, .int .i64 hi, .slice fp fl fc] 28 (0, 0))).alloc (.cells #[.int .i64 fk, .bool fd, .int .i64 ft, .int .i64 fm, .slice dp dl dc] 31 (0, 0))
  clear j1
  replace gl := gl0.out.kb kx
  (with_reducible refine ((Cf.out (cFew n k a x y z lo hi fp fl fc fs hfr) _ gl)).mono ?_)
  rintro r w1 ⟨rfl, k1⟩
  replace gl := gl.kb k1
  replace b1 := b1.kb k1
  replace b2 := b2.kb k1
  replace kx := kx.trans k1
  have s1 := k1.size
  simp only [World.size_alloc] at s1
  clear k1
  have f11 := b2.c (i := 0) rfl
  have f12 := b2.c (i := 1) rfl
  have f13 := b2.c (i := 2) rfl
  have f14 := b2.c (i := 3) rfl
  have f15 := b2.c (i := 4) rfl
  go_wp2_with fail
  clear f11 f12 f13 f14 f15
  (with_reducible refine ((Cf.out (cFewX fk fd ft fm dp dl dc ds hd) _ gl)).mono ?_)
  rintro r w2 ⟨rfl, k2⟩
  replace gl := gl.kb k2
  replace b1 := b1.kb k2
  replace b2 := b2.kb k2
  replace kx := kx.trans k2
  have s2 := k2.size
  skip
  clear k2
  have f16 := b1.c (i := 0) rfl
  have f17 := b1.c (i := 1) rfl
  have f18 := b1.c (i := 2) rfl
  have f19 := b1.c (i := 3) rfl
  have f20 := b1.c (i := 4) rfl
  have f21 := b1.c (i := 5) rfl
  have f22 := b1.c (i := 6) rfl
  have f23 := b1.c (i := 7) rfl
  have f24 := b1.c (i := 8) rfl
  have f25 := b2.c (i := 0) rfl
  have f26 := b2.c (i := 1) rfl
  have f27 := b2.c (i := 2) rfl
  have f28 := b2.c (i := 3) rfl
  have f29 := b2.c (i := 4) rfl
  go_wp2_with fail
  clear f16 f17 f18 f19 f20 f21 f22 f23 f24 f25 f26 f27 f28 f29
  (with_reducible refine ((Cf.out (rfrCheck n k a x y z lo hi fp fl fc fk fd ft fm dp dl dc ds hnz hd hz) _ gl)).mono ?_)
  rintro r w3 ⟨rfl, k3⟩
  replace gl := gl.kb k3
  replace b1 := b1.kb k3
  replace b2 := b2.kb k3
  replace kx := kx.trans k3
  have s3 := k3.size
  skip
  clear k3
  have f30 := b2.c (i := 3) rfl
  go_wp2_with fail
  clear f30
  replace gl := gl.drew
  replace b1 := b1.drew
  replace b2 := b2.drew
  rw [oF_lit]
  refine o_law (⟨122, [some 34, some 35, some 36, some 37, some 38, some 39, some 40, some 41, some 42, some 43, some 44, some 45, some 46, some 47, some 48, some 7], [34, 35, 36, 37, 38, 39, 40, 41, 42, 43, 44, 45, 46, 47, 48, 7], [[], [0], [1], [], [3], [], [5], [6], [], [8], [9], [7, 10], [11], [4, 12], [2, 13], [14]], [[3], [], [], [2], [], [3], [], [], [3], [], [], [], [], [], [], []]⟩ : OT) (Kx []) (RL [fun vv _ => vv = .pointer (some ⟨w.heap.size, 6, none⟩), fun vv _ => vv = .pointer (some ⟨w.heap.size, 6, none⟩), fun vv _ => vv = .int .i64 lo, fun vv _ => vv = .int .u16 u, fun vv _ => vv = .int .i64 u, fun vv _ => vv = .pointer (some ⟨w.heap.size, 6, none⟩), fun vv _ => vv = .pointer (some ⟨w.heap.size, 7, none⟩), fun vv _ => vv = .int .i64 hi, fun vv _ => vv = .pointer (some ⟨w.heap.size, 6, none⟩), fun vv _ => vv = .pointer (some ⟨w.heap.size, 6, none⟩), fun vv _ => vv = .int .i64 lo, fun vv _ => vv = .int .i64 z1, fun vv _ => vv = .int .i64 z2, fun vv _ => vv = .int .i64 z3, fun vv _ => vv = .int .i64 z4, fun vv _ => vv = .int .i64 z4]) (by kernel_rfl) ?hk ?hR ?fin
  case hk => kernel_rfl
  case hR =>
    refine ⟨fun _ => (Kx.refl _ _), fun _ _ _ => Kx.trans, rl_stab ⟨fun _ _ _ _ h => h, fun _ _ _ _ h => h, fun _ _ _ _ h => h, fun _ _ _ _ h => h, fun _ _ _ _ h => h, fun _ _ _ _ h => h, fun _ _ _ _ h => h, fun _ _ _ _ h => h, fun _ _ _ _ h => h, fun _ _ _ _ h => h, fun _ _ _ _ h => h, fun _ _ _ _ h => h, fun _ _ _ _ h => h, fun _ _ _ _ h => h, fun _ _ _ _ h => h, fun _ _ _ _ h => h, trivial⟩, ?_⟩
    refine allO_cons ?_ (allO_cons ?_ (allO_cons ?_ (allO_cons ?_ (allO_cons ?_ (allO_cons ?_ (allO_cons ?_ (allO_cons ?_ (allO_cons ?_ (allO_cons ?_ (allO_cons ?_ (allO_cons ?_ (allO_cons ?_ (allO_cons ?_ (allO_cons ?_ (allO_cons ?_ (allO_nil))))))))))))))))
    · intro T w9 hG hD hO Q
      have q0 := hO.1
      have e0 : (oF 122 T).eval (.tmp 3) = .pointer (some ⟨w.heap.size, 0, none⟩) := (oF_eval (by decide)).trans (show T 3 = _ from q0)
      refine og_none rfl ?_
      exact o_val (v := .pointer (some ⟨w.heap.size, 6, none⟩)) (w' := w9) (by generalize (oF 122 T).eval = rr at *; simp [execOp, go_sem, e0]) rfl rfl (Kx.refl _ _)
    · intro T w9 hG hD hO Q
      have d0 := hD.1
      have e0 : (oF 122 T).eval (.tmp 34) = .pointer (some ⟨w.heap.size, 6, none⟩) := (oF_eval (by decide)).trans (show T 34 = _ from d0)
      refine og_none rfl ?_
      exact o_val (v := .pointer (some ⟨w.heap.size, 6, none⟩)) (w' := w9) (by generalize (oF 122 T).eval = rr at *; simp [execOp, go_sem, e0]) rfl rfl (Kx.refl _ _)
    · intro T w9 hG hD hO Q
      have d0 := hD.1
      have e0 : (oF 122 T).eval (.tmp 35) = .pointer (some ⟨w.heap.size, 6, none⟩) := (oF_eval (by decide)).trans (show T 35 = _ from d0)
      refine og_none rfl ?_
      have im := b1.kx hG (by simp)
      have m0 := im.c (i := 6) rfl
      clear im
      exact o_val (v := .int .i64 lo) (w' := w9) (by generalize (oF 122 T).eval = rr at *; simp [execOp, go_sem, e0, m0]) rfl rfl (Kx.refl _ _)
    · intro T w9 hG hD hO Q
      have q0 := hO.1
      have e0 : (oF 122 T).eval (.tmp 2) = .int .u16 u := (oF_eval (by decide)).trans (show T 2 = _ from q0)
      refine og_none rfl ?_
      exact o_val (v := .int .u16 u) (w' := w9) (by generalize (oF 122 T).eval = rr at *; simp [execOp, go_sem, e0]) rfl rfl (Kx.refl _ _)
    · intro T w9 hG hD hO Q
      have d0 := hD.1
      have e0 : (oF 122 T).eval (.tmp 37) = .int .u16 u := (oF_eval (by decide)).trans (show T 37 = _ from d0)
      refine og_none rfl ?_
      exact o_val (v := .int .i64 u) (w' := w9) (by generalize (oF 122 T).eval = rr at *; simp [execOp, go_sem, e0, hcv]) rfl rfl (Kx.refl _ _)
    · intro T w9 hG hD hO Q
      have q0 := hO.1
      have e0 : (oF 122 T).eval (.tmp 3) = .pointer (some ⟨w.heap.size, 0, none⟩) := (oF_eval (by decide)).trans (show T 3 = _ from q0)
      refine og_none rfl ?_
      exact o_val (v := .pointer (some ⟨w.heap.size, 6, none⟩)) (w' := w9) (by generalize (oF 122 T).eval = rr at *; simp [execOp, go_sem, e0]) rfl rfl (Kx.refl _ _)
    · intro T w9 hG hD hO Q
      have d0 := hD.1
      have e0 : (oF 122 T).eval (.tmp 39) = .pointer (some ⟨w.heap.size, 6, none⟩) := (oF_eval (by decide)).trans (show T 39 = _ from d0)
      refine og_none rfl ?_
      exact o_val (v := .pointer (some ⟨w.heap.size, 7, none⟩)) (w' := w9) (by generalize (oF 122 T).eval = rr at *; simp [execOp, go_sem, e0]) rfl rfl (Kx.refl _ _)
    · intro T w9 hG hD hO Q
      have d0 := hD.1
      have e0 : (oF 122 T).eval (.tmp 40) = .pointer (some ⟨w.heap.size, 7, none⟩) := (oF_eval (by decide)).trans (show T 40 = _ from d0)
      refine og_none rfl ?_
      have im := b1.kx hG (by simp)
      have m0 := im.c (i := 7) rfl
      clear im
      exact o_val (v := .int .i64 hi) (w' := w9) (by generalize (oF 122 T).eval = rr at *; simp [execOp, go_sem, e0, m0]) rfl rfl (Kx.refl _ _)
    · intro T w9 hG hD hO Q
      have q0 := hO.1
      have e0 : (oF 122 T).eval (.tmp 3) = .pointer (some ⟨w.heap.size, 0, none⟩) := (oF_eval (by decide)).trans (show T 3 = _ from q0)
      refine og_none rfl ?_
      exact o_val (v := .pointer (some ⟨w.heap.size, 6, none⟩)) (w' := w9) (by generalize (oF 122 T).eval = rr at *; simp [execOp, go_sem, e0]) rfl rfl (Kx.refl _ _)
    · intro T w9 hG hD hO Q
      have d0 := hD.1
      have e0 : (oF 122 T).eval (.tmp 42) = .pointer (some ⟨w.heap.size, 6, none⟩) := (oF_eval (by decide)).trans (show T 42 = _ from d0)
      refine og_none rfl ?_
      exact o_val (v := .pointer (some ⟨w.heap.size, 6, none⟩)) (w' := w9) (by generalize (oF 122 T).eval = rr at *; simp [execOp, go_sem, e0]) rfl rfl (Kx.refl _ _)
    · intro T w9 hG hD hO Q
      have d0 := hD.1
      have e0 : (oF 122 T).eval (.tmp 43) = .pointer (some ⟨w.heap.size, 6, none⟩) := (oF_eval (by decide)).trans (show T 43 = _ from d0)
      refine og_none rfl ?_
      have im := b1.kx hG (by simp)
      have m0 := im.c (i := 6) rfl
      clear im
      exact o_val (v := .int .i64 lo) (w' := w9) (by generalize (oF 122 T).eval = rr at *; simp [execOp, go_sem, e0, m0]) rfl rfl (Kx.refl _ _)
    · intro T w9 hG hD hO Q
      have d0 := hD.1
      have d1 := hD.2.1
      have e0 : (oF 122 T).eval (.tmp 41) = .int .i64 hi := (oF_eval (by decide)).trans (show T 41 = _ from d0)
      have e1 : (oF 122 T).eval (.tmp 44) = .int .i64 lo := (oF_eval (by decide)).trans (show T 44 = _ from d1)
      refine og_none rfl ?_
      exact o_val (v := .int .i64 z1) (w' := w9) (by generalize (oF 122 T).eval = rr at *; simp [execOp, go_sem, e0, e1, a1']) rfl rfl (Kx.refl _ _)
    · intro T w9 hG hD hO Q
      have d0 := hD.1
      have e0 : (oF 122 T).eval (.tmp 45) = .int .i64 z1 := (oF_eval (by decide)).trans (show T 45 = _ from d0)
      have e1 : (oF 122 T).eval (.const (.int .i64 1)) = .int .i64 1 := rfl
      refine og_none rfl ?_
      exact o_val (v := .int .i64 z2) (w' := w9) (by generalize (oF 122 T).eval = rr at *; simp [execOp, go_sem, e0, e1, a2']) rfl rfl (Kx.refl _ _)
    · intro T w9 hG hD hO Q
      have d0 := hD.1
      have d1 := hD.2.1
      have e0 : (oF 122 T).eval (.tmp 38) = .int .i64 u := (oF_eval (by decide)).trans (show T 38 = _ from d0)
      have e1 : (oF 122 T).eval (.tmp 46) = .int .i64 z2 := (oF_eval (by decide)).trans (show T 46 = _ from d1)
      refine og_none rfl ?_
      exact o_val (v := .int .i64 z3) (w' := w9) (by generalize (oF 122 T).eval = rr at *; simp [execOp, go_sem, e0, e1, a3, hne]) rfl rfl (Kx.refl _ _)
    · intro T w9 hG hD hO Q
      have d0 := hD.1
      have d1 := hD.2.1
      have e0 : (oF 122 T).eval (.tmp 36) = .int .i64 lo := (oF_eval (by decide)).trans (show T 36 = _ from d0)
      have e1 : (oF 122 T).eval (.tmp 47) = .int .i64 z3 := (oF_eval (by decide)).trans (show T 47 = _ from d1)
      refine og_none rfl ?_
      exact o_val (v := .int .i64 z4) (w' := w9) (by generalize (oF 122 T).eval = rr at *; simp [execOp, go_sem, e0, e1, a4']) rfl rfl (Kx.refl _ _)
    · intro T w9 hG hD hO Q
      have d0 := hD.1
      have e0 : (oF 122 T).eval (.tmp 48) = .int .i64 z4 := (oF_eval (by decide)).trans (show T 48 = _ from d0)
      refine og_none rfl ?_
      exact o_val (v := .int .i64 z4) (w' := w9) (by generalize (oF 122 T).eval = rr at *; simp [execOp, go_sem, e0]) rfl rfl (Kx.refl _ _)
  case fin =>
    intro T w4 hout hval hG
    have s4 := hG.2.2.2.1
    simp only [World.size_drew] at s4
    rw [show oF 122 T = (⟨#[T 0, T 1, T 2, T 3, T 4, T 5, T 6, T 7, T 8, T 9, T 10, T 11, T 12, T 13, T 14, T 15, T 16, T 17, T 18, T 19, T 20, T 21, T 22, T 23, T 24, T 25, T 26, T 27, T 28, T 29, T 30, T 31, T 32, T 33, T 34, T 35, T 36, T 37, T 38, T 39, T 40, T 41, T 42, T 43, T 44, T 45, T 46, T 47, T 48, T 49, T 50, T 51, T 52, T 53, T 54, T 55, T 56, T 57, T 58, T 59, T 60, T 61, T 62, T 63, T 64, T 65, T 66, T 67, T 68, T 69, T 70, T 71, T 72, T 73, T 74, T 75, T 76, T 77, T 78, T 79, T 80, T 81, T 82, T 83, T 84, T 85, T 86, T 87, T 88, T 89, T 90, T 91, T 92, T 93, T 94, T 95, T 96, T 97, T 98, T 99, T 100, T 101, T 102, T 103, T 104, T 105, T 106, T 107, T 108, T 109, T 110, T 111, T 112, T 113, T 114, T 115, T 116, T 117, T 118, T 119, T 120, T 121], []⟩ : Act) from oF_list 122 T]
    rw [show T 0 = .agg #[.string n, .int .i64 k, .int .i64 a, .int .i64 x, .int .i64 y, .int .i64 z, .int .i64 lo, .int .i64 hi, .slice fp fl fc] from hout 0 rfl]
    rw [show T 1 = .agg #[.int .i64 fk, .bool fd, .int .i64 ft, .int .i64 fm, .slice dp dl dc] from hout 1 rfl]
    rw [show T 3 = .pointer (some ⟨w.heap.size, 0, none⟩) from hout 3 rfl]
    rw [show T 4 = .pointer (some ⟨w.heap.size + 1, 0, none⟩) from hout 4 rfl]
    rw [show T 6 = .bool false from hout 6 rfl]
    rw [show T 7 = .int .i64 z4 from hval 15 (by decide : 15 < 16)]
    rw [show T 14 = .agg #[.string n, .int .i64 k, .int .i64 a, .int .i64 x, .int .i64 y, .int .i64 z, .int .i64 lo, .int .i64 hi, .slice fp fl fc] from hout 14 rfl]
    rw [show T 15 = .bool true from hout 15 rfl]
    rw [show T 16 = .bool false from hout 16 rfl]
    rw [show T 17 = .bool false from hout 17 rfl]
    rw [show T 18 = .agg #[.int .i64 fk, .bool fd, .int .i64 ft, .int .i64 fm, .slice dp dl dc] from hout 18 rfl]
    rw [show T 19 = .bool true from hout 19 rfl]
    rw [show T 20 = .bool false from hout 20 rfl]
    rw [show T 21 = .bool false from hout 21 rfl]
    rw [show T 22 = .bool false from hout 22 rfl]
    rw [show T 23 = .agg #[.string n, .int .i64 k, .int .i64 a, .int .i64 x, .int .i64 y, .int .i64 z, .int .i64 lo, .int .i64 hi, .slice fp fl fc] from hout 23 rfl]
    rw [show T 24 = .agg #[.int .i64 fk, .bool fd, .int .i64 ft, .int .i64 fm, .slice dp dl dc] from hout 24 rfl]
    rw [show T 25 = .int .i64 (fcE n k a x y z lo hi fk fd ft fm ds) from hout 25 rfl]
    rw [show T 26 = .bool false from hout 26 rfl]
    rw [show T 27 = .bool false from hout 27 rfl]
    rw [show T 28 = .bool false from hout 28 rfl]
    rw [show T 29 = .pointer (some ⟨w.heap.size + 1, 3, none⟩) from hout 29 rfl]
    rw [show T 30 = .int .i64 fm from hout 30 rfl]
    rw [show T 31 = .bool false from hout 31 rfl]
    rw [show T 32 = .bool false from hout 32 rfl]
    replace b1 := b1.kx hG (by simp)
    replace b2 := b2.kx hG (by simp)
    replace kx := (show Kb _ _ from kx.drew).trans hG.nil
    replace gl := gl0.out.kb kx
    clear hout hval hG
    have f31 := b1.c (i := 0) rfl
    have f32 := b1.c (i := 1) rfl
    have f33 := b1.c (i := 2) rfl
    have f34 := b1.c (i := 3) rfl
    have f35 := b1.c (i := 4) rfl
    have f36 := b1.c (i := 5) rfl
    have f37 := b1.c (i := 6) rfl
    have f38 := b1.c (i := 7) rfl
    have f39 := b1.c (i := 8) rfl
    have f40 := b2.c (i := 0) rfl
    have f41 := b2.c (i := 1) rfl
    have f42 := b2.c (i := 2) rfl
    have f43 := b2.c (i := 3) rfl
    have f44 := b2.c (i := 4) rfl
    go_wp2_with fail
    clear f31 f32 f33 f34 f35 f36 f37 f38 f39 f40 f41 f42 f43 f44
    (with_reducible refine ((q1.out _ gl)).mono ?_)
    rintro r w5 ⟨rfl, k5⟩
    replace gl := gl.kb k5
    replace b1 := b1.kb k5
    replace b2 := b2.kb k5
    replace kx := kx.trans k5
    have s5 := k5.size
    skip
    clear k5
    have f45 := b1.c (i := 0) rfl
    have f46 := b1.c (i := 1) rfl
    have f47 := b1.c (i := 2) rfl
    have f48 := b1.c (i := 3) rfl
    have f49 := b1.c (i := 4) rfl
    have f50 := b1.c (i := 5) rfl
    have f51 := b1.c (i := 6) rfl
    have f52 := b1.c (i := 7) rfl
    have f53 := b1.c (i := 8) rfl
    have f54 := b2.c (i := 0) rfl
    have f55 := b2.c (i := 1) rfl
    have f56 := b2.c (i := 2) rfl
    have f57 := b2.c (i := 3) rfl
    have f58 := b2.c (i := 4) rfl
    go_wp2_with fail
    clear f45 f46 f47 f48 f49 f50 f51 f52 f53 f54 f55 f56 f57 f58
    (with_reducible refine ((q2.out _ gl)).mono ?_)
    rintro r w6 ⟨rfl, k6⟩
    replace gl := gl.kb k6
    replace b1 := b1.kb k6
    replace b2 := b2.kb k6
    replace kx := kx.trans k6
    have s6 := k6.size
    skip
    clear k6
    have f59 := b1.c (i := 0) rfl
    have f60 := b1.c (i := 1) rfl
    have f61 := b1.c (i := 2) rfl
    have f62 := b1.c (i := 3) rfl
    have f63 := b1.c (i := 4) rfl
    have f64 := b1.c (i := 5) rfl
    have f65 := b1.c (i := 6) rfl
    have f66 := b1.c (i := 7) rfl
    have f67 := b1.c (i := 8) rfl
    go_wp2_with fail
    clear f59 f60 f61 f62 f63 f64 f65 f66 f67
    (with_reducible refine ((q3.out _ gl)).mono ?_)
    rintro r w7 ⟨rfl, k7⟩
    replace gl := gl.kb k7
    replace b1 := b1.kb k7
    replace b2 := b2.kb k7
    replace kx := kx.trans k7
    have s7 := k7.size
    skip
    clear k7
    have f68 := b1.c (i := 7) rfl
    have f69 := b1.c (i := 6) rfl
    go_wp2_with fail
    clear f68 f69
    (with_reducible refine (((q4).out _)).mono ?_)
    rintro r w8 ⟨rfl, k8⟩
    replace gl := gl.kb k8
    replace b1 := b1.kb k8
    replace b2 := b2.kb k8
    replace kx := kx.trans k8
    have s8 := k8.size
    skip
    clear k8
    have f70 := b2.c (i := 3) rfl
    have f71 := b2.c (i := 2) rfl
    go_wp2_with fail
    clear f70 f71
    (with_reducible refine ((Cf.out (fawakeC) _ gl)).mono ?_)
    rintro r w9 ⟨rfl, k9⟩
    replace gl := gl.kb k9
    replace b1 := b1.kb k9
    replace b2 := b2.kb k9
    replace kx := kx.trans k9
    have s9 := k9.size
    skip
    clear k9
    go_wp2
    go_ret
    exact ⟨rfl, kx⟩
set_option maxRecDepth 100000 in
set_option maxHeartbeats 4000000 in
theorem lbQ_1 (w0 : World) (n : ByteArray) (k : Int) (a : Int) (x : Int) (y : Int) (z : Int) (lo : Int) (hi : Int) (fp : Option Addr) (fl : Nat) (fc : Nat) (fk : Int) (fd : Bool) (ft : Int) (fm : Int) (dp : Option Addr) (dl : Nat) (dc : Nat) (u : Int) (va : Int) (ba : Int) (z1 : Int) (z2 : Int) (z3 : Int) (z4 : Int) (z5 : Int) (z6 : Int) (a1 : wrap64 (hi - lo) = z1) (a2 : wrap64 (z1 + 1) = z2) (a3 : u.tmod z2 = z3) (a4 : wrap64 (lo + z3) = z4) (a5 : wrap64 (z4 + ft) = z5) (a6 : wrap64 (z5 + ba) = z6) (q1 : Cf w0 22 #[.agg #[.string n, .int .i64 k, .int .i64 a, .int .i64 x, .int .i64 y, .int .i64 z, .int .i64 lo, .int .i64 hi, .slice fp fl fc], .agg #[.int .i64 fk, .bool fd, .int .i64 ft, .int .i64 fm, .slice dp dl dc]] (.tuple #[.int .i64 va, .int .i64 0])) (q2 : Cf w0 24 #[.agg #[.string n, .int .i64 k, .int .i64 a, .int .i64 x, .int .i64 y, .int .i64 z, .int .i64 lo, .int .i64 hi, .slice fp fl fc], .agg #[.int .i64 fk, .bool fd, .int .i64 ft, .int .i64 fm, .slice dp dl dc], .int .i64 z4] (.tuple #[.int .i64 ba, .int .i64 0])) (q3 : Cf w0 32 #[.agg #[.string n, .int .i64 k, .int .i64 a, .int .i64 x, .int .i64 y, .int .i64 z, .int .i64 lo, .int .i64 hi, .slice fp fl fc]] (.tuple #[.bool true, .int .i64 0])) (q4 : Ca 33 #[.agg #[.int .i64 lo, .int .i64 hi], .int .i64 z4] (.bool true)) (fs : List FrT) (ds : List DatT) (hfr : FrS w0 (.slice fp fl fc) fs) (hd : DatS w0 (.slice dp dl dc) ds) (_hcd : dl ≤ dc) (hfa : (fewB n fs) = true) (hfb : (fewX fk fd ft fm ds) = true) (hnz : n.size ≤ 1000000) (_hdn : dl ≤ 100000) (hz : ∀ d ∈ ds, d.1.size ≤ 1000000) (hfc : ((fcE n k a x y z lo hi fk fd ft fm ds) != 0) = false) (hfm : (fm == 0) = false) (hf1 : (fm == 1) = false) (hva : (z6 == va) = true) (hcv : (IntKind.i64.wrap u) = u) (hne : z2 ≠ 0) (hba : ¬ ba < 0) (hbb : ¬ z1 < ba) (w : World) (gl : Gf w0 w)  : Calls Tryz.prog 8 #[.agg #[.string n, .int .i64 k, .int .i64 a, .int .i64 x, .int .i64 y, .int .i64 z, .int .i64 lo, .int .i64 hi, .slice fp fl fc], .agg #[.int .i64 fk, .bool fd, .int .i64 ft, .int .i64 fm, .slice dp dl dc], .int .u16 u] w fun r W' => r = .returned (.bool true) ∧ Kb w W' := by
  have kx := Kb.refl w
  unfold Ca at q4
  unfold Cf at q1 q2 q3
  have gl0 := Lib.hid gl
  have a1' : IntKind.i64.wrap (hi - lo) = z1 := (Go.IntWalk.i64_left _).trans a1
  have a2' : IntKind.i64.wrap (z1 + 1) = z2 := (Go.IntWalk.i64_left _).trans a2
  have a4' : IntKind.i64.wrap (lo + z3) = z4 := (Go.IntWalk.i64_left _).trans a4
  have a5' : IntKind.i64.wrap (z4 + ft) = z5 := (Go.IntWalk.i64_left _).trans a5
  have a6' : IntKind.i64.wrap (z5 + ba) = z6 := (Go.IntWalk.i64_left _).trans a6
  have j1 := ((Is.made w #[.string n, .int .i64 k, .int .i64 a, .int .i64 x, .int .i64 y, .int .i64 z, .int .i64 lo, .int .i64 hi, .slice fp fl fc] 28).alloc (.cells #[.int .i64 fk, .bool fd, .int .i64 ft, .int .i64 fm, .slice dp dl dc] 31 (0, 0)))
  have f2 := j1.c (i := 0) rfl
  have f3 := j1.c (i := 1) rfl
  have f4 := j1.c (i := 2) rfl
  have f5 := j1.c (i := 3) rfl
  have f6 := j1.c (i := 4) rfl
  have f7 := j1.c (i := 5) rfl
  have f8 := j1.c (i := 6) rfl
  have f9 := j1.c (i := 7) rfl
  have f10 := j1.c (i := 8) rfl
  go_enter Tryz.func8, Tryz.ntmps8
  go_wp2_with fail
  clear f2 f3 f4 f5 f6 f7 f8 f9 f10
  have b1 := j1
  have b2 := Is.made (w.alloc (.cells #[.string n, .int .i64 k, .int .i64 a, .int .i64 x, .int .i64 y, .int .i64 z, .int .i64 lo, .int .i64 hi, .slice fp fl fc] 28 (0, 0))) #[.int .i64 fk, .bool fd, .int .i64 ft, .int .i64 fm, .slice dp dl dc] 31
  simp only [World.size_alloc] at b2
  replace kx := (kx.alloc (.cells #[.string n, .int .i64 k, .int .i64 a, .int .i64 x, .int .i64 y, .int .i64 z, .int .i64 lo, .int .i64 hi, .slice fp fl fc] 28 (0, 0))).alloc (.cells #[.int .i64 fk, .bool fd, .int .i64 ft, .int .i64 fm, .slice dp dl dc] 31 (0, 0))
  clear j1
  replace gl := gl0.out.kb kx
  (with_reducible refine ((Cf.out (cFew n k a x y z lo hi fp fl fc fs hfr) _ gl)).mono ?_)
  rintro r w1 ⟨rfl, k1⟩
  replace gl := gl.kb k1
  replace b1 := b1.kb k1
  replace b2 := b2.kb k1
  replace kx := kx.trans k1
  have s1 := k1.size
  simp only [World.size_alloc] at s1
  clear k1
  have f11 := b2.c (i := 0) rfl
  have f12 := b2.c (i := 1) rfl
  have f13 := b2.c (i := 2) rfl
  have f14 := b2.c (i := 3) rfl
  have f15 := b2.c (i := 4) rfl
  go_wp2_with fail
  clear f11 f12 f13 f14 f15
  (with_reducible refine ((Cf.out (cFewX fk fd ft fm dp dl dc ds hd) _ gl)).mono ?_)
  rintro r w2 ⟨rfl, k2⟩
  replace gl := gl.kb k2
  replace b1 := b1.kb k2
  replace b2 := b2.kb k2
  replace kx := kx.trans k2
  have s2 := k2.size
  skip
  clear k2
  have f16 := b1.c (i := 0) rfl
  have f17 := b1.c (i := 1) rfl
  have f18 := b1.c (i := 2) rfl
  have f19 := b1.c (i := 3) rfl
  have f20 := b1.c (i := 4) rfl
  have f21 := b1.c (i := 5) rfl
  have f22 := b1.c (i := 6) rfl
  have f23 := b1.c (i := 7) rfl
  have f24 := b1.c (i := 8) rfl
  have f25 := b2.c (i := 0) rfl
  have f26 := b2.c (i := 1) rfl
  have f27 := b2.c (i := 2) rfl
  have f28 := b2.c (i := 3) rfl
  have f29 := b2.c (i := 4) rfl
  go_wp2_with fail
  clear f16 f17 f18 f19 f20 f21 f22 f23 f24 f25 f26 f27 f28 f29
  (with_reducible refine ((Cf.out (rfrCheck n k a x y z lo hi fp fl fc fk fd ft fm dp dl dc ds hnz hd hz) _ gl)).mono ?_)
  rintro r w3 ⟨rfl, k3⟩
  replace gl := gl.kb k3
  replace b1 := b1.kb k3
  replace b2 := b2.kb k3
  replace kx := kx.trans k3
  have s3 := k3.size
  skip
  clear k3
  have f30 := b2.c (i := 3) rfl
  go_wp2_with fail
  clear f30
  replace gl := gl.drew
  replace b1 := b1.drew
  replace b2 := b2.drew
  rw [oF_lit]
  refine o_law (⟨122, [some 34, some 35, some 36, some 37, some 38, some 39, some 40, some 41, some 42, some 43, some 44, some 45, some 46, some 47, some 48, some 7], [34, 35, 36, 37, 38, 39, 40, 41, 42, 43, 44, 45, 46, 47, 48, 7], [[], [0], [1], [], [3], [], [5], [6], [], [8], [9], [7, 10], [11], [4, 12], [2, 13], [14]], [[3], [], [], [2], [], [3], [], [], [3], [], [], [], [], [], [], []]⟩ : OT) (Kx []) (RL [fun vv _ => vv = .pointer (some ⟨w.heap.size, 6, none⟩), fun vv _ => vv = .pointer (some ⟨w.heap.size, 6, none⟩), fun vv _ => vv = .int .i64 lo, fun vv _ => vv = .int .u16 u, fun vv _ => vv = .int .i64 u, fun vv _ => vv = .pointer (some ⟨w.heap.size, 6, none⟩), fun vv _ => vv = .pointer (some ⟨w.heap.size, 7, none⟩), fun vv _ => vv = .int .i64 hi, fun vv _ => vv = .pointer (some ⟨w.heap.size, 6, none⟩), fun vv _ => vv = .pointer (some ⟨w.heap.size, 6, none⟩), fun vv _ => vv = .int .i64 lo, fun vv _ => vv = .int .i64 z1, fun vv _ => vv = .int .i64 z2, fun vv _ => vv = .int .i64 z3, fun vv _ => vv = .int .i64 z4, fun vv _ => vv = .int .i64 z4]) (by kernel_rfl) ?hk ?hR ?fin
  case hk => kernel_rfl
  case hR =>
    refine ⟨fun _ => (Kx.refl _ _), fun _ _ _ => Kx.trans, rl_stab ⟨fun _ _ _ _ h => h, fun _ _ _ _ h => h, fun _ _ _ _ h => h, fun _ _ _ _ h => h, fun _ _ _ _ h => h, fun _ _ _ _ h => h, fun _ _ _ _ h => h, fun _ _ _ _ h => h, fun _ _ _ _ h => h, fun _ _ _ _ h => h, fun _ _ _ _ h => h, fun _ _ _ _ h => h, fun _ _ _ _ h => h, fun _ _ _ _ h => h, fun _ _ _ _ h => h, fun _ _ _ _ h => h, trivial⟩, ?_⟩
    refine allO_cons ?_ (allO_cons ?_ (allO_cons ?_ (allO_cons ?_ (allO_cons ?_ (allO_cons ?_ (allO_cons ?_ (allO_cons ?_ (allO_cons ?_ (allO_cons ?_ (allO_cons ?_ (allO_cons ?_ (allO_cons ?_ (allO_cons ?_ (allO_cons ?_ (allO_cons ?_ (allO_nil))))))))))))))))
    · intro T w9 hG hD hO Q
      have q0 := hO.1
      have e0 : (oF 122 T).eval (.tmp 3) = .pointer (some ⟨w.heap.size, 0, none⟩) := (oF_eval (by decide)).trans (show T 3 = _ from q0)
      refine og_none rfl ?_
      exact o_val (v := .pointer (some ⟨w.heap.size, 6, none⟩)) (w' := w9) (by generalize (oF 122 T).eval = rr at *; simp [execOp, go_sem, e0]) rfl rfl (Kx.refl _ _)
    · intro T w9 hG hD hO Q
      have d0 := hD.1
      have e0 : (oF 122 T).eval (.tmp 34) = .pointer (some ⟨w.heap.size, 6, none⟩) := (oF_eval (by decide)).trans (show T 34 = _ from d0)
      refine og_none rfl ?_
      exact o_val (v := .pointer (some ⟨w.heap.size, 6, none⟩)) (w' := w9) (by generalize (oF 122 T).eval = rr at *; simp [execOp, go_sem, e0]) rfl rfl (Kx.refl _ _)
    · intro T w9 hG hD hO Q
      have d0 := hD.1
      have e0 : (oF 122 T).eval (.tmp 35) = .pointer (some ⟨w.heap.size, 6, none⟩) := (oF_eval (by decide)).trans (show T 35 = _ from d0)
      refine og_none rfl ?_
      have im := b1.kx hG (by simp)
      have m0 := im.c (i := 6) rfl
      clear im
      exact o_val (v := .int .i64 lo) (w' := w9) (by generalize (oF 122 T).eval = rr at *; simp [execOp, go_sem, e0, m0]) rfl rfl (Kx.refl _ _)
    · intro T w9 hG hD hO Q
      have q0 := hO.1
      have e0 : (oF 122 T).eval (.tmp 2) = .int .u16 u := (oF_eval (by decide)).trans (show T 2 = _ from q0)
      refine og_none rfl ?_
      exact o_val (v := .int .u16 u) (w' := w9) (by generalize (oF 122 T).eval = rr at *; simp [execOp, go_sem, e0]) rfl rfl (Kx.refl _ _)
    · intro T w9 hG hD hO Q
      have d0 := hD.1
      have e0 : (oF 122 T).eval (.tmp 37) = .int .u16 u := (oF_eval (by decide)).trans (show T 37 = _ from d0)
      refine og_none rfl ?_
      exact o_val (v := .int .i64 u) (w' := w9) (by generalize (oF 122 T).eval = rr at *; simp [execOp, go_sem, e0, hcv]) rfl rfl (Kx.refl _ _)
    · intro T w9 hG hD hO Q
      have q0 := hO.1
      have e0 : (oF 122 T).eval (.tmp 3) = .pointer (some ⟨w.heap.size, 0, none⟩) := (oF_eval (by decide)).trans (show T 3 = _ from q0)
      refine og_none rfl ?_
      exact o_val (v := .pointer (some ⟨w.heap.size, 6, none⟩)) (w' := w9) (by generalize (oF 122 T).eval = rr at *; simp [execOp, go_sem, e0]) rfl rfl (Kx.refl _ _)
    · intro T w9 hG hD hO Q
      have d0 := hD.1
      have e0 : (oF 122 T).eval (.tmp 39) = .pointer (some ⟨w.heap.size, 6, none⟩) := (oF_eval (by decide)).trans (show T 39 = _ from d0)
      refine og_none rfl ?_
      exact o_val (v := .pointer (some ⟨w.heap.size, 7, none⟩)) (w' := w9) (by generalize (oF 122 T).eval = rr at *; simp [execOp, go_sem, e0]) rfl rfl (Kx.refl _ _)
    · intro T w9 hG hD hO Q
      have d0 := hD.1
      have e0 : (oF 122 T).eval (.tmp 40) = .pointer (some ⟨w.heap.size, 7, none⟩) := (oF_eval (by decide)).trans (show T 40 = _ from d0)
      refine og_none rfl ?_
      have im := b1.kx hG (by simp)
      have m0 := im.c (i := 7) rfl
      clear im
      exact o_val (v := .int .i64 hi) (w' := w9) (by generalize (oF 122 T).eval = rr at *; simp [execOp, go_sem, e0, m0]) rfl rfl (Kx.refl _ _)
    · intro T w9 hG hD hO Q
      have q0 := hO.1
      have e0 : (oF 122 T).eval (.tmp 3) = .pointer (some ⟨w.heap.size, 0, none⟩) := (oF_eval (by decide)).trans (show T 3 = _ from q0)
      refine og_none rfl ?_
      exact o_val (v := .pointer (some ⟨w.heap.size, 6, none⟩)) (w' := w9) (by generalize (oF 122 T).eval = rr at *; simp [execOp, go_sem, e0]) rfl rfl (Kx.refl _ _)
    · intro T w9 hG hD hO Q
      have d0 := hD.1
      have e0 : (oF 122 T).eval (.tmp 42) = .pointer (some ⟨w.heap.size, 6, none⟩) := (oF_eval (by decide)).trans (show T 42 = _ from d0)
      refine og_none rfl ?_
      exact o_val (v := .pointer (some ⟨w.heap.size, 6, none⟩)) (w' := w9) (by generalize (oF 122 T).eval = rr at *; simp [execOp, go_sem, e0]) rfl rfl (Kx.refl _ _)
    · intro T w9 hG hD hO Q
      have d0 := hD.1
      have e0 : (oF 122 T).eval (.tmp 43) = .pointer (some ⟨w.heap.size, 6, none⟩) := (oF_eval (by decide)).trans (show T 43 = _ from d0)
      refine og_none rfl ?_
      have im := b1.kx hG (by simp)
      have m0 := im.c (i := 6) rfl
      clear im
      exact o_val (v := .int .i64 lo) (w' := w9) (by generalize (oF 122 T).eval = rr at *; simp [execOp, go_sem, e0, m0]) rfl rfl (Kx.refl _ _)
    · intro T w9 hG hD hO Q
      have d0 := hD.1
      have d1 := hD.2.1
      have e0 : (oF 122 T).eval (.tmp 41) = .int .i64 hi := (oF_eval (by decide)).trans (show T 41 = _ from d0)
      have e1 : (oF 122 T).eval (.tmp 44) = .int .i64 lo := (oF_eval (by decide)).trans (show T 44 = _ from d1)
      refine og_none rfl ?_
      exact o_val (v := .int .i64 z1) (w' := w9) (by generalize (oF 122 T).eval = rr at *; simp [execOp, go_sem, e0, e1, a1']) rfl rfl (Kx.refl _ _)
    · intro T w9 hG hD hO Q
      have d0 := hD.1
      have e0 : (oF 122 T).eval (.tmp 45) = .int .i64 z1 := (oF_eval (by decide)).trans (show T 45 = _ from d0)
      have e1 : (oF 122 T).eval (.const (.int .i64 1)) = .int .i64 1 := rfl
      refine og_none rfl ?_
      exact o_val (v := .int .i64 z2) (w' := w9) (by generalize (oF 122 T).eval = rr at *; simp [execOp, go_sem, e0, e1, a2']) rfl rfl (Kx.refl _ _)
    · intro T w9 hG hD hO Q
      have d0 := hD.1
      have d1 := hD.2.1
      have e0 : (oF 122 T).eval (.tmp 38) = .int .i64 u := (oF_eval (by decide)).trans (show T 38 = _ from d0)
      have e1 : (oF 122 T).eval (.tmp 46) = .int .i64 z2 := (oF_eval (by decide)).trans (show T 46 = _ from d1)
      refine og_none rfl ?_
      exact o_val (v := .int .i64 z3) (w' := w9) (by generalize (oF 122 T).eval = rr at *; simp [execOp, go_sem, e0, e1, a3, hne]) rfl rfl (Kx.refl _ _)
    · intro T w9 hG hD hO Q
      have d0 := hD.1
      have d1 := hD.2.1
      have e0 : (oF 122 T).eval (.tmp 36) = .int .i64 lo := (oF_eval (by decide)).trans (show T 36 = _ from d0)
      have e1 : (oF 122 T).eval (.tmp 47) = .int .i64 z3 := (oF_eval (by decide)).trans (show T 47 = _ from d1)
      refine og_none rfl ?_
      exact o_val (v := .int .i64 z4) (w' := w9) (by generalize (oF 122 T).eval = rr at *; simp [execOp, go_sem, e0, e1, a4']) rfl rfl (Kx.refl _ _)
    · intro T w9 hG hD hO Q
      have d0 := hD.1
      have e0 : (oF 122 T).eval (.tmp 48) = .int .i64 z4 := (oF_eval (by decide)).trans (show T 48 = _ from d0)
      refine og_none rfl ?_
      exact o_val (v := .int .i64 z4) (w' := w9) (by generalize (oF 122 T).eval = rr at *; simp [execOp, go_sem, e0]) rfl rfl (Kx.refl _ _)
  case fin =>
    intro T w4 hout hval hG
    have s4 := hG.2.2.2.1
    simp only [World.size_drew] at s4
    rw [show oF 122 T = (⟨#[T 0, T 1, T 2, T 3, T 4, T 5, T 6, T 7, T 8, T 9, T 10, T 11, T 12, T 13, T 14, T 15, T 16, T 17, T 18, T 19, T 20, T 21, T 22, T 23, T 24, T 25, T 26, T 27, T 28, T 29, T 30, T 31, T 32, T 33, T 34, T 35, T 36, T 37, T 38, T 39, T 40, T 41, T 42, T 43, T 44, T 45, T 46, T 47, T 48, T 49, T 50, T 51, T 52, T 53, T 54, T 55, T 56, T 57, T 58, T 59, T 60, T 61, T 62, T 63, T 64, T 65, T 66, T 67, T 68, T 69, T 70, T 71, T 72, T 73, T 74, T 75, T 76, T 77, T 78, T 79, T 80, T 81, T 82, T 83, T 84, T 85, T 86, T 87, T 88, T 89, T 90, T 91, T 92, T 93, T 94, T 95, T 96, T 97, T 98, T 99, T 100, T 101, T 102, T 103, T 104, T 105, T 106, T 107, T 108, T 109, T 110, T 111, T 112, T 113, T 114, T 115, T 116, T 117, T 118, T 119, T 120, T 121], []⟩ : Act) from oF_list 122 T]
    rw [show T 0 = .agg #[.string n, .int .i64 k, .int .i64 a, .int .i64 x, .int .i64 y, .int .i64 z, .int .i64 lo, .int .i64 hi, .slice fp fl fc] from hout 0 rfl]
    rw [show T 1 = .agg #[.int .i64 fk, .bool fd, .int .i64 ft, .int .i64 fm, .slice dp dl dc] from hout 1 rfl]
    rw [show T 3 = .pointer (some ⟨w.heap.size, 0, none⟩) from hout 3 rfl]
    rw [show T 4 = .pointer (some ⟨w.heap.size + 1, 0, none⟩) from hout 4 rfl]
    rw [show T 6 = .bool false from hout 6 rfl]
    rw [show T 7 = .int .i64 z4 from hval 15 (by decide : 15 < 16)]
    rw [show T 14 = .agg #[.string n, .int .i64 k, .int .i64 a, .int .i64 x, .int .i64 y, .int .i64 z, .int .i64 lo, .int .i64 hi, .slice fp fl fc] from hout 14 rfl]
    rw [show T 15 = .bool true from hout 15 rfl]
    rw [show T 16 = .bool false from hout 16 rfl]
    rw [show T 17 = .bool false from hout 17 rfl]
    rw [show T 18 = .agg #[.int .i64 fk, .bool fd, .int .i64 ft, .int .i64 fm, .slice dp dl dc] from hout 18 rfl]
    rw [show T 19 = .bool true from hout 19 rfl]
    rw [show T 20 = .bool false from hout 20 rfl]
    rw [show T 21 = .bool false from hout 21 rfl]
    rw [show T 22 = .bool false from hout 22 rfl]
    rw [show T 23 = .agg #[.string n, .int .i64 k, .int .i64 a, .int .i64 x, .int .i64 y, .int .i64 z, .int .i64 lo, .int .i64 hi, .slice fp fl fc] from hout 23 rfl]
    rw [show T 24 = .agg #[.int .i64 fk, .bool fd, .int .i64 ft, .int .i64 fm, .slice dp dl dc] from hout 24 rfl]
    rw [show T 25 = .int .i64 (fcE n k a x y z lo hi fk fd ft fm ds) from hout 25 rfl]
    rw [show T 26 = .bool false from hout 26 rfl]
    rw [show T 27 = .bool false from hout 27 rfl]
    rw [show T 28 = .bool false from hout 28 rfl]
    rw [show T 29 = .pointer (some ⟨w.heap.size + 1, 3, none⟩) from hout 29 rfl]
    rw [show T 30 = .int .i64 fm from hout 30 rfl]
    rw [show T 31 = .bool false from hout 31 rfl]
    rw [show T 32 = .bool false from hout 32 rfl]
    replace b1 := b1.kx hG (by simp)
    replace b2 := b2.kx hG (by simp)
    replace kx := (show Kb _ _ from kx.drew).trans hG.nil
    replace gl := gl0.out.kb kx
    clear hout hval hG
    have f31 := b1.c (i := 0) rfl
    have f32 := b1.c (i := 1) rfl
    have f33 := b1.c (i := 2) rfl
    have f34 := b1.c (i := 3) rfl
    have f35 := b1.c (i := 4) rfl
    have f36 := b1.c (i := 5) rfl
    have f37 := b1.c (i := 6) rfl
    have f38 := b1.c (i := 7) rfl
    have f39 := b1.c (i := 8) rfl
    have f40 := b2.c (i := 0) rfl
    have f41 := b2.c (i := 1) rfl
    have f42 := b2.c (i := 2) rfl
    have f43 := b2.c (i := 3) rfl
    have f44 := b2.c (i := 4) rfl
    go_wp2_with fail
    clear f31 f32 f33 f34 f35 f36 f37 f38 f39 f40 f41 f42 f43 f44
    (with_reducible refine ((q1.out _ gl)).mono ?_)
    rintro r w5 ⟨rfl, k5⟩
    replace gl := gl.kb k5
    replace b1 := b1.kb k5
    replace b2 := b2.kb k5
    replace kx := kx.trans k5
    have s5 := k5.size
    skip
    clear k5
    have f45 := b1.c (i := 0) rfl
    have f46 := b1.c (i := 1) rfl
    have f47 := b1.c (i := 2) rfl
    have f48 := b1.c (i := 3) rfl
    have f49 := b1.c (i := 4) rfl
    have f50 := b1.c (i := 5) rfl
    have f51 := b1.c (i := 6) rfl
    have f52 := b1.c (i := 7) rfl
    have f53 := b1.c (i := 8) rfl
    have f54 := b2.c (i := 0) rfl
    have f55 := b2.c (i := 1) rfl
    have f56 := b2.c (i := 2) rfl
    have f57 := b2.c (i := 3) rfl
    have f58 := b2.c (i := 4) rfl
    go_wp2_with fail
    clear f45 f46 f47 f48 f49 f50 f51 f52 f53 f54 f55 f56 f57 f58
    (with_reducible refine ((q2.out _ gl)).mono ?_)
    rintro r w6 ⟨rfl, k6⟩
    replace gl := gl.kb k6
    replace b1 := b1.kb k6
    replace b2 := b2.kb k6
    replace kx := kx.trans k6
    have s6 := k6.size
    skip
    clear k6
    have f59 := b1.c (i := 0) rfl
    have f60 := b1.c (i := 1) rfl
    have f61 := b1.c (i := 2) rfl
    have f62 := b1.c (i := 3) rfl
    have f63 := b1.c (i := 4) rfl
    have f64 := b1.c (i := 5) rfl
    have f65 := b1.c (i := 6) rfl
    have f66 := b1.c (i := 7) rfl
    have f67 := b1.c (i := 8) rfl
    go_wp2_with fail
    clear f59 f60 f61 f62 f63 f64 f65 f66 f67
    (with_reducible refine ((q3.out _ gl)).mono ?_)
    rintro r w7 ⟨rfl, k7⟩
    replace gl := gl.kb k7
    replace b1 := b1.kb k7
    replace b2 := b2.kb k7
    replace kx := kx.trans k7
    have s7 := k7.size
    skip
    clear k7
    have f68 := b1.c (i := 7) rfl
    have f69 := b1.c (i := 6) rfl
    go_wp2_with fail
    clear f68 f69
    (with_reducible refine (((q4).out _)).mono ?_)
    rintro r w8 ⟨rfl, k8⟩
    replace gl := gl.kb k8
    replace b1 := b1.kb k8
    replace b2 := b2.kb k8
    replace kx := kx.trans k8
    have s8 := k8.size
    skip
    clear k8
    have f70 := b2.c (i := 3) rfl
    have f71 := b2.c (i := 2) rfl
    go_wp2_with fail
    clear f70 f71
    (with_reducible refine ((Cf.out (fawakeC) _ gl)).mono ?_)
    rintro r w9 ⟨rfl, k9⟩
    replace gl := gl.kb k9
    replace b1 := b1.kb k9
    replace b2 := b2.kb k9
    replace kx := kx.trans k9
    have s9 := k9.size
    skip
    clear k9
    go_wp2
    go_ret
    exact ⟨rfl, kx⟩
set_option maxRecDepth 100000 in
set_option maxHeartbeats 4000000 in
theorem lbR_1 (w0 : World) (n : ByteArray) (k : Int) (a : Int) (x : Int) (y : Int) (z : Int) (lo : Int) (hi : Int) (fp : Option Addr) (fl : Nat) (fc : Nat) (fk : Int) (fd : Bool) (ft : Int) (fm : Int) (dp : Option Addr) (dl : Nat) (dc : Nat) (u : Int) (va : Int) (ba : Int) (z1 : Int) (z2 : Int) (z3 : Int) (z4 : Int) (z5 : Int) (z6 : Int) (a1 : wrap64 (hi - lo) = z1) (a2 : wrap64 (z1 + 1) = z2) (a3 : u.tmod z2 = z3) (a4 : wrap64 (lo + z3) = z4) (a5 : wrap64 (z4 + ft) = z5) (a6 : wrap64 (z5 + ba) = z6) (q1 : Cf w0 22 #[.agg #[.string n, .int .i64 k, .int .i64 a, .int .i64 x, .int .i64 y, .int .i64 z, .int .i64 lo, .int .i64 hi, .slice fp fl fc], .agg #[.int .i64 fk, .bool fd, .int .i64 ft, .int .i64 fm, .slice dp dl dc]] (.tuple #[.int .i64 va, .int .i64 0])) (q2 : Cf w0 24 #[.agg #[.string n, .int .i64 k, .int .i64 a, .int .i64 x, .int .i64 y, .int .i64 z, .int .i64 lo, .int .i64 hi, .slice fp fl fc], .agg #[.int .i64 fk, .bool fd, .int .i64 ft, .int .i64 fm, .slice dp dl dc], .int .i64 z4] (.tuple #[.int .i64 ba, .int .i64 0])) (q3 : Cf w0 32 #[.agg #[.string n, .int .i64 k, .int .i64 a, .int .i64 x, .int .i64 y, .int .i64 z, .int .i64 lo, .int .i64 hi, .slice fp fl fc]] (.tuple #[.bool false, .int .i64 0])) (q4 : Ca 33 #[.agg #[.int .i64 lo, .int .i64 hi], .int .i64 z4] (.bool true)) (fs : List FrT) (ds : List DatT) (hfr : FrS w0 (.slice fp fl fc) fs) (hd : DatS w0 (.slice dp dl dc) ds) (_hcd : dl ≤ dc) (hfa : (fewB n fs) = true) (hfb : (fewX fk fd ft fm ds) = true) (hnz : n.size ≤ 1000000) (_hdn : dl ≤ 100000) (hz : ∀ d ∈ ds, d.1.size ≤ 1000000) (hfc : ((fcE n k a x y z lo hi fk fd ft fm ds) != 0) = false) (hfm : (fm == 0) = false) (hf1 : (fm == 1) = true) (hva : (z6 == va) = true) (hcv : (IntKind.i64.wrap u) = u) (hne : z2 ≠ 0) (hba : ¬ ba < 0) (hbb : ¬ z1 < ba) (w : World) (gl : Gf w0 w)  : Calls Tryz.prog 8 #[.agg #[.string n, .int .i64 k, .int .i64 a, .int .i64 x, .int .i64 y, .int .i64 z, .int .i64 lo, .int .i64 hi, .slice fp fl fc], .agg #[.int .i64 fk, .bool fd, .int .i64 ft, .int .i64 fm, .slice dp dl dc], .int .u16 u] w fun r W' => r = .returned (.bool true) ∧ Kb w W' := by
  have kx := Kb.refl w
  unfold Ca at q4
  unfold Cf at q1 q2 q3
  have gl0 := Lib.hid gl
  have a1' : IntKind.i64.wrap (hi - lo) = z1 := (Go.IntWalk.i64_left _).trans a1
  have a2' : IntKind.i64.wrap (z1 + 1) = z2 := (Go.IntWalk.i64_left _).trans a2
  have a4' : IntKind.i64.wrap (lo + z3) = z4 := (Go.IntWalk.i64_left _).trans a4
  have a5' : IntKind.i64.wrap (z4 + ft) = z5 := (Go.IntWalk.i64_left _).trans a5
  have a6' : IntKind.i64.wrap (z5 + ba) = z6 := (Go.IntWalk.i64_left _).trans a6
  have j1 := ((Is.made w #[.string n, .int .i64 k, .int .i64 a, .int .i64 x, .int .i64 y, .int .i64 z, .int .i64 lo, .int .i64 hi, .slice fp fl fc] 28).alloc (.cells #[.int .i64 fk, .bool fd, .int .i64 ft, .int .i64 fm, .slice dp dl dc] 31 (0, 0)))
  have f2 := j1.c (i := 0) rfl
  have f3 := j1.c (i := 1) rfl
  have f4 := j1.c (i := 2) rfl
  have f5 := j1.c (i := 3) rfl
  have f6 := j1.c (i := 4) rfl
  have f7 := j1.c (i := 5) rfl
  have f8 := j1.c (i := 6) rfl
  have f9 := j1.c (i := 7) rfl
  have f10 := j1.c (i := 8) rfl
  go_enter Tryz.func8, Tryz.ntmps8
  go_wp2_with fail
  clear f2 f3 f4 f5 f6 f7 f8 f9 f10
  have b1 := j1
  have b2 := Is.made (w.alloc (.cells #[.string n, .int .i64 k, .int .i64 a, .int .i64 x, .int .i64 y, .int .i64 z, .int .i64 lo, .int .i64 hi, .slice fp fl fc] 28 (0, 0))) #[.int .i64 fk, .bool fd, .int .i64 ft, .int .i64 fm, .slice dp dl dc] 31
  simp only [World.size_alloc] at b2
  replace kx := (kx.alloc (.cells #[.string n, .int .i64 k, .int .i64 a, .int .i64 x, .int .i64 y, .int .i64 z, .int .i64 lo, .int .i64 hi, .slice fp fl fc] 28 (0, 0))).alloc (.cells #[.int .i64 fk, .bool fd, .int .i64 ft, .int .i64 fm, .slice dp dl dc] 31 (0, 0))
  clear j1
  replace gl := gl0.out.kb kx
  (with_reducible refine ((Cf.out (cFew n k a x y z lo hi fp fl fc fs hfr) _ gl)).mono ?_)
  rintro r w1 ⟨rfl, k1⟩
  replace gl := gl.kb k1
  replace b1 := b1.kb k1
  replace b2 := b2.kb k1
  replace kx := kx.trans k1
  have s1 := k1.size
  simp only [World.size_alloc] at s1
  clear k1
  have f11 := b2.c (i := 0) rfl
  have f12 := b2.c (i := 1) rfl
  have f13 := b2.c (i := 2) rfl
  have f14 := b2.c (i := 3) rfl
  have f15 := b2.c (i := 4) rfl
  go_wp2_with fail
  clear f11 f12 f13 f14 f15
  (with_reducible refine ((Cf.out (cFewX fk fd ft fm dp dl dc ds hd) _ gl)).mono ?_)
  rintro r w2 ⟨rfl, k2⟩
  replace gl := gl.kb k2
  replace b1 := b1.kb k2
  replace b2 := b2.kb k2
  replace kx := kx.trans k2
  have s2 := k2.size
  skip
  clear k2
  have f16 := b1.c (i := 0) rfl
  have f17 := b1.c (i := 1) rfl
  have f18 := b1.c (i := 2) rfl
  have f19 := b1.c (i := 3) rfl
  have f20 := b1.c (i := 4) rfl
  have f21 := b1.c (i := 5) rfl
  have f22 := b1.c (i := 6) rfl
  have f23 := b1.c (i := 7) rfl
  have f24 := b1.c (i := 8) rfl
  have f25 := b2.c (i := 0) rfl
  have f26 := b2.c (i := 1) rfl
  have f27 := b2.c (i := 2) rfl
  have f28 := b2.c (i := 3) rfl
  have f29 := b2.c (i := 4) rfl
  go_wp2_with fail
  clear f16 f17 f18 f19 f20 f21 f22 f23 f24 f25 f26 f27 f28 f29
  (with_reducible refine ((Cf.out (rfrCheck n k a x y z lo hi fp fl fc fk fd ft fm dp dl dc ds hnz hd hz) _ gl)).mono ?_)
  rintro r w3 ⟨rfl, k3⟩
  replace gl := gl.kb k3
  replace b1 := b1.kb k3
  replace b2 := b2.kb k3
  replace kx := kx.trans k3
  have s3 := k3.size
  skip
  clear k3
  have f30 := b2.c (i := 3) rfl
  go_wp2_with fail
  clear f30
  replace gl := gl.drew
  replace b1 := b1.drew
  replace b2 := b2.drew
  rw [oF_lit]
  refine o_law (⟨122, [some 34, some 35, some 36, some 37, some 38, some 39, some 40, some 41, some 42, some 43, some 44, some 45, some 46, some 47, some 48, some 7], [34, 35, 36, 37, 38, 39, 40, 41, 42, 43, 44, 45, 46, 47, 48, 7], [[], [0], [1], [], [3], [], [5], [6], [], [8], [9], [7, 10], [11], [4, 12], [2, 13], [14]], [[3], [], [], [2], [], [3], [], [], [3], [], [], [], [], [], [], []]⟩ : OT) (Kx []) (RL [fun vv _ => vv = .pointer (some ⟨w.heap.size, 6, none⟩), fun vv _ => vv = .pointer (some ⟨w.heap.size, 6, none⟩), fun vv _ => vv = .int .i64 lo, fun vv _ => vv = .int .u16 u, fun vv _ => vv = .int .i64 u, fun vv _ => vv = .pointer (some ⟨w.heap.size, 6, none⟩), fun vv _ => vv = .pointer (some ⟨w.heap.size, 7, none⟩), fun vv _ => vv = .int .i64 hi, fun vv _ => vv = .pointer (some ⟨w.heap.size, 6, none⟩), fun vv _ => vv = .pointer (some ⟨w.heap.size, 6, none⟩), fun vv _ => vv = .int .i64 lo, fun vv _ => vv = .int .i64 z1, fun vv _ => vv = .int .i64 z2, fun vv _ => vv = .int .i64 z3, fun vv _ => vv = .int .i64 z4, fun vv _ => vv = .int .i64 z4]) (by kernel_rfl) ?hk ?hR ?fin
  case hk => kernel_rfl
  case hR =>
    refine ⟨fun _ => (Kx.refl _ _), fun _ _ _ => Kx.trans, rl_stab ⟨fun _ _ _ _ h => h, fun _ _ _ _ h => h, fun _ _ _ _ h => h, fun _ _ _ _ h => h, fun _ _ _ _ h => h, fun _ _ _ _ h => h, fun _ _ _ _ h => h, fun _ _ _ _ h => h, fun _ _ _ _ h => h, fun _ _ _ _ h => h, fun _ _ _ _ h => h, fun _ _ _ _ h => h, fun _ _ _ _ h => h, fun _ _ _ _ h => h, fun _ _ _ _ h => h, fun _ _ _ _ h => h, trivial⟩, ?_⟩
    refine allO_cons ?_ (allO_cons ?_ (allO_cons ?_ (allO_cons ?_ (allO_cons ?_ (allO_cons ?_ (allO_cons ?_ (allO_cons ?_ (allO_cons ?_ (allO_cons ?_ (allO_cons ?_ (allO_cons ?_ (allO_cons ?_ (allO_cons ?_ (allO_cons ?_ (allO_cons ?_ (allO_nil))))))))))))))))
    · intro T w9 hG hD hO Q
      have q0 := hO.1
      have e0 : (oF 122 T).eval (.tmp 3) = .pointer (some ⟨w.heap.size, 0, none⟩) := (oF_eval (by decide)).trans (show T 3 = _ from q0)
      refine og_none rfl ?_
      exact o_val (v := .pointer (some ⟨w.heap.size, 6, none⟩)) (w' := w9) (by generalize (oF 122 T).eval = rr at *; simp [execOp, go_sem, e0]) rfl rfl (Kx.refl _ _)
    · intro T w9 hG hD hO Q
      have d0 := hD.1
      have e0 : (oF 122 T).eval (.tmp 34) = .pointer (some ⟨w.heap.size, 6, none⟩) := (oF_eval (by decide)).trans (show T 34 = _ from d0)
      refine og_none rfl ?_
      exact o_val (v := .pointer (some ⟨w.heap.size, 6, none⟩)) (w' := w9) (by generalize (oF 122 T).eval = rr at *; simp [execOp, go_sem, e0]) rfl rfl (Kx.refl _ _)
    · intro T w9 hG hD hO Q
      have d0 := hD.1
      have e0 : (oF 122 T).eval (.tmp 35) = .pointer (some ⟨w.heap.size, 6, none⟩) := (oF_eval (by decide)).trans (show T 35 = _ from d0)
      refine og_none rfl ?_
      have im := b1.kx hG (by simp)
      have m0 := im.c (i := 6) rfl
      clear im
      exact o_val (v := .int .i64 lo) (w' := w9) (by generalize (oF 122 T).eval = rr at *; simp [execOp, go_sem, e0, m0]) rfl rfl (Kx.refl _ _)
    · intro T w9 hG hD hO Q
      have q0 := hO.1
      have e0 : (oF 122 T).eval (.tmp 2) = .int .u16 u := (oF_eval (by decide)).trans (show T 2 = _ from q0)
      refine og_none rfl ?_
      exact o_val (v := .int .u16 u) (w' := w9) (by generalize (oF 122 T).eval = rr at *; simp [execOp, go_sem, e0]) rfl rfl (Kx.refl _ _)
    · intro T w9 hG hD hO Q
      have d0 := hD.1
      have e0 : (oF 122 T).eval (.tmp 37) = .int .u16 u := (oF_eval (by decide)).trans (show T 37 = _ from d0)
      refine og_none rfl ?_
      exact o_val (v := .int .i64 u) (w' := w9) (by generalize (oF 122 T).eval = rr at *; simp [execOp, go_sem, e0, hcv]) rfl rfl (Kx.refl _ _)
    · intro T w9 hG hD hO Q
      have q0 := hO.1
      have e0 : (oF 122 T).eval (.tmp 3) = .pointer (some ⟨w.heap.size, 0, none⟩) := (oF_eval (by decide)).trans (show T 3 = _ from q0)
      refine og_none rfl ?_
      exact o_val (v := .pointer (some ⟨w.heap.size, 6, none⟩)) (w' := w9) (by generalize (oF 122 T).eval = rr at *; simp [execOp, go_sem, e0]) rfl rfl (Kx.refl _ _)
    · intro T w9 hG hD hO Q
      have d0 := hD.1
      have e0 : (oF 122 T).eval (.tmp 39) = .pointer (some ⟨w.heap.size, 6, none⟩) := (oF_eval (by decide)).trans (show T 39 = _ from d0)
      refine og_none rfl ?_
      exact o_val (v := .pointer (some ⟨w.heap.size, 7, none⟩)) (w' := w9) (by generalize (oF 122 T).eval = rr at *; simp [execOp, go_sem, e0]) rfl rfl (Kx.refl _ _)
    · intro T w9 hG hD hO Q
      have d0 := hD.1
      have e0 : (oF 122 T).eval (.tmp 40) = .pointer (some ⟨w.heap.size, 7, none⟩) := (oF_eval (by decide)).trans (show T 40 = _ from d0)
      refine og_none rfl ?_
      have im := b1.kx hG (by simp)
      have m0 := im.c (i := 7) rfl
      clear im
      exact o_val (v := .int .i64 hi) (w' := w9) (by generalize (oF 122 T).eval = rr at *; simp [execOp, go_sem, e0, m0]) rfl rfl (Kx.refl _ _)
    · intro T w9 hG hD hO Q
      have q0 := hO.1
      have e0 : (oF 122 T).eval (.tmp 3) = .pointer (some ⟨w.heap.size, 0, none⟩) := (oF_eval (by decide)).trans (show T 3 = _ from q0)
      refine og_none rfl ?_
      exact o_val (v := .pointer (some ⟨w.heap.size, 6, none⟩)) (w' := w9) (by generalize (oF 122 T).eval = rr at *; simp [execOp, go_sem, e0]) rfl rfl (Kx.refl _ _)
    · intro T w9 hG hD hO Q
      have d0 := hD.1
      have e0 : (oF 122 T).eval (.tmp 42) = .pointer (some ⟨w.heap.size, 6, none⟩) := (oF_eval (by decide)).trans (show T 42 = _ from d0)
      refine og_none rfl ?_
      exact o_val (v := .pointer (some ⟨w.heap.size, 6, none⟩)) (w' := w9) (by generalize (oF 122 T).eval = rr at *; simp [execOp, go_sem, e0]) rfl rfl (Kx.refl _ _)
    · intro T w9 hG hD hO Q
      have d0 := hD.1
      have e0 : (oF 122 T).eval (.tmp 43) = .pointer (some ⟨w.heap.size, 6, none⟩) := (oF_eval (by decide)).trans (show T 43 = _ from d0)
      refine og_none rfl ?_
      have im := b1.kx hG (by simp)
      have m0 := im.c (i := 6) rfl
      clear im
      exact o_val (v := .int .i64 lo) (w' := w9) (by generalize (oF 122 T).eval = rr at *; simp [execOp, go_sem, e0, m0]) rfl rfl (Kx.refl _ _)
    · intro T w9 hG hD hO Q
      have d0 := hD.1
      have d1 := hD.2.1
      have e0 : (oF 122 T).eval (.tmp 41) = .int .i64 hi := (oF_eval (by decide)).trans (show T 41 = _ from d0)
      have e1 : (oF 122 T).eval (.tmp 44) = .int .i64 lo := (oF_eval (by decide)).trans (show T 44 = _ from d1)
      refine og_none rfl ?_
      exact o_val (v := .int .i64 z1) (w' := w9) (by generalize (oF 122 T).eval = rr at *; simp [execOp, go_sem, e0, e1, a1']) rfl rfl (Kx.refl _ _)
    · intro T w9 hG hD hO Q
      have d0 := hD.1
      have e0 : (oF 122 T).eval (.tmp 45) = .int .i64 z1 := (oF_eval (by decide)).trans (show T 45 = _ from d0)
      have e1 : (oF 122 T).eval (.const (.int .i64 1)) = .int .i64 1 := rfl
      refine og_none rfl ?_
      exact o_val (v := .int .i64 z2) (w' := w9) (by generalize (oF 122 T).eval = rr at *; simp [execOp, go_sem, e0, e1, a2']) rfl rfl (Kx.refl _ _)
    · intro T w9 hG hD hO Q
      have d0 := hD.1
      have d1 := hD.2.1
      have e0 : (oF 122 T).eval (.tmp 38) = .int .i64 u := (oF_eval (by decide)).trans (show T 38 = _ from d0)
      have e1 : (oF 122 T).eval (.tmp 46) = .int .i64 z2 := (oF_eval (by decide)).trans (show T 46 = _ from d1)
      refine og_none rfl ?_
      exact o_val (v := .int .i64 z3) (w' := w9) (by generalize (oF 122 T).eval = rr at *; simp [execOp, go_sem, e0, e1, a3, hne]) rfl rfl (Kx.refl _ _)
    · intro T w9 hG hD hO Q
      have d0 := hD.1
      have d1 := hD.2.1
      have e0 : (oF 122 T).eval (.tmp 36) = .int .i64 lo := (oF_eval (by decide)).trans (show T 36 = _ from d0)
      have e1 : (oF 122 T).eval (.tmp 47) = .int .i64 z3 := (oF_eval (by decide)).trans (show T 47 = _ from d1)
      refine og_none rfl ?_
      exact o_val (v := .int .i64 z4) (w' := w9) (by generalize (oF 122 T).eval = rr at *; simp [execOp, go_sem, e0, e1, a4']) rfl rfl (Kx.refl _ _)
    · intro T w9 hG hD hO Q
      have d0 := hD.1
      have e0 : (oF 122 T).eval (.tmp 48) = .int .i64 z4 := (oF_eval (by decide)).trans (show T 48 = _ from d0)
      refine og_none rfl ?_
      exact o_val (v := .int .i64 z4) (w' := w9) (by generalize (oF 122 T).eval = rr at *; simp [execOp, go_sem, e0]) rfl rfl (Kx.refl _ _)
  case fin =>
    intro T w4 hout hval hG
    have s4 := hG.2.2.2.1
    simp only [World.size_drew] at s4
    rw [show oF 122 T = (⟨#[T 0, T 1, T 2, T 3, T 4, T 5, T 6, T 7, T 8, T 9, T 10, T 11, T 12, T 13, T 14, T 15, T 16, T 17, T 18, T 19, T 20, T 21, T 22, T 23, T 24, T 25, T 26, T 27, T 28, T 29, T 30, T 31, T 32, T 33, T 34, T 35, T 36, T 37, T 38, T 39, T 40, T 41, T 42, T 43, T 44, T 45, T 46, T 47, T 48, T 49, T 50, T 51, T 52, T 53, T 54, T 55, T 56, T 57, T 58, T 59, T 60, T 61, T 62, T 63, T 64, T 65, T 66, T 67, T 68, T 69, T 70, T 71, T 72, T 73, T 74, T 75, T 76, T 77, T 78, T 79, T 80, T 81, T 82, T 83, T 84, T 85, T 86, T 87, T 88, T 89, T 90, T 91, T 92, T 93, T 94, T 95, T 96, T 97, T 98, T 99, T 100, T 101, T 102, T 103, T 104, T 105, T 106, T 107, T 108, T 109, T 110, T 111, T 112, T 113, T 114, T 115, T 116, T 117, T 118, T 119, T 120, T 121], []⟩ : Act) from oF_list 122 T]
    rw [show T 0 = .agg #[.string n, .int .i64 k, .int .i64 a, .int .i64 x, .int .i64 y, .int .i64 z, .int .i64 lo, .int .i64 hi, .slice fp fl fc] from hout 0 rfl]
    rw [show T 1 = .agg #[.int .i64 fk, .bool fd, .int .i64 ft, .int .i64 fm, .slice dp dl dc] from hout 1 rfl]
    rw [show T 3 = .pointer (some ⟨w.heap.size, 0, none⟩) from hout 3 rfl]
    rw [show T 4 = .pointer (some ⟨w.heap.size + 1, 0, none⟩) from hout 4 rfl]
    rw [show T 6 = .bool false from hout 6 rfl]
    rw [show T 7 = .int .i64 z4 from hval 15 (by decide : 15 < 16)]
    rw [show T 14 = .agg #[.string n, .int .i64 k, .int .i64 a, .int .i64 x, .int .i64 y, .int .i64 z, .int .i64 lo, .int .i64 hi, .slice fp fl fc] from hout 14 rfl]
    rw [show T 15 = .bool true from hout 15 rfl]
    rw [show T 16 = .bool false from hout 16 rfl]
    rw [show T 17 = .bool false from hout 17 rfl]
    rw [show T 18 = .agg #[.int .i64 fk, .bool fd, .int .i64 ft, .int .i64 fm, .slice dp dl dc] from hout 18 rfl]
    rw [show T 19 = .bool true from hout 19 rfl]
    rw [show T 20 = .bool false from hout 20 rfl]
    rw [show T 21 = .bool false from hout 21 rfl]
    rw [show T 22 = .bool false from hout 22 rfl]
    rw [show T 23 = .agg #[.string n, .int .i64 k, .int .i64 a, .int .i64 x, .int .i64 y, .int .i64 z, .int .i64 lo, .int .i64 hi, .slice fp fl fc] from hout 23 rfl]
    rw [show T 24 = .agg #[.int .i64 fk, .bool fd, .int .i64 ft, .int .i64 fm, .slice dp dl dc] from hout 24 rfl]
    rw [show T 25 = .int .i64 (fcE n k a x y z lo hi fk fd ft fm ds) from hout 25 rfl]
    rw [show T 26 = .bool false from hout 26 rfl]
    rw [show T 27 = .bool false from hout 27 rfl]
    rw [show T 28 = .bool false from hout 28 rfl]
    rw [show T 29 = .pointer (some ⟨w.heap.size + 1, 3, none⟩) from hout 29 rfl]
    rw [show T 30 = .int .i64 fm from hout 30 rfl]
    rw [show T 31 = .bool false from hout 31 rfl]
    rw [show T 32 = .bool false from hout 32 rfl]
    replace b1 := b1.kx hG (by simp)
    replace b2 := b2.kx hG (by simp)
    replace kx := (show Kb _ _ from kx.drew).trans hG.nil
    replace gl := gl0.out.kb kx
    clear hout hval hG
    have f31 := b1.c (i := 0) rfl
    have f32 := b1.c (i := 1) rfl
    have f33 := b1.c (i := 2) rfl
    have f34 := b1.c (i := 3) rfl
    have f35 := b1.c (i := 4) rfl
    have f36 := b1.c (i := 5) rfl
    have f37 := b1.c (i := 6) rfl
    have f38 := b1.c (i := 7) rfl
    have f39 := b1.c (i := 8) rfl
    have f40 := b2.c (i := 0) rfl
    have f41 := b2.c (i := 1) rfl
    have f42 := b2.c (i := 2) rfl
    have f43 := b2.c (i := 3) rfl
    have f44 := b2.c (i := 4) rfl
    go_wp2_with fail
    clear f31 f32 f33 f34 f35 f36 f37 f38 f39 f40 f41 f42 f43 f44
    (with_reducible refine ((q1.out _ gl)).mono ?_)
    rintro r w5 ⟨rfl, k5⟩
    replace gl := gl.kb k5
    replace b1 := b1.kb k5
    replace b2 := b2.kb k5
    replace kx := kx.trans k5
    have s5 := k5.size
    skip
    clear k5
    have f45 := b1.c (i := 0) rfl
    have f46 := b1.c (i := 1) rfl
    have f47 := b1.c (i := 2) rfl
    have f48 := b1.c (i := 3) rfl
    have f49 := b1.c (i := 4) rfl
    have f50 := b1.c (i := 5) rfl
    have f51 := b1.c (i := 6) rfl
    have f52 := b1.c (i := 7) rfl
    have f53 := b1.c (i := 8) rfl
    have f54 := b2.c (i := 0) rfl
    have f55 := b2.c (i := 1) rfl
    have f56 := b2.c (i := 2) rfl
    have f57 := b2.c (i := 3) rfl
    have f58 := b2.c (i := 4) rfl
    go_wp2_with fail
    clear f45 f46 f47 f48 f49 f50 f51 f52 f53 f54 f55 f56 f57 f58
    (with_reducible refine ((q2.out _ gl)).mono ?_)
    rintro r w6 ⟨rfl, k6⟩
    replace gl := gl.kb k6
    replace b1 := b1.kb k6
    replace b2 := b2.kb k6
    replace kx := kx.trans k6
    have s6 := k6.size
    skip
    clear k6
    have f59 := b1.c (i := 0) rfl
    have f60 := b1.c (i := 1) rfl
    have f61 := b1.c (i := 2) rfl
    have f62 := b1.c (i := 3) rfl
    have f63 := b1.c (i := 4) rfl
    have f64 := b1.c (i := 5) rfl
    have f65 := b1.c (i := 6) rfl
    have f66 := b1.c (i := 7) rfl
    have f67 := b1.c (i := 8) rfl
    go_wp2_with fail
    clear f59 f60 f61 f62 f63 f64 f65 f66 f67
    (with_reducible refine ((q3.out _ gl)).mono ?_)
    rintro r w7 ⟨rfl, k7⟩
    replace gl := gl.kb k7
    replace b1 := b1.kb k7
    replace b2 := b2.kb k7
    replace kx := kx.trans k7
    have s7 := k7.size
    skip
    clear k7
    have f68 := b1.c (i := 7) rfl
    have f69 := b1.c (i := 6) rfl
    go_wp2_with fail
    clear f68 f69
    (with_reducible refine (((q4).out _)).mono ?_)
    rintro r w8 ⟨rfl, k8⟩
    replace gl := gl.kb k8
    replace b1 := b1.kb k8
    replace b2 := b2.kb k8
    replace kx := kx.trans k8
    have s8 := k8.size
    skip
    clear k8
    have f70 := b2.c (i := 3) rfl
    have f71 := b2.c (i := 2) rfl
    go_wp2_with fail
    clear f70 f71
    (with_reducible refine ((Cf.out (fawakeC) _ gl)).mono ?_)
    rintro r w9 ⟨rfl, k9⟩
    replace gl := gl.kb k9
    replace b1 := b1.kb k9
    replace b2 := b2.kb k9
    replace kx := kx.trans k9
    have s9 := k9.size
    skip
    clear k9
    go_wp2
    go_ret
    exact ⟨rfl, kx⟩
set_option maxRecDepth 100000 in
set_option maxHeartbeats 4000000 in
theorem lbS_1 (w0 : World) (n : ByteArray) (k : Int) (a : Int) (x : Int) (y : Int) (z : Int) (lo : Int) (hi : Int) (fp : Option Addr) (fl : Nat) (fc : Nat) (fk : Int) (fd : Bool) (ft : Int) (fm : Int) (dp : Option Addr) (dl : Nat) (dc : Nat) (u : Int) (va : Int) (ba : Int) (z1 : Int) (z2 : Int) (z3 : Int) (z4 : Int) (z5 : Int) (z6 : Int) (a1 : wrap64 (hi - lo) = z1) (a2 : wrap64 (z1 + 1) = z2) (a3 : u.tmod z2 = z3) (a4 : wrap64 (lo + z3) = z4) (a5 : wrap64 (z4 - ft) = z5) (a6 : wrap64 (z5 - ba) = z6) (q1 : Cf w0 22 #[.agg #[.string n, .int .i64 k, .int .i64 a, .int .i64 x, .int .i64 y, .int .i64 z, .int .i64 lo, .int .i64 hi, .slice fp fl fc], .agg #[.int .i64 fk, .bool fd, .int .i64 ft, .int .i64 fm, .slice dp dl dc]] (.tuple #[.int .i64 va, .int .i64 0])) (q2 : Cf w0 24 #[.agg #[.string n, .int .i64 k, .int .i64 a, .int .i64 x, .int .i64 y, .int .i64 z, .int .i64 lo, .int .i64 hi, .slice fp fl fc], .agg #[.int .i64 fk, .bool fd, .int .i64 ft, .int .i64 fm, .slice dp dl dc], .int .i64 z4] (.tuple #[.int .i64 ba, .int .i64 0])) (q3 : Cf w0 32 #[.agg #[.string n, .int .i64 k, .int .i64 a, .int .i64 x, .int .i64 y, .int .i64 z, .int .i64 lo, .int .i64 hi, .slice fp fl fc]] (.tuple #[.bool false, .int .i64 0])) (q4 : Ca 33 #[.agg #[.int .i64 lo, .int .i64 hi], .int .i64 z4] (.bool true)) (fs : List FrT) (ds : List DatT) (hfr : FrS w0 (.slice fp fl fc) fs) (hd : DatS w0 (.slice dp dl dc) ds) (_hcd : dl ≤ dc) (hfa : (fewB n fs) = true) (hfb : (fewX fk fd ft fm ds) = true) (hnz : n.size ≤ 1000000) (_hdn : dl ≤ 100000) (hz : ∀ d ∈ ds, d.1.size ≤ 1000000) (hfc : ((fcE n k a x y z lo hi fk fd ft fm ds) != 0) = false) (hfm : (fm == 0) = false) (hf1 : (fm == 1) = false) (hva : (z6 == va) = true) (hcv : (IntKind.i64.wrap u) = u) (hne : z2 ≠ 0) (hba : ¬ ba < 0) (hbb : ¬ z1 < ba) (w : World) (gl : Gf w0 w)  : Calls Tryz.prog 8 #[.agg #[.string n, .int .i64 k, .int .i64 a, .int .i64 x, .int .i64 y, .int .i64 z, .int .i64 lo, .int .i64 hi, .slice fp fl fc], .agg #[.int .i64 fk, .bool fd, .int .i64 ft, .int .i64 fm, .slice dp dl dc], .int .u16 u] w fun r W' => r = .returned (.bool true) ∧ Kb w W' := by
  have kx := Kb.refl w
  unfold Ca at q4
  unfold Cf at q1 q2 q3
  have gl0 := Lib.hid gl
  have a1' : IntKind.i64.wrap (hi - lo) = z1 := (Go.IntWalk.i64_left _).trans a1
  have a2' : IntKind.i64.wrap (z1 + 1) = z2 := (Go.IntWalk.i64_left _).trans a2
  have a4' : IntKind.i64.wrap (lo + z3) = z4 := (Go.IntWalk.i64_left _).trans a4
  have a5' : IntKind.i64.wrap (z4 - ft) = z5 := (Go.IntWalk.i64_left _).trans a5
  have a6' : IntKind.i64.wrap (z5 - ba) = z6 := (Go.IntWalk.i64_left _).trans a6
  have j1 := ((Is.made w #[.string n, .int .i64 k, .int .i64 a, .int .i64 x, .int .i64 y, .int .i64 z, .int .i64 lo, .int .i64 hi, .slice fp fl fc] 28).alloc (.cells #[.int .i64 fk, .bool fd, .int .i64 ft, .int .i64 fm, .slice dp dl dc] 31 (0, 0)))
  have f2 := j1.c (i := 0) rfl
  have f3 := j1.c (i := 1) rfl
  have f4 := j1.c (i := 2) rfl
  have f5 := j1.c (i := 3) rfl
  have f6 := j1.c (i := 4) rfl
  have f7 := j1.c (i := 5) rfl
  have f8 := j1.c (i := 6) rfl
  have f9 := j1.c (i := 7) rfl
  have f10 := j1.c (i := 8) rfl
  go_enter Tryz.func8, Tryz.ntmps8
  go_wp2_with fail
  clear f2 f3 f4 f5 f6 f7 f8 f9 f10
  have b1 := j1
  have b2 := Is.made (w.alloc (.cells #[.string n, .int .i64 k, .int .i64 a, .int .i64 x, .int .i64 y, .int .i64 z, .int .i64 lo, .int .i64 hi, .slice fp fl fc] 28 (0, 0))) #[.int .i64 fk, .bool fd, .int .i64 ft, .int .i64 fm, .slice dp dl dc] 31
  simp only [World.size_alloc] at b2
  replace kx := (kx.alloc (.cells #[.string n, .int .i64 k, .int .i64 a, .int .i64 x, .int .i64 y, .int .i64 z, .int .i64 lo, .int .i64 hi, .slice fp fl fc] 28 (0, 0))).alloc (.cells #[.int .i64 fk, .bool fd, .int .i64 ft, .int .i64 fm, .slice dp dl dc] 31 (0, 0))
  clear j1
  replace gl := gl0.out.kb kx
  (with_reducible refine ((Cf.out (cFew n k a x y z lo hi fp fl fc fs hfr) _ gl)).mono ?_)
  rintro r w1 ⟨rfl, k1⟩
  replace gl := gl.kb k1
  replace b1 := b1.kb k1
  replace b2 := b2.kb k1
  replace kx := kx.trans k1
  have s1 := k1.size
  simp only [World.size_alloc] at s1
  clear k1
  have f11 := b2.c (i := 0) rfl
  have f12 := b2.c (i := 1) rfl
  have f13 := b2.c (i := 2) rfl
  have f14 := b2.c (i := 3) rfl
  have f15 := b2.c (i := 4) rfl
  go_wp2_with fail
  clear f11 f12 f13 f14 f15
  (with_reducible refine ((Cf.out (cFewX fk fd ft fm dp dl dc ds hd) _ gl)).mono ?_)
  rintro r w2 ⟨rfl, k2⟩
  replace gl := gl.kb k2
  replace b1 := b1.kb k2
  replace b2 := b2.kb k2
  replace kx := kx.trans k2
  have s2 := k2.size
  skip
  clear k2
  have f16 := b1.c (i := 0) rfl
  have f17 := b1.c (i := 1) rfl
  have f18 := b1.c (i := 2) rfl
  have f19 := b1.c (i := 3) rfl
  have f20 := b1.c (i := 4) rfl
  have f21 := b1.c (i := 5) rfl
  have f22 := b1.c (i := 6) rfl
  have f23 := b1.c (i := 7) rfl
  have f24 := b1.c (i := 8) rfl
  have f25 := b2.c (i := 0) rfl
  have f26 := b2.c (i := 1) rfl
  have f27 := b2.c (i := 2) rfl
  have f28 := b2.c (i := 3) rfl
  have f29 := b2.c (i := 4) rfl
  go_wp2_with fail
  clear f16 f17 f18 f19 f20 f21 f22 f23 f24 f25 f26 f27 f28 f29
  (with_reducible refine ((Cf.out (rfrCheck n k a x y z lo hi fp fl fc fk fd ft fm dp dl dc ds hnz hd hz) _ gl)).mono ?_)
  rintro r w3 ⟨rfl, k3⟩
  replace gl := gl.kb k3
  replace b1 := b1.kb k3
  replace b2 := b2.kb k3
  replace kx := kx.trans k3
  have s3 := k3.size
  skip
  clear k3
  have f30 := b2.c (i := 3) rfl
  go_wp2_with fail
  clear f30
  replace gl := gl.drew
  replace b1 := b1.drew
  replace b2 := b2.drew
  rw [oF_lit]
  refine o_law (⟨122, [some 34, some 35, some 36, some 37, some 38, some 39, some 40, some 41, some 42, some 43, some 44, some 45, some 46, some 47, some 48, some 7], [34, 35, 36, 37, 38, 39, 40, 41, 42, 43, 44, 45, 46, 47, 48, 7], [[], [0], [1], [], [3], [], [5], [6], [], [8], [9], [7, 10], [11], [4, 12], [2, 13], [14]], [[3], [], [], [2], [], [3], [], [], [3], [], [], [], [], [], [], []]⟩ : OT) (Kx []) (RL [fun vv _ => vv = .pointer (some ⟨w.heap.size, 6, none⟩), fun vv _ => vv = .pointer (some ⟨w.heap.size, 6, none⟩), fun vv _ => vv = .int .i64 lo, fun vv _ => vv = .int .u16 u, fun vv _ => vv = .int .i64 u, fun vv _ => vv = .pointer (some ⟨w.heap.size, 6, none⟩), fun vv _ => vv = .pointer (some ⟨w.heap.size, 7, none⟩), fun vv _ => vv = .int .i64 hi, fun vv _ => vv = .pointer (some ⟨w.heap.size, 6, none⟩), fun vv _ => vv = .pointer (some ⟨w.heap.size, 6, none⟩), fun vv _ => vv = .int .i64 lo, fun vv _ => vv = .int .i64 z1, fun vv _ => vv = .int .i64 z2, fun vv _ => vv = .int .i64 z3, fun vv _ => vv = .int .i64 z4, fun vv _ => vv = .int .i64 z4]) (by kernel_rfl) ?hk ?hR ?fin
  case hk => kernel_rfl
  case hR =>
    refine ⟨fun _ => (Kx.refl _ _), fun _ _ _ => Kx.trans, rl_stab ⟨fun _ _ _ _ h => h, fun _ _ _ _ h => h, fun _ _ _ _ h => h, fun _ _ _ _ h => h, fun _ _ _ _ h => h, fun _ _ _ _ h => h, fun _ _ _ _ h => h, fun _ _ _ _ h => h, fun _ _ _ _ h => h, fun _ _ _ _ h => h, fun _ _ _ _ h => h, fun _ _ _ _ h => h, fun _ _ _ _ h => h, fun _ _ _ _ h => h, fun _ _ _ _ h => h, fun _ _ _ _ h => h, trivial⟩, ?_⟩
    refine allO_cons ?_ (allO_cons ?_ (allO_cons ?_ (allO_cons ?_ (allO_cons ?_ (allO_cons ?_ (allO_cons ?_ (allO_cons ?_ (allO_cons ?_ (allO_cons ?_ (allO_cons ?_ (allO_cons ?_ (allO_cons ?_ (allO_cons ?_ (allO_cons ?_ (allO_cons ?_ (allO_nil))))))))))))))))
    · intro T w9 hG hD hO Q
      have q0 := hO.1
      have e0 : (oF 122 T).eval (.tmp 3) = .pointer (some ⟨w.heap.size, 0, none⟩) := (oF_eval (by decide)).trans (show T 3 = _ from q0)
      refine og_none rfl ?_
      exact o_val (v := .pointer (some ⟨w.heap.size, 6, none⟩)) (w' := w9) (by generalize (oF 122 T).eval = rr at *; simp [execOp, go_sem, e0]) rfl rfl (Kx.refl _ _)
    · intro T w9 hG hD hO Q
      have d0 := hD.1
      have e0 : (oF 122 T).eval (.tmp 34) = .pointer (some ⟨w.heap.size, 6, none⟩) := (oF_eval (by decide)).trans (show T 34 = _ from d0)
      refine og_none rfl ?_
      exact o_val (v := .pointer (some ⟨w.heap.size, 6, none⟩)) (w' := w9) (by generalize (oF 122 T).eval = rr at *; simp [execOp, go_sem, e0]) rfl rfl (Kx.refl _ _)
    · intro T w9 hG hD hO Q
      have d0 := hD.1
      have e0 : (oF 122 T).eval (.tmp 35) = .pointer (some ⟨w.heap.size, 6, none⟩) := (oF_eval (by decide)).trans (show T 35 = _ from d0)
      refine og_none rfl ?_
      have im := b1.kx hG (by simp)
      have m0 := im.c (i := 6) rfl
      clear im
      exact o_val (v := .int .i64 lo) (w' := w9) (by generalize (oF 122 T).eval = rr at *; simp [execOp, go_sem, e0, m0]) rfl rfl (Kx.refl _ _)
    · intro T w9 hG hD hO Q
      have q0 := hO.1
      have e0 : (oF 122 T).eval (.tmp 2) = .int .u16 u := (oF_eval (by decide)).trans (show T 2 = _ from q0)
      refine og_none rfl ?_
      exact o_val (v := .int .u16 u) (w' := w9) (by generalize (oF 122 T).eval = rr at *; simp [execOp, go_sem, e0]) rfl rfl (Kx.refl _ _)
    · intro T w9 hG hD hO Q
      have d0 := hD.1
      have e0 : (oF 122 T).eval (.tmp 37) = .int .u16 u := (oF_eval (by decide)).trans (show T 37 = _ from d0)
      refine og_none rfl ?_
      exact o_val (v := .int .i64 u) (w' := w9) (by generalize (oF 122 T).eval = rr at *; simp [execOp, go_sem, e0, hcv]) rfl rfl (Kx.refl _ _)
    · intro T w9 hG hD hO Q
      have q0 := hO.1
      have e0 : (oF 122 T).eval (.tmp 3) = .pointer (some ⟨w.heap.size, 0, none⟩) := (oF_eval (by decide)).trans (show T 3 = _ from q0)
      refine og_none rfl ?_
      exact o_val (v := .pointer (some ⟨w.heap.size, 6, none⟩)) (w' := w9) (by generalize (oF 122 T).eval = rr at *; simp [execOp, go_sem, e0]) rfl rfl (Kx.refl _ _)
    · intro T w9 hG hD hO Q
      have d0 := hD.1
      have e0 : (oF 122 T).eval (.tmp 39) = .pointer (some ⟨w.heap.size, 6, none⟩) := (oF_eval (by decide)).trans (show T 39 = _ from d0)
      refine og_none rfl ?_
      exact o_val (v := .pointer (some ⟨w.heap.size, 7, none⟩)) (w' := w9) (by generalize (oF 122 T).eval = rr at *; simp [execOp, go_sem, e0]) rfl rfl (Kx.refl _ _)
    · intro T w9 hG hD hO Q
      have d0 := hD.1
      have e0 : (oF 122 T).eval (.tmp 40) = .pointer (some ⟨w.heap.size, 7, none⟩) := (oF_eval (by decide)).trans (show T 40 = _ from d0)
      refine og_none rfl ?_
      have im := b1.kx hG (by simp)
      have m0 := im.c (i := 7) rfl
      clear im
      exact o_val (v := .int .i64 hi) (w' := w9) (by generalize (oF 122 T).eval = rr at *; simp [execOp, go_sem, e0, m0]) rfl rfl (Kx.refl _ _)
    · intro T w9 hG hD hO Q
      have q0 := hO.1
      have e0 : (oF 122 T).eval (.tmp 3) = .pointer (some ⟨w.heap.size, 0, none⟩) := (oF_eval (by decide)).trans (show T 3 = _ from q0)
      refine og_none rfl ?_
      exact o_val (v := .pointer (some ⟨w.heap.size, 6, none⟩)) (w' := w9) (by generalize (oF 122 T).eval = rr at *; simp [execOp, go_sem, e0]) rfl rfl (Kx.refl _ _)
    · intro T w9 hG hD hO Q
      have d0 := hD.1
      have e0 : (oF 122 T).eval (.tmp 42) = .pointer (some ⟨w.heap.size, 6, none⟩) := (oF_eval (by decide)).trans (show T 42 = _ from d0)
      refine og_none rfl ?_
      exact o_val (v := .pointer (some ⟨w.heap.size, 6, none⟩)) (w' := w9) (by generalize (oF 122 T).eval = rr at *; simp [execOp, go_sem, e0]) rfl rfl (Kx.refl _ _)
    · intro T w9 hG hD hO Q
      have d0 := hD.1
      have e0 : (oF 122 T).eval (.tmp 43) = .pointer (some ⟨w.heap.size, 6, none⟩) := (oF_eval (by decide)).trans (show T 43 = _ from d0)
      refine og_none rfl ?_
      have im := b1.kx hG (by simp)
      have m0 := im.c (i := 6) rfl
      clear im
      exact o_val (v := .int .i64 lo) (w' := w9) (by generalize (oF 122 T).eval = rr at *; simp [execOp, go_sem, e0, m0]) rfl rfl (Kx.refl _ _)
    · intro T w9 hG hD hO Q
      have d0 := hD.1
      have d1 := hD.2.1
      have e0 : (oF 122 T).eval (.tmp 41) = .int .i64 hi := (oF_eval (by decide)).trans (show T 41 = _ from d0)
      have e1 : (oF 122 T).eval (.tmp 44) = .int .i64 lo := (oF_eval (by decide)).trans (show T 44 = _ from d1)
      refine og_none rfl ?_
      exact o_val (v := .int .i64 z1) (w' := w9) (by generalize (oF 122 T).eval = rr at *; simp [execOp, go_sem, e0, e1, a1']) rfl rfl (Kx.refl _ _)
    · intro T w9 hG hD hO Q
      have d0 := hD.1
      have e0 : (oF 122 T).eval (.tmp 45) = .int .i64 z1 := (oF_eval (by decide)).trans (show T 45 = _ from d0)
      have e1 : (oF 122 T).eval (.const (.int .i64 1)) = .int .i64 1 := rfl
      refine og_none rfl ?_
      exact o_val (v := .int .i64 z2) (w' := w9) (by generalize (oF 122 T).eval = rr at *; simp [execOp, go_sem, e0, e1, a2']) rfl rfl (Kx.refl _ _)
    · intro T w9 hG hD hO Q
      have d0 := hD.1
      have d1 := hD.2.1
      have e0 : (oF 122 T).eval (.tmp 38) = .int .i64 u := (oF_eval (by decide)).trans (show T 38 = _ from d0)
      have e1 : (oF 122 T).eval (.tmp 46) = .int .i64 z2 := (oF_eval (by decide)).trans (show T 46 = _ from d1)
      refine og_none rfl ?_
      exact o_val (v := .int .i64 z3) (w' := w9) (by generalize (oF 122 T).eval = rr at *; simp [execOp, go_sem, e0, e1, a3, hne]) rfl rfl (Kx.refl _ _)
    · intro T w9 hG hD hO Q
      have d0 := hD.1
      have d1 := hD.2.1
      have e0 : (oF 122 T).eval (.tmp 36) = .int .i64 lo := (oF_eval (by decide)).trans (show T 36 = _ from d0)
      have e1 : (oF 122 T).eval (.tmp 47) = .int .i64 z3 := (oF_eval (by decide)).trans (show T 47 = _ from d1)
      refine og_none rfl ?_
      exact o_val (v := .int .i64 z4) (w' := w9) (by generalize (oF 122 T).eval = rr at *; simp [execOp, go_sem, e0, e1, a4']) rfl rfl (Kx.refl _ _)
    · intro T w9 hG hD hO Q
      have d0 := hD.1
      have e0 : (oF 122 T).eval (.tmp 48) = .int .i64 z4 := (oF_eval (by decide)).trans (show T 48 = _ from d0)
      refine og_none rfl ?_
      exact o_val (v := .int .i64 z4) (w' := w9) (by generalize (oF 122 T).eval = rr at *; simp [execOp, go_sem, e0]) rfl rfl (Kx.refl _ _)
  case fin =>
    intro T w4 hout hval hG
    have s4 := hG.2.2.2.1
    simp only [World.size_drew] at s4
    rw [show oF 122 T = (⟨#[T 0, T 1, T 2, T 3, T 4, T 5, T 6, T 7, T 8, T 9, T 10, T 11, T 12, T 13, T 14, T 15, T 16, T 17, T 18, T 19, T 20, T 21, T 22, T 23, T 24, T 25, T 26, T 27, T 28, T 29, T 30, T 31, T 32, T 33, T 34, T 35, T 36, T 37, T 38, T 39, T 40, T 41, T 42, T 43, T 44, T 45, T 46, T 47, T 48, T 49, T 50, T 51, T 52, T 53, T 54, T 55, T 56, T 57, T 58, T 59, T 60, T 61, T 62, T 63, T 64, T 65, T 66, T 67, T 68, T 69, T 70, T 71, T 72, T 73, T 74, T 75, T 76, T 77, T 78, T 79, T 80, T 81, T 82, T 83, T 84, T 85, T 86, T 87, T 88, T 89, T 90, T 91, T 92, T 93, T 94, T 95, T 96, T 97, T 98, T 99, T 100, T 101, T 102, T 103, T 104, T 105, T 106, T 107, T 108, T 109, T 110, T 111, T 112, T 113, T 114, T 115, T 116, T 117, T 118, T 119, T 120, T 121], []⟩ : Act) from oF_list 122 T]
    rw [show T 0 = .agg #[.string n, .int .i64 k, .int .i64 a, .int .i64 x, .int .i64 y, .int .i64 z, .int .i64 lo, .int .i64 hi, .slice fp fl fc] from hout 0 rfl]
    rw [show T 1 = .agg #[.int .i64 fk, .bool fd, .int .i64 ft, .int .i64 fm, .slice dp dl dc] from hout 1 rfl]
    rw [show T 3 = .pointer (some ⟨w.heap.size, 0, none⟩) from hout 3 rfl]
    rw [show T 4 = .pointer (some ⟨w.heap.size + 1, 0, none⟩) from hout 4 rfl]
    rw [show T 6 = .bool false from hout 6 rfl]
    rw [show T 7 = .int .i64 z4 from hval 15 (by decide : 15 < 16)]
    rw [show T 14 = .agg #[.string n, .int .i64 k, .int .i64 a, .int .i64 x, .int .i64 y, .int .i64 z, .int .i64 lo, .int .i64 hi, .slice fp fl fc] from hout 14 rfl]
    rw [show T 15 = .bool true from hout 15 rfl]
    rw [show T 16 = .bool false from hout 16 rfl]
    rw [show T 17 = .bool false from hout 17 rfl]
    rw [show T 18 = .agg #[.int .i64 fk, .bool fd, .int .i64 ft, .int .i64 fm, .slice dp dl dc] from hout 18 rfl]
    rw [show T 19 = .bool true from hout 19 rfl]
    rw [show T 20 = .bool false from hout 20 rfl]
    rw [show T 21 = .bool false from hout 21 rfl]
    rw [show T 22 = .bool false from hout 22 rfl]
    rw [show T 23 = .agg #[.string n, .int .i64 k, .int .i64 a, .int .i64 x, .int .i64 y, .int .i64 z, .int .i64 lo, .int .i64 hi, .slice fp fl fc] from hout 23 rfl]
    rw [show T 24 = .agg #[.int .i64 fk, .bool fd, .int .i64 ft, .int .i64 fm, .slice dp dl dc] from hout 24 rfl]
    rw [show T 25 = .int .i64 (fcE n k a x y z lo hi fk fd ft fm ds) from hout 25 rfl]
    rw [show T 26 = .bool false from hout 26 rfl]
    rw [show T 27 = .bool false from hout 27 rfl]
    rw [show T 28 = .bool false from hout 28 rfl]
    rw [show T 29 = .pointer (some ⟨w.heap.size + 1, 3, none⟩) from hout 29 rfl]
    rw [show T 30 = .int .i64 fm from hout 30 rfl]
    rw [show T 31 = .bool false from hout 31 rfl]
    rw [show T 32 = .bool false from hout 32 rfl]
    replace b1 := b1.kx hG (by simp)
    replace b2 := b2.kx hG (by simp)
    replace kx := (show Kb _ _ from kx.drew).trans hG.nil
    replace gl := gl0.out.kb kx
    clear hout hval hG
    have f31 := b1.c (i := 0) rfl
    have f32 := b1.c (i := 1) rfl
    have f33 := b1.c (i := 2) rfl
    have f34 := b1.c (i := 3) rfl
    have f35 := b1.c (i := 4) rfl
    have f36 := b1.c (i := 5) rfl
    have f37 := b1.c (i := 6) rfl
    have f38 := b1.c (i := 7) rfl
    have f39 := b1.c (i := 8) rfl
    have f40 := b2.c (i := 0) rfl
    have f41 := b2.c (i := 1) rfl
    have f42 := b2.c (i := 2) rfl
    have f43 := b2.c (i := 3) rfl
    have f44 := b2.c (i := 4) rfl
    go_wp2_with fail
    clear f31 f32 f33 f34 f35 f36 f37 f38 f39 f40 f41 f42 f43 f44
    (with_reducible refine ((q1.out _ gl)).mono ?_)
    rintro r w5 ⟨rfl, k5⟩
    replace gl := gl.kb k5
    replace b1 := b1.kb k5
    replace b2 := b2.kb k5
    replace kx := kx.trans k5
    have s5 := k5.size
    skip
    clear k5
    have f45 := b1.c (i := 0) rfl
    have f46 := b1.c (i := 1) rfl
    have f47 := b1.c (i := 2) rfl
    have f48 := b1.c (i := 3) rfl
    have f49 := b1.c (i := 4) rfl
    have f50 := b1.c (i := 5) rfl
    have f51 := b1.c (i := 6) rfl
    have f52 := b1.c (i := 7) rfl
    have f53 := b1.c (i := 8) rfl
    have f54 := b2.c (i := 0) rfl
    have f55 := b2.c (i := 1) rfl
    have f56 := b2.c (i := 2) rfl
    have f57 := b2.c (i := 3) rfl
    have f58 := b2.c (i := 4) rfl
    go_wp2_with fail
    clear f45 f46 f47 f48 f49 f50 f51 f52 f53 f54 f55 f56 f57 f58
    (with_reducible refine ((q2.out _ gl)).mono ?_)
    rintro r w6 ⟨rfl, k6⟩
    replace gl := gl.kb k6
    replace b1 := b1.kb k6
    replace b2 := b2.kb k6
    replace kx := kx.trans k6
    have s6 := k6.size
    skip
    clear k6
    have f59 := b1.c (i := 0) rfl
    have f60 := b1.c (i := 1) rfl
    have f61 := b1.c (i := 2) rfl
    have f62 := b1.c (i := 3) rfl
    have f63 := b1.c (i := 4) rfl
    have f64 := b1.c (i := 5) rfl
    have f65 := b1.c (i := 6) rfl
    have f66 := b1.c (i := 7) rfl
    have f67 := b1.c (i := 8) rfl
    go_wp2_with fail
    clear f59 f60 f61 f62 f63 f64 f65 f66 f67
    (with_reducible refine ((q3.out _ gl)).mono ?_)
    rintro r w7 ⟨rfl, k7⟩
    replace gl := gl.kb k7
    replace b1 := b1.kb k7
    replace b2 := b2.kb k7
    replace kx := kx.trans k7
    have s7 := k7.size
    skip
    clear k7
    have f68 := b1.c (i := 7) rfl
    have f69 := b1.c (i := 6) rfl
    go_wp2_with fail
    clear f68 f69
    (with_reducible refine (((q4).out _)).mono ?_)
    rintro r w8 ⟨rfl, k8⟩
    replace gl := gl.kb k8
    replace b1 := b1.kb k8
    replace b2 := b2.kb k8
    replace kx := kx.trans k8
    have s8 := k8.size
    skip
    clear k8
    have f70 := b2.c (i := 3) rfl
    have f71 := b2.c (i := 2) rfl
    go_wp2_with fail
    clear f70 f71
    (with_reducible refine ((Cf.out (fawakeC) _ gl)).mono ?_)
    rintro r w9 ⟨rfl, k9⟩
    replace gl := gl.kb k9
    replace b1 := b1.kb k9
    replace b2 := b2.kb k9
    replace kx := kx.trans k9
    have s9 := k9.size
    skip
    clear k9
    go_wp2
    go_ret
    exact ⟨rfl, kx⟩
end Go.Proofs.YtlfeinajjfbpkaaGreatDoor
