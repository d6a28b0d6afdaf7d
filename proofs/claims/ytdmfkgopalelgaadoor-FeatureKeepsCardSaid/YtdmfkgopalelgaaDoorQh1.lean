/- Features: walks of the laws Checks and Ends. -/
import Derived.Test.YtdmfkgopalelgaaDoorQg5
import Derived.Test.YtdmfkgopalelgaaDoorQg9
namespace Go.Proofs.YtdmfkgopalelgaaDoor
open Go.RowKit

set_option maxRecDepth 100000 in
set_option maxHeartbeats 1000000 in
theorem lwright_1 (n : ByteArray) (k : Int) (a : Int) (x : Int) (y : Int) (z : Int) (lo : Int) (hi : Int) (fp : Option Addr) (fl : Nat) (fc : Nat) (fs : List FrT) (r1 : Int)   (q1 : Ca 19 #[.agg #[.string n, .int .i64 k, .int .i64 a, .int .i64 x, .int .i64 y, .int .i64 z, .int .i64 lo, .int .i64 hi, .slice fp fl fc]] (.int .i64 r1))  (h1 : (fewB n fs) = true) (w : World) (fr : FrS w (.slice fp fl fc) fs)  : Calls Tryd.prog 32 #[.agg #[.string n, .int .i64 k, .int .i64 a, .int .i64 x, .int .i64 y, .int .i64 z, .int .i64 lo, .int .i64 hi, .slice fp fl fc]] w fun r W' => r = .returned (.bool (r1 == 0)) ∧ Kb w W' := by
  have kx := Kb.refl w
  unfold Ca at q1
  have j1 := (Is.made w #[.string n, .int .i64 k, .int .i64 a, .int .i64 x, .int .i64 y, .int .i64 z, .int .i64 lo, .int .i64 hi, .slice fp fl fc] 28)
  have f2 := j1.c (i := 0) rfl
  have f3 := j1.c (i := 1) rfl
  have f4 := j1.c (i := 2) rfl
  have f5 := j1.c (i := 3) rfl
  have f6 := j1.c (i := 4) rfl
  have f7 := j1.c (i := 5) rfl
  have f8 := j1.c (i := 6) rfl
  have f9 := j1.c (i := 7) rfl
  have f10 := j1.c (i := 8) rfl
  go_enter Tryd.func32, Tryd.ntmps32
  go_wp2_with fail
  clear f2 f3 f4 f5 f6 f7 f8 f9 f10
  replace fr := (fr.alloc (.cells #[.string n, .int .i64 k, .int .i64 a, .int .i64 x, .int .i64 y, .int .i64 z, .int .i64 lo, .int .i64 hi, .slice fp fl fc] 28 (0, 0)))
  have b1 := j1
  replace kx := kx.alloc (.cells #[.string n, .int .i64 k, .int .i64 a, .int .i64 x, .int .i64 y, .int .i64 z, .int .i64 lo, .int .i64 hi, .slice fp fl fc] 28 (0, 0))
  clear j1
  (with_reducible refine (rFew n k a x y z lo hi fp fl fc fs _ fr).mono ?_)
  rintro r w1 ⟨rfl, k1⟩
  replace fr := fr.kb k1
  replace b1 := b1.kb k1
  replace kx := kx.trans k1
  have s1 := k1.size
  simp only [World.size_alloc] at s1
  clear k1
  have f11 := b1.c (i := 0) rfl
  have f12 := b1.c (i := 1) rfl
  have f13 := b1.c (i := 2) rfl
  have f14 := b1.c (i := 3) rfl
  have f15 := b1.c (i := 4) rfl
  have f16 := b1.c (i := 5) rfl
  have f17 := b1.c (i := 6) rfl
  have f18 := b1.c (i := 7) rfl
  have f19 := b1.c (i := 8) rfl
  go_wp2_with fail
  clear f11 f12 f13 f14 f15 f16 f17 f18 f19
  (with_reducible refine (((q1).out _)).mono ?_)
  rintro r w2 ⟨rfl, k2⟩
  replace fr := fr.kb k2
  replace b1 := b1.kb k2
  replace kx := kx.trans k2
  have s2 := k2.size
  skip
  clear k2
  go_wp2
  go_ret
  exact ⟨rfl, kx⟩
set_option maxRecDepth 100000 in
set_option maxHeartbeats 1000000 in
theorem lwright_2 (n : ByteArray) (k : Int) (a : Int) (x : Int) (y : Int) (z : Int) (lo : Int) (hi : Int) (fp : Option Addr) (fl : Nat) (fc : Nat) (fs : List FrT)      (h1 : (fewB n fs) = false) (w : World) (fr : FrS w (.slice fp fl fc) fs)  : Calls Tryd.prog 32 #[.agg #[.string n, .int .i64 k, .int .i64 a, .int .i64 x, .int .i64 y, .int .i64 z, .int .i64 lo, .int .i64 hi, .slice fp fl fc]] w fun r W' => r = .returned (.bool false) ∧ Kb w W' := by
  have kx := Kb.refl w
  have j1 := (Is.made w #[.string n, .int .i64 k, .int .i64 a, .int .i64 x, .int .i64 y, .int .i64 z, .int .i64 lo, .int .i64 hi, .slice fp fl fc] 28)
  have f2 := j1.c (i := 0) rfl
  have f3 := j1.c (i := 1) rfl
  have f4 := j1.c (i := 2) rfl
  have f5 := j1.c (i := 3) rfl
  have f6 := j1.c (i := 4) rfl
  have f7 := j1.c (i := 5) rfl
  have f8 := j1.c (i := 6) rfl
  have f9 := j1.c (i := 7) rfl
  have f10 := j1.c (i := 8) rfl
  go_enter Tryd.func32, Tryd.ntmps32
  go_wp2_with fail
  clear f2 f3 f4 f5 f6 f7 f8 f9 f10
  replace fr := (fr.alloc (.cells #[.string n, .int .i64 k, .int .i64 a, .int .i64 x, .int .i64 y, .int .i64 z, .int .i64 lo, .int .i64 hi, .slice fp fl fc] 28 (0, 0)))
  have b1 := j1
  replace kx := kx.alloc (.cells #[.string n, .int .i64 k, .int .i64 a, .int .i64 x, .int .i64 y, .int .i64 z, .int .i64 lo, .int .i64 hi, .slice fp fl fc] 28 (0, 0))
  clear j1
  (with_reducible refine (rFew n k a x y z lo hi fp fl fc fs _ fr).mono ?_)
  rintro r w1 ⟨rfl, k1⟩
  replace fr := fr.kb k1
  replace b1 := b1.kb k1
  replace kx := kx.trans k1
  have s1 := k1.size
  simp only [World.size_alloc] at s1
  clear k1
  go_wp2
  go_ret
  exact ⟨rfl, kx⟩
end Go.Proofs.YtdmfkgopalelgaaDoor
