/- Features: the examples of the chapter hold (awake). -/
import Derived.Test.YtdmfkgopalelgaaDoorQg7
import Derived.Test.YtdmfkgopalelgaaDoorQg8
namespace Go.Proofs.YtdmfkgopalelgaaDoor
open Go.RowKit

theorem aw_place2 : Ca 60 #[.agg #[.string ⟨#[72]⟩, .int .i64 1, .int .i64 2, .int .i64 5000, .int .i64 0, .int .i64 0, .int .i64 1000, .int .i64 1011, .slice none 0 0], .agg #[.int .i64 0, .int .i64 5000, .int .i64 0]] (.agg #[.string ⟨#[72]⟩, .int .i64 1, .int .i64 2, .int .i64 0, .int .i64 5000, .int .i64 0, .int .i64 1000, .int .i64 1011, .slice none 0 0]) := fplaceN_any ⟨#[72]⟩ 1 2 5000 0 0 1000 1011 0 5000 0 _ _ _ _ _ _ _ _ _ _ _ (fCloneF_any ⟨#[72]⟩ 1 2 0 5000 0 1000 1011)
theorem aw_place0 : Ca 60 #[.agg #[.string ⟨#[72]⟩, .int .i64 1, .int .i64 2, .int .i64 5000, .int .i64 0, .int .i64 0, .int .i64 1000, .int .i64 1011, .slice none 0 0], .agg #[.int .i64 5000, .int .i64 0, .int .i64 0]] (.agg #[.string ⟨#[72]⟩, .int .i64 1, .int .i64 2, .int .i64 5000, .int .i64 0, .int .i64 0, .int .i64 1000, .int .i64 1011, .slice none 0 0]) := fplaceN_any ⟨#[72]⟩ 1 2 5000 0 0 1000 1011 5000 0 0 _ _ _ _ _ _ _ _ _ _ _ (fCloneF_any ⟨#[72]⟩ 1 2 5000 0 0 1000 1011)
set_option maxRecDepth 100000 in
set_option maxHeartbeats 1000000 in
theorem aw_turn2_1 (w : World)  : Calls Tryd.prog 28 #[.agg #[.string ⟨#[72]⟩, .int .i64 1, .int .i64 2, .int .i64 5000, .int .i64 0, .int .i64 0, .int .i64 1000, .int .i64 1011, .slice none 0 0], .int .i64 2] w fun r W' => r = .returned (.tuple #[.agg #[.string ⟨#[72]⟩, .int .i64 1, .int .i64 2, .int .i64 0, .int .i64 5000, .int .i64 0, .int .i64 1000, .int .i64 1011, .slice none 0 0], .int .i64 0]) ∧ Kb w W' := by
  have kx := Kb.refl w
  have j1 := ((Is.made w #[.string ⟨#[72]⟩, .int .i64 1, .int .i64 2, .int .i64 5000, .int .i64 0, .int .i64 0, .int .i64 1000, .int .i64 1011, .slice none 0 0] 28).alloc (.cells #[.string ⟨#[]⟩, .int .i64 0, .int .i64 0, .int .i64 0, .int .i64 0, .int .i64 0, .int .i64 0, .int .i64 0, .slice none 0 0] 28 (0, 0)))
  have f2 := j1.c (i := 0) rfl
  have f3 := j1.c (i := 1) rfl
  have f4 := j1.c (i := 2) rfl
  have f5 := j1.c (i := 3) rfl
  have f6 := j1.c (i := 4) rfl
  have f7 := j1.c (i := 5) rfl
  have f8 := j1.c (i := 6) rfl
  have f9 := j1.c (i := 7) rfl
  have f10 := j1.c (i := 8) rfl
  go_enter Tryd.func28, Tryd.ntmps28
  go_wp2_with fail
  clear f2 f3 f4 f5 f6 f7 f8 f9 f10
  have b1 := j1
  have b2 := Is.made (w.alloc (.cells #[.string ⟨#[72]⟩, .int .i64 1, .int .i64 2, .int .i64 5000, .int .i64 0, .int .i64 0, .int .i64 1000, .int .i64 1011, .slice none 0 0] 28 (0, 0))) #[.string ⟨#[]⟩, .int .i64 0, .int .i64 0, .int .i64 0, .int .i64 0, .int .i64 0, .int .i64 0, .int .i64 0, .slice none 0 0] 28
  simp only [World.size_alloc] at b2
  replace kx := (kx.alloc (.cells #[.string ⟨#[72]⟩, .int .i64 1, .int .i64 2, .int .i64 5000, .int .i64 0, .int .i64 0, .int .i64 1000, .int .i64 1011, .slice none 0 0] 28 (0, 0))).alloc (.cells #[.string ⟨#[]⟩, .int .i64 0, .int .i64 0, .int .i64 0, .int .i64 0, .int .i64 0, .int .i64 0, .int .i64 0, .slice none 0 0] 28 (0, 0))
  clear j1
  (with_reducible refine ((Ca.o aw_al2 _)).mono ?_)
  rintro r w1 ⟨rfl, k1⟩
  replace b1 := b1.kb k1
  replace b2 := b2.kb k1
  replace kx := kx.trans k1
  have s1 := k1.size
  simp only [World.size_alloc] at s1
  clear k1
  have f11 := b1.c (i := 3) rfl
  have f12 := b1.c (i := 4) rfl
  have f13 := b1.c (i := 5) rfl
  go_wp2_with fail
  clear f11 f12 f13
  replace b1 := (b1.alloc (.cells #[.int .i64 5000, .int .i64 0, .int .i64 0] 23 (0, 0)))
  replace b2 := (b2.alloc (.cells #[.int .i64 5000, .int .i64 0, .int .i64 0] 23 (0, 0)))
  have b3 := Is.made w1 #[.int .i64 5000, .int .i64 0, .int .i64 0] 23
  replace kx := kx.alloc (.cells #[.int .i64 5000, .int .i64 0, .int .i64 0] 23 (0, 0))
  (with_reducible refine (cCoord3_1 w.heap.size _).mono ?_)
  rintro r w2 ⟨g2, rfl, p2, i2, k2⟩
  replace b1 := b1.kb k2
  replace b2 := b2.kb k2
  replace b3 := b3.kb k2
  replace kx := kx.trans k2
  have s2 := k2.size
  simp only [World.size_alloc] at s2
  clear k2
  simp only [World.size_alloc] at i2
  go_wp2_with fail
  (with_reducible refine (cCoord0_1 w1.heap.size _).mono ?_)
  rintro r w3 ⟨g3, rfl, p3, i3, k3⟩
  replace b1 := b1.kb k3
  replace b2 := b2.kb k3
  replace b3 := b3.kb k3
  replace p2 := p2.kb k3
  replace kx := kx.trans k3
  have s3 := k3.size
  skip
  clear k3
  have en1 := (enters_of Tryd.func76 (by kernel_rfl) rfl : ∀ args W, (callFunc 76 args).run Tryd.prog W = .ok (.enter 76 args) W)
  go_wp2_with fail
  (with_reducible refine (cRead_1 _ _ _ _ _ _ p2 (b1.c (i := 4) rfl)).mono ?_)
  rintro r w4 ⟨rfl, k4⟩
  replace b1 := b1.kb k4
  replace b2 := b2.kb k4
  replace b3 := b3.kb k4
  replace p2 := p2.kb k4
  replace p3 := p3.kb k4
  replace kx := kx.trans k4
  have s4 := k4.size
  skip
  clear k4
  have en2 := (enters_of Tryd.func77 (by kernel_rfl) rfl : ∀ args W, (callFunc 77 args).run Tryd.prog W = .ok (.enter 77 args) W)
  go_wp2_with fail
  (with_reducible refine (cWrite_0 _ _ _ _ _ _ _ _ _ _ _ _ p3 rfl rfl b3 rfl).mono ?_)
  rintro r w5 ⟨rfl, y5, k5⟩
  have s5 := k5.2.2.2.1
  replace b1 := b1.kx k5 (by simp only [List.mem_singleton]; omega)
  replace b2 := b2.kx k5 (by simp only [List.mem_singleton]; omega)
  replace p2 := p2.kx k5 (by simp only [List.mem_singleton]; omega)
  replace p3 := p3.kx k5 (by simp only [List.mem_singleton]; omega)
  replace b3 : Is w5 (w1.heap.size) #[.int .i64 0, .int .i64 0, .int .i64 0] 23 := y5
  replace kx := k5.old kx (by intro x hx; simp only [List.mem_singleton] at hx; subst hx; omega)
  clear y5
  have en3 := (enters_of Tryd.func76 (by kernel_rfl) rfl : ∀ args W, (callFunc 76 args).run Tryd.prog W = .ok (.enter 76 args) W)
  go_wp2_with fail
  (with_reducible refine (cRead_0 _ _ _ _ _ _ p2 (b1.c (i := 3) rfl)).mono ?_)
  rintro r w6 ⟨rfl, k6⟩
  replace b1 := b1.kb k6
  replace b2 := b2.kb k6
  replace b3 := b3.kb k6
  replace p2 := p2.kb k6
  replace p3 := p3.kb k6
  replace kx := kx.trans k6
  have s6 := k6.size
  skip
  clear k6
  have en4 := (enters_of Tryd.func77 (by kernel_rfl) rfl : ∀ args W, (callFunc 77 args).run Tryd.prog W = .ok (.enter 77 args) W)
  go_wp2_with fail
  (with_reducible refine (cWrite_1 _ _ _ _ _ _ _ _ _ _ _ _ p3 rfl rfl b3 rfl).mono ?_)
  rintro r w7 ⟨rfl, y7, k7⟩
  have s7 := k7.2.2.2.1
  replace b1 := b1.kx k7 (by simp only [List.mem_singleton]; omega)
  replace b2 := b2.kx k7 (by simp only [List.mem_singleton]; omega)
  replace p2 := p2.kx k7 (by simp only [List.mem_singleton]; omega)
  replace p3 := p3.kx k7 (by simp only [List.mem_singleton]; omega)
  replace b3 : Is w7 (w1.heap.size) #[.int .i64 0, .int .i64 5000, .int .i64 0] 23 := y7
  replace kx := k7.old kx (by intro x hx; simp only [List.mem_singleton] at hx; subst hx; omega)
  clear y7
  have f14 := b1.c (i := 0) rfl
  have f15 := b1.c (i := 1) rfl
  have f16 := b1.c (i := 2) rfl
  have f17 := b1.c (i := 3) rfl
  have f18 := b1.c (i := 4) rfl
  have f19 := b1.c (i := 5) rfl
  have f20 := b1.c (i := 6) rfl
  have f21 := b1.c (i := 7) rfl
  have f22 := b1.c (i := 8) rfl
  have f23 := b3.c (i := 0) rfl
  have f24 := b3.c (i := 1) rfl
  have f25 := b3.c (i := 2) rfl
  go_wp2_with fail
  clear f14 f15 f16 f17 f18 f19 f20 f21 f22 f23 f24 f25
  (with_reducible refine ((Ca.o aw_place2 _)).mono ?_)
  rintro r w8 ⟨rfl, k8⟩
  replace b1 := b1.kb k8
  replace b2 := b2.kb k8
  replace b3 := b3.kb k8
  replace p2 := p2.kb k8
  replace p3 := p3.kb k8
  replace kx := kx.trans k8
  have s8 := k8.size
  skip
  clear k8
  have j26 := (b1.alloc (.cells #[.string ⟨#[72]⟩, .int .i64 1, .int .i64 2, .int .i64 0, .int .i64 5000, .int .i64 0, .int .i64 1000, .int .i64 1011, .slice none 0 0] 28 (0, 0)))
  have f27 := j26.c (i := 1) rfl
  have f28 := j26.c (i := 2) rfl
  have j29 := (Is.made w8 #[.string ⟨#[72]⟩, .int .i64 1, .int .i64 2, .int .i64 0, .int .i64 5000, .int .i64 0, .int .i64 1000, .int .i64 1011, .slice none 0 0] 28)
  have f30 := j29.c (i := 0) rfl
  have f31 := j29.c (i := 1) rfl
  have f32 := j29.c (i := 2) rfl
  have f33 := j29.c (i := 3) rfl
  have f34 := j29.c (i := 4) rfl
  have f35 := j29.c (i := 5) rfl
  have f36 := j29.c (i := 6) rfl
  have f37 := j29.c (i := 7) rfl
  have f38 := j29.c (i := 8) rfl
  have j39 := (b2.alloc (.cells #[.string ⟨#[72]⟩, .int .i64 1, .int .i64 2, .int .i64 0, .int .i64 5000, .int .i64 0, .int .i64 1000, .int .i64 1011, .slice none 0 0] 28 (0, 0)))
  have f40 := j39.c (i := 0) rfl
  have f41 := j39.f 0
  have f42 := j39.c (i := 1) rfl
  have f43 := j39.f 1
  have f44 := j39.c (i := 2) rfl
  have f45 := j39.f 2
  have f46 := j39.c (i := 3) rfl
  have f47 := j39.f 3
  have f48 := j39.c (i := 4) rfl
  have f49 := j39.f 4
  have f50 := j39.c (i := 5) rfl
  have f51 := j39.f 5
  have f52 := j39.c (i := 6) rfl
  have f53 := j39.f 6
  have f54 := j39.c (i := 7) rfl
  have f55 := j39.f 7
  have f56 := j39.c (i := 8) rfl
  have f57 := j39.f 8
  go_wp2
  clear f27 f28 f30 f31 f32 f33 f34 f35 f36 f37 f38 f40 f41 f42 f43 f44 f45 f46 f47 f48 f49 f50 f51 f52 f53 f54 f55 f56 f57
  replace b2 := (b2.alloc (.cells #[.string ⟨#[72]⟩, .int .i64 1, .int .i64 2, .int .i64 0, .int .i64 5000, .int .i64 0, .int .i64 1000, .int .i64 1011, .slice none 0 0] 28 (0, 0)))
  replace b2 : Is _ _ #[.string ⟨#[72]⟩, .int .i64 0, .int .i64 0, .int .i64 0, .int .i64 0, .int .i64 0, .int .i64 0, .int .i64 0, .slice none 0 0] _ := b2.set 0 (.string ⟨#[72]⟩)
  replace b2 : Is _ _ #[.string ⟨#[72]⟩, .int .i64 1, .int .i64 0, .int .i64 0, .int .i64 0, .int .i64 0, .int .i64 0, .int .i64 0, .slice none 0 0] _ := b2.set 1 (.int .i64 1)
  replace b2 : Is _ _ #[.string ⟨#[72]⟩, .int .i64 1, .int .i64 2, .int .i64 0, .int .i64 0, .int .i64 0, .int .i64 0, .int .i64 0, .slice none 0 0] _ := b2.set 2 (.int .i64 2)
  replace b2 : Is _ _ #[.string ⟨#[72]⟩, .int .i64 1, .int .i64 2, .int .i64 0, .int .i64 0, .int .i64 0, .int .i64 0, .int .i64 0, .slice none 0 0] _ := b2.set 3 (.int .i64 0)
  replace b2 : Is _ _ #[.string ⟨#[72]⟩, .int .i64 1, .int .i64 2, .int .i64 0, .int .i64 5000, .int .i64 0, .int .i64 0, .int .i64 0, .slice none 0 0] _ := b2.set 4 (.int .i64 5000)
  replace b2 : Is _ _ #[.string ⟨#[72]⟩, .int .i64 1, .int .i64 2, .int .i64 0, .int .i64 5000, .int .i64 0, .int .i64 0, .int .i64 0, .slice none 0 0] _ := b2.set 5 (.int .i64 0)
  replace b2 : Is _ _ #[.string ⟨#[72]⟩, .int .i64 1, .int .i64 2, .int .i64 0, .int .i64 5000, .int .i64 0, .int .i64 1000, .int .i64 0, .slice none 0 0] _ := b2.set 6 (.int .i64 1000)
  replace b2 : Is _ _ #[.string ⟨#[72]⟩, .int .i64 1, .int .i64 2, .int .i64 0, .int .i64 5000, .int .i64 0, .int .i64 1000, .int .i64 1011, .slice none 0 0] _ := b2.set 7 (.int .i64 1011)
  replace b2 : Is _ _ #[.string ⟨#[72]⟩, .int .i64 1, .int .i64 2, .int .i64 0, .int .i64 5000, .int .i64 0, .int .i64 1000, .int .i64 1011, .slice none 0 0] _ := b2.set 8 (.slice none 0 0)
  replace kx := (((((((((kx.alloc (.cells #[.string ⟨#[72]⟩, .int .i64 1, .int .i64 2, .int .i64 0, .int .i64 5000, .int .i64 0, .int .i64 1000, .int .i64 1011, .slice none 0 0] 28 (0, 0))).setCell (p := ⟨w.heap.size + 1, 0, none⟩) (show w.heap.size ≤ w.heap.size + 1 by omega) (.string ⟨#[72]⟩)).setCell (p := ⟨w.heap.size + 1, 1, none⟩) (show w.heap.size ≤ w.heap.size + 1 by omega) (.int .i64 1)).setCell (p := ⟨w.heap.size + 1, 2, none⟩) (show w.heap.size ≤ w.heap.size + 1 by omega) (.int .i64 2)).setCell (p := ⟨w.heap.size + 1, 3, none⟩) (show w.heap.size ≤ w.heap.size + 1 by omega) (.int .i64 0)).setCell (p := ⟨w.heap.size + 1, 4, none⟩) (show w.heap.size ≤ w.heap.size + 1 by omega) (.int .i64 5000)).setCell (p := ⟨w.heap.size + 1, 5, none⟩) (show w.heap.size ≤ w.heap.size + 1 by omega) (.int .i64 0)).setCell (p := ⟨w.heap.size + 1, 6, none⟩) (show w.heap.size ≤ w.heap.size + 1 by omega) (.int .i64 1000)).setCell (p := ⟨w.heap.size + 1, 7, none⟩) (show w.heap.size ≤ w.heap.size + 1 by omega) (.int .i64 1011)).setCell (p := ⟨w.heap.size + 1, 8, none⟩) (show w.heap.size ≤ w.heap.size + 1 by omega) (.slice none 0 0)
  refine ret_row2 Tryd.results28 rfl rfl rfl b2 Tryd.underlying28 rfl (by kernel_rfl) ?_
  exact ⟨rfl, kx⟩
set_option maxRecDepth 100000 in
theorem aw_turn2_any     : Ca 28 #[.agg #[.string ⟨#[72]⟩, .int .i64 1, .int .i64 2, .int .i64 5000, .int .i64 0, .int .i64 0, .int .i64 1000, .int .i64 1011, .slice none 0 0], .int .i64 2] (.tuple #[.agg #[.string ⟨#[72]⟩, .int .i64 1, .int .i64 2, .int .i64 0, .int .i64 5000, .int .i64 0, .int .i64 1000, .int .i64 1011, .slice none 0 0], .int .i64 0]) := Lib.hid fun w => by
  exact aw_turn2_1  w
set_option maxRecDepth 100000 in
set_option maxHeartbeats 1000000 in
theorem aw_turn0_1 (w : World)  : Calls Tryd.prog 28 #[.agg #[.string ⟨#[72]⟩, .int .i64 1, .int .i64 2, .int .i64 5000, .int .i64 0, .int .i64 0, .int .i64 1000, .int .i64 1011, .slice none 0 0], .int .i64 0] w fun r W' => r = .returned (.tuple #[.agg #[.string ⟨#[72]⟩, .int .i64 1, .int .i64 1, .int .i64 5000, .int .i64 0, .int .i64 0, .int .i64 1000, .int .i64 1011, .slice none 0 0], .int .i64 0]) ∧ Kb w W' := by
  have kx := Kb.refl w
  have j1 := ((Is.made w #[.string ⟨#[72]⟩, .int .i64 1, .int .i64 2, .int .i64 5000, .int .i64 0, .int .i64 0, .int .i64 1000, .int .i64 1011, .slice none 0 0] 28).alloc (.cells #[.string ⟨#[]⟩, .int .i64 0, .int .i64 0, .int .i64 0, .int .i64 0, .int .i64 0, .int .i64 0, .int .i64 0, .slice none 0 0] 28 (0, 0)))
  have f2 := j1.c (i := 0) rfl
  have f3 := j1.c (i := 1) rfl
  have f4 := j1.c (i := 2) rfl
  have f5 := j1.c (i := 3) rfl
  have f6 := j1.c (i := 4) rfl
  have f7 := j1.c (i := 5) rfl
  have f8 := j1.c (i := 6) rfl
  have f9 := j1.c (i := 7) rfl
  have f10 := j1.c (i := 8) rfl
  go_enter Tryd.func28, Tryd.ntmps28
  go_wp2_with fail
  clear f2 f3 f4 f5 f6 f7 f8 f9 f10
  have b1 := j1
  have b2 := Is.made (w.alloc (.cells #[.string ⟨#[72]⟩, .int .i64 1, .int .i64 2, .int .i64 5000, .int .i64 0, .int .i64 0, .int .i64 1000, .int .i64 1011, .slice none 0 0] 28 (0, 0))) #[.string ⟨#[]⟩, .int .i64 0, .int .i64 0, .int .i64 0, .int .i64 0, .int .i64 0, .int .i64 0, .int .i64 0, .slice none 0 0] 28
  simp only [World.size_alloc] at b2
  replace kx := (kx.alloc (.cells #[.string ⟨#[72]⟩, .int .i64 1, .int .i64 2, .int .i64 5000, .int .i64 0, .int .i64 0, .int .i64 1000, .int .i64 1011, .slice none 0 0] 28 (0, 0))).alloc (.cells #[.string ⟨#[]⟩, .int .i64 0, .int .i64 0, .int .i64 0, .int .i64 0, .int .i64 0, .int .i64 0, .int .i64 0, .slice none 0 0] 28 (0, 0))
  clear j1
  (with_reducible refine ((Ca.o aw_al0 _)).mono ?_)
  rintro r w1 ⟨rfl, k1⟩
  replace b1 := b1.kb k1
  replace b2 := b2.kb k1
  replace kx := kx.trans k1
  have s1 := k1.size
  simp only [World.size_alloc] at s1
  clear k1
  have f11 := b1.c (i := 3) rfl
  have f12 := b1.c (i := 4) rfl
  have f13 := b1.c (i := 5) rfl
  go_wp2_with fail
  clear f11 f12 f13
  replace b1 := (b1.alloc (.cells #[.int .i64 5000, .int .i64 0, .int .i64 0] 23 (0, 0)))
  replace b2 := (b2.alloc (.cells #[.int .i64 5000, .int .i64 0, .int .i64 0] 23 (0, 0)))
  have b3 := Is.made w1 #[.int .i64 5000, .int .i64 0, .int .i64 0] 23
  replace kx := kx.alloc (.cells #[.int .i64 5000, .int .i64 0, .int .i64 0] 23 (0, 0))
  (with_reducible refine (cCoord3_1 w.heap.size _).mono ?_)
  rintro r w2 ⟨g2, rfl, p2, i2, k2⟩
  replace b1 := b1.kb k2
  replace b2 := b2.kb k2
  replace b3 := b3.kb k2
  replace kx := kx.trans k2
  have s2 := k2.size
  simp only [World.size_alloc] at s2
  clear k2
  simp only [World.size_alloc] at i2
  go_wp2_with fail
  (with_reducible refine (cCoord0_1 w1.heap.size _).mono ?_)
  rintro r w3 ⟨g3, rfl, p3, i3, k3⟩
  replace b1 := b1.kb k3
  replace b2 := b2.kb k3
  replace b3 := b3.kb k3
  replace p2 := p2.kb k3
  replace kx := kx.trans k3
  have s3 := k3.size
  skip
  clear k3
  have en1 := (enters_of Tryd.func76 (by kernel_rfl) rfl : ∀ args W, (callFunc 76 args).run Tryd.prog W = .ok (.enter 76 args) W)
  go_wp2_with fail
  (with_reducible refine (cRead_2 _ _ _ _ _ _ p2 (b1.c (i := 5) rfl)).mono ?_)
  rintro r w4 ⟨rfl, k4⟩
  replace b1 := b1.kb k4
  replace b2 := b2.kb k4
  replace b3 := b3.kb k4
  replace p2 := p2.kb k4
  replace p3 := p3.kb k4
  replace kx := kx.trans k4
  have s4 := k4.size
  skip
  clear k4
  have en2 := (enters_of Tryd.func77 (by kernel_rfl) rfl : ∀ args W, (callFunc 77 args).run Tryd.prog W = .ok (.enter 77 args) W)
  go_wp2_with fail
  (with_reducible refine (cWrite_1 _ _ _ _ _ _ _ _ _ _ _ _ p3 rfl rfl b3 rfl).mono ?_)
  rintro r w5 ⟨rfl, y5, k5⟩
  have s5 := k5.2.2.2.1
  replace b1 := b1.kx k5 (by simp only [List.mem_singleton]; omega)
  replace b2 := b2.kx k5 (by simp only [List.mem_singleton]; omega)
  replace p2 := p2.kx k5 (by simp only [List.mem_singleton]; omega)
  replace p3 := p3.kx k5 (by simp only [List.mem_singleton]; omega)
  replace b3 : Is w5 (w1.heap.size) #[.int .i64 5000, .int .i64 0, .int .i64 0] 23 := y5
  replace kx := k5.old kx (by intro x hx; simp only [List.mem_singleton] at hx; subst hx; omega)
  clear y5
  have en3 := (enters_of Tryd.func76 (by kernel_rfl) rfl : ∀ args W, (callFunc 76 args).run Tryd.prog W = .ok (.enter 76 args) W)
  go_wp2_with fail
  (with_reducible refine (cRead_1 _ _ _ _ _ _ p2 (b1.c (i := 4) rfl)).mono ?_)
  rintro r w6 ⟨rfl, k6⟩
  replace b1 := b1.kb k6
  replace b2 := b2.kb k6
  replace b3 := b3.kb k6
  replace p2 := p2.kb k6
  replace p3 := p3.kb k6
  replace kx := kx.trans k6
  have s6 := k6.size
  skip
  clear k6
  have en4 := (enters_of Tryd.func77 (by kernel_rfl) rfl : ∀ args W, (callFunc 77 args).run Tryd.prog W = .ok (.enter 77 args) W)
  go_wp2_with fail
  (with_reducible refine (cWrite_2 _ _ _ _ _ _ _ _ _ _ _ _ p3 rfl rfl b3 rfl).mono ?_)
  rintro r w7 ⟨rfl, y7, k7⟩
  have s7 := k7.2.2.2.1
  replace b1 := b1.kx k7 (by simp only [List.mem_singleton]; omega)
  replace b2 := b2.kx k7 (by simp only [List.mem_singleton]; omega)
  replace p2 := p2.kx k7 (by simp only [List.mem_singleton]; omega)
  replace p3 := p3.kx k7 (by simp only [List.mem_singleton]; omega)
  replace b3 : Is w7 (w1.heap.size) #[.int .i64 5000, .int .i64 0, .int .i64 0] 23 := y7
  replace kx := k7.old kx (by intro x hx; simp only [List.mem_singleton] at hx; subst hx; omega)
  clear y7
  have f14 := b1.c (i := 0) rfl
  have f15 := b1.c (i := 1) rfl
  have f16 := b1.c (i := 2) rfl
  have f17 := b1.c (i := 3) rfl
  have f18 := b1.c (i := 4) rfl
  have f19 := b1.c (i := 5) rfl
  have f20 := b1.c (i := 6) rfl
  have f21 := b1.c (i := 7) rfl
  have f22 := b1.c (i := 8) rfl
  have f23 := b3.c (i := 0) rfl
  have f24 := b3.c (i := 1) rfl
  have f25 := b3.c (i := 2) rfl
  go_wp2_with fail
  clear f14 f15 f16 f17 f18 f19 f20 f21 f22 f23 f24 f25
  (with_reducible refine ((Ca.o aw_place0 _)).mono ?_)
  rintro r w8 ⟨rfl, k8⟩
  replace b1 := b1.kb k8
  replace b2 := b2.kb k8
  replace b3 := b3.kb k8
  replace p2 := p2.kb k8
  replace p3 := p3.kb k8
  replace kx := kx.trans k8
  have s8 := k8.size
  skip
  clear k8
  have j26 := (b1.alloc (.cells #[.string ⟨#[72]⟩, .int .i64 1, .int .i64 2, .int .i64 5000, .int .i64 0, .int .i64 0, .int .i64 1000, .int .i64 1011, .slice none 0 0] 28 (0, 0)))
  have f27 := j26.c (i := 1) rfl
  have f28 := j26.c (i := 2) rfl
  have j29 := (Is.made w8 #[.string ⟨#[72]⟩, .int .i64 1, .int .i64 1, .int .i64 5000, .int .i64 0, .int .i64 0, .int .i64 1000, .int .i64 1011, .slice none 0 0] 28)
  have f30 := j29.c (i := 0) rfl
  have f31 := j29.c (i := 1) rfl
  have f32 := j29.c (i := 2) rfl
  have f33 := j29.c (i := 3) rfl
  have f34 := j29.c (i := 4) rfl
  have f35 := j29.c (i := 5) rfl
  have f36 := j29.c (i := 6) rfl
  have f37 := j29.c (i := 7) rfl
  have f38 := j29.c (i := 8) rfl
  have j39 := (b2.alloc (.cells #[.string ⟨#[72]⟩, .int .i64 1, .int .i64 1, .int .i64 5000, .int .i64 0, .int .i64 0, .int .i64 1000, .int .i64 1011, .slice none 0 0] 28 (0, 0)))
  have f40 := j39.c (i := 0) rfl
  have f41 := j39.f 0
  have f42 := j39.c (i := 1) rfl
  have f43 := j39.f 1
  have f44 := j39.c (i := 2) rfl
  have f45 := j39.f 2
  have f46 := j39.c (i := 3) rfl
  have f47 := j39.f 3
  have f48 := j39.c (i := 4) rfl
  have f49 := j39.f 4
  have f50 := j39.c (i := 5) rfl
  have f51 := j39.f 5
  have f52 := j39.c (i := 6) rfl
  have f53 := j39.f 6
  have f54 := j39.c (i := 7) rfl
  have f55 := j39.f 7
  have f56 := j39.c (i := 8) rfl
  have f57 := j39.f 8
  go_wp2
  clear f27 f28 f30 f31 f32 f33 f34 f35 f36 f37 f38 f40 f41 f42 f43 f44 f45 f46 f47 f48 f49 f50 f51 f52 f53 f54 f55 f56 f57
  replace b2 := (b2.alloc (.cells #[.string ⟨#[72]⟩, .int .i64 1, .int .i64 1, .int .i64 5000, .int .i64 0, .int .i64 0, .int .i64 1000, .int .i64 1011, .slice none 0 0] 28 (0, 0)))
  replace b2 : Is _ _ #[.string ⟨#[72]⟩, .int .i64 0, .int .i64 0, .int .i64 0, .int .i64 0, .int .i64 0, .int .i64 0, .int .i64 0, .slice none 0 0] _ := b2.set 0 (.string ⟨#[72]⟩)
  replace b2 : Is _ _ #[.string ⟨#[72]⟩, .int .i64 1, .int .i64 0, .int .i64 0, .int .i64 0, .int .i64 0, .int .i64 0, .int .i64 0, .slice none 0 0] _ := b2.set 1 (.int .i64 1)
  replace b2 : Is _ _ #[.string ⟨#[72]⟩, .int .i64 1, .int .i64 1, .int .i64 0, .int .i64 0, .int .i64 0, .int .i64 0, .int .i64 0, .slice none 0 0] _ := b2.set 2 (.int .i64 1)
  replace b2 : Is _ _ #[.string ⟨#[72]⟩, .int .i64 1, .int .i64 1, .int .i64 5000, .int .i64 0, .int .i64 0, .int .i64 0, .int .i64 0, .slice none 0 0] _ := b2.set 3 (.int .i64 5000)
  replace b2 : Is _ _ #[.string ⟨#[72]⟩, .int .i64 1, .int .i64 1, .int .i64 5000, .int .i64 0, .int .i64 0, .int .i64 0, .int .i64 0, .slice none 0 0] _ := b2.set 4 (.int .i64 0)
  replace b2 : Is _ _ #[.string ⟨#[72]⟩, .int .i64 1, .int .i64 1, .int .i64 5000, .int .i64 0, .int .i64 0, .int .i64 0, .int .i64 0, .slice none 0 0] _ := b2.set 5 (.int .i64 0)
  replace b2 : Is _ _ #[.string ⟨#[72]⟩, .int .i64 1, .int .i64 1, .int .i64 5000, .int .i64 0, .int .i64 0, .int .i64 1000, .int .i64 0, .slice none 0 0] _ := b2.set 6 (.int .i64 1000)
  replace b2 : Is _ _ #[.string ⟨#[72]⟩, .int .i64 1, .int .i64 1, .int .i64 5000, .int .i64 0, .int .i64 0, .int .i64 1000, .int .i64 1011, .slice none 0 0] _ := b2.set 7 (.int .i64 1011)
  replace b2 : Is _ _ #[.string ⟨#[72]⟩, .int .i64 1, .int .i64 1, .int .i64 5000, .int .i64 0, .int .i64 0, .int .i64 1000, .int .i64 1011, .slice none 0 0] _ := b2.set 8 (.slice none 0 0)
  replace kx := (((((((((kx.alloc (.cells #[.string ⟨#[72]⟩, .int .i64 1, .int .i64 1, .int .i64 5000, .int .i64 0, .int .i64 0, .int .i64 1000, .int .i64 1011, .slice none 0 0] 28 (0, 0))).setCell (p := ⟨w.heap.size + 1, 0, none⟩) (show w.heap.size ≤ w.heap.size + 1 by omega) (.string ⟨#[72]⟩)).setCell (p := ⟨w.heap.size + 1, 1, none⟩) (show w.heap.size ≤ w.heap.size + 1 by omega) (.int .i64 1)).setCell (p := ⟨w.heap.size + 1, 2, none⟩) (show w.heap.size ≤ w.heap.size + 1 by omega) (.int .i64 1)).setCell (p := ⟨w.heap.size + 1, 3, none⟩) (show w.heap.size ≤ w.heap.size + 1 by omega) (.int .i64 5000)).setCell (p := ⟨w.heap.size + 1, 4, none⟩) (show w.heap.size ≤ w.heap.size + 1 by omega) (.int .i64 0)).setCell (p := ⟨w.heap.size + 1, 5, none⟩) (show w.heap.size ≤ w.heap.size + 1 by omega) (.int .i64 0)).setCell (p := ⟨w.heap.size + 1, 6, none⟩) (show w.heap.size ≤ w.heap.size + 1 by omega) (.int .i64 1000)).setCell (p := ⟨w.heap.size + 1, 7, none⟩) (show w.heap.size ≤ w.heap.size + 1 by omega) (.int .i64 1011)).setCell (p := ⟨w.heap.size + 1, 8, none⟩) (show w.heap.size ≤ w.heap.size + 1 by omega) (.slice none 0 0)
  refine ret_row2 Tryd.results28 rfl rfl rfl b2 Tryd.underlying28 rfl (by kernel_rfl) ?_
  exact ⟨rfl, kx⟩
set_option maxRecDepth 100000 in
theorem aw_turn0_any     : Ca 28 #[.agg #[.string ⟨#[72]⟩, .int .i64 1, .int .i64 2, .int .i64 5000, .int .i64 0, .int .i64 0, .int .i64 1000, .int .i64 1011, .slice none 0 0], .int .i64 0] (.tuple #[.agg #[.string ⟨#[72]⟩, .int .i64 1, .int .i64 1, .int .i64 5000, .int .i64 0, .int .i64 0, .int .i64 1000, .int .i64 1011, .slice none 0 0], .int .i64 0]) := Lib.hid fun w => by
  exact aw_turn0_1  w
set_option maxRecDepth 100000 in
set_option maxHeartbeats 4000000 in
theorem awake_1 (w : World) (gl : Gl w)  : Calls Tryd.prog 11 #[] w fun r W' => r = .returned (.bool true) ∧ Kb w W' := by
  have kx := Kb.refl w
  have gl0 := Lib.hid gl
  go_enter Tryd.func11, Tryd.ntmps11
  go_wp2_with fail
  (with_reducible refine ((Ca.o aw_hole_any _)).mono ?_)
  rintro r w1 ⟨rfl, k1⟩
  replace gl := gl.kb k1
  replace kx := kx.trans k1
  have s1 := k1.size
  skip
  clear k1
  go_wp2_with fail
  (with_reducible refine ((Cg.out aw_max _ gl)).mono ?_)
  rintro r w2 ⟨rfl, k2⟩
  replace gl := gl.kb k2
  replace kx := kx.trans k2
  have s2 := k2.size
  skip
  clear k2
  go_wp2_with fail
  (with_reducible refine ((Ca.o aw_hole_any _)).mono ?_)
  rintro r w3 ⟨rfl, k3⟩
  replace gl := gl.kb k3
  replace kx := kx.trans k3
  have s3 := k3.size
  skip
  clear k3
  go_wp2_with fail
  (with_reducible refine ((Cg.out aw_reach0_any _ gl)).mono ?_)
  rintro r w4 ⟨rfl, k4⟩
  replace gl := gl.kb k4
  replace kx := kx.trans k4
  have s4 := k4.size
  skip
  clear k4
  go_wp2_with fail
  have b1 := Is.made w4 #[.int .i64 4494, .int .i64 5506] 25
  replace kx := kx.alloc (.cells #[.int .i64 4494, .int .i64 5506] 25 (0, 0))
  replace gl := gl0.out.kb kx
  (with_reducible refine ((Ca.o aw_hole_any _)).mono ?_)
  rintro r w5 ⟨rfl, k5⟩
  replace gl := gl.kb k5
  replace b1 := b1.kb k5
  replace kx := kx.trans k5
  have s5 := k5.size
  simp only [World.size_alloc] at s5
  clear k5
  go_wp2_with fail
  (with_reducible refine ((Cg.out aw_reach2_any _ gl)).mono ?_)
  rintro r w6 ⟨rfl, k6⟩
  replace gl := gl.kb k6
  replace b1 := b1.kb k6
  replace kx := kx.trans k6
  have s6 := k6.size
  skip
  clear k6
  go_wp2_with fail
  replace b1 := (b1.alloc (.cells #[.int .i64 0, .int .i64 0] 25 (0, 0)))
  have b2 := Is.made w6 #[.int .i64 0, .int .i64 0] 25
  replace kx := kx.alloc (.cells #[.int .i64 0, .int .i64 0] 25 (0, 0))
  replace gl := gl0.out.kb kx
  (with_reducible refine ((Ca.o aw_hole_any _)).mono ?_)
  rintro r w7 ⟨rfl, k7⟩
  replace gl := gl.kb k7
  replace b1 := b1.kb k7
  replace b2 := b2.kb k7
  replace kx := kx.trans k7
  have s7 := k7.size
  simp only [World.size_alloc] at s7
  clear k7
  go_wp2_with fail
  (with_reducible refine ((Ca.o aw_turn2_any _)).mono ?_)
  rintro r w8 ⟨rfl, k8⟩
  replace gl := gl.kb k8
  replace b1 := b1.kb k8
  replace b2 := b2.kb k8
  replace kx := kx.trans k8
  have s8 := k8.size
  skip
  clear k8
  go_wp2_with fail
  replace b1 := (b1.alloc (.cells #[.string ⟨#[72]⟩, .int .i64 1, .int .i64 2, .int .i64 0, .int .i64 5000, .int .i64 0, .int .i64 1000, .int .i64 1011, .slice none 0 0] 28 (0, 0)))
  replace b2 := (b2.alloc (.cells #[.string ⟨#[72]⟩, .int .i64 1, .int .i64 2, .int .i64 0, .int .i64 5000, .int .i64 0, .int .i64 1000, .int .i64 1011, .slice none 0 0] 28 (0, 0)))
  have b3 := Is.made w8 #[.string ⟨#[72]⟩, .int .i64 1, .int .i64 2, .int .i64 0, .int .i64 5000, .int .i64 0, .int .i64 1000, .int .i64 1011, .slice none 0 0] 28
  replace kx := kx.alloc (.cells #[.string ⟨#[72]⟩, .int .i64 1, .int .i64 2, .int .i64 0, .int .i64 5000, .int .i64 0, .int .i64 1000, .int .i64 1011, .slice none 0 0] 28 (0, 0))
  replace gl := gl0.out.kb kx
  (with_reducible refine ((Ca.o aw_hole_any _)).mono ?_)
  rintro r w9 ⟨rfl, k9⟩
  replace gl := gl.kb k9
  replace b1 := b1.kb k9
  replace b2 := b2.kb k9
  replace b3 := b3.kb k9
  replace kx := kx.trans k9
  have s9 := k9.size
  simp only [World.size_alloc] at s9
  clear k9
  go_wp2_with fail
  (with_reducible refine ((Ca.o aw_turn0_any _)).mono ?_)
  rintro r w10 ⟨rfl, k10⟩
  replace gl := gl.kb k10
  replace b1 := b1.kb k10
  replace b2 := b2.kb k10
  replace b3 := b3.kb k10
  replace kx := kx.trans k10
  have s10 := k10.size
  skip
  clear k10
  go_wp2_with fail
  replace b1 := ((b1.alloc (.cells #[.string ⟨#[72]⟩, .int .i64 1, .int .i64 1, .int .i64 5000, .int .i64 0, .int .i64 0, .int .i64 1000, .int .i64 1011, .slice none 0 0] 28 (0, 0))).alloc (.cells #[.string ⟨#[87]⟩, .int .i64 0, .int .i64 0, .int .i64 5507, .int .i64 0, .int .i64 0, .int .i64 0, .int .i64 0, .slice none 0 0] 28 (0, 0)))
  replace b2 := ((b2.alloc (.cells #[.string ⟨#[72]⟩, .int .i64 1, .int .i64 1, .int .i64 5000, .int .i64 0, .int .i64 0, .int .i64 1000, .int .i64 1011, .slice none 0 0] 28 (0, 0))).alloc (.cells #[.string ⟨#[87]⟩, .int .i64 0, .int .i64 0, .int .i64 5507, .int .i64 0, .int .i64 0, .int .i64 0, .int .i64 0, .slice none 0 0] 28 (0, 0)))
  replace b3 := ((b3.alloc (.cells #[.string ⟨#[72]⟩, .int .i64 1, .int .i64 1, .int .i64 5000, .int .i64 0, .int .i64 0, .int .i64 1000, .int .i64 1011, .slice none 0 0] 28 (0, 0))).alloc (.cells #[.string ⟨#[87]⟩, .int .i64 0, .int .i64 0, .int .i64 5507, .int .i64 0, .int .i64 0, .int .i64 0, .int .i64 0, .slice none 0 0] 28 (0, 0)))
  have b4 := Is.made w10 #[.string ⟨#[72]⟩, .int .i64 1, .int .i64 1, .int .i64 5000, .int .i64 0, .int .i64 0, .int .i64 1000, .int .i64 1011, .slice none 0 0] 28
  replace b4 := (b4.alloc (.cells #[.string ⟨#[87]⟩, .int .i64 0, .int .i64 0, .int .i64 5507, .int .i64 0, .int .i64 0, .int .i64 0, .int .i64 0, .slice none 0 0] 28 (0, 0)))
  have b5 := Is.made (w10.alloc (.cells #[.string ⟨#[72]⟩, .int .i64 1, .int .i64 1, .int .i64 5000, .int .i64 0, .int .i64 0, .int .i64 1000, .int .i64 1011, .slice none 0 0] 28 (0, 0))) #[.string ⟨#[87]⟩, .int .i64 0, .int .i64 0, .int .i64 5507, .int .i64 0, .int .i64 0, .int .i64 0, .int .i64 0, .slice none 0 0] 28
  simp only [World.size_alloc] at b5
  replace kx := (kx.alloc (.cells #[.string ⟨#[72]⟩, .int .i64 1, .int .i64 1, .int .i64 5000, .int .i64 0, .int .i64 0, .int .i64 1000, .int .i64 1011, .slice none 0 0] 28 (0, 0))).alloc (.cells #[.string ⟨#[87]⟩, .int .i64 0, .int .i64 0, .int .i64 5507, .int .i64 0, .int .i64 0, .int .i64 0, .int .i64 0, .slice none 0 0] 28 (0, 0))
  replace gl := gl0.out.kb kx
  replace gl := gl.drew
  replace b1 := b1.drew
  replace b2 := b2.drew
  replace b3 := b3.drew
  replace b4 := b4.drew
  replace b5 := b5.drew
  rw [oF_lit]
  refine o_law (⟨113, [some 44, some 45, some 46, some 43, some 47, some 48, some 12, some 13], [44, 45, 46, 43, 47, 48, 12, 13], [[], [], [0, 1], [2], [3], [3], [4], [5]], [[], [11], [], [], [], [], [], []]⟩ : OT) (Kx []) (RL [fun vv _ => vv = .agg #[.string ⟨#[72]⟩, .int .i64 1, .int .i64 2, .int .i64 5000, .int .i64 0, .int .i64 0, .int .i64 1000, .int .i64 1011, .slice none 0 0], fun vv _ => vv = .agg #[.string ⟨#[87]⟩, .int .i64 0, .int .i64 0, .int .i64 5507, .int .i64 0, .int .i64 0, .int .i64 0, .int .i64 0, .slice none 0 0], fun vv _ => vv = .tuple #[.bool true, .int .i64 0], fun vv _ => vv = .tuple #[.bool true, .int .i64 0], fun vv _ => vv = .bool true, fun vv _ => vv = .int .i64 0, fun vv _ => vv = .bool true, fun vv _ => vv = .int .i64 0]) (by kernel_rfl) ?hk ?hR ?fin
  case hk => kernel_rfl
  case hR =>
    refine ⟨fun _ => (Kx.refl _ _), fun _ _ _ => Kx.trans, rl_stab ⟨fun _ _ _ _ h => h, fun _ _ _ _ h => h, fun _ _ _ _ h => h, fun _ _ _ _ h => h, fun _ _ _ _ h => h, fun _ _ _ _ h => h, fun _ _ _ _ h => h, fun _ _ _ _ h => h, trivial⟩, ?_⟩
    refine allO_cons ?_ (allO_cons ?_ (allO_cons ?_ (allO_cons ?_ (allO_cons ?_ (allO_cons ?_ (allO_cons ?_ (allO_cons ?_ (allO_nil))))))))
    · intro T w9 hG hD hO Q
      have e0 : (oF 113 T).eval (.func 33) = .func (.func 33) #[] #[] := rfl
      refine og_none rfl ?_
      refine o_call (oc0 (enters_of Tryd.func33 (by kernel_rfl) rfl) rfl rfl ) rfl ?_
      exact (Ca.o aw_hole_any w9).mono fun r W' h => ⟨_, h.1, rfl, h.2.kx⟩
    · intro T w9 hG hD hO Q
      have q0 := hO.1
      have e0 : (oF 113 T).eval (.tmp 11) = .pointer (some ⟨w10.heap.size + 1, 0, none⟩) := (oF_eval (by decide)).trans (show T 11 = _ from q0)
      refine og_none rfl ?_
      have im := b5.kx hG (by simp)
      have m0 := im.c (i := 0) rfl
      have m1 := im.c (i := 1) rfl
      have m2 := im.c (i := 2) rfl
      have m3 := im.c (i := 3) rfl
      have m4 := im.c (i := 4) rfl
      have m5 := im.c (i := 5) rfl
      have m6 := im.c (i := 6) rfl
      have m7 := im.c (i := 7) rfl
      have m8 := im.c (i := 8) rfl
      clear im
      exact o_val (v := .agg #[.string ⟨#[87]⟩, .int .i64 0, .int .i64 0, .int .i64 5507, .int .i64 0, .int .i64 0, .int .i64 0, .int .i64 0, .slice none 0 0]) (w' := w9) (by generalize (oF 113 T).eval = rr at *; simp [execOp, go_sem, e0, m0, m1, m2, m3, m4, m5, m6, m7, m8]) rfl rfl (Kx.refl _ _)
    · intro T w9 hG hD hO Q
      have d0 := hD.1
      have d1 := hD.2.1
      have e0 : (oF 113 T).eval (.func 22) = .func (.func 22) #[] #[] := rfl
      have e1 : (oF 113 T).eval (.tmp 44) = .agg #[.string ⟨#[72]⟩, .int .i64 1, .int .i64 2, .int .i64 5000, .int .i64 0, .int .i64 0, .int .i64 1000, .int .i64 1011, .slice none 0 0] := (oF_eval (by decide)).trans (show T 44 = _ from d0)
      have e2 : (oF 113 T).eval (.tmp 45) = .agg #[.string ⟨#[87]⟩, .int .i64 0, .int .i64 0, .int .i64 5507, .int .i64 0, .int .i64 0, .int .i64 0, .int .i64 0, .slice none 0 0] := (oF_eval (by decide)).trans (show T 45 = _ from d1)
      refine og_none rfl ?_
      refine o_call (oc2 (enters_of Tryd.func22 (by kernel_rfl) rfl) rfl rfl e1 e2) rfl ?_
      exact (Cg.out aw_sepW1_any w9 (gl.kx hG (by simp))).mono fun r W' h => ⟨_, h.1, rfl, h.2.kx⟩
    · intro T w9 hG hD hO Q
      have d0 := hD.1
      have e0 : (oF 113 T).eval (.tmp 46) = .tuple #[.bool true, .int .i64 0] := (oF_eval (by decide)).trans (show T 46 = _ from d0)
      refine og_none rfl ?_
      exact o_val (v := .tuple #[.bool true, .int .i64 0]) (w' := w9) (by generalize (oF 113 T).eval = rr at *; simp [execOp, go_sem, e0]) rfl rfl (Kx.refl _ _)
    · intro T w9 hG hD hO Q
      have d0 := hD.1
      have e0 : (oF 113 T).eval (.tmp 43) = .tuple #[.bool true, .int .i64 0] := (oF_eval (by decide)).trans (show T 43 = _ from d0)
      refine og_none rfl ?_
      exact o_val (v := .bool true) (w' := w9) (by generalize (oF 113 T).eval = rr at *; simp [execOp, go_sem, e0]) rfl rfl (Kx.refl _ _)
    · intro T w9 hG hD hO Q
      have d0 := hD.1
      have e0 : (oF 113 T).eval (.tmp 43) = .tuple #[.bool true, .int .i64 0] := (oF_eval (by decide)).trans (show T 43 = _ from d0)
      refine og_none rfl ?_
      exact o_val (v := .int .i64 0) (w' := w9) (by generalize (oF 113 T).eval = rr at *; simp [execOp, go_sem, e0]) rfl rfl (Kx.refl _ _)
    · intro T w9 hG hD hO Q
      have d0 := hD.1
      have e0 : (oF 113 T).eval (.tmp 47) = .bool true := (oF_eval (by decide)).trans (show T 47 = _ from d0)
      refine og_none rfl ?_
      exact o_val (v := .bool true) (w' := w9) (by generalize (oF 113 T).eval = rr at *; simp [execOp, go_sem, e0]) rfl rfl (Kx.refl _ _)
    · intro T w9 hG hD hO Q
      have d0 := hD.1
      have e0 : (oF 113 T).eval (.tmp 48) = .int .i64 0 := (oF_eval (by decide)).trans (show T 48 = _ from d0)
      refine og_none rfl ?_
      exact o_val (v := .int .i64 0) (w' := w9) (by generalize (oF 113 T).eval = rr at *; simp [execOp, go_sem, e0]) rfl rfl (Kx.refl _ _)
  case fin =>
    intro T w11 hout hval hG
    have s11 := hG.2.2.2.1
    simp only [World.size_drew, World.size_alloc] at s11
    rw [show oF 113 T = (⟨#[T 0, T 1, T 2, T 3, T 4, T 5, T 6, T 7, T 8, T 9, T 10, T 11, T 12, T 13, T 14, T 15, T 16, T 17, T 18, T 19, T 20, T 21, T 22, T 23, T 24, T 25, T 26, T 27, T 28, T 29, T 30, T 31, T 32, T 33, T 34, T 35, T 36, T 37, T 38, T 39, T 40, T 41, T 42, T 43, T 44, T 45, T 46, T 47, T 48, T 49, T 50, T 51, T 52, T 53, T 54, T 55, T 56, T 57, T 58, T 59, T 60, T 61, T 62, T 63, T 64, T 65, T 66, T 67, T 68, T 69, T 70, T 71, T 72, T 73, T 74, T 75, T 76, T 77, T 78, T 79, T 80, T 81, T 82, T 83, T 84, T 85, T 86, T 87, T 88, T 89, T 90, T 91, T 92, T 93, T 94, T 95, T 96, T 97, T 98, T 99, T 100, T 101, T 102, T 103, T 104, T 105, T 106, T 107, T 108, T 109, T 110, T 111, T 112], []⟩ : Act) from oF_list 113 T]
    rw [show T 0 = .bool false from hout 0 rfl]
    rw [show T 1 = .int .i64 1000 from hout 1 rfl]
    rw [show T 2 = .int .i64 0 from hout 2 rfl]
    rw [show T 3 = .pointer (some ⟨w4.heap.size, 0, none⟩) from hout 3 rfl]
    rw [show T 4 = .int .i64 0 from hout 4 rfl]
    rw [show T 5 = .pointer (some ⟨w6.heap.size, 0, none⟩) from hout 5 rfl]
    rw [show T 6 = .int .i64 14 from hout 6 rfl]
    rw [show T 7 = .pointer (some ⟨w8.heap.size, 0, none⟩) from hout 7 rfl]
    rw [show T 8 = .int .i64 0 from hout 8 rfl]
    rw [show T 9 = .pointer (some ⟨w10.heap.size, 0, none⟩) from hout 9 rfl]
    rw [show T 10 = .int .i64 0 from hout 10 rfl]
    rw [show T 11 = .pointer (some ⟨w10.heap.size + 1, 0, none⟩) from hout 11 rfl]
    rw [show T 12 = .bool true from hval 6 (by decide : 6 < 8)]
    rw [show T 13 = .int .i64 0 from hval 7 (by decide : 7 < 8)]
    rw [show T 16 = .tuple #[.int .i64 1000, .int .i64 0] from hout 16 rfl]
    rw [show T 17 = .agg #[.string ⟨#[72]⟩, .int .i64 1, .int .i64 2, .int .i64 5000, .int .i64 0, .int .i64 0, .int .i64 1000, .int .i64 1011, .slice none 0 0] from hout 17 rfl]
    rw [show T 18 = .tuple #[.int .i64 1000, .int .i64 0] from hout 18 rfl]
    rw [show T 19 = .int .i64 1000 from hout 19 rfl]
    rw [show T 20 = .int .i64 0 from hout 20 rfl]
    rw [show T 21 = .tuple #[.agg #[.int .i64 4494, .int .i64 5506], .int .i64 0] from hout 21 rfl]
    rw [show T 22 = .agg #[.string ⟨#[72]⟩, .int .i64 1, .int .i64 2, .int .i64 5000, .int .i64 0, .int .i64 0, .int .i64 1000, .int .i64 1011, .slice none 0 0] from hout 22 rfl]
    rw [show T 23 = .tuple #[.agg #[.int .i64 4494, .int .i64 5506], .int .i64 0] from hout 23 rfl]
    rw [show T 24 = .agg #[.int .i64 4494, .int .i64 5506] from hout 24 rfl]
    rw [show T 25 = .int .i64 0 from hout 25 rfl]
    rw [show T 26 = .tuple #[.agg #[.int .i64 0, .int .i64 0], .int .i64 14] from hout 26 rfl]
    rw [show T 27 = .agg #[.string ⟨#[72]⟩, .int .i64 1, .int .i64 2, .int .i64 5000, .int .i64 0, .int .i64 0, .int .i64 1000, .int .i64 1011, .slice none 0 0] from hout 27 rfl]
    rw [show T 28 = .tuple #[.agg #[.int .i64 0, .int .i64 0], .int .i64 14] from hout 28 rfl]
    rw [show T 29 = .agg #[.int .i64 0, .int .i64 0] from hout 29 rfl]
    rw [show T 30 = .int .i64 14 from hout 30 rfl]
    rw [show T 31 = .tuple #[.agg #[.string ⟨#[72]⟩, .int .i64 1, .int .i64 2, .int .i64 0, .int .i64 5000, .int .i64 0, .int .i64 1000, .int .i64 1011, .slice none 0 0], .int .i64 0] from hout 31 rfl]
    rw [show T 32 = .agg #[.string ⟨#[72]⟩, .int .i64 1, .int .i64 2, .int .i64 5000, .int .i64 0, .int .i64 0, .int .i64 1000, .int .i64 1011, .slice none 0 0] from hout 32 rfl]
    rw [show T 33 = .tuple #[.agg #[.string ⟨#[72]⟩, .int .i64 1, .int .i64 2, .int .i64 0, .int .i64 5000, .int .i64 0, .int .i64 1000, .int .i64 1011, .slice none 0 0], .int .i64 0] from hout 33 rfl]
    rw [show T 34 = .agg #[.string ⟨#[72]⟩, .int .i64 1, .int .i64 2, .int .i64 0, .int .i64 5000, .int .i64 0, .int .i64 1000, .int .i64 1011, .slice none 0 0] from hout 34 rfl]
    rw [show T 35 = .int .i64 0 from hout 35 rfl]
    rw [show T 36 = .tuple #[.agg #[.string ⟨#[72]⟩, .int .i64 1, .int .i64 1, .int .i64 5000, .int .i64 0, .int .i64 0, .int .i64 1000, .int .i64 1011, .slice none 0 0], .int .i64 0] from hout 36 rfl]
    rw [show T 37 = .agg #[.string ⟨#[72]⟩, .int .i64 1, .int .i64 2, .int .i64 5000, .int .i64 0, .int .i64 0, .int .i64 1000, .int .i64 1011, .slice none 0 0] from hout 37 rfl]
    rw [show T 38 = .tuple #[.agg #[.string ⟨#[72]⟩, .int .i64 1, .int .i64 1, .int .i64 5000, .int .i64 0, .int .i64 0, .int .i64 1000, .int .i64 1011, .slice none 0 0], .int .i64 0] from hout 38 rfl]
    rw [show T 39 = .agg #[.string ⟨#[72]⟩, .int .i64 1, .int .i64 1, .int .i64 5000, .int .i64 0, .int .i64 0, .int .i64 1000, .int .i64 1011, .slice none 0 0] from hout 39 rfl]
    rw [show T 40 = .int .i64 0 from hout 40 rfl]
    rw [show T 41 = .agg #[.int .i64 5507, .int .i64 0, .int .i64 0] from hout 41 rfl]
    rw [show T 42 = .agg #[.string ⟨#[87]⟩, .int .i64 0, .int .i64 0, .int .i64 5507, .int .i64 0, .int .i64 0, .int .i64 0, .int .i64 0, .slice none 0 0] from hout 42 rfl]
    replace b1 := b1.kx hG (by simp)
    replace b2 := b2.kx hG (by simp)
    replace b3 := b3.kx hG (by simp)
    replace b4 := b4.kx hG (by simp)
    replace b5 := b5.kx hG (by simp)
    replace kx := (show Kb _ _ from kx.drew).trans hG.nil
    replace gl := gl0.out.kb kx
    clear hout hval hG
    have f1 := b5.c (i := 3) rfl
    have f2 := b5.f 3
    go_wp2_with fail
    clear f1 f2
    replace b1 := (b1.far (p := ⟨w10.heap.size + 1, 3, none⟩) (show w4.heap.size ≠ w10.heap.size + 1 by omega) (.int .i64 5506))
    replace b2 := (b2.far (p := ⟨w10.heap.size + 1, 3, none⟩) (show w6.heap.size ≠ w10.heap.size + 1 by omega) (.int .i64 5506))
    replace b3 := (b3.far (p := ⟨w10.heap.size + 1, 3, none⟩) (show w8.heap.size ≠ w10.heap.size + 1 by omega) (.int .i64 5506))
    replace b4 := (b4.far (p := ⟨w10.heap.size + 1, 3, none⟩) (show w10.heap.size ≠ w10.heap.size + 1 by omega) (.int .i64 5506))
    replace b5 : Is _ _ #[.string ⟨#[87]⟩, .int .i64 0, .int .i64 0, .int .i64 5506, .int .i64 0, .int .i64 0, .int .i64 0, .int .i64 0, .slice none 0 0] _ := b5.set 3 (.int .i64 5506)
    replace kx := kx.setCell (p := ⟨w10.heap.size + 1, 3, none⟩) (show w.heap.size ≤ w10.heap.size + 1 by omega) (.int .i64 5506)
    replace gl := gl0.out.kb kx
    replace gl := gl.drew
    replace b1 := b1.drew
    replace b2 := b2.drew
    replace b3 := b3.drew
    replace b4 := b4.drew
    replace b5 := b5.drew
    rw [oF_lit]
    refine o_law (⟨113, [some 56, some 57, some 58, some 55, some 59, some 60, some 14, some 15], [56, 57, 58, 55, 59, 60, 14, 15], [[], [], [0, 1], [2], [3], [3], [4], [5]], [[], [11], [], [], [], [], [], []]⟩ : OT) (Kx []) (RL [fun vv _ => vv = .agg #[.string ⟨#[72]⟩, .int .i64 1, .int .i64 2, .int .i64 5000, .int .i64 0, .int .i64 0, .int .i64 1000, .int .i64 1011, .slice none 0 0], fun vv _ => vv = .agg #[.string ⟨#[87]⟩, .int .i64 0, .int .i64 0, .int .i64 5506, .int .i64 0, .int .i64 0, .int .i64 0, .int .i64 0, .slice none 0 0], fun vv _ => vv = .tuple #[.bool false, .int .i64 0], fun vv _ => vv = .tuple #[.bool false, .int .i64 0], fun vv _ => vv = .bool false, fun vv _ => vv = .int .i64 0, fun vv _ => vv = .bool false, fun vv _ => vv = .int .i64 0]) (by kernel_rfl) ?hk ?hR ?fin
    case hk => kernel_rfl
    case hR =>
      refine ⟨fun _ => (Kx.refl _ _), fun _ _ _ => Kx.trans, rl_stab ⟨fun _ _ _ _ h => h, fun _ _ _ _ h => h, fun _ _ _ _ h => h, fun _ _ _ _ h => h, fun _ _ _ _ h => h, fun _ _ _ _ h => h, fun _ _ _ _ h => h, fun _ _ _ _ h => h, trivial⟩, ?_⟩
      refine allO_cons ?_ (allO_cons ?_ (allO_cons ?_ (allO_cons ?_ (allO_cons ?_ (allO_cons ?_ (allO_cons ?_ (allO_cons ?_ (allO_nil))))))))
      · intro T w9 hG hD hO Q
        have e0 : (oF 113 T).eval (.func 33) = .func (.func 33) #[] #[] := rfl
        refine og_none rfl ?_
        refine o_call (oc0 (enters_of Tryd.func33 (by kernel_rfl) rfl) rfl rfl ) rfl ?_
        exact (Ca.o aw_hole_any w9).mono fun r W' h => ⟨_, h.1, rfl, h.2.kx⟩
      · intro T w9 hG hD hO Q
        have q0 := hO.1
        have e0 : (oF 113 T).eval (.tmp 11) = .pointer (some ⟨w10.heap.size + 1, 0, none⟩) := (oF_eval (by decide)).trans (show T 11 = _ from q0)
        refine og_none rfl ?_
        have im := b5.kx hG (by simp)
        have m0 := im.c (i := 0) rfl
        have m1 := im.c (i := 1) rfl
        have m2 := im.c (i := 2) rfl
        have m3 := im.c (i := 3) rfl
        have m4 := im.c (i := 4) rfl
        have m5 := im.c (i := 5) rfl
        have m6 := im.c (i := 6) rfl
        have m7 := im.c (i := 7) rfl
        have m8 := im.c (i := 8) rfl
        clear im
        exact o_val (v := .agg #[.string ⟨#[87]⟩, .int .i64 0, .int .i64 0, .int .i64 5506, .int .i64 0, .int .i64 0, .int .i64 0, .int .i64 0, .slice none 0 0]) (w' := w9) (by generalize (oF 113 T).eval = rr at *; simp [execOp, go_sem, e0, m0, m1, m2, m3, m4, m5, m6, m7, m8]) rfl rfl (Kx.refl _ _)
      · intro T w9 hG hD hO Q
        have d0 := hD.1
        have d1 := hD.2.1
        have e0 : (oF 113 T).eval (.func 22) = .func (.func 22) #[] #[] := rfl
        have e1 : (oF 113 T).eval (.tmp 56) = .agg #[.string ⟨#[72]⟩, .int .i64 1, .int .i64 2, .int .i64 5000, .int .i64 0, .int .i64 0, .int .i64 1000, .int .i64 1011, .slice none 0 0] := (oF_eval (by decide)).trans (show T 56 = _ from d0)
        have e2 : (oF 113 T).eval (.tmp 57) = .agg #[.string ⟨#[87]⟩, .int .i64 0, .int .i64 0, .int .i64 5506, .int .i64 0, .int .i64 0, .int .i64 0, .int .i64 0, .slice none 0 0] := (oF_eval (by decide)).trans (show T 57 = _ from d1)
        refine og_none rfl ?_
        refine o_call (oc2 (enters_of Tryd.func22 (by kernel_rfl) rfl) rfl rfl e1 e2) rfl ?_
        exact (Cg.out aw_sepW0_any w9 (gl.kx hG (by simp))).mono fun r W' h => ⟨_, h.1, rfl, h.2.kx⟩
      · intro T w9 hG hD hO Q
        have d0 := hD.1
        have e0 : (oF 113 T).eval (.tmp 58) = .tuple #[.bool false, .int .i64 0] := (oF_eval (by decide)).trans (show T 58 = _ from d0)
        refine og_none rfl ?_
        exact o_val (v := .tuple #[.bool false, .int .i64 0]) (w' := w9) (by generalize (oF 113 T).eval = rr at *; simp [execOp, go_sem, e0]) rfl rfl (Kx.refl _ _)
      · intro T w9 hG hD hO Q
        have d0 := hD.1
        have e0 : (oF 113 T).eval (.tmp 55) = .tuple #[.bool false, .int .i64 0] := (oF_eval (by decide)).trans (show T 55 = _ from d0)
        refine og_none rfl ?_
        exact o_val (v := .bool false) (w' := w9) (by generalize (oF 113 T).eval = rr at *; simp [execOp, go_sem, e0]) rfl rfl (Kx.refl _ _)
      · intro T w9 hG hD hO Q
        have d0 := hD.1
        have e0 : (oF 113 T).eval (.tmp 55) = .tuple #[.bool false, .int .i64 0] := (oF_eval (by decide)).trans (show T 55 = _ from d0)
        refine og_none rfl ?_
        exact o_val (v := .int .i64 0) (w' := w9) (by generalize (oF 113 T).eval = rr at *; simp [execOp, go_sem, e0]) rfl rfl (Kx.refl _ _)
      · intro T w9 hG hD hO Q
        have d0 := hD.1
        have e0 : (oF 113 T).eval (.tmp 59) = .bool false := (oF_eval (by decide)).trans (show T 59 = _ from d0)
        refine og_none rfl ?_
        exact o_val (v := .bool false) (w' := w9) (by generalize (oF 113 T).eval = rr at *; simp [execOp, go_sem, e0]) rfl rfl (Kx.refl _ _)
      · intro T w9 hG hD hO Q
        have d0 := hD.1
        have e0 : (oF 113 T).eval (.tmp 60) = .int .i64 0 := (oF_eval (by decide)).trans (show T 60 = _ from d0)
        refine og_none rfl ?_
        exact o_val (v := .int .i64 0) (w' := w9) (by generalize (oF 113 T).eval = rr at *; simp [execOp, go_sem, e0]) rfl rfl (Kx.refl _ _)
    case fin =>
      intro T w12 hout hval hG
      have s12 := hG.2.2.2.1
      simp only [World.size_drew, World.size_setCell] at s12
      rw [show oF 113 T = (⟨#[T 0, T 1, T 2, T 3, T 4, T 5, T 6, T 7, T 8, T 9, T 10, T 11, T 12, T 13, T 14, T 15, T 16, T 17, T 18, T 19, T 20, T 21, T 22, T 23, T 24, T 25, T 26, T 27, T 28, T 29, T 30, T 31, T 32, T 33, T 34, T 35, T 36, T 37, T 38, T 39, T 40, T 41, T 42, T 43, T 44, T 45, T 46, T 47, T 48, T 49, T 50, T 51, T 52, T 53, T 54, T 55, T 56, T 57, T 58, T 59, T 60, T 61, T 62, T 63, T 64, T 65, T 66, T 67, T 68, T 69, T 70, T 71, T 72, T 73, T 74, T 75, T 76, T 77, T 78, T 79, T 80, T 81, T 82, T 83, T 84, T 85, T 86, T 87, T 88, T 89, T 90, T 91, T 92, T 93, T 94, T 95, T 96, T 97, T 98, T 99, T 100, T 101, T 102, T 103, T 104, T 105, T 106, T 107, T 108, T 109, T 110, T 111, T 112], []⟩ : Act) from oF_list 113 T]
      rw [show T 0 = .bool false from hout 0 rfl]
      rw [show T 1 = .int .i64 1000 from hout 1 rfl]
      rw [show T 2 = .int .i64 0 from hout 2 rfl]
      rw [show T 3 = .pointer (some ⟨w4.heap.size, 0, none⟩) from hout 3 rfl]
      rw [show T 4 = .int .i64 0 from hout 4 rfl]
      rw [show T 5 = .pointer (some ⟨w6.heap.size, 0, none⟩) from hout 5 rfl]
      rw [show T 6 = .int .i64 14 from hout 6 rfl]
      rw [show T 7 = .pointer (some ⟨w8.heap.size, 0, none⟩) from hout 7 rfl]
      rw [show T 8 = .int .i64 0 from hout 8 rfl]
      rw [show T 9 = .pointer (some ⟨w10.heap.size, 0, none⟩) from hout 9 rfl]
      rw [show T 10 = .int .i64 0 from hout 10 rfl]
      rw [show T 11 = .pointer (some ⟨w10.heap.size + 1, 0, none⟩) from hout 11 rfl]
      rw [show T 12 = .bool true from hout 12 rfl]
      rw [show T 13 = .int .i64 0 from hout 13 rfl]
      rw [show T 14 = .bool false from hval 6 (by decide : 6 < 8)]
      rw [show T 15 = .int .i64 0 from hval 7 (by decide : 7 < 8)]
      rw [show T 16 = .tuple #[.int .i64 1000, .int .i64 0] from hout 16 rfl]
      rw [show T 17 = .agg #[.string ⟨#[72]⟩, .int .i64 1, .int .i64 2, .int .i64 5000, .int .i64 0, .int .i64 0, .int .i64 1000, .int .i64 1011, .slice none 0 0] from hout 17 rfl]
      rw [show T 18 = .tuple #[.int .i64 1000, .int .i64 0] from hout 18 rfl]
      rw [show T 19 = .int .i64 1000 from hout 19 rfl]
      rw [show T 20 = .int .i64 0 from hout 20 rfl]
      rw [show T 21 = .tuple #[.agg #[.int .i64 4494, .int .i64 5506], .int .i64 0] from hout 21 rfl]
      rw [show T 22 = .agg #[.string ⟨#[72]⟩, .int .i64 1, .int .i64 2, .int .i64 5000, .int .i64 0, .int .i64 0, .int .i64 1000, .int .i64 1011, .slice none 0 0] from hout 22 rfl]
      rw [show T 23 = .tuple #[.agg #[.int .i64 4494, .int .i64 5506], .int .i64 0] from hout 23 rfl]
      rw [show T 24 = .agg #[.int .i64 4494, .int .i64 5506] from hout 24 rfl]
      rw [show T 25 = .int .i64 0 from hout 25 rfl]
      rw [show T 26 = .tuple #[.agg #[.int .i64 0, .int .i64 0], .int .i64 14] from hout 26 rfl]
      rw [show T 27 = .agg #[.string ⟨#[72]⟩, .int .i64 1, .int .i64 2, .int .i64 5000, .int .i64 0, .int .i64 0, .int .i64 1000, .int .i64 1011, .slice none 0 0] from hout 27 rfl]
      rw [show T 28 = .tuple #[.agg #[.int .i64 0, .int .i64 0], .int .i64 14] from hout 28 rfl]
      rw [show T 29 = .agg #[.int .i64 0, .int .i64 0] from hout 29 rfl]
      rw [show T 30 = .int .i64 14 from hout 30 rfl]
      rw [show T 31 = .tuple #[.agg #[.string ⟨#[72]⟩, .int .i64 1, .int .i64 2, .int .i64 0, .int .i64 5000, .int .i64 0, .int .i64 1000, .int .i64 1011, .slice none 0 0], .int .i64 0] from hout 31 rfl]
      rw [show T 32 = .agg #[.string ⟨#[72]⟩, .int .i64 1, .int .i64 2, .int .i64 5000, .int .i64 0, .int .i64 0, .int .i64 1000, .int .i64 1011, .slice none 0 0] from hout 32 rfl]
      rw [show T 33 = .tuple #[.agg #[.string ⟨#[72]⟩, .int .i64 1, .int .i64 2, .int .i64 0, .int .i64 5000, .int .i64 0, .int .i64 1000, .int .i64 1011, .slice none 0 0], .int .i64 0] from hout 33 rfl]
      rw [show T 34 = .agg #[.string ⟨#[72]⟩, .int .i64 1, .int .i64 2, .int .i64 0, .int .i64 5000, .int .i64 0, .int .i64 1000, .int .i64 1011, .slice none 0 0] from hout 34 rfl]
      rw [show T 35 = .int .i64 0 from hout 35 rfl]
      rw [show T 36 = .tuple #[.agg #[.string ⟨#[72]⟩, .int .i64 1, .int .i64 1, .int .i64 5000, .int .i64 0, .int .i64 0, .int .i64 1000, .int .i64 1011, .slice none 0 0], .int .i64 0] from hout 36 rfl]
      rw [show T 37 = .agg #[.string ⟨#[72]⟩, .int .i64 1, .int .i64 2, .int .i64 5000, .int .i64 0, .int .i64 0, .int .i64 1000, .int .i64 1011, .slice none 0 0] from hout 37 rfl]
      rw [show T 38 = .tuple #[.agg #[.string ⟨#[72]⟩, .int .i64 1, .int .i64 1, .int .i64 5000, .int .i64 0, .int .i64 0, .int .i64 1000, .int .i64 1011, .slice none 0 0], .int .i64 0] from hout 38 rfl]
      rw [show T 39 = .agg #[.string ⟨#[72]⟩, .int .i64 1, .int .i64 1, .int .i64 5000, .int .i64 0, .int .i64 0, .int .i64 1000, .int .i64 1011, .slice none 0 0] from hout 39 rfl]
      rw [show T 40 = .int .i64 0 from hout 40 rfl]
      rw [show T 41 = .agg #[.int .i64 5507, .int .i64 0, .int .i64 0] from hout 41 rfl]
      rw [show T 42 = .agg #[.string ⟨#[87]⟩, .int .i64 0, .int .i64 0, .int .i64 5507, .int .i64 0, .int .i64 0, .int .i64 0, .int .i64 0, .slice none 0 0] from hout 42 rfl]
      rw [show T 49 = .pointer (some ⟨w10.heap.size + 1, 3, none⟩) from hout 49 rfl]
      rw [show T 50 = .pointer (some ⟨w10.heap.size + 1, 3, none⟩) from hout 50 rfl]
      rw [show T 51 = .int .i64 5507 from hout 51 rfl]
      rw [show T 52 = .int .i64 5506 from hout 52 rfl]
      rw [show T 53 = .pointer (some ⟨w10.heap.size + 1, 3, none⟩) from hout 53 rfl]
      rw [show T 54 = .pointer (some ⟨w10.heap.size + 1, 3, none⟩) from hout 54 rfl]
      replace b1 := b1.kx hG (by simp)
      replace b2 := b2.kx hG (by simp)
      replace b3 := b3.kx hG (by simp)
      replace b4 := b4.kx hG (by simp)
      replace b5 := b5.kx hG (by simp)
      replace kx := (show Kb _ _ from kx.drew).trans hG.nil
      replace gl := gl0.out.kb kx
      clear hout hval hG
      have f3 := b1.c (i := 0) rfl
      have f4 := b1.c (i := 1) rfl
      have f5 := b3.c (i := 3) rfl
      have f6 := b3.c (i := 4) rfl
      have f7 := b3.c (i := 5) rfl
      have f8 := b3.c (i := 2) rfl
      have f9 := b4.c (i := 3) rfl
      have f10 := b4.c (i := 4) rfl
      have f11 := b4.c (i := 5) rfl
      have f12 := b4.c (i := 2) rfl
      go_wp2
      go_ret
      clear f3 f4 f5 f6 f7 f8 f9 f10 f11 f12
      exact ⟨rfl, kx⟩
set_option maxRecDepth 100000 in
theorem awake_any     : Cg 11 #[] (.bool true) := Lib.hid fun w gl => by
  exact awake_1  w gl
end Go.Proofs.YtdmfkgopalelgaaDoor
