/- Features: the reference: Mirror, Turn. -/
import Derived.Test.YtdmfkgopalelgaaDoorQg4
import Derived.Test.YtdmfkgopalelgaaDoorQf5
namespace Go.Proofs.YtdmfkgopalelgaaDoor
open Go.RowKit

set_option maxRecDepth 100000 in
set_option maxHeartbeats 1000000 in
theorem rPlace_1 (du : Int) (dv : Int) (dw : Int) (w : World)  : Calls Tryd.prog 63 #[.agg #[.int .i64 du, .int .i64 dv, .int .i64 dw]] w fun r W' => r = .returned (.agg #[.int .i64 du, .int .i64 dv, .int .i64 dw]) ∧ Kb w W' := by
  have kx := Kb.refl w
  have j1 := ((Is.made w #[.int .i64 du, .int .i64 dv, .int .i64 dw] 92).alloc (.cells #[.int .i64 0, .int .i64 0, .int .i64 0] 23 (0, 0)))
  have f2 := j1.c (i := 0) rfl
  have f3 := j1.c (i := 1) rfl
  have f4 := j1.c (i := 2) rfl
  go_enter Tryd.func63, Tryd.ntmps63
  go_wp2
  clear f2 f3 f4
  have b2 := Is.made (w.alloc (.cells #[.int .i64 du, .int .i64 dv, .int .i64 dw] 92 (0, 0))) #[.int .i64 du, .int .i64 dv, .int .i64 dw] 23
  simp only [World.size_alloc] at b2
  replace kx := (kx.alloc (.cells #[.int .i64 du, .int .i64 dv, .int .i64 dw] 92 (0, 0))).alloc (.cells #[.int .i64 du, .int .i64 dv, .int .i64 dw] 23 (0, 0))
  refine ret_row Tryd.results63 rfl rfl b2 Tryd.underlying23 rfl (by kernel_rfl) ?_
  exact ⟨rfl, kx⟩
set_option maxRecDepth 100000 in
theorem rPlace_any (du : Int) (dv : Int) (dw : Int)    : Ca 63 #[.agg #[.int .i64 du, .int .i64 dv, .int .i64 dw]] (.agg #[.int .i64 du, .int .i64 dv, .int .i64 dw]) := Lib.hid fun w => by
  exact rPlace_1 du dv dw w
set_option maxRecDepth 100000 in
set_option maxHeartbeats 1000000 in
theorem rat_1 (nu : ByteArray) (ku : Int) (au : Int) (xu : Int) (yu : Int) (zu : Int) (lou : Int) (hiu : Int) (fpu : Option Addr) (flu : Nat) (fcu : Nat) (du : Int) (dv : Int) (dw : Int) (w : World)  : Calls Tryd.prog 62 #[.agg #[.string nu, .int .i64 ku, .int .i64 au, .int .i64 xu, .int .i64 yu, .int .i64 zu, .int .i64 lou, .int .i64 hiu, .slice fpu flu fcu], .agg #[.int .i64 du, .int .i64 dv, .int .i64 dw]] w fun r W' => r = .returned (.agg #[.string nu, .int .i64 ku, .int .i64 au, .int .i64 du, .int .i64 dv, .int .i64 dw, .int .i64 lou, .int .i64 hiu, .slice fpu flu fcu]) ∧ Kb w W' := by
  have kx := Kb.refl w
  have j1 := ((Is.made (w.alloc (.cells #[.string nu, .int .i64 ku, .int .i64 au, .int .i64 xu, .int .i64 yu, .int .i64 zu, .int .i64 lou, .int .i64 hiu, .slice fpu flu fcu] 28 (0, 0))) #[.int .i64 du, .int .i64 dv, .int .i64 dw] 23).alloc (.cells #[.string ⟨#[]⟩, .int .i64 0, .int .i64 0, .int .i64 0, .int .i64 0, .int .i64 0, .int .i64 0, .int .i64 0, .slice none 0 0] 28 (0, 0)))
  simp only [World.size_alloc] at j1
  have f2 := j1.c (i := 0) rfl
  have f3 := j1.c (i := 1) rfl
  have f4 := j1.c (i := 2) rfl
  have j5 := (((Is.made w #[.string nu, .int .i64 ku, .int .i64 au, .int .i64 du, .int .i64 dv, .int .i64 dw, .int .i64 lou, .int .i64 hiu, .slice fpu flu fcu] 28).alloc (.cells #[.int .i64 du, .int .i64 dv, .int .i64 dw] 23 (0, 0))).alloc (.cells #[.string ⟨#[]⟩, .int .i64 0, .int .i64 0, .int .i64 0, .int .i64 0, .int .i64 0, .int .i64 0, .int .i64 0, .slice none 0 0] 28 (0, 0)))
  have f6 := j5.c (i := 0) rfl
  have f7 := j5.c (i := 1) rfl
  have f8 := j5.c (i := 2) rfl
  have f9 := j5.c (i := 3) rfl
  have f10 := j5.c (i := 4) rfl
  have f11 := j5.c (i := 5) rfl
  have f12 := j5.c (i := 6) rfl
  have f13 := j5.c (i := 7) rfl
  have f14 := j5.c (i := 8) rfl
  go_enter Tryd.func62, Tryd.ntmps62
  go_wp2
  clear f2 f3 f4 f6 f7 f8 f9 f10 f11 f12 f13 f14
  have b3 := Is.made ((w.alloc (.cells #[.string nu, .int .i64 ku, .int .i64 au, .int .i64 du, .int .i64 dv, .int .i64 dw, .int .i64 lou, .int .i64 hiu, .slice fpu flu fcu] 28 (0, 0))).alloc (.cells #[.int .i64 du, .int .i64 dv, .int .i64 dw] 23 (0, 0))) #[.string nu, .int .i64 ku, .int .i64 au, .int .i64 du, .int .i64 dv, .int .i64 dw, .int .i64 lou, .int .i64 hiu, .slice fpu flu fcu] 28
  simp only [World.size_alloc] at b3
  replace kx := ((kx.alloc (.cells #[.string nu, .int .i64 ku, .int .i64 au, .int .i64 du, .int .i64 dv, .int .i64 dw, .int .i64 lou, .int .i64 hiu, .slice fpu flu fcu] 28 (0, 0))).alloc (.cells #[.int .i64 du, .int .i64 dv, .int .i64 dw] 23 (0, 0))).alloc (.cells #[.string nu, .int .i64 ku, .int .i64 au, .int .i64 du, .int .i64 dv, .int .i64 dw, .int .i64 lou, .int .i64 hiu, .slice fpu flu fcu] 28 (0, 0))
  refine ret_row Tryd.results62 rfl rfl b3 Tryd.underlying28 rfl (by kernel_rfl) ?_
  exact ⟨rfl, kx⟩
set_option maxRecDepth 100000 in
theorem rat_any (nu : ByteArray) (ku : Int) (au : Int) (xu : Int) (yu : Int) (zu : Int) (lou : Int) (hiu : Int) (fpu : Option Addr) (flu : Nat) (fcu : Nat) (du : Int) (dv : Int) (dw : Int)    : Ca 62 #[.agg #[.string nu, .int .i64 ku, .int .i64 au, .int .i64 xu, .int .i64 yu, .int .i64 zu, .int .i64 lou, .int .i64 hiu, .slice fpu flu fcu], .agg #[.int .i64 du, .int .i64 dv, .int .i64 dw]] (.agg #[.string nu, .int .i64 ku, .int .i64 au, .int .i64 du, .int .i64 dv, .int .i64 dw, .int .i64 lou, .int .i64 hiu, .slice fpu flu fcu]) := Lib.hid fun w => by
  exact rat_1 nu ku au xu yu zu lou hiu fpu flu fcu du dv dw w
set_option maxRecDepth 100000 in
set_option maxHeartbeats 4000000 in
theorem rMirror0_1 (nu : ByteArray) (ku : Int) (au : Int) (xu : Int) (yu : Int) (zu : Int) (lou : Int) (hiu : Int) (fpu : Option Addr) (flu : Nat) (fcu : Nat) (r1 : Int)   (q1 : Ca 55 #[.agg #[.string nu, .int .i64 ku, .int .i64 au, .int .i64 xu, .int .i64 yu, .int .i64 zu, .int .i64 lou, .int .i64 hiu, .slice fpu flu fcu], .int .i64 0] (.int .i64 r1))  (h1 : (r1 != 0) = true) (w : World)  : Calls Tryd.prog 27 #[.agg #[.string nu, .int .i64 ku, .int .i64 au, .int .i64 xu, .int .i64 yu, .int .i64 zu, .int .i64 lou, .int .i64 hiu, .slice fpu flu fcu], .int .i64 0] w fun r W' => r = .returned (.tuple #[.agg #[.string ⟨#[]⟩, .int .i64 0, .int .i64 0, .int .i64 0, .int .i64 0, .int .i64 0, .int .i64 0, .int .i64 0, .slice none 0 0], .int .i64 r1]) ∧ Kb w W' := by
  have kx := Kb.refl w
  unfold Ca at q1
  have j1 := ((Is.made w #[.string nu, .int .i64 ku, .int .i64 au, .int .i64 xu, .int .i64 yu, .int .i64 zu, .int .i64 lou, .int .i64 hiu, .slice fpu flu fcu] 28).alloc (.cells #[.string ⟨#[]⟩, .int .i64 0, .int .i64 0, .int .i64 0, .int .i64 0, .int .i64 0, .int .i64 0, .int .i64 0, .slice none 0 0] 28 (0, 0)))
  have f2 := j1.c (i := 0) rfl
  have f3 := j1.c (i := 1) rfl
  have f4 := j1.c (i := 2) rfl
  have f5 := j1.c (i := 3) rfl
  have f6 := j1.c (i := 4) rfl
  have f7 := j1.c (i := 5) rfl
  have f8 := j1.c (i := 6) rfl
  have f9 := j1.c (i := 7) rfl
  have f10 := j1.c (i := 8) rfl
  go_enter Tryd.func27, Tryd.ntmps27
  go_wp2_with fail
  clear f2 f3 f4 f5 f6 f7 f8 f9 f10
  have b1 := j1
  have b2 := Is.made (w.alloc (.cells #[.string nu, .int .i64 ku, .int .i64 au, .int .i64 xu, .int .i64 yu, .int .i64 zu, .int .i64 lou, .int .i64 hiu, .slice fpu flu fcu] 28 (0, 0))) #[.string ⟨#[]⟩, .int .i64 0, .int .i64 0, .int .i64 0, .int .i64 0, .int .i64 0, .int .i64 0, .int .i64 0, .slice none 0 0] 28
  simp only [World.size_alloc] at b2
  replace kx := (kx.alloc (.cells #[.string nu, .int .i64 ku, .int .i64 au, .int .i64 xu, .int .i64 yu, .int .i64 zu, .int .i64 lou, .int .i64 hiu, .slice fpu flu fcu] 28 (0, 0))).alloc (.cells #[.string ⟨#[]⟩, .int .i64 0, .int .i64 0, .int .i64 0, .int .i64 0, .int .i64 0, .int .i64 0, .int .i64 0, .slice none 0 0] 28 (0, 0))
  clear j1
  (with_reducible refine (((q1).out _)).mono ?_)
  rintro r w1 ⟨rfl, k1⟩
  replace b1 := b1.kb k1
  replace b2 := b2.kb k1
  replace kx := kx.trans k1
  have s1 := k1.size
  simp only [World.size_alloc] at s1
  clear k1
  have f11 := b2.c (i := 0) rfl
  have f12 := b2.f 0
  have f13 := b2.c (i := 1) rfl
  have f14 := b2.f 1
  have f15 := b2.c (i := 2) rfl
  have f16 := b2.f 2
  have f17 := b2.c (i := 3) rfl
  have f18 := b2.f 3
  have f19 := b2.c (i := 4) rfl
  have f20 := b2.f 4
  have f21 := b2.c (i := 5) rfl
  have f22 := b2.f 5
  have f23 := b2.c (i := 6) rfl
  have f24 := b2.f 6
  have f25 := b2.c (i := 7) rfl
  have f26 := b2.f 7
  have f27 := b2.c (i := 8) rfl
  have f28 := b2.f 8
  go_wp2
  clear f11 f12 f13 f14 f15 f16 f17 f18 f19 f20 f21 f22 f23 f24 f25 f26 f27 f28
  replace b2 : Is _ _ #[.string ⟨#[]⟩, .int .i64 0, .int .i64 0, .int .i64 0, .int .i64 0, .int .i64 0, .int .i64 0, .int .i64 0, .slice none 0 0] _ := b2.set 0 (.string ⟨#[]⟩)
  replace b2 : Is _ _ #[.string ⟨#[]⟩, .int .i64 0, .int .i64 0, .int .i64 0, .int .i64 0, .int .i64 0, .int .i64 0, .int .i64 0, .slice none 0 0] _ := b2.set 1 (.int .i64 0)
  replace b2 : Is _ _ #[.string ⟨#[]⟩, .int .i64 0, .int .i64 0, .int .i64 0, .int .i64 0, .int .i64 0, .int .i64 0, .int .i64 0, .slice none 0 0] _ := b2.set 2 (.int .i64 0)
  replace b2 : Is _ _ #[.string ⟨#[]⟩, .int .i64 0, .int .i64 0, .int .i64 0, .int .i64 0, .int .i64 0, .int .i64 0, .int .i64 0, .slice none 0 0] _ := b2.set 3 (.int .i64 0)
  replace b2 : Is _ _ #[.string ⟨#[]⟩, .int .i64 0, .int .i64 0, .int .i64 0, .int .i64 0, .int .i64 0, .int .i64 0, .int .i64 0, .slice none 0 0] _ := b2.set 4 (.int .i64 0)
  replace b2 : Is _ _ #[.string ⟨#[]⟩, .int .i64 0, .int .i64 0, .int .i64 0, .int .i64 0, .int .i64 0, .int .i64 0, .int .i64 0, .slice none 0 0] _ := b2.set 5 (.int .i64 0)
  replace b2 : Is _ _ #[.string ⟨#[]⟩, .int .i64 0, .int .i64 0, .int .i64 0, .int .i64 0, .int .i64 0, .int .i64 0, .int .i64 0, .slice none 0 0] _ := b2.set 6 (.int .i64 0)
  replace b2 : Is _ _ #[.string ⟨#[]⟩, .int .i64 0, .int .i64 0, .int .i64 0, .int .i64 0, .int .i64 0, .int .i64 0, .int .i64 0, .slice none 0 0] _ := b2.set 7 (.int .i64 0)
  replace b2 : Is _ _ #[.string ⟨#[]⟩, .int .i64 0, .int .i64 0, .int .i64 0, .int .i64 0, .int .i64 0, .int .i64 0, .int .i64 0, .slice none 0 0] _ := b2.set 8 (.slice none 0 0)
  replace kx := ((((((((kx.setCell (p := ⟨w.heap.size + 1, 0, none⟩) (show w.heap.size ≤ w.heap.size + 1 by omega) (.string ⟨#[]⟩)).setCell (p := ⟨w.heap.size + 1, 1, none⟩) (show w.heap.size ≤ w.heap.size + 1 by omega) (.int .i64 0)).setCell (p := ⟨w.heap.size + 1, 2, none⟩) (show w.heap.size ≤ w.heap.size + 1 by omega) (.int .i64 0)).setCell (p := ⟨w.heap.size + 1, 3, none⟩) (show w.heap.size ≤ w.heap.size + 1 by omega) (.int .i64 0)).setCell (p := ⟨w.heap.size + 1, 4, none⟩) (show w.heap.size ≤ w.heap.size + 1 by omega) (.int .i64 0)).setCell (p := ⟨w.heap.size + 1, 5, none⟩) (show w.heap.size ≤ w.heap.size + 1 by omega) (.int .i64 0)).setCell (p := ⟨w.heap.size + 1, 6, none⟩) (show w.heap.size ≤ w.heap.size + 1 by omega) (.int .i64 0)).setCell (p := ⟨w.heap.size + 1, 7, none⟩) (show w.heap.size ≤ w.heap.size + 1 by omega) (.int .i64 0)).setCell (p := ⟨w.heap.size + 1, 8, none⟩) (show w.heap.size ≤ w.heap.size + 1 by omega) (.slice none 0 0)
  refine ret_row2 Tryd.results27 rfl rfl rfl b2 Tryd.underlying28 rfl (by kernel_rfl) ?_
  exact ⟨rfl, kx⟩
set_option maxRecDepth 100000 in
set_option maxHeartbeats 4000000 in
theorem rMirror0_2 (nu : ByteArray) (ku : Int) (au : Int) (xu : Int) (yu : Int) (zu : Int) (lou : Int) (hiu : Int) (fpu : Option Addr) (flu : Nat) (fcu : Nat) (r1 : Int) (z2 : Int) (a1 : wrap64 (-xu) = z2) (q1 : Ca 55 #[.agg #[.string nu, .int .i64 ku, .int .i64 au, .int .i64 xu, .int .i64 yu, .int .i64 zu, .int .i64 lou, .int .i64 hiu, .slice fpu flu fcu], .int .i64 0] (.int .i64 r1))  (h1 : (r1 != 0) = false) (w : World)  : Calls Tryd.prog 27 #[.agg #[.string nu, .int .i64 ku, .int .i64 au, .int .i64 xu, .int .i64 yu, .int .i64 zu, .int .i64 lou, .int .i64 hiu, .slice fpu flu fcu], .int .i64 0] w fun r W' => r = .returned (.tuple #[.agg #[.string nu, .int .i64 ku, .int .i64 au, .int .i64 z2, .int .i64 yu, .int .i64 zu, .int .i64 lou, .int .i64 hiu, .slice fpu flu fcu], .int .i64 0]) ∧ Kb w W' := by
  have kx := Kb.refl w
  unfold Ca at q1
  have a1' : IntKind.i64.wrap (-xu) = z2 := (Go.IntWalk.i64_left _).trans a1
  have j1 := ((Is.made w #[.string nu, .int .i64 ku, .int .i64 au, .int .i64 xu, .int .i64 yu, .int .i64 zu, .int .i64 lou, .int .i64 hiu, .slice fpu flu fcu] 28).alloc (.cells #[.string ⟨#[]⟩, .int .i64 0, .int .i64 0, .int .i64 0, .int .i64 0, .int .i64 0, .int .i64 0, .int .i64 0, .slice none 0 0] 28 (0, 0)))
  have f2 := j1.c (i := 0) rfl
  have f3 := j1.c (i := 1) rfl
  have f4 := j1.c (i := 2) rfl
  have f5 := j1.c (i := 3) rfl
  have f6 := j1.c (i := 4) rfl
  have f7 := j1.c (i := 5) rfl
  have f8 := j1.c (i := 6) rfl
  have f9 := j1.c (i := 7) rfl
  have f10 := j1.c (i := 8) rfl
  go_enter Tryd.func27, Tryd.ntmps27
  go_wp2_with fail
  clear f2 f3 f4 f5 f6 f7 f8 f9 f10
  have b1 := j1
  have b2 := Is.made (w.alloc (.cells #[.string nu, .int .i64 ku, .int .i64 au, .int .i64 xu, .int .i64 yu, .int .i64 zu, .int .i64 lou, .int .i64 hiu, .slice fpu flu fcu] 28 (0, 0))) #[.string ⟨#[]⟩, .int .i64 0, .int .i64 0, .int .i64 0, .int .i64 0, .int .i64 0, .int .i64 0, .int .i64 0, .slice none 0 0] 28
  simp only [World.size_alloc] at b2
  replace kx := (kx.alloc (.cells #[.string nu, .int .i64 ku, .int .i64 au, .int .i64 xu, .int .i64 yu, .int .i64 zu, .int .i64 lou, .int .i64 hiu, .slice fpu flu fcu] 28 (0, 0))).alloc (.cells #[.string ⟨#[]⟩, .int .i64 0, .int .i64 0, .int .i64 0, .int .i64 0, .int .i64 0, .int .i64 0, .int .i64 0, .slice none 0 0] 28 (0, 0))
  clear j1
  (with_reducible refine (((q1).out _)).mono ?_)
  rintro r w1 ⟨rfl, k1⟩
  replace b1 := b1.kb k1
  replace b2 := b2.kb k1
  replace kx := kx.trans k1
  have s1 := k1.size
  simp only [World.size_alloc] at s1
  clear k1
  have f11 := b1.c (i := 3) rfl
  have f12 := b1.c (i := 4) rfl
  have f13 := b1.c (i := 5) rfl
  go_wp2_with fail
  clear f11 f12 f13
  (with_reducible refine ((Ca.o (rCoords xu yu zu) _)).mono ?_)
  rintro r w2 ⟨rfl, k2⟩
  replace b1 := b1.kb k2
  replace b2 := b2.kb k2
  replace kx := kx.trans k2
  have s2 := k2.size
  skip
  clear k2
  have j14 := (Is.made w2 #[.int .i64 xu, .int .i64 yu, .int .i64 zu] 92)
  have f15 := j14.c (i := 0) rfl
  go_wp2_with fail
  clear f15
  replace b1 := (b1.alloc (.cells #[.int .i64 z2, .int .i64 yu, .int .i64 zu] 92 (0, 0)))
  replace b2 := (b2.alloc (.cells #[.int .i64 z2, .int .i64 yu, .int .i64 zu] 92 (0, 0)))
  have b3 := Is.made w2 #[.int .i64 z2, .int .i64 yu, .int .i64 zu] 92
  replace kx := kx.alloc (.cells #[.int .i64 z2, .int .i64 yu, .int .i64 zu] 92 (0, 0))
  clear j14
  replace b1 := b1.drew
  replace b2 := b2.drew
  replace b3 := b3.drew
  rw [oF_lit]
  refine o_law (⟨28, [some 24, some 25, some 26, some 27, none, some 5], [24, 25, 26, 27, 4, 5], [[], [], [1], [0, 2], [3], []], [[2], [7], [], [], [4], []]⟩ : OT) (Gz (w.heap.size + 1) #[.string ⟨#[]⟩, .int .i64 0, .int .i64 0, .int .i64 0, .int .i64 0, .int .i64 0, .int .i64 0, .int .i64 0, .slice none 0 0] #[.string nu, .int .i64 ku, .int .i64 au, .int .i64 z2, .int .i64 yu, .int .i64 zu, .int .i64 lou, .int .i64 hiu, .slice fpu flu fcu] 28) (RL [fun vv _ => vv = .agg #[.string nu, .int .i64 ku, .int .i64 au, .int .i64 xu, .int .i64 yu, .int .i64 zu, .int .i64 lou, .int .i64 hiu, .slice fpu flu fcu], fun vv _ => vv = .agg #[.int .i64 z2, .int .i64 yu, .int .i64 zu], fun vv _ => vv = .agg #[.int .i64 z2, .int .i64 yu, .int .i64 zu], fun vv _ => vv = .agg #[.string nu, .int .i64 ku, .int .i64 au, .int .i64 z2, .int .i64 yu, .int .i64 zu, .int .i64 lou, .int .i64 hiu, .slice fpu flu fcu], fun _ ww => Is ww (w.heap.size + 1) #[.string nu, .int .i64 ku, .int .i64 au, .int .i64 z2, .int .i64 yu, .int .i64 zu, .int .i64 lou, .int .i64 hiu, .slice fpu flu fcu] 28, fun vv _ => vv = .int .i64 0]) (by kernel_rfl) ?hk ?hR ?fin
  case hk => kernel_rfl
  case hR =>
    refine ⟨fun _ => (Gz.refl _ _ _ _ _), fun _ _ _ => Gz.trans, rl_stab ⟨fun _ _ _ _ h => h, fun _ _ _ _ h => h, fun _ _ _ _ h => h, fun _ _ _ _ h => h, (fun v w w' k h => k.2.1 h), fun _ _ _ _ h => h, trivial⟩, ?_⟩
    refine allO_cons ?_ (allO_cons ?_ (allO_cons ?_ (allO_cons ?_ (allO_cons ?_ (allO_cons ?_ (allO_nil))))))
    · intro T w9 hG hD hO Q
      have q0 := hO.1
      have e0 : (oF 28 T).eval (.tmp 2) = .pointer (some ⟨w.heap.size, 0, none⟩) := (oF_eval (by decide)).trans (show T 2 = _ from q0)
      refine og_none rfl ?_
      have im := b1.kx hG.1 (by simp only [List.mem_singleton]; omega)
      have m0 := im.c (i := 0) rfl
      have m1 := im.c (i := 1) rfl
      have m2 := im.c (i := 2) rfl
      have m3 := im.c (i := 3) rfl
      have m4 := im.c (i := 4) rfl
      have m5 := im.c (i := 5) rfl
      have m6 := im.c (i := 6) rfl
      have m7 := im.c (i := 7) rfl
      have m8 := im.c (i := 8) rfl
      clear im
      exact o_val (v := .agg #[.string nu, .int .i64 ku, .int .i64 au, .int .i64 xu, .int .i64 yu, .int .i64 zu, .int .i64 lou, .int .i64 hiu, .slice fpu flu fcu]) (w' := w9) (by generalize (oF 28 T).eval = rr at *; simp [execOp, go_sem, e0, m0, m1, m2, m3, m4, m5, m6, m7, m8]) rfl rfl (Gz.refl _ _ _ _ _)
    · intro T w9 hG hD hO Q
      have q0 := hO.1
      have e0 : (oF 28 T).eval (.tmp 7) = .pointer (some ⟨w2.heap.size, 0, none⟩) := (oF_eval (by decide)).trans (show T 7 = _ from q0)
      refine og_none rfl ?_
      have im := b3.kx hG.1 (by simp only [List.mem_singleton]; omega)
      have m0 := im.c (i := 0) rfl
      have m1 := im.c (i := 1) rfl
      have m2 := im.c (i := 2) rfl
      clear im
      exact o_val (v := .agg #[.int .i64 z2, .int .i64 yu, .int .i64 zu]) (w' := w9) (by generalize (oF 28 T).eval = rr at *; simp [execOp, go_sem, e0, m0, m1, m2]) rfl rfl (Gz.refl _ _ _ _ _)
    · intro T w9 hG hD hO Q
      have d0 := hD.1
      have e0 : (oF 28 T).eval (.func 63) = .func (.func 63) #[] #[] := rfl
      have e1 : (oF 28 T).eval (.tmp 25) = .agg #[.int .i64 z2, .int .i64 yu, .int .i64 zu] := (oF_eval (by decide)).trans (show T 25 = _ from d0)
      refine og_none rfl ?_
      refine o_call (oc1 (enters_of Tryd.func63 (by kernel_rfl) rfl) rfl rfl e1) rfl ?_
      exact (Ca.o (rPlace_any z2 yu zu) w9).mono fun r W' h => ⟨_, h.1, rfl, h.2.gz⟩
    · intro T w9 hG hD hO Q
      have d0 := hD.1
      have d1 := hD.2.1
      have e0 : (oF 28 T).eval (.func 62) = .func (.func 62) #[] #[] := rfl
      have e1 : (oF 28 T).eval (.tmp 24) = .agg #[.string nu, .int .i64 ku, .int .i64 au, .int .i64 xu, .int .i64 yu, .int .i64 zu, .int .i64 lou, .int .i64 hiu, .slice fpu flu fcu] := (oF_eval (by decide)).trans (show T 24 = _ from d0)
      have e2 : (oF 28 T).eval (.tmp 26) = .agg #[.int .i64 z2, .int .i64 yu, .int .i64 zu] := (oF_eval (by decide)).trans (show T 26 = _ from d1)
      refine og_none rfl ?_
      refine o_call (oc2 (enters_of Tryd.func62 (by kernel_rfl) rfl) rfl rfl e1 e2) rfl ?_
      exact (Ca.o (rat_any nu ku au xu yu zu lou hiu fpu flu fcu z2 yu zu) w9).mono fun r W' h => ⟨_, h.1, rfl, h.2.gz⟩
    · intro T w9 hG hD hO Q
      have d0 := hD.1
      have q0 := hO.1
      have e0 : (oF 28 T).eval (.tmp 4) = .pointer (some ⟨w.heap.size + 1, 0, none⟩) := (oF_eval (by decide)).trans (show T 4 = _ from q0)
      have e1 : (oF 28 T).eval (.tmp 27) = .agg #[.string nu, .int .i64 ku, .int .i64 au, .int .i64 z2, .int .i64 yu, .int .i64 zu, .int .i64 lou, .int .i64 hiu, .slice fpu flu fcu] := (oF_eval (by decide)).trans (show T 27 = _ from d0)
      refine og_none rfl ?_
      have io : Is w9 (w.heap.size + 1) #[.string ⟨#[]⟩, .int .i64 0, .int .i64 0, .int .i64 0, .int .i64 0, .int .i64 0, .int .i64 0, .int .i64 0, .slice none 0 0] 28 ∨ Is w9 (w.heap.size + 1) #[.string nu, .int .i64 ku, .int .i64 au, .int .i64 z2, .int .i64 yu, .int .i64 zu, .int .i64 lou, .int .i64 hiu, .slice fpu flu fcu] 28 := hG.2.2 (.inl b2)
      rcases io with io | io
      · have zn := io
        replace zn : Is (w9.setCell ⟨w.heap.size + 1, 0, none⟩ (.string nu)) (w.heap.size + 1) #[.string nu, .int .i64 0, .int .i64 0, .int .i64 0, .int .i64 0, .int .i64 0, .int .i64 0, .int .i64 0, .slice none 0 0] 28 := zn.set 0 _
        replace zn : Is ((w9.setCell ⟨w.heap.size + 1, 0, none⟩ (.string nu)).setCell ⟨w.heap.size + 1, 1, none⟩ (.int .i64 ku)) (w.heap.size + 1) #[.string nu, .int .i64 ku, .int .i64 0, .int .i64 0, .int .i64 0, .int .i64 0, .int .i64 0, .int .i64 0, .slice none 0 0] 28 := zn.set 1 _
        replace zn : Is (((w9.setCell ⟨w.heap.size + 1, 0, none⟩ (.string nu)).setCell ⟨w.heap.size + 1, 1, none⟩ (.int .i64 ku)).setCell ⟨w.heap.size + 1, 2, none⟩ (.int .i64 au)) (w.heap.size + 1) #[.string nu, .int .i64 ku, .int .i64 au, .int .i64 0, .int .i64 0, .int .i64 0, .int .i64 0, .int .i64 0, .slice none 0 0] 28 := zn.set 2 _
        replace zn : Is ((((w9.setCell ⟨w.heap.size + 1, 0, none⟩ (.string nu)).setCell ⟨w.heap.size + 1, 1, none⟩ (.int .i64 ku)).setCell ⟨w.heap.size + 1, 2, none⟩ (.int .i64 au)).setCell ⟨w.heap.size + 1, 3, none⟩ (.int .i64 z2)) (w.heap.size + 1) #[.string nu, .int .i64 ku, .int .i64 au, .int .i64 z2, .int .i64 0, .int .i64 0, .int .i64 0, .int .i64 0, .slice none 0 0] 28 := zn.set 3 _
        replace zn : Is (((((w9.setCell ⟨w.heap.size + 1, 0, none⟩ (.string nu)).setCell ⟨w.heap.size + 1, 1, none⟩ (.int .i64 ku)).setCell ⟨w.heap.size + 1, 2, none⟩ (.int .i64 au)).setCell ⟨w.heap.size + 1, 3, none⟩ (.int .i64 z2)).setCell ⟨w.heap.size + 1, 4, none⟩ (.int .i64 yu)) (w.heap.size + 1) #[.string nu, .int .i64 ku, .int .i64 au, .int .i64 z2, .int .i64 yu, .int .i64 0, .int .i64 0, .int .i64 0, .slice none 0 0] 28 := zn.set 4 _
        replace zn : Is ((((((w9.setCell ⟨w.heap.size + 1, 0, none⟩ (.string nu)).setCell ⟨w.heap.size + 1, 1, none⟩ (.int .i64 ku)).setCell ⟨w.heap.size + 1, 2, none⟩ (.int .i64 au)).setCell ⟨w.heap.size + 1, 3, none⟩ (.int .i64 z2)).setCell ⟨w.heap.size + 1, 4, none⟩ (.int .i64 yu)).setCell ⟨w.heap.size + 1, 5, none⟩ (.int .i64 zu)) (w.heap.size + 1) #[.string nu, .int .i64 ku, .int .i64 au, .int .i64 z2, .int .i64 yu, .int .i64 zu, .int .i64 0, .int .i64 0, .slice none 0 0] 28 := zn.set 5 _
        replace zn : Is (((((((w9.setCell ⟨w.heap.size + 1, 0, none⟩ (.string nu)).setCell ⟨w.heap.size + 1, 1, none⟩ (.int .i64 ku)).setCell ⟨w.heap.size + 1, 2, none⟩ (.int .i64 au)).setCell ⟨w.heap.size + 1, 3, none⟩ (.int .i64 z2)).setCell ⟨w.heap.size + 1, 4, none⟩ (.int .i64 yu)).setCell ⟨w.heap.size + 1, 5, none⟩ (.int .i64 zu)).setCell ⟨w.heap.size + 1, 6, none⟩ (.int .i64 lou)) (w.heap.size + 1) #[.string nu, .int .i64 ku, .int .i64 au, .int .i64 z2, .int .i64 yu, .int .i64 zu, .int .i64 lou, .int .i64 0, .slice none 0 0] 28 := zn.set 6 _
        replace zn : Is ((((((((w9.setCell ⟨w.heap.size + 1, 0, none⟩ (.string nu)).setCell ⟨w.heap.size + 1, 1, none⟩ (.int .i64 ku)).setCell ⟨w.heap.size + 1, 2, none⟩ (.int .i64 au)).setCell ⟨w.heap.size + 1, 3, none⟩ (.int .i64 z2)).setCell ⟨w.heap.size + 1, 4, none⟩ (.int .i64 yu)).setCell ⟨w.heap.size + 1, 5, none⟩ (.int .i64 zu)).setCell ⟨w.heap.size + 1, 6, none⟩ (.int .i64 lou)).setCell ⟨w.heap.size + 1, 7, none⟩ (.int .i64 hiu)) (w.heap.size + 1) #[.string nu, .int .i64 ku, .int .i64 au, .int .i64 z2, .int .i64 yu, .int .i64 zu, .int .i64 lou, .int .i64 hiu, .slice none 0 0] 28 := zn.set 7 _
        replace zn : Is (((((((((w9.setCell ⟨w.heap.size + 1, 0, none⟩ (.string nu)).setCell ⟨w.heap.size + 1, 1, none⟩ (.int .i64 ku)).setCell ⟨w.heap.size + 1, 2, none⟩ (.int .i64 au)).setCell ⟨w.heap.size + 1, 3, none⟩ (.int .i64 z2)).setCell ⟨w.heap.size + 1, 4, none⟩ (.int .i64 yu)).setCell ⟨w.heap.size + 1, 5, none⟩ (.int .i64 zu)).setCell ⟨w.heap.size + 1, 6, none⟩ (.int .i64 lou)).setCell ⟨w.heap.size + 1, 7, none⟩ (.int .i64 hiu)).setCell ⟨w.heap.size + 1, 8, none⟩ (.slice fpu flu fcu)) (w.heap.size + 1) #[.string nu, .int .i64 ku, .int .i64 au, .int .i64 z2, .int .i64 yu, .int .i64 zu, .int .i64 lou, .int .i64 hiu, .slice fpu flu fcu] 28 := zn.set 8 _
        have pt := ((((((((((Pt.refl (w.heap.size + 1) w9).set 0 (.string nu)).set 1 (.int .i64 ku)).set 2 (.int .i64 au)).set 3 (.int .i64 z2)).set 4 (.int .i64 yu)).set 5 (.int .i64 zu)).set 6 (.int .i64 lou)).set 7 (.int .i64 hiu)).set 8 (.slice fpu flu fcu))
        have m0 := io.c (i := 0) rfl
        have f0 := io.f 0
        have m1 := io.c (i := 1) rfl
        have f1 := io.f 1
        have m2 := io.c (i := 2) rfl
        have f2 := io.f 2
        have m3 := io.c (i := 3) rfl
        have f3 := io.f 3
        have m4 := io.c (i := 4) rfl
        have f4 := io.f 4
        have m5 := io.c (i := 5) rfl
        have f5 := io.f 5
        have m6 := io.c (i := 6) rfl
        have f6 := io.f 6
        have m7 := io.c (i := 7) rfl
        have f7 := io.f 7
        have m8 := io.c (i := 8) rfl
        have f8 := io.f 8
        clear io
        exact o_skip (w' := (((((((((w9.setCell ⟨w.heap.size + 1, 0, none⟩ (.string nu)).setCell ⟨w.heap.size + 1, 1, none⟩ (.int .i64 ku)).setCell ⟨w.heap.size + 1, 2, none⟩ (.int .i64 au)).setCell ⟨w.heap.size + 1, 3, none⟩ (.int .i64 z2)).setCell ⟨w.heap.size + 1, 4, none⟩ (.int .i64 yu)).setCell ⟨w.heap.size + 1, 5, none⟩ (.int .i64 zu)).setCell ⟨w.heap.size + 1, 6, none⟩ (.int .i64 lou)).setCell ⟨w.heap.size + 1, 7, none⟩ (.int .i64 hiu)).setCell ⟨w.heap.size + 1, 8, none⟩ (.slice fpu flu fcu))) (by generalize (oF 28 T).eval = rr at *; simp [execOp, go_sem, e0, e1, m0, f0, m1, f1, m2, f2, m3, f3, m4, f4, m5, f5, m6, f6, m7, f7, m8, f8]) rfl zn (pt.gz zn)
      · have zn := io
        replace zn : Is (w9.setCell ⟨w.heap.size + 1, 0, none⟩ (.string nu)) (w.heap.size + 1) #[.string nu, .int .i64 ku, .int .i64 au, .int .i64 z2, .int .i64 yu, .int .i64 zu, .int .i64 lou, .int .i64 hiu, .slice fpu flu fcu] 28 := zn.set 0 _
        replace zn : Is ((w9.setCell ⟨w.heap.size + 1, 0, none⟩ (.string nu)).setCell ⟨w.heap.size + 1, 1, none⟩ (.int .i64 ku)) (w.heap.size + 1) #[.string nu, .int .i64 ku, .int .i64 au, .int .i64 z2, .int .i64 yu, .int .i64 zu, .int .i64 lou, .int .i64 hiu, .slice fpu flu fcu] 28 := zn.set 1 _
        replace zn : Is (((w9.setCell ⟨w.heap.size + 1, 0, none⟩ (.string nu)).setCell ⟨w.heap.size + 1, 1, none⟩ (.int .i64 ku)).setCell ⟨w.heap.size + 1, 2, none⟩ (.int .i64 au)) (w.heap.size + 1) #[.string nu, .int .i64 ku, .int .i64 au, .int .i64 z2, .int .i64 yu, .int .i64 zu, .int .i64 lou, .int .i64 hiu, .slice fpu flu fcu] 28 := zn.set 2 _
        replace zn : Is ((((w9.setCell ⟨w.heap.size + 1, 0, none⟩ (.string nu)).setCell ⟨w.heap.size + 1, 1, none⟩ (.int .i64 ku)).setCell ⟨w.heap.size + 1, 2, none⟩ (.int .i64 au)).setCell ⟨w.heap.size + 1, 3, none⟩ (.int .i64 z2)) (w.heap.size + 1) #[.string nu, .int .i64 ku, .int .i64 au, .int .i64 z2, .int .i64 yu, .int .i64 zu, .int .i64 lou, .int .i64 hiu, .slice fpu flu fcu] 28 := zn.set 3 _
        replace zn : Is (((((w9.setCell ⟨w.heap.size + 1, 0, none⟩ (.string nu)).setCell ⟨w.heap.size + 1, 1, none⟩ (.int .i64 ku)).setCell ⟨w.heap.size + 1, 2, none⟩ (.int .i64 au)).setCell ⟨w.heap.size + 1, 3, none⟩ (.int .i64 z2)).setCell ⟨w.heap.size + 1, 4, none⟩ (.int .i64 yu)) (w.heap.size + 1) #[.string nu, .int .i64 ku, .int .i64 au, .int .i64 z2, .int .i64 yu, .int .i64 zu, .int .i64 lou, .int .i64 hiu, .slice fpu flu fcu] 28 := zn.set 4 _
        replace zn : Is ((((((w9.setCell ⟨w.heap.size + 1, 0, none⟩ (.string nu)).setCell ⟨w.heap.size + 1, 1, none⟩ (.int .i64 ku)).setCell ⟨w.heap.size + 1, 2, none⟩ (.int .i64 au)).setCell ⟨w.heap.size + 1, 3, none⟩ (.int .i64 z2)).setCell ⟨w.heap.size + 1, 4, none⟩ (.int .i64 yu)).setCell ⟨w.heap.size + 1, 5, none⟩ (.int .i64 zu)) (w.heap.size + 1) #[.string nu, .int .i64 ku, .int .i64 au, .int .i64 z2, .int .i64 yu, .int .i64 zu, .int .i64 lou, .int .i64 hiu, .slice fpu flu fcu] 28 := zn.set 5 _
        replace zn : Is (((((((w9.setCell ⟨w.heap.size + 1, 0, none⟩ (.string nu)).setCell ⟨w.heap.size + 1, 1, none⟩ (.int .i64 ku)).setCell ⟨w.heap.size + 1, 2, none⟩ (.int .i64 au)).setCell ⟨w.heap.size + 1, 3, none⟩ (.int .i64 z2)).setCell ⟨w.heap.size + 1, 4, none⟩ (.int .i64 yu)).setCell ⟨w.heap.size + 1, 5, none⟩ (.int .i64 zu)).setCell ⟨w.heap.size + 1, 6, none⟩ (.int .i64 lou)) (w.heap.size + 1) #[.string nu, .int .i64 ku, .int .i64 au, .int .i64 z2, .int .i64 yu, .int .i64 zu, .int .i64 lou, .int .i64 hiu, .slice fpu flu fcu] 28 := zn.set 6 _
        replace zn : Is ((((((((w9.setCell ⟨w.heap.size + 1, 0, none⟩ (.string nu)).setCell ⟨w.heap.size + 1, 1, none⟩ (.int .i64 ku)).setCell ⟨w.heap.size + 1, 2, none⟩ (.int .i64 au)).setCell ⟨w.heap.size + 1, 3, none⟩ (.int .i64 z2)).setCell ⟨w.heap.size + 1, 4, none⟩ (.int .i64 yu)).setCell ⟨w.heap.size + 1, 5, none⟩ (.int .i64 zu)).setCell ⟨w.heap.size + 1, 6, none⟩ (.int .i64 lou)).setCell ⟨w.heap.size + 1, 7, none⟩ (.int .i64 hiu)) (w.heap.size + 1) #[.string nu, .int .i64 ku, .int .i64 au, .int .i64 z2, .int .i64 yu, .int .i64 zu, .int .i64 lou, .int .i64 hiu, .slice fpu flu fcu] 28 := zn.set 7 _
        replace zn : Is (((((((((w9.setCell ⟨w.heap.size + 1, 0, none⟩ (.string nu)).setCell ⟨w.heap.size + 1, 1, none⟩ (.int .i64 ku)).setCell ⟨w.heap.size + 1, 2, none⟩ (.int .i64 au)).setCell ⟨w.heap.size + 1, 3, none⟩ (.int .i64 z2)).setCell ⟨w.heap.size + 1, 4, none⟩ (.int .i64 yu)).setCell ⟨w.heap.size + 1, 5, none⟩ (.int .i64 zu)).setCell ⟨w.heap.size + 1, 6, none⟩ (.int .i64 lou)).setCell ⟨w.heap.size + 1, 7, none⟩ (.int .i64 hiu)).setCell ⟨w.heap.size + 1, 8, none⟩ (.slice fpu flu fcu)) (w.heap.size + 1) #[.string nu, .int .i64 ku, .int .i64 au, .int .i64 z2, .int .i64 yu, .int .i64 zu, .int .i64 lou, .int .i64 hiu, .slice fpu flu fcu] 28 := zn.set 8 _
        have pt := ((((((((((Pt.refl (w.heap.size + 1) w9).set 0 (.string nu)).set 1 (.int .i64 ku)).set 2 (.int .i64 au)).set 3 (.int .i64 z2)).set 4 (.int .i64 yu)).set 5 (.int .i64 zu)).set 6 (.int .i64 lou)).set 7 (.int .i64 hiu)).set 8 (.slice fpu flu fcu))
        have m0 := io.c (i := 0) rfl
        have f0 := io.f 0
        have m1 := io.c (i := 1) rfl
        have f1 := io.f 1
        have m2 := io.c (i := 2) rfl
        have f2 := io.f 2
        have m3 := io.c (i := 3) rfl
        have f3 := io.f 3
        have m4 := io.c (i := 4) rfl
        have f4 := io.f 4
        have m5 := io.c (i := 5) rfl
        have f5 := io.f 5
        have m6 := io.c (i := 6) rfl
        have f6 := io.f 6
        have m7 := io.c (i := 7) rfl
        have f7 := io.f 7
        have m8 := io.c (i := 8) rfl
        have f8 := io.f 8
        clear io
        exact o_skip (w' := (((((((((w9.setCell ⟨w.heap.size + 1, 0, none⟩ (.string nu)).setCell ⟨w.heap.size + 1, 1, none⟩ (.int .i64 ku)).setCell ⟨w.heap.size + 1, 2, none⟩ (.int .i64 au)).setCell ⟨w.heap.size + 1, 3, none⟩ (.int .i64 z2)).setCell ⟨w.heap.size + 1, 4, none⟩ (.int .i64 yu)).setCell ⟨w.heap.size + 1, 5, none⟩ (.int .i64 zu)).setCell ⟨w.heap.size + 1, 6, none⟩ (.int .i64 lou)).setCell ⟨w.heap.size + 1, 7, none⟩ (.int .i64 hiu)).setCell ⟨w.heap.size + 1, 8, none⟩ (.slice fpu flu fcu))) (by generalize (oF 28 T).eval = rr at *; simp [execOp, go_sem, e0, e1, m0, f0, m1, f1, m2, f2, m3, f3, m4, f4, m5, f5, m6, f6, m7, f7, m8, f8]) rfl zn (pt.gz zn)
    · intro T w9 hG hD hO Q
      have e0 : (oF 28 T).eval (.const (.int .i64 0)) = .int .i64 0 := rfl
      refine og_none rfl ?_
      exact o_val (v := .int .i64 0) (w' := w9) (by generalize (oF 28 T).eval = rr at *; simp [execOp, go_sem, e0]) rfl rfl (Gz.refl _ _ _ _ _)
  case fin =>
    intro T w3 hout hval hG
    have s3 := hG.1.2.2.2.1
    simp only [World.size_drew, World.size_alloc] at s3
    rw [show oF 28 T = (⟨#[T 0, T 1, T 2, T 3, T 4, T 5, T 6, T 7, T 8, T 9, T 10, T 11, T 12, T 13, T 14, T 15, T 16, T 17, T 18, T 19, T 20, T 21, T 22, T 23, T 24, T 25, T 26, T 27], []⟩ : Act) from oF_list 28 T]
    rw [show T 0 = .agg #[.string nu, .int .i64 ku, .int .i64 au, .int .i64 xu, .int .i64 yu, .int .i64 zu, .int .i64 lou, .int .i64 hiu, .slice fpu flu fcu] from hout 0 rfl]
    rw [show T 1 = .int .i64 0 from hout 1 rfl]
    rw [show T 2 = .pointer (some ⟨w.heap.size, 0, none⟩) from hout 2 rfl]
    rw [show T 4 = .pointer (some ⟨w.heap.size + 1, 0, none⟩) from hout 4 rfl]
    rw [show T 5 = .int .i64 0 from hval 5 (by decide : 5 < 6)]
    rw [show T 6 = .int .i64 r1 from hout 6 rfl]
    rw [show T 7 = .pointer (some ⟨w2.heap.size, 0, none⟩) from hout 7 rfl]
    rw [show T 8 = .agg #[.string nu, .int .i64 ku, .int .i64 au, .int .i64 xu, .int .i64 yu, .int .i64 zu, .int .i64 lou, .int .i64 hiu, .slice fpu flu fcu] from hout 8 rfl]
    rw [show T 9 = .int .i64 0 from hout 9 rfl]
    rw [show T 10 = .int .i64 r1 from hout 10 rfl]
    rw [show T 11 = .int .i64 r1 from hout 11 rfl]
    rw [show T 12 = .bool false from hout 12 rfl]
    rw [show T 15 = .pointer (some ⟨w.heap.size, 3, none⟩) from hout 15 rfl]
    rw [show T 16 = .agg #[.int .i64 xu, .int .i64 yu, .int .i64 zu] from hout 16 rfl]
    rw [show T 17 = .agg #[.int .i64 xu, .int .i64 yu, .int .i64 zu] from hout 17 rfl]
    rw [show T 18 = .int .i64 0 from hout 18 rfl]
    rw [show T 19 = .int .i64 0 from hout 19 rfl]
    rw [show T 20 = .pointer (some ⟨w2.heap.size, 0, none⟩) from hout 20 rfl]
    rw [show T 21 = .int .i64 xu from hout 21 rfl]
    rw [show T 22 = .int .i64 z2 from hout 22 rfl]
    rw [show T 23 = .pointer (some ⟨w2.heap.size, 0, none⟩) from hout 23 rfl]
    replace b1 := b1.kx hG.1 (by simp only [List.mem_singleton]; omega)
    replace b3 := b3.kx hG.1 (by simp only [List.mem_singleton]; omega)
    replace b2 := hval 4 (by decide)
    replace b2 : Is _ (w.heap.size + 1) #[.string nu, .int .i64 ku, .int .i64 au, .int .i64 z2, .int .i64 yu, .int .i64 zu, .int .i64 lou, .int .i64 hiu, .slice fpu flu fcu] 28 := b2
    replace kx := hG.1.old kx.drew (by intro x hx; simp only [List.mem_singleton] at hx; subst hx; omega)
    clear hout hval hG
    go_wp2
    refine ret_row2 Tryd.results27 rfl rfl rfl b2 Tryd.underlying28 rfl (by kernel_rfl) ?_
    exact ⟨rfl, kx⟩
set_option maxRecDepth 100000 in
theorem rMirror0_any (nu : ByteArray) (ku : Int) (au : Int) (xu : Int) (yu : Int) (zu : Int) (lou : Int) (hiu : Int) (fpu : Option Addr) (flu : Nat) (fcu : Nat) (r1 : Int) (q1 : Ca 55 #[.agg #[.string nu, .int .i64 ku, .int .i64 au, .int .i64 xu, .int .i64 yu, .int .i64 zu, .int .i64 lou, .int .i64 hiu, .slice fpu flu fcu], .int .i64 0] (.int .i64 r1))  : Ca 27 #[.agg #[.string nu, .int .i64 ku, .int .i64 au, .int .i64 xu, .int .i64 yu, .int .i64 zu, .int .i64 lou, .int .i64 hiu, .slice fpu flu fcu], .int .i64 0] (if (r1 != 0) = true then (.tuple #[.agg #[.string ⟨#[]⟩, .int .i64 0, .int .i64 0, .int .i64 0, .int .i64 0, .int .i64 0, .int .i64 0, .int .i64 0, .slice none 0 0], .int .i64 r1]) else (.tuple #[.agg #[.string nu, .int .i64 ku, .int .i64 au, .int .i64 (wrap64 (-xu)), .int .i64 yu, .int .i64 zu, .int .i64 lou, .int .i64 hiu, .slice fpu flu fcu], .int .i64 0])) := Lib.hid fun w => by
  rcases Bool.eq_false_or_eq_true (r1 != 0) with h1 | h1
  · rw [if_pos h1]
    exact rMirror0_1 nu ku au xu yu zu lou hiu fpu flu fcu r1 q1 h1 w
  · rw [if_neg (by rw [h1]; decide)]
    exact rMirror0_2 nu ku au xu yu zu lou hiu fpu flu fcu r1 ((wrap64 (-xu))) rfl q1 h1 w
set_option maxRecDepth 100000 in
set_option maxHeartbeats 4000000 in
theorem rMirror1_1 (nu : ByteArray) (ku : Int) (au : Int) (xu : Int) (yu : Int) (zu : Int) (lou : Int) (hiu : Int) (fpu : Option Addr) (flu : Nat) (fcu : Nat) (r1 : Int)   (q1 : Ca 55 #[.agg #[.string nu, .int .i64 ku, .int .i64 au, .int .i64 xu, .int .i64 yu, .int .i64 zu, .int .i64 lou, .int .i64 hiu, .slice fpu flu fcu], .int .i64 1] (.int .i64 r1))  (h1 : (r1 != 0) = true) (w : World)  : Calls Tryd.prog 27 #[.agg #[.string nu, .int .i64 ku, .int .i64 au, .int .i64 xu, .int .i64 yu, .int .i64 zu, .int .i64 lou, .int .i64 hiu, .slice fpu flu fcu], .int .i64 1] w fun r W' => r = .returned (.tuple #[.agg #[.string ⟨#[]⟩, .int .i64 0, .int .i64 0, .int .i64 0, .int .i64 0, .int .i64 0, .int .i64 0, .int .i64 0, .slice none 0 0], .int .i64 r1]) ∧ Kb w W' := by
  have kx := Kb.refl w
  unfold Ca at q1
  have j1 := ((Is.made w #[.string nu, .int .i64 ku, .int .i64 au, .int .i64 xu, .int .i64 yu, .int .i64 zu, .int .i64 lou, .int .i64 hiu, .slice fpu flu fcu] 28).alloc (.cells #[.string ⟨#[]⟩, .int .i64 0, .int .i64 0, .int .i64 0, .int .i64 0, .int .i64 0, .int .i64 0, .int .i64 0, .slice none 0 0] 28 (0, 0)))
  have f2 := j1.c (i := 0) rfl
  have f3 := j1.c (i := 1) rfl
  have f4 := j1.c (i := 2) rfl
  have f5 := j1.c (i := 3) rfl
  have f6 := j1.c (i := 4) rfl
  have f7 := j1.c (i := 5) rfl
  have f8 := j1.c (i := 6) rfl
  have f9 := j1.c (i := 7) rfl
  have f10 := j1.c (i := 8) rfl
  go_enter Tryd.func27, Tryd.ntmps27
  go_wp2_with fail
  clear f2 f3 f4 f5 f6 f7 f8 f9 f10
  have b1 := j1
  have b2 := Is.made (w.alloc (.cells #[.string nu, .int .i64 ku, .int .i64 au, .int .i64 xu, .int .i64 yu, .int .i64 zu, .int .i64 lou, .int .i64 hiu, .slice fpu flu fcu] 28 (0, 0))) #[.string ⟨#[]⟩, .int .i64 0, .int .i64 0, .int .i64 0, .int .i64 0, .int .i64 0, .int .i64 0, .int .i64 0, .slice none 0 0] 28
  simp only [World.size_alloc] at b2
  replace kx := (kx.alloc (.cells #[.string nu, .int .i64 ku, .int .i64 au, .int .i64 xu, .int .i64 yu, .int .i64 zu, .int .i64 lou, .int .i64 hiu, .slice fpu flu fcu] 28 (0, 0))).alloc (.cells #[.string ⟨#[]⟩, .int .i64 0, .int .i64 0, .int .i64 0, .int .i64 0, .int .i64 0, .int .i64 0, .int .i64 0, .slice none 0 0] 28 (0, 0))
  clear j1
  (with_reducible refine (((q1).out _)).mono ?_)
  rintro r w1 ⟨rfl, k1⟩
  replace b1 := b1.kb k1
  replace b2 := b2.kb k1
  replace kx := kx.trans k1
  have s1 := k1.size
  simp only [World.size_alloc] at s1
  clear k1
  have f11 := b2.c (i := 0) rfl
  have f12 := b2.f 0
  have f13 := b2.c (i := 1) rfl
  have f14 := b2.f 1
  have f15 := b2.c (i := 2) rfl
  have f16 := b2.f 2
  have f17 := b2.c (i := 3) rfl
  have f18 := b2.f 3
  have f19 := b2.c (i := 4) rfl
  have f20 := b2.f 4
  have f21 := b2.c (i := 5) rfl
  have f22 := b2.f 5
  have f23 := b2.c (i := 6) rfl
  have f24 := b2.f 6
  have f25 := b2.c (i := 7) rfl
  have f26 := b2.f 7
  have f27 := b2.c (i := 8) rfl
  have f28 := b2.f 8
  go_wp2
  clear f11 f12 f13 f14 f15 f16 f17 f18 f19 f20 f21 f22 f23 f24 f25 f26 f27 f28
  replace b2 : Is _ _ #[.string ⟨#[]⟩, .int .i64 0, .int .i64 0, .int .i64 0, .int .i64 0, .int .i64 0, .int .i64 0, .int .i64 0, .slice none 0 0] _ := b2.set 0 (.string ⟨#[]⟩)
  replace b2 : Is _ _ #[.string ⟨#[]⟩, .int .i64 0, .int .i64 0, .int .i64 0, .int .i64 0, .int .i64 0, .int .i64 0, .int .i64 0, .slice none 0 0] _ := b2.set 1 (.int .i64 0)
  replace b2 : Is _ _ #[.string ⟨#[]⟩, .int .i64 0, .int .i64 0, .int .i64 0, .int .i64 0, .int .i64 0, .int .i64 0, .int .i64 0, .slice none 0 0] _ := b2.set 2 (.int .i64 0)
  replace b2 : Is _ _ #[.string ⟨#[]⟩, .int .i64 0, .int .i64 0, .int .i64 0, .int .i64 0, .int .i64 0, .int .i64 0, .int .i64 0, .slice none 0 0] _ := b2.set 3 (.int .i64 0)
  replace b2 : Is _ _ #[.string ⟨#[]⟩, .int .i64 0, .int .i64 0, .int .i64 0, .int .i64 0, .int .i64 0, .int .i64 0, .int .i64 0, .slice none 0 0] _ := b2.set 4 (.int .i64 0)
  replace b2 : Is _ _ #[.string ⟨#[]⟩, .int .i64 0, .int .i64 0, .int .i64 0, .int .i64 0, .int .i64 0, .int .i64 0, .int .i64 0, .slice none 0 0] _ := b2.set 5 (.int .i64 0)
  replace b2 : Is _ _ #[.string ⟨#[]⟩, .int .i64 0, .int .i64 0, .int .i64 0, .int .i64 0, .int .i64 0, .int .i64 0, .int .i64 0, .slice none 0 0] _ := b2.set 6 (.int .i64 0)
  replace b2 : Is _ _ #[.string ⟨#[]⟩, .int .i64 0, .int .i64 0, .int .i64 0, .int .i64 0, .int .i64 0, .int .i64 0, .int .i64 0, .slice none 0 0] _ := b2.set 7 (.int .i64 0)
  replace b2 : Is _ _ #[.string ⟨#[]⟩, .int .i64 0, .int .i64 0, .int .i64 0, .int .i64 0, .int .i64 0, .int .i64 0, .int .i64 0, .slice none 0 0] _ := b2.set 8 (.slice none 0 0)
  replace kx := ((((((((kx.setCell (p := ⟨w.heap.size + 1, 0, none⟩) (show w.heap.size ≤ w.heap.size + 1 by omega) (.string ⟨#[]⟩)).setCell (p := ⟨w.heap.size + 1, 1, none⟩) (show w.heap.size ≤ w.heap.size + 1 by omega) (.int .i64 0)).setCell (p := ⟨w.heap.size + 1, 2, none⟩) (show w.heap.size ≤ w.heap.size + 1 by omega) (.int .i64 0)).setCell (p := ⟨w.heap.size + 1, 3, none⟩) (show w.heap.size ≤ w.heap.size + 1 by omega) (.int .i64 0)).setCell (p := ⟨w.heap.size + 1, 4, none⟩) (show w.heap.size ≤ w.heap.size + 1 by omega) (.int .i64 0)).setCell (p := ⟨w.heap.size + 1, 5, none⟩) (show w.heap.size ≤ w.heap.size + 1 by omega) (.int .i64 0)).setCell (p := ⟨w.heap.size + 1, 6, none⟩) (show w.heap.size ≤ w.heap.size + 1 by omega) (.int .i64 0)).setCell (p := ⟨w.heap.size + 1, 7, none⟩) (show w.heap.size ≤ w.heap.size + 1 by omega) (.int .i64 0)).setCell (p := ⟨w.heap.size + 1, 8, none⟩) (show w.heap.size ≤ w.heap.size + 1 by omega) (.slice none 0 0)
  refine ret_row2 Tryd.results27 rfl rfl rfl b2 Tryd.underlying28 rfl (by kernel_rfl) ?_
  exact ⟨rfl, kx⟩
set_option maxRecDepth 100000 in
set_option maxHeartbeats 4000000 in
theorem rMirror1_2 (nu : ByteArray) (ku : Int) (au : Int) (xu : Int) (yu : Int) (zu : Int) (lou : Int) (hiu : Int) (fpu : Option Addr) (flu : Nat) (fcu : Nat) (r1 : Int) (z2 : Int) (a1 : wrap64 (-yu) = z2) (q1 : Ca 55 #[.agg #[.string nu, .int .i64 ku, .int .i64 au, .int .i64 xu, .int .i64 yu, .int .i64 zu, .int .i64 lou, .int .i64 hiu, .slice fpu flu fcu], .int .i64 1] (.int .i64 r1))  (h1 : (r1 != 0) = false) (w : World)  : Calls Tryd.prog 27 #[.agg #[.string nu, .int .i64 ku, .int .i64 au, .int .i64 xu, .int .i64 yu, .int .i64 zu, .int .i64 lou, .int .i64 hiu, .slice fpu flu fcu], .int .i64 1] w fun r W' => r = .returned (.tuple #[.agg #[.string nu, .int .i64 ku, .int .i64 au, .int .i64 xu, .int .i64 z2, .int .i64 zu, .int .i64 lou, .int .i64 hiu, .slice fpu flu fcu], .int .i64 0]) ∧ Kb w W' := by
  have kx := Kb.refl w
  unfold Ca at q1
  have a1' : IntKind.i64.wrap (-yu) = z2 := (Go.IntWalk.i64_left _).trans a1
  have j1 := ((Is.made w #[.string nu, .int .i64 ku, .int .i64 au, .int .i64 xu, .int .i64 yu, .int .i64 zu, .int .i64 lou, .int .i64 hiu, .slice fpu flu fcu] 28).alloc (.cells #[.string ⟨#[]⟩, .int .i64 0, .int .i64 0, .int .i64 0, .int .i64 0, .int .i64 0, .int .i64 0, .int .i64 0, .slice none 0 0] 28 (0, 0)))
  have f2 := j1.c (i := 0) rfl
  have f3 := j1.c (i := 1) rfl
  have f4 := j1.c (i := 2) rfl
  have f5 := j1.c (i := 3) rfl
  have f6 := j1.c (i := 4) rfl
  have f7 := j1.c (i := 5) rfl
  have f8 := j1.c (i := 6) rfl
  have f9 := j1.c (i := 7) rfl
  have f10 := j1.c (i := 8) rfl
  go_enter Tryd.func27, Tryd.ntmps27
  go_wp2_with fail
  clear f2 f3 f4 f5 f6 f7 f8 f9 f10
  have b1 := j1
  have b2 := Is.made (w.alloc (.cells #[.string nu, .int .i64 ku, .int .i64 au, .int .i64 xu, .int .i64 yu, .int .i64 zu, .int .i64 lou, .int .i64 hiu, .slice fpu flu fcu] 28 (0, 0))) #[.string ⟨#[]⟩, .int .i64 0, .int .i64 0, .int .i64 0, .int .i64 0, .int .i64 0, .int .i64 0, .int .i64 0, .slice none 0 0] 28
  simp only [World.size_alloc] at b2
  replace kx := (kx.alloc (.cells #[.string nu, .int .i64 ku, .int .i64 au, .int .i64 xu, .int .i64 yu, .int .i64 zu, .int .i64 lou, .int .i64 hiu, .slice fpu flu fcu] 28 (0, 0))).alloc (.cells #[.string ⟨#[]⟩, .int .i64 0, .int .i64 0, .int .i64 0, .int .i64 0, .int .i64 0, .int .i64 0, .int .i64 0, .slice none 0 0] 28 (0, 0))
  clear j1
  (with_reducible refine (((q1).out _)).mono ?_)
  rintro r w1 ⟨rfl, k1⟩
  replace b1 := b1.kb k1
  replace b2 := b2.kb k1
  replace kx := kx.trans k1
  have s1 := k1.size
  simp only [World.size_alloc] at s1
  clear k1
  have f11 := b1.c (i := 3) rfl
  have f12 := b1.c (i := 4) rfl
  have f13 := b1.c (i := 5) rfl
  go_wp2_with fail
  clear f11 f12 f13
  (with_reducible refine ((Ca.o (rCoords xu yu zu) _)).mono ?_)
  rintro r w2 ⟨rfl, k2⟩
  replace b1 := b1.kb k2
  replace b2 := b2.kb k2
  replace kx := kx.trans k2
  have s2 := k2.size
  skip
  clear k2
  have j14 := (Is.made w2 #[.int .i64 xu, .int .i64 yu, .int .i64 zu] 92)
  have f15 := j14.c (i := 1) rfl
  go_wp2_with fail
  clear f15
  replace b1 := (b1.alloc (.cells #[.int .i64 xu, .int .i64 z2, .int .i64 zu] 92 (0, 0)))
  replace b2 := (b2.alloc (.cells #[.int .i64 xu, .int .i64 z2, .int .i64 zu] 92 (0, 0)))
  have b3 := Is.made w2 #[.int .i64 xu, .int .i64 z2, .int .i64 zu] 92
  replace kx := kx.alloc (.cells #[.int .i64 xu, .int .i64 z2, .int .i64 zu] 92 (0, 0))
  clear j14
  replace b1 := b1.drew
  replace b2 := b2.drew
  replace b3 := b3.drew
  rw [oF_lit]
  refine o_law (⟨28, [some 24, some 25, some 26, some 27, none, some 5], [24, 25, 26, 27, 4, 5], [[], [], [1], [0, 2], [3], []], [[2], [7], [], [], [4], []]⟩ : OT) (Gz (w.heap.size + 1) #[.string ⟨#[]⟩, .int .i64 0, .int .i64 0, .int .i64 0, .int .i64 0, .int .i64 0, .int .i64 0, .int .i64 0, .slice none 0 0] #[.string nu, .int .i64 ku, .int .i64 au, .int .i64 xu, .int .i64 z2, .int .i64 zu, .int .i64 lou, .int .i64 hiu, .slice fpu flu fcu] 28) (RL [fun vv _ => vv = .agg #[.string nu, .int .i64 ku, .int .i64 au, .int .i64 xu, .int .i64 yu, .int .i64 zu, .int .i64 lou, .int .i64 hiu, .slice fpu flu fcu], fun vv _ => vv = .agg #[.int .i64 xu, .int .i64 z2, .int .i64 zu], fun vv _ => vv = .agg #[.int .i64 xu, .int .i64 z2, .int .i64 zu], fun vv _ => vv = .agg #[.string nu, .int .i64 ku, .int .i64 au, .int .i64 xu, .int .i64 z2, .int .i64 zu, .int .i64 lou, .int .i64 hiu, .slice fpu flu fcu], fun _ ww => Is ww (w.heap.size + 1) #[.string nu, .int .i64 ku, .int .i64 au, .int .i64 xu, .int .i64 z2, .int .i64 zu, .int .i64 lou, .int .i64 hiu, .slice fpu flu fcu] 28, fun vv _ => vv = .int .i64 0]) (by kernel_rfl) ?hk ?hR ?fin
  case hk => kernel_rfl
  case hR =>
    refine ⟨fun _ => (Gz.refl _ _ _ _ _), fun _ _ _ => Gz.trans, rl_stab ⟨fun _ _ _ _ h => h, fun _ _ _ _ h => h, fun _ _ _ _ h => h, fun _ _ _ _ h => h, (fun v w w' k h => k.2.1 h), fun _ _ _ _ h => h, trivial⟩, ?_⟩
    refine allO_cons ?_ (allO_cons ?_ (allO_cons ?_ (allO_cons ?_ (allO_cons ?_ (allO_cons ?_ (allO_nil))))))
    · intro T w9 hG hD hO Q
      have q0 := hO.1
      have e0 : (oF 28 T).eval (.tmp 2) = .pointer (some ⟨w.heap.size, 0, none⟩) := (oF_eval (by decide)).trans (show T 2 = _ from q0)
      refine og_none rfl ?_
      have im := b1.kx hG.1 (by simp only [List.mem_singleton]; omega)
      have m0 := im.c (i := 0) rfl
      have m1 := im.c (i := 1) rfl
      have m2 := im.c (i := 2) rfl
      have m3 := im.c (i := 3) rfl
      have m4 := im.c (i := 4) rfl
      have m5 := im.c (i := 5) rfl
      have m6 := im.c (i := 6) rfl
      have m7 := im.c (i := 7) rfl
      have m8 := im.c (i := 8) rfl
      clear im
      exact o_val (v := .agg #[.string nu, .int .i64 ku, .int .i64 au, .int .i64 xu, .int .i64 yu, .int .i64 zu, .int .i64 lou, .int .i64 hiu, .slice fpu flu fcu]) (w' := w9) (by generalize (oF 28 T).eval = rr at *; simp [execOp, go_sem, e0, m0, m1, m2, m3, m4, m5, m6, m7, m8]) rfl rfl (Gz.refl _ _ _ _ _)
    · intro T w9 hG hD hO Q
      have q0 := hO.1
      have e0 : (oF 28 T).eval (.tmp 7) = .pointer (some ⟨w2.heap.size, 0, none⟩) := (oF_eval (by decide)).trans (show T 7 = _ from q0)
      refine og_none rfl ?_
      have im := b3.kx hG.1 (by simp only [List.mem_singleton]; omega)
      have m0 := im.c (i := 0) rfl
      have m1 := im.c (i := 1) rfl
      have m2 := im.c (i := 2) rfl
      clear im
      exact o_val (v := .agg #[.int .i64 xu, .int .i64 z2, .int .i64 zu]) (w' := w9) (by generalize (oF 28 T).eval = rr at *; simp [execOp, go_sem, e0, m0, m1, m2]) rfl rfl (Gz.refl _ _ _ _ _)
    · intro T w9 hG hD hO Q
      have d0 := hD.1
      have e0 : (oF 28 T).eval (.func 63) = .func (.func 63) #[] #[] := rfl
      have e1 : (oF 28 T).eval (.tmp 25) = .agg #[.int .i64 xu, .int .i64 z2, .int .i64 zu] := (oF_eval (by decide)).trans (show T 25 = _ from d0)
      refine og_none rfl ?_
      refine o_call (oc1 (enters_of Tryd.func63 (by kernel_rfl) rfl) rfl rfl e1) rfl ?_
      exact (Ca.o (rPlace_any xu z2 zu) w9).mono fun r W' h => ⟨_, h.1, rfl, h.2.gz⟩
    · intro T w9 hG hD hO Q
      have d0 := hD.1
      have d1 := hD.2.1
      have e0 : (oF 28 T).eval (.func 62) = .func (.func 62) #[] #[] := rfl
      have e1 : (oF 28 T).eval (.tmp 24) = .agg #[.string nu, .int .i64 ku, .int .i64 au, .int .i64 xu, .int .i64 yu, .int .i64 zu, .int .i64 lou, .int .i64 hiu, .slice fpu flu fcu] := (oF_eval (by decide)).trans (show T 24 = _ from d0)
      have e2 : (oF 28 T).eval (.tmp 26) = .agg #[.int .i64 xu, .int .i64 z2, .int .i64 zu] := (oF_eval (by decide)).trans (show T 26 = _ from d1)
      refine og_none rfl ?_
      refine o_call (oc2 (enters_of Tryd.func62 (by kernel_rfl) rfl) rfl rfl e1 e2) rfl ?_
      exact (Ca.o (rat_any nu ku au xu yu zu lou hiu fpu flu fcu xu z2 zu) w9).mono fun r W' h => ⟨_, h.1, rfl, h.2.gz⟩
    · intro T w9 hG hD hO Q
      have d0 := hD.1
      have q0 := hO.1
      have e0 : (oF 28 T).eval (.tmp 4) = .pointer (some ⟨w.heap.size + 1, 0, none⟩) := (oF_eval (by decide)).trans (show T 4 = _ from q0)
      have e1 : (oF 28 T).eval (.tmp 27) = .agg #[.string nu, .int .i64 ku, .int .i64 au, .int .i64 xu, .int .i64 z2, .int .i64 zu, .int .i64 lou, .int .i64 hiu, .slice fpu flu fcu] := (oF_eval (by decide)).trans (show T 27 = _ from d0)
      refine og_none rfl ?_
      have io : Is w9 (w.heap.size + 1) #[.string ⟨#[]⟩, .int .i64 0, .int .i64 0, .int .i64 0, .int .i64 0, .int .i64 0, .int .i64 0, .int .i64 0, .slice none 0 0] 28 ∨ Is w9 (w.heap.size + 1) #[.string nu, .int .i64 ku, .int .i64 au, .int .i64 xu, .int .i64 z2, .int .i64 zu, .int .i64 lou, .int .i64 hiu, .slice fpu flu fcu] 28 := hG.2.2 (.inl b2)
      rcases io with io | io
      · have zn := io
        replace zn : Is (w9.setCell ⟨w.heap.size + 1, 0, none⟩ (.string nu)) (w.heap.size + 1) #[.string nu, .int .i64 0, .int .i64 0, .int .i64 0, .int .i64 0, .int .i64 0, .int .i64 0, .int .i64 0, .slice none 0 0] 28 := zn.set 0 _
        replace zn : Is ((w9.setCell ⟨w.heap.size + 1, 0, none⟩ (.string nu)).setCell ⟨w.heap.size + 1, 1, none⟩ (.int .i64 ku)) (w.heap.size + 1) #[.string nu, .int .i64 ku, .int .i64 0, .int .i64 0, .int .i64 0, .int .i64 0, .int .i64 0, .int .i64 0, .slice none 0 0] 28 := zn.set 1 _
        replace zn : Is (((w9.setCell ⟨w.heap.size + 1, 0, none⟩ (.string nu)).setCell ⟨w.heap.size + 1, 1, none⟩ (.int .i64 ku)).setCell ⟨w.heap.size + 1, 2, none⟩ (.int .i64 au)) (w.heap.size + 1) #[.string nu, .int .i64 ku, .int .i64 au, .int .i64 0, .int .i64 0, .int .i64 0, .int .i64 0, .int .i64 0, .slice none 0 0] 28 := zn.set 2 _
        replace zn : Is ((((w9.setCell ⟨w.heap.size + 1, 0, none⟩ (.string nu)).setCell ⟨w.heap.size + 1, 1, none⟩ (.int .i64 ku)).setCell ⟨w.heap.size + 1, 2, none⟩ (.int .i64 au)).setCell ⟨w.heap.size + 1, 3, none⟩ (.int .i64 xu)) (w.heap.size + 1) #[.string nu, .int .i64 ku, .int .i64 au, .int .i64 xu, .int .i64 0, .int .i64 0, .int .i64 0, .int .i64 0, .slice none 0 0] 28 := zn.set 3 _
        replace zn : Is (((((w9.setCell ⟨w.heap.size + 1, 0, none⟩ (.string nu)).setCell ⟨w.heap.size + 1, 1, none⟩ (.int .i64 ku)).setCell ⟨w.heap.size + 1, 2, none⟩ (.int .i64 au)).setCell ⟨w.heap.size + 1, 3, none⟩ (.int .i64 xu)).setCell ⟨w.heap.size + 1, 4, none⟩ (.int .i64 z2)) (w.heap.size + 1) #[.string nu, .int .i64 ku, .int .i64 au, .int .i64 xu, .int .i64 z2, .int .i64 0, .int .i64 0, .int .i64 0, .slice none 0 0] 28 := zn.set 4 _
        replace zn : Is ((((((w9.setCell ⟨w.heap.size + 1, 0, none⟩ (.string nu)).setCell ⟨w.heap.size + 1, 1, none⟩ (.int .i64 ku)).setCell ⟨w.heap.size + 1, 2, none⟩ (.int .i64 au)).setCell ⟨w.heap.size + 1, 3, none⟩ (.int .i64 xu)).setCell ⟨w.heap.size + 1, 4, none⟩ (.int .i64 z2)).setCell ⟨w.heap.size + 1, 5, none⟩ (.int .i64 zu)) (w.heap.size + 1) #[.string nu, .int .i64 ku, .int .i64 au, .int .i64 xu, .int .i64 z2, .int .i64 zu, .int .i64 0, .int .i64 0, .slice none 0 0] 28 := zn.set 5 _
        replace zn : Is (((((((w9.setCell ⟨w.heap.size + 1, 0, none⟩ (.string nu)).setCell ⟨w.heap.size + 1, 1, none⟩ (.int .i64 ku)).setCell ⟨w.heap.size + 1, 2, none⟩ (.int .i64 au)).setCell ⟨w.heap.size + 1, 3, none⟩ (.int .i64 xu)).setCell ⟨w.heap.size + 1, 4, none⟩ (.int .i64 z2)).setCell ⟨w.heap.size + 1, 5, none⟩ (.int .i64 zu)).setCell ⟨w.heap.size + 1, 6, none⟩ (.int .i64 lou)) (w.heap.size + 1) #[.string nu, .int .i64 ku, .int .i64 au, .int .i64 xu, .int .i64 z2, .int .i64 zu, .int .i64 lou, .int .i64 0, .slice none 0 0] 28 := zn.set 6 _
        replace zn : Is ((((((((w9.setCell ⟨w.heap.size + 1, 0, none⟩ (.string nu)).setCell ⟨w.heap.size + 1, 1, none⟩ (.int .i64 ku)).setCell ⟨w.heap.size + 1, 2, none⟩ (.int .i64 au)).setCell ⟨w.heap.size + 1, 3, none⟩ (.int .i64 xu)).setCell ⟨w.heap.size + 1, 4, none⟩ (.int .i64 z2)).setCell ⟨w.heap.size + 1, 5, none⟩ (.int .i64 zu)).setCell ⟨w.heap.size + 1, 6, none⟩ (.int .i64 lou)).setCell ⟨w.heap.size + 1, 7, none⟩ (.int .i64 hiu)) (w.heap.size + 1) #[.string nu, .int .i64 ku, .int .i64 au, .int .i64 xu, .int .i64 z2, .int .i64 zu, .int .i64 lou, .int .i64 hiu, .slice none 0 0] 28 := zn.set 7 _
        replace zn : Is (((((((((w9.setCell ⟨w.heap.size + 1, 0, none⟩ (.string nu)).setCell ⟨w.heap.size + 1, 1, none⟩ (.int .i64 ku)).setCell ⟨w.heap.size + 1, 2, none⟩ (.int .i64 au)).setCell ⟨w.heap.size + 1, 3, none⟩ (.int .i64 xu)).setCell ⟨w.heap.size + 1, 4, none⟩ (.int .i64 z2)).setCell ⟨w.heap.size + 1, 5, none⟩ (.int .i64 zu)).setCell ⟨w.heap.size + 1, 6, none⟩ (.int .i64 lou)).setCell ⟨w.heap.size + 1, 7, none⟩ (.int .i64 hiu)).setCell ⟨w.heap.size + 1, 8, none⟩ (.slice fpu flu fcu)) (w.heap.size + 1) #[.string nu, .int .i64 ku, .int .i64 au, .int .i64 xu, .int .i64 z2, .int .i64 zu, .int .i64 lou, .int .i64 hiu, .slice fpu flu fcu] 28 := zn.set 8 _
        have pt := ((((((((((Pt.refl (w.heap.size + 1) w9).set 0 (.string nu)).set 1 (.int .i64 ku)).set 2 (.int .i64 au)).set 3 (.int .i64 xu)).set 4 (.int .i64 z2)).set 5 (.int .i64 zu)).set 6 (.int .i64 lou)).set 7 (.int .i64 hiu)).set 8 (.slice fpu flu fcu))
        have m0 := io.c (i := 0) rfl
        have f0 := io.f 0
        have m1 := io.c (i := 1) rfl
        have f1 := io.f 1
        have m2 := io.c (i := 2) rfl
        have f2 := io.f 2
        have m3 := io.c (i := 3) rfl
        have f3 := io.f 3
        have m4 := io.c (i := 4) rfl
        have f4 := io.f 4
        have m5 := io.c (i := 5) rfl
        have f5 := io.f 5
        have m6 := io.c (i := 6) rfl
        have f6 := io.f 6
        have m7 := io.c (i := 7) rfl
        have f7 := io.f 7
        have m8 := io.c (i := 8) rfl
        have f8 := io.f 8
        clear io
        exact o_skip (w' := (((((((((w9.setCell ⟨w.heap.size + 1, 0, none⟩ (.string nu)).setCell ⟨w.heap.size + 1, 1, none⟩ (.int .i64 ku)).setCell ⟨w.heap.size + 1, 2, none⟩ (.int .i64 au)).setCell ⟨w.heap.size + 1, 3, none⟩ (.int .i64 xu)).setCell ⟨w.heap.size + 1, 4, none⟩ (.int .i64 z2)).setCell ⟨w.heap.size + 1, 5, none⟩ (.int .i64 zu)).setCell ⟨w.heap.size + 1, 6, none⟩ (.int .i64 lou)).setCell ⟨w.heap.size + 1, 7, none⟩ (.int .i64 hiu)).setCell ⟨w.heap.size + 1, 8, none⟩ (.slice fpu flu fcu))) (by generalize (oF 28 T).eval = rr at *; simp [execOp, go_sem, e0, e1, m0, f0, m1, f1, m2, f2, m3, f3, m4, f4, m5, f5, m6, f6, m7, f7, m8, f8]) rfl zn (pt.gz zn)
      · have zn := io
        replace zn : Is (w9.setCell ⟨w.heap.size + 1, 0, none⟩ (.string nu)) (w.heap.size + 1) #[.string nu, .int .i64 ku, .int .i64 au, .int .i64 xu, .int .i64 z2, .int .i64 zu, .int .i64 lou, .int .i64 hiu, .slice fpu flu fcu] 28 := zn.set 0 _
        replace zn : Is ((w9.setCell ⟨w.heap.size + 1, 0, none⟩ (.string nu)).setCell ⟨w.heap.size + 1, 1, none⟩ (.int .i64 ku)) (w.heap.size + 1) #[.string nu, .int .i64 ku, .int .i64 au, .int .i64 xu, .int .i64 z2, .int .i64 zu, .int .i64 lou, .int .i64 hiu, .slice fpu flu fcu] 28 := zn.set 1 _
        replace zn : Is (((w9.setCell ⟨w.heap.size + 1, 0, none⟩ (.string nu)).setCell ⟨w.heap.size + 1, 1, none⟩ (.int .i64 ku)).setCell ⟨w.heap.size + 1, 2, none⟩ (.int .i64 au)) (w.heap.size + 1) #[.string nu, .int .i64 ku, .int .i64 au, .int .i64 xu, .int .i64 z2, .int .i64 zu, .int .i64 lou, .int .i64 hiu, .slice fpu flu fcu] 28 := zn.set 2 _
        replace zn : Is ((((w9.setCell ⟨w.heap.size + 1, 0, none⟩ (.string nu)).setCell ⟨w.heap.size + 1, 1, none⟩ (.int .i64 ku)).setCell ⟨w.heap.size + 1, 2, none⟩ (.int .i64 au)).setCell ⟨w.heap.size + 1, 3, none⟩ (.int .i64 xu)) (w.heap.size + 1) #[.string nu, .int .i64 ku, .int .i64 au, .int .i64 xu, .int .i64 z2, .int .i64 zu, .int .i64 lou, .int .i64 hiu, .slice fpu flu fcu] 28 := zn.set 3 _
        replace zn : Is (((((w9.setCell ⟨w.heap.size + 1, 0, none⟩ (.string nu)).setCell ⟨w.heap.size + 1, 1, none⟩ (.int .i64 ku)).setCell ⟨w.heap.size + 1, 2, none⟩ (.int .i64 au)).setCell ⟨w.heap.size + 1, 3, none⟩ (.int .i64 xu)).setCell ⟨w.heap.size + 1, 4, none⟩ (.int .i64 z2)) (w.heap.size + 1) #[.string nu, .int .i64 ku, .int .i64 au, .int .i64 xu, .int .i64 z2, .int .i64 zu, .int .i64 lou, .int .i64 hiu, .slice fpu flu fcu] 28 := zn.set 4 _
        replace zn : Is ((((((w9.setCell ⟨w.heap.size + 1, 0, none⟩ (.string nu)).setCell ⟨w.heap.size + 1, 1, none⟩ (.int .i64 ku)).setCell ⟨w.heap.size + 1, 2, none⟩ (.int .i64 au)).setCell ⟨w.heap.size + 1, 3, none⟩ (.int .i64 xu)).setCell ⟨w.heap.size + 1, 4, none⟩ (.int .i64 z2)).setCell ⟨w.heap.size + 1, 5, none⟩ (.int .i64 zu)) (w.heap.size + 1) #[.string nu, .int .i64 ku, .int .i64 au, .int .i64 xu, .int .i64 z2, .int .i64 zu, .int .i64 lou, .int .i64 hiu, .slice fpu flu fcu] 28 := zn.set 5 _
        replace zn : Is (((((((w9.setCell ⟨w.heap.size + 1, 0, none⟩ (.string nu)).setCell ⟨w.heap.size + 1, 1, none⟩ (.int .i64 ku)).setCell ⟨w.heap.size + 1, 2, none⟩ (.int .i64 au)).setCell ⟨w.heap.size + 1, 3, none⟩ (.int .i64 xu)).setCell ⟨w.heap.size + 1, 4, none⟩ (.int .i64 z2)).setCell ⟨w.heap.size + 1, 5, none⟩ (.int .i64 zu)).setCell ⟨w.heap.size + 1, 6, none⟩ (.int .i64 lou)) (w.heap.size + 1) #[.string nu, .int .i64 ku, .int .i64 au, .int .i64 xu, .int .i64 z2, .int .i64 zu, .int .i64 lou, .int .i64 hiu, .slice fpu flu fcu] 28 := zn.set 6 _
        replace zn : Is ((((((((w9.setCell ⟨w.heap.size + 1, 0, none⟩ (.string nu)).setCell ⟨w.heap.size + 1, 1, none⟩ (.int .i64 ku)).setCell ⟨w.heap.size + 1, 2, none⟩ (.int .i64 au)).setCell ⟨w.heap.size + 1, 3, none⟩ (.int .i64 xu)).setCell ⟨w.heap.size + 1, 4, none⟩ (.int .i64 z2)).setCell ⟨w.heap.size + 1, 5, none⟩ (.int .i64 zu)).setCell ⟨w.heap.size + 1, 6, none⟩ (.int .i64 lou)).setCell ⟨w.heap.size + 1, 7, none⟩ (.int .i64 hiu)) (w.heap.size + 1) #[.string nu, .int .i64 ku, .int .i64 au, .int .i64 xu, .int .i64 z2, .int .i64 zu, .int .i64 lou, .int .i64 hiu, .slice fpu flu fcu] 28 := zn.set 7 _
        replace zn : Is (((((((((w9.setCell ⟨w.heap.size + 1, 0, none⟩ (.string nu)).setCell ⟨w.heap.size + 1, 1, none⟩ (.int .i64 ku)).setCell ⟨w.heap.size + 1, 2, none⟩ (.int .i64 au)).setCell ⟨w.heap.size + 1, 3, none⟩ (.int .i64 xu)).setCell ⟨w.heap.size + 1, 4, none⟩ (.int .i64 z2)).setCell ⟨w.heap.size + 1, 5, none⟩ (.int .i64 zu)).setCell ⟨w.heap.size + 1, 6, none⟩ (.int .i64 lou)).setCell ⟨w.heap.size + 1, 7, none⟩ (.int .i64 hiu)).setCell ⟨w.heap.size + 1, 8, none⟩ (.slice fpu flu fcu)) (w.heap.size + 1) #[.string nu, .int .i64 ku, .int .i64 au, .int .i64 xu, .int .i64 z2, .int .i64 zu, .int .i64 lou, .int .i64 hiu, .slice fpu flu fcu] 28 := zn.set 8 _
        have pt := ((((((((((Pt.refl (w.heap.size + 1) w9).set 0 (.string nu)).set 1 (.int .i64 ku)).set 2 (.int .i64 au)).set 3 (.int .i64 xu)).set 4 (.int .i64 z2)).set 5 (.int .i64 zu)).set 6 (.int .i64 lou)).set 7 (.int .i64 hiu)).set 8 (.slice fpu flu fcu))
        have m0 := io.c (i := 0) rfl
        have f0 := io.f 0
        have m1 := io.c (i := 1) rfl
        have f1 := io.f 1
        have m2 := io.c (i := 2) rfl
        have f2 := io.f 2
        have m3 := io.c (i := 3) rfl
        have f3 := io.f 3
        have m4 := io.c (i := 4) rfl
        have f4 := io.f 4
        have m5 := io.c (i := 5) rfl
        have f5 := io.f 5
        have m6 := io.c (i := 6) rfl
        have f6 := io.f 6
        have m7 := io.c (i := 7) rfl
        have f7 := io.f 7
        have m8 := io.c (i := 8) rfl
        have f8 := io.f 8
        clear io
        exact o_skip (w' := (((((((((w9.setCell ⟨w.heap.size + 1, 0, none⟩ (.string nu)).setCell ⟨w.heap.size + 1, 1, none⟩ (.int .i64 ku)).setCell ⟨w.heap.size + 1, 2, none⟩ (.int .i64 au)).setCell ⟨w.heap.size + 1, 3, none⟩ (.int .i64 xu)).setCell ⟨w.heap.size + 1, 4, none⟩ (.int .i64 z2)).setCell ⟨w.heap.size + 1, 5, none⟩ (.int .i64 zu)).setCell ⟨w.heap.size + 1, 6, none⟩ (.int .i64 lou)).setCell ⟨w.heap.size + 1, 7, none⟩ (.int .i64 hiu)).setCell ⟨w.heap.size + 1, 8, none⟩ (.slice fpu flu fcu))) (by generalize (oF 28 T).eval = rr at *; simp [execOp, go_sem, e0, e1, m0, f0, m1, f1, m2, f2, m3, f3, m4, f4, m5, f5, m6, f6, m7, f7, m8, f8]) rfl zn (pt.gz zn)
    · intro T w9 hG hD hO Q
      have e0 : (oF 28 T).eval (.const (.int .i64 0)) = .int .i64 0 := rfl
      refine og_none rfl ?_
      exact o_val (v := .int .i64 0) (w' := w9) (by generalize (oF 28 T).eval = rr at *; simp [execOp, go_sem, e0]) rfl rfl (Gz.refl _ _ _ _ _)
  case fin =>
    intro T w3 hout hval hG
    have s3 := hG.1.2.2.2.1
    simp only [World.size_drew, World.size_alloc] at s3
    rw [show oF 28 T = (⟨#[T 0, T 1, T 2, T 3, T 4, T 5, T 6, T 7, T 8, T 9, T 10, T 11, T 12, T 13, T 14, T 15, T 16, T 17, T 18, T 19, T 20, T 21, T 22, T 23, T 24, T 25, T 26, T 27], []⟩ : Act) from oF_list 28 T]
    rw [show T 0 = .agg #[.string nu, .int .i64 ku, .int .i64 au, .int .i64 xu, .int .i64 yu, .int .i64 zu, .int .i64 lou, .int .i64 hiu, .slice fpu flu fcu] from hout 0 rfl]
    rw [show T 1 = .int .i64 1 from hout 1 rfl]
    rw [show T 2 = .pointer (some ⟨w.heap.size, 0, none⟩) from hout 2 rfl]
    rw [show T 4 = .pointer (some ⟨w.heap.size + 1, 0, none⟩) from hout 4 rfl]
    rw [show T 5 = .int .i64 0 from hval 5 (by decide : 5 < 6)]
    rw [show T 6 = .int .i64 r1 from hout 6 rfl]
    rw [show T 7 = .pointer (some ⟨w2.heap.size, 0, none⟩) from hout 7 rfl]
    rw [show T 8 = .agg #[.string nu, .int .i64 ku, .int .i64 au, .int .i64 xu, .int .i64 yu, .int .i64 zu, .int .i64 lou, .int .i64 hiu, .slice fpu flu fcu] from hout 8 rfl]
    rw [show T 9 = .int .i64 1 from hout 9 rfl]
    rw [show T 10 = .int .i64 r1 from hout 10 rfl]
    rw [show T 11 = .int .i64 r1 from hout 11 rfl]
    rw [show T 12 = .bool false from hout 12 rfl]
    rw [show T 15 = .pointer (some ⟨w.heap.size, 3, none⟩) from hout 15 rfl]
    rw [show T 16 = .agg #[.int .i64 xu, .int .i64 yu, .int .i64 zu] from hout 16 rfl]
    rw [show T 17 = .agg #[.int .i64 xu, .int .i64 yu, .int .i64 zu] from hout 17 rfl]
    rw [show T 18 = .int .i64 1 from hout 18 rfl]
    rw [show T 19 = .int .i64 1 from hout 19 rfl]
    rw [show T 20 = .pointer (some ⟨w2.heap.size, 1, none⟩) from hout 20 rfl]
    rw [show T 21 = .int .i64 yu from hout 21 rfl]
    rw [show T 22 = .int .i64 z2 from hout 22 rfl]
    rw [show T 23 = .pointer (some ⟨w2.heap.size, 1, none⟩) from hout 23 rfl]
    replace b1 := b1.kx hG.1 (by simp only [List.mem_singleton]; omega)
    replace b3 := b3.kx hG.1 (by simp only [List.mem_singleton]; omega)
    replace b2 := hval 4 (by decide)
    replace b2 : Is _ (w.heap.size + 1) #[.string nu, .int .i64 ku, .int .i64 au, .int .i64 xu, .int .i64 z2, .int .i64 zu, .int .i64 lou, .int .i64 hiu, .slice fpu flu fcu] 28 := b2
    replace kx := hG.1.old kx.drew (by intro x hx; simp only [List.mem_singleton] at hx; subst hx; omega)
    clear hout hval hG
    go_wp2
    refine ret_row2 Tryd.results27 rfl rfl rfl b2 Tryd.underlying28 rfl (by kernel_rfl) ?_
    exact ⟨rfl, kx⟩
set_option maxRecDepth 100000 in
theorem rMirror1_any (nu : ByteArray) (ku : Int) (au : Int) (xu : Int) (yu : Int) (zu : Int) (lou : Int) (hiu : Int) (fpu : Option Addr) (flu : Nat) (fcu : Nat) (r1 : Int) (q1 : Ca 55 #[.agg #[.string nu, .int .i64 ku, .int .i64 au, .int .i64 xu, .int .i64 yu, .int .i64 zu, .int .i64 lou, .int .i64 hiu, .slice fpu flu fcu], .int .i64 1] (.int .i64 r1))  : Ca 27 #[.agg #[.string nu, .int .i64 ku, .int .i64 au, .int .i64 xu, .int .i64 yu, .int .i64 zu, .int .i64 lou, .int .i64 hiu, .slice fpu flu fcu], .int .i64 1] (if (r1 != 0) = true then (.tuple #[.agg #[.string ⟨#[]⟩, .int .i64 0, .int .i64 0, .int .i64 0, .int .i64 0, .int .i64 0, .int .i64 0, .int .i64 0, .slice none 0 0], .int .i64 r1]) else (.tuple #[.agg #[.string nu, .int .i64 ku, .int .i64 au, .int .i64 xu, .int .i64 (wrap64 (-yu)), .int .i64 zu, .int .i64 lou, .int .i64 hiu, .slice fpu flu fcu], .int .i64 0])) := Lib.hid fun w => by
  rcases Bool.eq_false_or_eq_true (r1 != 0) with h1 | h1
  · rw [if_pos h1]
    exact rMirror1_1 nu ku au xu yu zu lou hiu fpu flu fcu r1 q1 h1 w
  · rw [if_neg (by rw [h1]; decide)]
    exact rMirror1_2 nu ku au xu yu zu lou hiu fpu flu fcu r1 ((wrap64 (-yu))) rfl q1 h1 w
set_option maxRecDepth 100000 in
set_option maxHeartbeats 4000000 in
theorem rMirror2_1 (nu : ByteArray) (ku : Int) (au : Int) (xu : Int) (yu : Int) (zu : Int) (lou : Int) (hiu : Int) (fpu : Option Addr) (flu : Nat) (fcu : Nat) (r1 : Int)   (q1 : Ca 55 #[.agg #[.string nu, .int .i64 ku, .int .i64 au, .int .i64 xu, .int .i64 yu, .int .i64 zu, .int .i64 lou, .int .i64 hiu, .slice fpu flu fcu], .int .i64 2] (.int .i64 r1))  (h1 : (r1 != 0) = true) (w : World)  : Calls Tryd.prog 27 #[.agg #[.string nu, .int .i64 ku, .int .i64 au, .int .i64 xu, .int .i64 yu, .int .i64 zu, .int .i64 lou, .int .i64 hiu, .slice fpu flu fcu], .int .i64 2] w fun r W' => r = .returned (.tuple #[.agg #[.string ⟨#[]⟩, .int .i64 0, .int .i64 0, .int .i64 0, .int .i64 0, .int .i64 0, .int .i64 0, .int .i64 0, .slice none 0 0], .int .i64 r1]) ∧ Kb w W' := by
  have kx := Kb.refl w
  unfold Ca at q1
  have j1 := ((Is.made w #[.string nu, .int .i64 ku, .int .i64 au, .int .i64 xu, .int .i64 yu, .int .i64 zu, .int .i64 lou, .int .i64 hiu, .slice fpu flu fcu] 28).alloc (.cells #[.string ⟨#[]⟩, .int .i64 0, .int .i64 0, .int .i64 0, .int .i64 0, .int .i64 0, .int .i64 0, .int .i64 0, .slice none 0 0] 28 (0, 0)))
  have f2 := j1.c (i := 0) rfl
  have f3 := j1.c (i := 1) rfl
  have f4 := j1.c (i := 2) rfl
  have f5 := j1.c (i := 3) rfl
  have f6 := j1.c (i := 4) rfl
  have f7 := j1.c (i := 5) rfl
  have f8 := j1.c (i := 6) rfl
  have f9 := j1.c (i := 7) rfl
  have f10 := j1.c (i := 8) rfl
  go_enter Tryd.func27, Tryd.ntmps27
  go_wp2_with fail
  clear f2 f3 f4 f5 f6 f7 f8 f9 f10
  have b1 := j1
  have b2 := Is.made (w.alloc (.cells #[.string nu, .int .i64 ku, .int .i64 au, .int .i64 xu, .int .i64 yu, .int .i64 zu, .int .i64 lou, .int .i64 hiu, .slice fpu flu fcu] 28 (0, 0))) #[.string ⟨#[]⟩, .int .i64 0, .int .i64 0, .int .i64 0, .int .i64 0, .int .i64 0, .int .i64 0, .int .i64 0, .slice none 0 0] 28
  simp only [World.size_alloc] at b2
  replace kx := (kx.alloc (.cells #[.string nu, .int .i64 ku, .int .i64 au, .int .i64 xu, .int .i64 yu, .int .i64 zu, .int .i64 lou, .int .i64 hiu, .slice fpu flu fcu] 28 (0, 0))).alloc (.cells #[.string ⟨#[]⟩, .int .i64 0, .int .i64 0, .int .i64 0, .int .i64 0, .int .i64 0, .int .i64 0, .int .i64 0, .slice none 0 0] 28 (0, 0))
  clear j1
  (with_reducible refine (((q1).out _)).mono ?_)
  rintro r w1 ⟨rfl, k1⟩
  replace b1 := b1.kb k1
  replace b2 := b2.kb k1
  replace kx := kx.trans k1
  have s1 := k1.size
  simp only [World.size_alloc] at s1
  clear k1
  have f11 := b2.c (i := 0) rfl
  have f12 := b2.f 0
  have f13 := b2.c (i := 1) rfl
  have f14 := b2.f 1
  have f15 := b2.c (i := 2) rfl
  have f16 := b2.f 2
  have f17 := b2.c (i := 3) rfl
  have f18 := b2.f 3
  have f19 := b2.c (i := 4) rfl
  have f20 := b2.f 4
  have f21 := b2.c (i := 5) rfl
  have f22 := b2.f 5
  have f23 := b2.c (i := 6) rfl
  have f24 := b2.f 6
  have f25 := b2.c (i := 7) rfl
  have f26 := b2.f 7
  have f27 := b2.c (i := 8) rfl
  have f28 := b2.f 8
  go_wp2
  clear f11 f12 f13 f14 f15 f16 f17 f18 f19 f20 f21 f22 f23 f24 f25 f26 f27 f28
  replace b2 : Is _ _ #[.string ⟨#[]⟩, .int .i64 0, .int .i64 0, .int .i64 0, .int .i64 0, .int .i64 0, .int .i64 0, .int .i64 0, .slice none 0 0] _ := b2.set 0 (.string ⟨#[]⟩)
  replace b2 : Is _ _ #[.string ⟨#[]⟩, .int .i64 0, .int .i64 0, .int .i64 0, .int .i64 0, .int .i64 0, .int .i64 0, .int .i64 0, .slice none 0 0] _ := b2.set 1 (.int .i64 0)
  replace b2 : Is _ _ #[.string ⟨#[]⟩, .int .i64 0, .int .i64 0, .int .i64 0, .int .i64 0, .int .i64 0, .int .i64 0, .int .i64 0, .slice none 0 0] _ := b2.set 2 (.int .i64 0)
  replace b2 : Is _ _ #[.string ⟨#[]⟩, .int .i64 0, .int .i64 0, .int .i64 0, .int .i64 0, .int .i64 0, .int .i64 0, .int .i64 0, .slice none 0 0] _ := b2.set 3 (.int .i64 0)
  replace b2 : Is _ _ #[.string ⟨#[]⟩, .int .i64 0, .int .i64 0, .int .i64 0, .int .i64 0, .int .i64 0, .int .i64 0, .int .i64 0, .slice none 0 0] _ := b2.set 4 (.int .i64 0)
  replace b2 : Is _ _ #[.string ⟨#[]⟩, .int .i64 0, .int .i64 0, .int .i64 0, .int .i64 0, .int .i64 0, .int .i64 0, .int .i64 0, .slice none 0 0] _ := b2.set 5 (.int .i64 0)
  replace b2 : Is _ _ #[.string ⟨#[]⟩, .int .i64 0, .int .i64 0, .int .i64 0, .int .i64 0, .int .i64 0, .int .i64 0, .int .i64 0, .slice none 0 0] _ := b2.set 6 (.int .i64 0)
  replace b2 : Is _ _ #[.string ⟨#[]⟩, .int .i64 0, .int .i64 0, .int .i64 0, .int .i64 0, .int .i64 0, .int .i64 0, .int .i64 0, .slice none 0 0] _ := b2.set 7 (.int .i64 0)
  replace b2 : Is _ _ #[.string ⟨#[]⟩, .int .i64 0, .int .i64 0, .int .i64 0, .int .i64 0, .int .i64 0, .int .i64 0, .int .i64 0, .slice none 0 0] _ := b2.set 8 (.slice none 0 0)
  replace kx := ((((((((kx.setCell (p := ⟨w.heap.size + 1, 0, none⟩) (show w.heap.size ≤ w.heap.size + 1 by omega) (.string ⟨#[]⟩)).setCell (p := ⟨w.heap.size + 1, 1, none⟩) (show w.heap.size ≤ w.heap.size + 1 by omega) (.int .i64 0)).setCell (p := ⟨w.heap.size + 1, 2, none⟩) (show w.heap.size ≤ w.heap.size + 1 by omega) (.int .i64 0)).setCell (p := ⟨w.heap.size + 1, 3, none⟩) (show w.heap.size ≤ w.heap.size + 1 by omega) (.int .i64 0)).setCell (p := ⟨w.heap.size + 1, 4, none⟩) (show w.heap.size ≤ w.heap.size + 1 by omega) (.int .i64 0)).setCell (p := ⟨w.heap.size + 1, 5, none⟩) (show w.heap.size ≤ w.heap.size + 1 by omega) (.int .i64 0)).setCell (p := ⟨w.heap.size + 1, 6, none⟩) (show w.heap.size ≤ w.heap.size + 1 by omega) (.int .i64 0)).setCell (p := ⟨w.heap.size + 1, 7, none⟩) (show w.heap.size ≤ w.heap.size + 1 by omega) (.int .i64 0)).setCell (p := ⟨w.heap.size + 1, 8, none⟩) (show w.heap.size ≤ w.heap.size + 1 by omega) (.slice none 0 0)
  refine ret_row2 Tryd.results27 rfl rfl rfl b2 Tryd.underlying28 rfl (by kernel_rfl) ?_
  exact ⟨rfl, kx⟩
set_option maxRecDepth 100000 in
set_option maxHeartbeats 4000000 in
theorem rMirror2_2 (nu : ByteArray) (ku : Int) (au : Int) (xu : Int) (yu : Int) (zu : Int) (lou : Int) (hiu : Int) (fpu : Option Addr) (flu : Nat) (fcu : Nat) (r1 : Int) (z2 : Int) (a1 : wrap64 (-zu) = z2) (q1 : Ca 55 #[.agg #[.string nu, .int .i64 ku, .int .i64 au, .int .i64 xu, .int .i64 yu, .int .i64 zu, .int .i64 lou, .int .i64 hiu, .slice fpu flu fcu], .int .i64 2] (.int .i64 r1))  (h1 : (r1 != 0) = false) (w : World)  : Calls Tryd.prog 27 #[.agg #[.string nu, .int .i64 ku, .int .i64 au, .int .i64 xu, .int .i64 yu, .int .i64 zu, .int .i64 lou, .int .i64 hiu, .slice fpu flu fcu], .int .i64 2] w fun r W' => r = .returned (.tuple #[.agg #[.string nu, .int .i64 ku, .int .i64 au, .int .i64 xu, .int .i64 yu, .int .i64 z2, .int .i64 lou, .int .i64 hiu, .slice fpu flu fcu], .int .i64 0]) ∧ Kb w W' := by
  have kx := Kb.refl w
  unfold Ca at q1
  have a1' : IntKind.i64.wrap (-zu) = z2 := (Go.IntWalk.i64_left _).trans a1
  have j1 := ((Is.made w #[.string nu, .int .i64 ku, .int .i64 au, .int .i64 xu, .int .i64 yu, .int .i64 zu, .int .i64 lou, .int .i64 hiu, .slice fpu flu fcu] 28).alloc (.cells #[.string ⟨#[]⟩, .int .i64 0, .int .i64 0, .int .i64 0, .int .i64 0, .int .i64 0, .int .i64 0, .int .i64 0, .slice none 0 0] 28 (0, 0)))
  have f2 := j1.c (i := 0) rfl
  have f3 := j1.c (i := 1) rfl
  have f4 := j1.c (i := 2) rfl
  have f5 := j1.c (i := 3) rfl
  have f6 := j1.c (i := 4) rfl
  have f7 := j1.c (i := 5) rfl
  have f8 := j1.c (i := 6) rfl
  have f9 := j1.c (i := 7) rfl
  have f10 := j1.c (i := 8) rfl
  go_enter Tryd.func27, Tryd.ntmps27
  go_wp2_with fail
  clear f2 f3 f4 f5 f6 f7 f8 f9 f10
  have b1 := j1
  have b2 := Is.made (w.alloc (.cells #[.string nu, .int .i64 ku, .int .i64 au, .int .i64 xu, .int .i64 yu, .int .i64 zu, .int .i64 lou, .int .i64 hiu, .slice fpu flu fcu] 28 (0, 0))) #[.string ⟨#[]⟩, .int .i64 0, .int .i64 0, .int .i64 0, .int .i64 0, .int .i64 0, .int .i64 0, .int .i64 0, .slice none 0 0] 28
  simp only [World.size_alloc] at b2
  replace kx := (kx.alloc (.cells #[.string nu, .int .i64 ku, .int .i64 au, .int .i64 xu, .int .i64 yu, .int .i64 zu, .int .i64 lou, .int .i64 hiu, .slice fpu flu fcu] 28 (0, 0))).alloc (.cells #[.string ⟨#[]⟩, .int .i64 0, .int .i64 0, .int .i64 0, .int .i64 0, .int .i64 0, .int .i64 0, .int .i64 0, .slice none 0 0] 28 (0, 0))
  clear j1
  (with_reducible refine (((q1).out _)).mono ?_)
  rintro r w1 ⟨rfl, k1⟩
  replace b1 := b1.kb k1
  replace b2 := b2.kb k1
  replace kx := kx.trans k1
  have s1 := k1.size
  simp only [World.size_alloc] at s1
  clear k1
  have f11 := b1.c (i := 3) rfl
  have f12 := b1.c (i := 4) rfl
  have f13 := b1.c (i := 5) rfl
  go_wp2_with fail
  clear f11 f12 f13
  (with_reducible refine ((Ca.o (rCoords xu yu zu) _)).mono ?_)
  rintro r w2 ⟨rfl, k2⟩
  replace b1 := b1.kb k2
  replace b2 := b2.kb k2
  replace kx := kx.trans k2
  have s2 := k2.size
  skip
  clear k2
  have j14 := (Is.made w2 #[.int .i64 xu, .int .i64 yu, .int .i64 zu] 92)
  have f15 := j14.c (i := 2) rfl
  go_wp2_with fail
  clear f15
  replace b1 := (b1.alloc (.cells #[.int .i64 xu, .int .i64 yu, .int .i64 z2] 92 (0, 0)))
  replace b2 := (b2.alloc (.cells #[.int .i64 xu, .int .i64 yu, .int .i64 z2] 92 (0, 0)))
  have b3 := Is.made w2 #[.int .i64 xu, .int .i64 yu, .int .i64 z2] 92
  replace kx := kx.alloc (.cells #[.int .i64 xu, .int .i64 yu, .int .i64 z2] 92 (0, 0))
  clear j14
  replace b1 := b1.drew
  replace b2 := b2.drew
  replace b3 := b3.drew
  rw [oF_lit]
  refine o_law (⟨28, [some 24, some 25, some 26, some 27, none, some 5], [24, 25, 26, 27, 4, 5], [[], [], [1], [0, 2], [3], []], [[2], [7], [], [], [4], []]⟩ : OT) (Gz (w.heap.size + 1) #[.string ⟨#[]⟩, .int .i64 0, .int .i64 0, .int .i64 0, .int .i64 0, .int .i64 0, .int .i64 0, .int .i64 0, .slice none 0 0] #[.string nu, .int .i64 ku, .int .i64 au, .int .i64 xu, .int .i64 yu, .int .i64 z2, .int .i64 lou, .int .i64 hiu, .slice fpu flu fcu] 28) (RL [fun vv _ => vv = .agg #[.string nu, .int .i64 ku, .int .i64 au, .int .i64 xu, .int .i64 yu, .int .i64 zu, .int .i64 lou, .int .i64 hiu, .slice fpu flu fcu], fun vv _ => vv = .agg #[.int .i64 xu, .int .i64 yu, .int .i64 z2], fun vv _ => vv = .agg #[.int .i64 xu, .int .i64 yu, .int .i64 z2], fun vv _ => vv = .agg #[.string nu, .int .i64 ku, .int .i64 au, .int .i64 xu, .int .i64 yu, .int .i64 z2, .int .i64 lou, .int .i64 hiu, .slice fpu flu fcu], fun _ ww => Is ww (w.heap.size + 1) #[.string nu, .int .i64 ku, .int .i64 au, .int .i64 xu, .int .i64 yu, .int .i64 z2, .int .i64 lou, .int .i64 hiu, .slice fpu flu fcu] 28, fun vv _ => vv = .int .i64 0]) (by kernel_rfl) ?hk ?hR ?fin
  case hk => kernel_rfl
  case hR =>
    refine ⟨fun _ => (Gz.refl _ _ _ _ _), fun _ _ _ => Gz.trans, rl_stab ⟨fun _ _ _ _ h => h, fun _ _ _ _ h => h, fun _ _ _ _ h => h, fun _ _ _ _ h => h, (fun v w w' k h => k.2.1 h), fun _ _ _ _ h => h, trivial⟩, ?_⟩
    refine allO_cons ?_ (allO_cons ?_ (allO_cons ?_ (allO_cons ?_ (allO_cons ?_ (allO_cons ?_ (allO_nil))))))
    · intro T w9 hG hD hO Q
      have q0 := hO.1
      have e0 : (oF 28 T).eval (.tmp 2) = .pointer (some ⟨w.heap.size, 0, none⟩) := (oF_eval (by decide)).trans (show T 2 = _ from q0)
      refine og_none rfl ?_
      have im := b1.kx hG.1 (by simp only [List.mem_singleton]; omega)
      have m0 := im.c (i := 0) rfl
      have m1 := im.c (i := 1) rfl
      have m2 := im.c (i := 2) rfl
      have m3 := im.c (i := 3) rfl
      have m4 := im.c (i := 4) rfl
      have m5 := im.c (i := 5) rfl
      have m6 := im.c (i := 6) rfl
      have m7 := im.c (i := 7) rfl
      have m8 := im.c (i := 8) rfl
      clear im
      exact o_val (v := .agg #[.string nu, .int .i64 ku, .int .i64 au, .int .i64 xu, .int .i64 yu, .int .i64 zu, .int .i64 lou, .int .i64 hiu, .slice fpu flu fcu]) (w' := w9) (by generalize (oF 28 T).eval = rr at *; simp [execOp, go_sem, e0, m0, m1, m2, m3, m4, m5, m6, m7, m8]) rfl rfl (Gz.refl _ _ _ _ _)
    · intro T w9 hG hD hO Q
      have q0 := hO.1
      have e0 : (oF 28 T).eval (.tmp 7) = .pointer (some ⟨w2.heap.size, 0, none⟩) := (oF_eval (by decide)).trans (show T 7 = _ from q0)
      refine og_none rfl ?_
      have im := b3.kx hG.1 (by simp only [List.mem_singleton]; omega)
      have m0 := im.c (i := 0) rfl
      have m1 := im.c (i := 1) rfl
      have m2 := im.c (i := 2) rfl
      clear im
      exact o_val (v := .agg #[.int .i64 xu, .int .i64 yu, .int .i64 z2]) (w' := w9) (by generalize (oF 28 T).eval = rr at *; simp [execOp, go_sem, e0, m0, m1, m2]) rfl rfl (Gz.refl _ _ _ _ _)
    · intro T w9 hG hD hO Q
      have d0 := hD.1
      have e0 : (oF 28 T).eval (.func 63) = .func (.func 63) #[] #[] := rfl
      have e1 : (oF 28 T).eval (.tmp 25) = .agg #[.int .i64 xu, .int .i64 yu, .int .i64 z2] := (oF_eval (by decide)).trans (show T 25 = _ from d0)
      refine og_none rfl ?_
      refine o_call (oc1 (enters_of Tryd.func63 (by kernel_rfl) rfl) rfl rfl e1) rfl ?_
      exact (Ca.o (rPlace_any xu yu z2) w9).mono fun r W' h => ⟨_, h.1, rfl, h.2.gz⟩
    · intro T w9 hG hD hO Q
      have d0 := hD.1
      have d1 := hD.2.1
      have e0 : (oF 28 T).eval (.func 62) = .func (.func 62) #[] #[] := rfl
      have e1 : (oF 28 T).eval (.tmp 24) = .agg #[.string nu, .int .i64 ku, .int .i64 au, .int .i64 xu, .int .i64 yu, .int .i64 zu, .int .i64 lou, .int .i64 hiu, .slice fpu flu fcu] := (oF_eval (by decide)).trans (show T 24 = _ from d0)
      have e2 : (oF 28 T).eval (.tmp 26) = .agg #[.int .i64 xu, .int .i64 yu, .int .i64 z2] := (oF_eval (by decide)).trans (show T 26 = _ from d1)
      refine og_none rfl ?_
      refine o_call (oc2 (enters_of Tryd.func62 (by kernel_rfl) rfl) rfl rfl e1 e2) rfl ?_
      exact (Ca.o (rat_any nu ku au xu yu zu lou hiu fpu flu fcu xu yu z2) w9).mono fun r W' h => ⟨_, h.1, rfl, h.2.gz⟩
    · intro T w9 hG hD hO Q
      have d0 := hD.1
      have q0 := hO.1
      have e0 : (oF 28 T).eval (.tmp 4) = .pointer (some ⟨w.heap.size + 1, 0, none⟩) := (oF_eval (by decide)).trans (show T 4 = _ from q0)
      have e1 : (oF 28 T).eval (.tmp 27) = .agg #[.string nu, .int .i64 ku, .int .i64 au, .int .i64 xu, .int .i64 yu, .int .i64 z2, .int .i64 lou, .int .i64 hiu, .slice fpu flu fcu] := (oF_eval (by decide)).trans (show T 27 = _ from d0)
      refine og_none rfl ?_
      have io : Is w9 (w.heap.size + 1) #[.string ⟨#[]⟩, .int .i64 0, .int .i64 0, .int .i64 0, .int .i64 0, .int .i64 0, .int .i64 0, .int .i64 0, .slice none 0 0] 28 ∨ Is w9 (w.heap.size + 1) #[.string nu, .int .i64 ku, .int .i64 au, .int .i64 xu, .int .i64 yu, .int .i64 z2, .int .i64 lou, .int .i64 hiu, .slice fpu flu fcu] 28 := hG.2.2 (.inl b2)
      rcases io with io | io
      · have zn := io
        replace zn : Is (w9.setCell ⟨w.heap.size + 1, 0, none⟩ (.string nu)) (w.heap.size + 1) #[.string nu, .int .i64 0, .int .i64 0, .int .i64 0, .int .i64 0, .int .i64 0, .int .i64 0, .int .i64 0, .slice none 0 0] 28 := zn.set 0 _
        replace zn : Is ((w9.setCell ⟨w.heap.size + 1, 0, none⟩ (.string nu)).setCell ⟨w.heap.size + 1, 1, none⟩ (.int .i64 ku)) (w.heap.size + 1) #[.string nu, .int .i64 ku, .int .i64 0, .int .i64 0, .int .i64 0, .int .i64 0, .int .i64 0, .int .i64 0, .slice none 0 0] 28 := zn.set 1 _
        replace zn : Is (((w9.setCell ⟨w.heap.size + 1, 0, none⟩ (.string nu)).setCell ⟨w.heap.size + 1, 1, none⟩ (.int .i64 ku)).setCell ⟨w.heap.size + 1, 2, none⟩ (.int .i64 au)) (w.heap.size + 1) #[.string nu, .int .i64 ku, .int .i64 au, .int .i64 0, .int .i64 0, .int .i64 0, .int .i64 0, .int .i64 0, .slice none 0 0] 28 := zn.set 2 _
        replace zn : Is ((((w9.setCell ⟨w.heap.size + 1, 0, none⟩ (.string nu)).setCell ⟨w.heap.size + 1, 1, none⟩ (.int .i64 ku)).setCell ⟨w.heap.size + 1, 2, none⟩ (.int .i64 au)).setCell ⟨w.heap.size + 1, 3, none⟩ (.int .i64 xu)) (w.heap.size + 1) #[.string nu, .int .i64 ku, .int .i64 au, .int .i64 xu, .int .i64 0, .int .i64 0, .int .i64 0, .int .i64 0, .slice none 0 0] 28 := zn.set 3 _
        replace zn : Is (((((w9.setCell ⟨w.heap.size + 1, 0, none⟩ (.string nu)).setCell ⟨w.heap.size + 1, 1, none⟩ (.int .i64 ku)).setCell ⟨w.heap.size + 1, 2, none⟩ (.int .i64 au)).setCell ⟨w.heap.size + 1, 3, none⟩ (.int .i64 xu)).setCell ⟨w.heap.size + 1, 4, none⟩ (.int .i64 yu)) (w.heap.size + 1) #[.string nu, .int .i64 ku, .int .i64 au, .int .i64 xu, .int .i64 yu, .int .i64 0, .int .i64 0, .int .i64 0, .slice none 0 0] 28 := zn.set 4 _
        replace zn : Is ((((((w9.setCell ⟨w.heap.size + 1, 0, none⟩ (.string nu)).setCell ⟨w.heap.size + 1, 1, none⟩ (.int .i64 ku)).setCell ⟨w.heap.size + 1, 2, none⟩ (.int .i64 au)).setCell ⟨w.heap.size + 1, 3, none⟩ (.int .i64 xu)).setCell ⟨w.heap.size + 1, 4, none⟩ (.int .i64 yu)).setCell ⟨w.heap.size + 1, 5, none⟩ (.int .i64 z2)) (w.heap.size + 1) #[.string nu, .int .i64 ku, .int .i64 au, .int .i64 xu, .int .i64 yu, .int .i64 z2, .int .i64 0, .int .i64 0, .slice none 0 0] 28 := zn.set 5 _
        replace zn : Is (((((((w9.setCell ⟨w.heap.size + 1, 0, none⟩ (.string nu)).setCell ⟨w.heap.size + 1, 1, none⟩ (.int .i64 ku)).setCell ⟨w.heap.size + 1, 2, none⟩ (.int .i64 au)).setCell ⟨w.heap.size + 1, 3, none⟩ (.int .i64 xu)).setCell ⟨w.heap.size + 1, 4, none⟩ (.int .i64 yu)).setCell ⟨w.heap.size + 1, 5, none⟩ (.int .i64 z2)).setCell ⟨w.heap.size + 1, 6, none⟩ (.int .i64 lou)) (w.heap.size + 1) #[.string nu, .int .i64 ku, .int .i64 au, .int .i64 xu, .int .i64 yu, .int .i64 z2, .int .i64 lou, .int .i64 0, .slice none 0 0] 28 := zn.set 6 _
        replace zn : Is ((((((((w9.setCell ⟨w.heap.size + 1, 0, none⟩ (.string nu)).setCell ⟨w.heap.size + 1, 1, none⟩ (.int .i64 ku)).setCell ⟨w.heap.size + 1, 2, none⟩ (.int .i64 au)).setCell ⟨w.heap.size + 1, 3, none⟩ (.int .i64 xu)).setCell ⟨w.heap.size + 1, 4, none⟩ (.int .i64 yu)).setCell ⟨w.heap.size + 1, 5, none⟩ (.int .i64 z2)).setCell ⟨w.heap.size + 1, 6, none⟩ (.int .i64 lou)).setCell ⟨w.heap.size + 1, 7, none⟩ (.int .i64 hiu)) (w.heap.size + 1) #[.string nu, .int .i64 ku, .int .i64 au, .int .i64 xu, .int .i64 yu, .int .i64 z2, .int .i64 lou, .int .i64 hiu, .slice none 0 0] 28 := zn.set 7 _
        replace zn : Is (((((((((w9.setCell ⟨w.heap.size + 1, 0, none⟩ (.string nu)).setCell ⟨w.heap.size + 1, 1, none⟩ (.int .i64 ku)).setCell ⟨w.heap.size + 1, 2, none⟩ (.int .i64 au)).setCell ⟨w.heap.size + 1, 3, none⟩ (.int .i64 xu)).setCell ⟨w.heap.size + 1, 4, none⟩ (.int .i64 yu)).setCell ⟨w.heap.size + 1, 5, none⟩ (.int .i64 z2)).setCell ⟨w.heap.size + 1, 6, none⟩ (.int .i64 lou)).setCell ⟨w.heap.size + 1, 7, none⟩ (.int .i64 hiu)).setCell ⟨w.heap.size + 1, 8, none⟩ (.slice fpu flu fcu)) (w.heap.size + 1) #[.string nu, .int .i64 ku, .int .i64 au, .int .i64 xu, .int .i64 yu, .int .i64 z2, .int .i64 lou, .int .i64 hiu, .slice fpu flu fcu] 28 := zn.set 8 _
        have pt := ((((((((((Pt.refl (w.heap.size + 1) w9).set 0 (.string nu)).set 1 (.int .i64 ku)).set 2 (.int .i64 au)).set 3 (.int .i64 xu)).set 4 (.int .i64 yu)).set 5 (.int .i64 z2)).set 6 (.int .i64 lou)).set 7 (.int .i64 hiu)).set 8 (.slice fpu flu fcu))
        have m0 := io.c (i := 0) rfl
        have f0 := io.f 0
        have m1 := io.c (i := 1) rfl
        have f1 := io.f 1
        have m2 := io.c (i := 2) rfl
        have f2 := io.f 2
        have m3 := io.c (i := 3) rfl
        have f3 := io.f 3
        have m4 := io.c (i := 4) rfl
        have f4 := io.f 4
        have m5 := io.c (i := 5) rfl
        have f5 := io.f 5
        have m6 := io.c (i := 6) rfl
        have f6 := io.f 6
        have m7 := io.c (i := 7) rfl
        have f7 := io.f 7
        have m8 := io.c (i := 8) rfl
        have f8 := io.f 8
        clear io
        exact o_skip (w' := (((((((((w9.setCell ⟨w.heap.size + 1, 0, none⟩ (.string nu)).setCell ⟨w.heap.size + 1, 1, none⟩ (.int .i64 ku)).setCell ⟨w.heap.size + 1, 2, none⟩ (.int .i64 au)).setCell ⟨w.heap.size + 1, 3, none⟩ (.int .i64 xu)).setCell ⟨w.heap.size + 1, 4, none⟩ (.int .i64 yu)).setCell ⟨w.heap.size + 1, 5, none⟩ (.int .i64 z2)).setCell ⟨w.heap.size + 1, 6, none⟩ (.int .i64 lou)).setCell ⟨w.heap.size + 1, 7, none⟩ (.int .i64 hiu)).setCell ⟨w.heap.size + 1, 8, none⟩ (.slice fpu flu fcu))) (by generalize (oF 28 T).eval = rr at *; simp [execOp, go_sem, e0, e1, m0, f0, m1, f1, m2, f2, m3, f3, m4, f4, m5, f5, m6, f6, m7, f7, m8, f8]) rfl zn (pt.gz zn)
      · have zn := io
        replace zn : Is (w9.setCell ⟨w.heap.size + 1, 0, none⟩ (.string nu)) (w.heap.size + 1) #[.string nu, .int .i64 ku, .int .i64 au, .int .i64 xu, .int .i64 yu, .int .i64 z2, .int .i64 lou, .int .i64 hiu, .slice fpu flu fcu] 28 := zn.set 0 _
        replace zn : Is ((w9.setCell ⟨w.heap.size + 1, 0, none⟩ (.string nu)).setCell ⟨w.heap.size + 1, 1, none⟩ (.int .i64 ku)) (w.heap.size + 1) #[.string nu, .int .i64 ku, .int .i64 au, .int .i64 xu, .int .i64 yu, .int .i64 z2, .int .i64 lou, .int .i64 hiu, .slice fpu flu fcu] 28 := zn.set 1 _
        replace zn : Is (((w9.setCell ⟨w.heap.size + 1, 0, none⟩ (.string nu)).setCell ⟨w.heap.size + 1, 1, none⟩ (.int .i64 ku)).setCell ⟨w.heap.size + 1, 2, none⟩ (.int .i64 au)) (w.heap.size + 1) #[.string nu, .int .i64 ku, .int .i64 au, .int .i64 xu, .int .i64 yu, .int .i64 z2, .int .i64 lou, .int .i64 hiu, .slice fpu flu fcu] 28 := zn.set 2 _
        replace zn : Is ((((w9.setCell ⟨w.heap.size + 1, 0, none⟩ (.string nu)).setCell ⟨w.heap.size + 1, 1, none⟩ (.int .i64 ku)).setCell ⟨w.heap.size + 1, 2, none⟩ (.int .i64 au)).setCell ⟨w.heap.size + 1, 3, none⟩ (.int .i64 xu)) (w.heap.size + 1) #[.string nu, .int .i64 ku, .int .i64 au, .int .i64 xu, .int .i64 yu, .int .i64 z2, .int .i64 lou, .int .i64 hiu, .slice fpu flu fcu] 28 := zn.set 3 _
        replace zn : Is (((((w9.setCell ⟨w.heap.size + 1, 0, none⟩ (.string nu)).setCell ⟨w.heap.size + 1, 1, none⟩ (.int .i64 ku)).setCell ⟨w.heap.size + 1, 2, none⟩ (.int .i64 au)).setCell ⟨w.heap.size + 1, 3, none⟩ (.int .i64 xu)).setCell ⟨w.heap.size + 1, 4, none⟩ (.int .i64 yu)) (w.heap.size + 1) #[.string nu, .int .i64 ku, .int .i64 au, .int .i64 xu, .int .i64 yu, .int .i64 z2, .int .i64 lou, .int .i64 hiu, .slice fpu flu fcu] 28 := zn.set 4 _
        replace zn : Is ((((((w9.setCell ⟨w.heap.size + 1, 0, none⟩ (.string nu)).setCell ⟨w.heap.size + 1, 1, none⟩ (.int .i64 ku)).setCell ⟨w.heap.size + 1, 2, none⟩ (.int .i64 au)).setCell ⟨w.heap.size + 1, 3, none⟩ (.int .i64 xu)).setCell ⟨w.heap.size + 1, 4, none⟩ (.int .i64 yu)).setCell ⟨w.heap.size + 1, 5, none⟩ (.int .i64 z2)) (w.heap.size + 1) #[.string nu, .int .i64 ku, .int .i64 au, .int .i64 xu, .int .i64 yu, .int .i64 z2, .int .i64 lou, .int .i64 hiu, .slice fpu flu fcu] 28 := zn.set 5 _
        replace zn : Is (((((((w9.setCell ⟨w.heap.size + 1, 0, none⟩ (.string nu)).setCell ⟨w.heap.size + 1, 1, none⟩ (.int .i64 ku)).setCell ⟨w.heap.size + 1, 2, none⟩ (.int .i64 au)).setCell ⟨w.heap.size + 1, 3, none⟩ (.int .i64 xu)).setCell ⟨w.heap.size + 1, 4, none⟩ (.int .i64 yu)).setCell ⟨w.heap.size + 1, 5, none⟩ (.int .i64 z2)).setCell ⟨w.heap.size + 1, 6, none⟩ (.int .i64 lou)) (w.heap.size + 1) #[.string nu, .int .i64 ku, .int .i64 au, .int .i64 xu, .int .i64 yu, .int .i64 z2, .int .i64 lou, .int .i64 hiu, .slice fpu flu fcu] 28 := zn.set 6 _
        replace zn : Is ((((((((w9.setCell ⟨w.heap.size + 1, 0, none⟩ (.string nu)).setCell ⟨w.heap.size + 1, 1, none⟩ (.int .i64 ku)).setCell ⟨w.heap.size + 1, 2, none⟩ (.int .i64 au)).setCell ⟨w.heap.size + 1, 3, none⟩ (.int .i64 xu)).setCell ⟨w.heap.size + 1, 4, none⟩ (.int .i64 yu)).setCell ⟨w.heap.size + 1, 5, none⟩ (.int .i64 z2)).setCell ⟨w.heap.size + 1, 6, none⟩ (.int .i64 lou)).setCell ⟨w.heap.size + 1, 7, none⟩ (.int .i64 hiu)) (w.heap.size + 1) #[.string nu, .int .i64 ku, .int .i64 au, .int .i64 xu, .int .i64 yu, .int .i64 z2, .int .i64 lou, .int .i64 hiu, .slice fpu flu fcu] 28 := zn.set 7 _
        replace zn : Is (((((((((w9.setCell ⟨w.heap.size + 1, 0, none⟩ (.string nu)).setCell ⟨w.heap.size + 1, 1, none⟩ (.int .i64 ku)).setCell ⟨w.heap.size + 1, 2, none⟩ (.int .i64 au)).setCell ⟨w.heap.size + 1, 3, none⟩ (.int .i64 xu)).setCell ⟨w.heap.size + 1, 4, none⟩ (.int .i64 yu)).setCell ⟨w.heap.size + 1, 5, none⟩ (.int .i64 z2)).setCell ⟨w.heap.size + 1, 6, none⟩ (.int .i64 lou)).setCell ⟨w.heap.size + 1, 7, none⟩ (.int .i64 hiu)).setCell ⟨w.heap.size + 1, 8, none⟩ (.slice fpu flu fcu)) (w.heap.size + 1) #[.string nu, .int .i64 ku, .int .i64 au, .int .i64 xu, .int .i64 yu, .int .i64 z2, .int .i64 lou, .int .i64 hiu, .slice fpu flu fcu] 28 := zn.set 8 _
        have pt := ((((((((((Pt.refl (w.heap.size + 1) w9).set 0 (.string nu)).set 1 (.int .i64 ku)).set 2 (.int .i64 au)).set 3 (.int .i64 xu)).set 4 (.int .i64 yu)).set 5 (.int .i64 z2)).set 6 (.int .i64 lou)).set 7 (.int .i64 hiu)).set 8 (.slice fpu flu fcu))
        have m0 := io.c (i := 0) rfl
        have f0 := io.f 0
        have m1 := io.c (i := 1) rfl
        have f1 := io.f 1
        have m2 := io.c (i := 2) rfl
        have f2 := io.f 2
        have m3 := io.c (i := 3) rfl
        have f3 := io.f 3
        have m4 := io.c (i := 4) rfl
        have f4 := io.f 4
        have m5 := io.c (i := 5) rfl
        have f5 := io.f 5
        have m6 := io.c (i := 6) rfl
        have f6 := io.f 6
        have m7 := io.c (i := 7) rfl
        have f7 := io.f 7
        have m8 := io.c (i := 8) rfl
        have f8 := io.f 8
        clear io
        exact o_skip (w' := (((((((((w9.setCell ⟨w.heap.size + 1, 0, none⟩ (.string nu)).setCell ⟨w.heap.size + 1, 1, none⟩ (.int .i64 ku)).setCell ⟨w.heap.size + 1, 2, none⟩ (.int .i64 au)).setCell ⟨w.heap.size + 1, 3, none⟩ (.int .i64 xu)).setCell ⟨w.heap.size + 1, 4, none⟩ (.int .i64 yu)).setCell ⟨w.heap.size + 1, 5, none⟩ (.int .i64 z2)).setCell ⟨w.heap.size + 1, 6, none⟩ (.int .i64 lou)).setCell ⟨w.heap.size + 1, 7, none⟩ (.int .i64 hiu)).setCell ⟨w.heap.size + 1, 8, none⟩ (.slice fpu flu fcu))) (by generalize (oF 28 T).eval = rr at *; simp [execOp, go_sem, e0, e1, m0, f0, m1, f1, m2, f2, m3, f3, m4, f4, m5, f5, m6, f6, m7, f7, m8, f8]) rfl zn (pt.gz zn)
    · intro T w9 hG hD hO Q
      have e0 : (oF 28 T).eval (.const (.int .i64 0)) = .int .i64 0 := rfl
      refine og_none rfl ?_
      exact o_val (v := .int .i64 0) (w' := w9) (by generalize (oF 28 T).eval = rr at *; simp [execOp, go_sem, e0]) rfl rfl (Gz.refl _ _ _ _ _)
  case fin =>
    intro T w3 hout hval hG
    have s3 := hG.1.2.2.2.1
    simp only [World.size_drew, World.size_alloc] at s3
    rw [show oF 28 T = (⟨#[T 0, T 1, T 2, T 3, T 4, T 5, T 6, T 7, T 8, T 9, T 10, T 11, T 12, T 13, T 14, T 15, T 16, T 17, T 18, T 19, T 20, T 21, T 22, T 23, T 24, T 25, T 26, T 27], []⟩ : Act) from oF_list 28 T]
    rw [show T 0 = .agg #[.string nu, .int .i64 ku, .int .i64 au, .int .i64 xu, .int .i64 yu, .int .i64 zu, .int .i64 lou, .int .i64 hiu, .slice fpu flu fcu] from hout 0 rfl]
    rw [show T 1 = .int .i64 2 from hout 1 rfl]
    rw [show T 2 = .pointer (some ⟨w.heap.size, 0, none⟩) from hout 2 rfl]
    rw [show T 4 = .pointer (some ⟨w.heap.size + 1, 0, none⟩) from hout 4 rfl]
    rw [show T 5 = .int .i64 0 from hval 5 (by decide : 5 < 6)]
    rw [show T 6 = .int .i64 r1 from hout 6 rfl]
    rw [show T 7 = .pointer (some ⟨w2.heap.size, 0, none⟩) from hout 7 rfl]
    rw [show T 8 = .agg #[.string nu, .int .i64 ku, .int .i64 au, .int .i64 xu, .int .i64 yu, .int .i64 zu, .int .i64 lou, .int .i64 hiu, .slice fpu flu fcu] from hout 8 rfl]
    rw [show T 9 = .int .i64 2 from hout 9 rfl]
    rw [show T 10 = .int .i64 r1 from hout 10 rfl]
    rw [show T 11 = .int .i64 r1 from hout 11 rfl]
    rw [show T 12 = .bool false from hout 12 rfl]
    rw [show T 15 = .pointer (some ⟨w.heap.size, 3, none⟩) from hout 15 rfl]
    rw [show T 16 = .agg #[.int .i64 xu, .int .i64 yu, .int .i64 zu] from hout 16 rfl]
    rw [show T 17 = .agg #[.int .i64 xu, .int .i64 yu, .int .i64 zu] from hout 17 rfl]
    rw [show T 18 = .int .i64 2 from hout 18 rfl]
    rw [show T 19 = .int .i64 2 from hout 19 rfl]
    rw [show T 20 = .pointer (some ⟨w2.heap.size, 2, none⟩) from hout 20 rfl]
    rw [show T 21 = .int .i64 zu from hout 21 rfl]
    rw [show T 22 = .int .i64 z2 from hout 22 rfl]
    rw [show T 23 = .pointer (some ⟨w2.heap.size, 2, none⟩) from hout 23 rfl]
    replace b1 := b1.kx hG.1 (by simp only [List.mem_singleton]; omega)
    replace b3 := b3.kx hG.1 (by simp only [List.mem_singleton]; omega)
    replace b2 := hval 4 (by decide)
    replace b2 : Is _ (w.heap.size + 1) #[.string nu, .int .i64 ku, .int .i64 au, .int .i64 xu, .int .i64 yu, .int .i64 z2, .int .i64 lou, .int .i64 hiu, .slice fpu flu fcu] 28 := b2
    replace kx := hG.1.old kx.drew (by intro x hx; simp only [List.mem_singleton] at hx; subst hx; omega)
    clear hout hval hG
    go_wp2
    refine ret_row2 Tryd.results27 rfl rfl rfl b2 Tryd.underlying28 rfl (by kernel_rfl) ?_
    exact ⟨rfl, kx⟩
set_option maxRecDepth 100000 in
theorem rMirror2_any (nu : ByteArray) (ku : Int) (au : Int) (xu : Int) (yu : Int) (zu : Int) (lou : Int) (hiu : Int) (fpu : Option Addr) (flu : Nat) (fcu : Nat) (r1 : Int) (q1 : Ca 55 #[.agg #[.string nu, .int .i64 ku, .int .i64 au, .int .i64 xu, .int .i64 yu, .int .i64 zu, .int .i64 lou, .int .i64 hiu, .slice fpu flu fcu], .int .i64 2] (.int .i64 r1))  : Ca 27 #[.agg #[.string nu, .int .i64 ku, .int .i64 au, .int .i64 xu, .int .i64 yu, .int .i64 zu, .int .i64 lou, .int .i64 hiu, .slice fpu flu fcu], .int .i64 2] (if (r1 != 0) = true then (.tuple #[.agg #[.string ⟨#[]⟩, .int .i64 0, .int .i64 0, .int .i64 0, .int .i64 0, .int .i64 0, .int .i64 0, .int .i64 0, .slice none 0 0], .int .i64 r1]) else (.tuple #[.agg #[.string nu, .int .i64 ku, .int .i64 au, .int .i64 xu, .int .i64 yu, .int .i64 (wrap64 (-zu)), .int .i64 lou, .int .i64 hiu, .slice fpu flu fcu], .int .i64 0])) := Lib.hid fun w => by
  rcases Bool.eq_false_or_eq_true (r1 != 0) with h1 | h1
  · rw [if_pos h1]
    exact rMirror2_1 nu ku au xu yu zu lou hiu fpu flu fcu r1 q1 h1 w
  · rw [if_neg (by rw [h1]; decide)]
    exact rMirror2_2 nu ku au xu yu zu lou hiu fpu flu fcu r1 ((wrap64 (-zu))) rfl q1 h1 w
set_option maxRecDepth 100000 in
set_option maxHeartbeats 4000000 in
theorem rTurn0_1 (nu : ByteArray) (ku : Int) (au : Int) (xu : Int) (yu : Int) (zu : Int) (lou : Int) (hiu : Int) (fpu : Option Addr) (flu : Nat) (fcu : Nat) (r1 : Int)   (q1 : Ca 55 #[.agg #[.string nu, .int .i64 ku, .int .i64 au, .int .i64 xu, .int .i64 yu, .int .i64 zu, .int .i64 lou, .int .i64 hiu, .slice fpu flu fcu], .int .i64 0] (.int .i64 r1))  (h1 : (r1 != 0) = true) (w : World)  : Calls Tryd.prog 29 #[.agg #[.string nu, .int .i64 ku, .int .i64 au, .int .i64 xu, .int .i64 yu, .int .i64 zu, .int .i64 lou, .int .i64 hiu, .slice fpu flu fcu], .int .i64 0] w fun r W' => r = .returned (.tuple #[.agg #[.string ⟨#[]⟩, .int .i64 0, .int .i64 0, .int .i64 0, .int .i64 0, .int .i64 0, .int .i64 0, .int .i64 0, .slice none 0 0], .int .i64 r1]) ∧ Kb w W' := by
  have kx := Kb.refl w
  unfold Ca at q1
  have j1 := ((Is.made w #[.string nu, .int .i64 ku, .int .i64 au, .int .i64 xu, .int .i64 yu, .int .i64 zu, .int .i64 lou, .int .i64 hiu, .slice fpu flu fcu] 28).alloc (.cells #[.string ⟨#[]⟩, .int .i64 0, .int .i64 0, .int .i64 0, .int .i64 0, .int .i64 0, .int .i64 0, .int .i64 0, .slice none 0 0] 28 (0, 0)))
  have f2 := j1.c (i := 0) rfl
  have f3 := j1.c (i := 1) rfl
  have f4 := j1.c (i := 2) rfl
  have f5 := j1.c (i := 3) rfl
  have f6 := j1.c (i := 4) rfl
  have f7 := j1.c (i := 5) rfl
  have f8 := j1.c (i := 6) rfl
  have f9 := j1.c (i := 7) rfl
  have f10 := j1.c (i := 8) rfl
  go_enter Tryd.func29, Tryd.ntmps29
  go_wp2_with fail
  clear f2 f3 f4 f5 f6 f7 f8 f9 f10
  have b1 := j1
  have b2 := Is.made (w.alloc (.cells #[.string nu, .int .i64 ku, .int .i64 au, .int .i64 xu, .int .i64 yu, .int .i64 zu, .int .i64 lou, .int .i64 hiu, .slice fpu flu fcu] 28 (0, 0))) #[.string ⟨#[]⟩, .int .i64 0, .int .i64 0, .int .i64 0, .int .i64 0, .int .i64 0, .int .i64 0, .int .i64 0, .slice none 0 0] 28
  simp only [World.size_alloc] at b2
  replace kx := (kx.alloc (.cells #[.string nu, .int .i64 ku, .int .i64 au, .int .i64 xu, .int .i64 yu, .int .i64 zu, .int .i64 lou, .int .i64 hiu, .slice fpu flu fcu] 28 (0, 0))).alloc (.cells #[.string ⟨#[]⟩, .int .i64 0, .int .i64 0, .int .i64 0, .int .i64 0, .int .i64 0, .int .i64 0, .int .i64 0, .slice none 0 0] 28 (0, 0))
  clear j1
  (with_reducible refine (((q1).out _)).mono ?_)
  rintro r w1 ⟨rfl, k1⟩
  replace b1 := b1.kb k1
  replace b2 := b2.kb k1
  replace kx := kx.trans k1
  have s1 := k1.size
  simp only [World.size_alloc] at s1
  clear k1
  have f11 := b2.c (i := 0) rfl
  have f12 := b2.f 0
  have f13 := b2.c (i := 1) rfl
  have f14 := b2.f 1
  have f15 := b2.c (i := 2) rfl
  have f16 := b2.f 2
  have f17 := b2.c (i := 3) rfl
  have f18 := b2.f 3
  have f19 := b2.c (i := 4) rfl
  have f20 := b2.f 4
  have f21 := b2.c (i := 5) rfl
  have f22 := b2.f 5
  have f23 := b2.c (i := 6) rfl
  have f24 := b2.f 6
  have f25 := b2.c (i := 7) rfl
  have f26 := b2.f 7
  have f27 := b2.c (i := 8) rfl
  have f28 := b2.f 8
  go_wp2
  clear f11 f12 f13 f14 f15 f16 f17 f18 f19 f20 f21 f22 f23 f24 f25 f26 f27 f28
  replace b2 : Is _ _ #[.string ⟨#[]⟩, .int .i64 0, .int .i64 0, .int .i64 0, .int .i64 0, .int .i64 0, .int .i64 0, .int .i64 0, .slice none 0 0] _ := b2.set 0 (.string ⟨#[]⟩)
  replace b2 : Is _ _ #[.string ⟨#[]⟩, .int .i64 0, .int .i64 0, .int .i64 0, .int .i64 0, .int .i64 0, .int .i64 0, .int .i64 0, .slice none 0 0] _ := b2.set 1 (.int .i64 0)
  replace b2 : Is _ _ #[.string ⟨#[]⟩, .int .i64 0, .int .i64 0, .int .i64 0, .int .i64 0, .int .i64 0, .int .i64 0, .int .i64 0, .slice none 0 0] _ := b2.set 2 (.int .i64 0)
  replace b2 : Is _ _ #[.string ⟨#[]⟩, .int .i64 0, .int .i64 0, .int .i64 0, .int .i64 0, .int .i64 0, .int .i64 0, .int .i64 0, .slice none 0 0] _ := b2.set 3 (.int .i64 0)
  replace b2 : Is _ _ #[.string ⟨#[]⟩, .int .i64 0, .int .i64 0, .int .i64 0, .int .i64 0, .int .i64 0, .int .i64 0, .int .i64 0, .slice none 0 0] _ := b2.set 4 (.int .i64 0)
  replace b2 : Is _ _ #[.string ⟨#[]⟩, .int .i64 0, .int .i64 0, .int .i64 0, .int .i64 0, .int .i64 0, .int .i64 0, .int .i64 0, .slice none 0 0] _ := b2.set 5 (.int .i64 0)
  replace b2 : Is _ _ #[.string ⟨#[]⟩, .int .i64 0, .int .i64 0, .int .i64 0, .int .i64 0, .int .i64 0, .int .i64 0, .int .i64 0, .slice none 0 0] _ := b2.set 6 (.int .i64 0)
  replace b2 : Is _ _ #[.string ⟨#[]⟩, .int .i64 0, .int .i64 0, .int .i64 0, .int .i64 0, .int .i64 0, .int .i64 0, .int .i64 0, .slice none 0 0] _ := b2.set 7 (.int .i64 0)
  replace b2 : Is _ _ #[.string ⟨#[]⟩, .int .i64 0, .int .i64 0, .int .i64 0, .int .i64 0, .int .i64 0, .int .i64 0, .int .i64 0, .slice none 0 0] _ := b2.set 8 (.slice none 0 0)
  replace kx := ((((((((kx.setCell (p := ⟨w.heap.size + 1, 0, none⟩) (show w.heap.size ≤ w.heap.size + 1 by omega) (.string ⟨#[]⟩)).setCell (p := ⟨w.heap.size + 1, 1, none⟩) (show w.heap.size ≤ w.heap.size + 1 by omega) (.int .i64 0)).setCell (p := ⟨w.heap.size + 1, 2, none⟩) (show w.heap.size ≤ w.heap.size + 1 by omega) (.int .i64 0)).setCell (p := ⟨w.heap.size + 1, 3, none⟩) (show w.heap.size ≤ w.heap.size + 1 by omega) (.int .i64 0)).setCell (p := ⟨w.heap.size + 1, 4, none⟩) (show w.heap.size ≤ w.heap.size + 1 by omega) (.int .i64 0)).setCell (p := ⟨w.heap.size + 1, 5, none⟩) (show w.heap.size ≤ w.heap.size + 1 by omega) (.int .i64 0)).setCell (p := ⟨w.heap.size + 1, 6, none⟩) (show w.heap.size ≤ w.heap.size + 1 by omega) (.int .i64 0)).setCell (p := ⟨w.heap.size + 1, 7, none⟩) (show w.heap.size ≤ w.heap.size + 1 by omega) (.int .i64 0)).setCell (p := ⟨w.heap.size + 1, 8, none⟩) (show w.heap.size ≤ w.heap.size + 1 by omega) (.slice none 0 0)
  refine ret_row2 Tryd.results29 rfl rfl rfl b2 Tryd.underlying28 rfl (by kernel_rfl) ?_
  exact ⟨rfl, kx⟩
set_option maxRecDepth 100000 in
set_option maxHeartbeats 4000000 in
theorem rTurn0_2 (nu : ByteArray) (ku : Int) (au : Int) (xu : Int) (yu : Int) (zu : Int) (lou : Int) (hiu : Int) (fpu : Option Addr) (flu : Nat) (fcu : Nat) (r1 : Int) (z2 : Int) (z3 : Int) (z4 : Int) (a1 : wrap64 (-yu) = z2) (a2 : wrap64 (-zu) = z3) (a3 : wrap64 (3 - au) = z4) (q1 : Ca 55 #[.agg #[.string nu, .int .i64 ku, .int .i64 au, .int .i64 xu, .int .i64 yu, .int .i64 zu, .int .i64 lou, .int .i64 hiu, .slice fpu flu fcu], .int .i64 0] (.int .i64 r1))  (h1 : (r1 != 0) = false) (h2 : (ku != 4) = true) (h3 : (au != 0) = true) (w : World)  : Calls Tryd.prog 29 #[.agg #[.string nu, .int .i64 ku, .int .i64 au, .int .i64 xu, .int .i64 yu, .int .i64 zu, .int .i64 lou, .int .i64 hiu, .slice fpu flu fcu], .int .i64 0] w fun r W' => r = .returned (.tuple #[.agg #[.string nu, .int .i64 ku, .int .i64 z4, .int .i64 xu, .int .i64 z3, .int .i64 yu, .int .i64 lou, .int .i64 hiu, .slice fpu flu fcu], .int .i64 0]) ∧ Kb w W' := by
  have kx := Kb.refl w
  unfold Ca at q1
  have a1' : IntKind.i64.wrap (-yu) = z2 := (Go.IntWalk.i64_left _).trans a1
  have a2' : IntKind.i64.wrap (-zu) = z3 := (Go.IntWalk.i64_left _).trans a2
  have a3' : IntKind.i64.wrap (3 - au) = z4 := (Go.IntWalk.i64_left _).trans a3
  have j1 := ((Is.made w #[.string nu, .int .i64 ku, .int .i64 au, .int .i64 xu, .int .i64 yu, .int .i64 zu, .int .i64 lou, .int .i64 hiu, .slice fpu flu fcu] 28).alloc (.cells #[.string ⟨#[]⟩, .int .i64 0, .int .i64 0, .int .i64 0, .int .i64 0, .int .i64 0, .int .i64 0, .int .i64 0, .slice none 0 0] 28 (0, 0)))
  have f2 := j1.c (i := 0) rfl
  have f3 := j1.c (i := 1) rfl
  have f4 := j1.c (i := 2) rfl
  have f5 := j1.c (i := 3) rfl
  have f6 := j1.c (i := 4) rfl
  have f7 := j1.c (i := 5) rfl
  have f8 := j1.c (i := 6) rfl
  have f9 := j1.c (i := 7) rfl
  have f10 := j1.c (i := 8) rfl
  go_enter Tryd.func29, Tryd.ntmps29
  go_wp2_with fail
  clear f2 f3 f4 f5 f6 f7 f8 f9 f10
  have b1 := j1
  have b2 := Is.made (w.alloc (.cells #[.string nu, .int .i64 ku, .int .i64 au, .int .i64 xu, .int .i64 yu, .int .i64 zu, .int .i64 lou, .int .i64 hiu, .slice fpu flu fcu] 28 (0, 0))) #[.string ⟨#[]⟩, .int .i64 0, .int .i64 0, .int .i64 0, .int .i64 0, .int .i64 0, .int .i64 0, .int .i64 0, .slice none 0 0] 28
  simp only [World.size_alloc] at b2
  replace kx := (kx.alloc (.cells #[.string nu, .int .i64 ku, .int .i64 au, .int .i64 xu, .int .i64 yu, .int .i64 zu, .int .i64 lou, .int .i64 hiu, .slice fpu flu fcu] 28 (0, 0))).alloc (.cells #[.string ⟨#[]⟩, .int .i64 0, .int .i64 0, .int .i64 0, .int .i64 0, .int .i64 0, .int .i64 0, .int .i64 0, .slice none 0 0] 28 (0, 0))
  clear j1
  (with_reducible refine (((q1).out _)).mono ?_)
  rintro r w1 ⟨rfl, k1⟩
  replace b1 := b1.kb k1
  replace b2 := b2.kb k1
  replace kx := kx.trans k1
  have s1 := k1.size
  simp only [World.size_alloc] at s1
  clear k1
  have f11 := b1.c (i := 3) rfl
  have f12 := b1.c (i := 4) rfl
  have f13 := b1.c (i := 5) rfl
  have j14 := (Is.made w1 #[.int .i64 xu, .int .i64 yu, .int .i64 zu] 23)
  have f15 := j14.c (i := 1) rfl
  have f16 := j14.c (i := 0) rfl
  have f17 := j14.c (i := 2) rfl
  have j18 := ((Is.made w1 #[.int .i64 xu, .int .i64 yu, .int .i64 zu] 23).alloc (.cells #[.int .i64 z2, .int .i64 xu, .int .i64 zu] 23 (0, 0)))
  have f19 := j18.c (i := 0) rfl
  have f20 := j18.c (i := 2) rfl
  have f21 := j18.c (i := 1) rfl
  have j22 := ((b1.alloc (.cells #[.int .i64 xu, .int .i64 yu, .int .i64 zu] 23 (0, 0))).alloc (.cells #[.int .i64 xu, .int .i64 z3, .int .i64 yu] 23 (0, 0)))
  have f23 := j22.c (i := 0) rfl
  have f24 := j22.c (i := 1) rfl
  have f25 := j22.c (i := 2) rfl
  have f26 := j22.c (i := 3) rfl
  have f27 := j22.c (i := 4) rfl
  have f28 := j22.c (i := 5) rfl
  have f29 := j22.c (i := 6) rfl
  have f30 := j22.c (i := 7) rfl
  have f31 := j22.c (i := 8) rfl
  have j32 := (Is.made (w1.alloc (.cells #[.int .i64 xu, .int .i64 yu, .int .i64 zu] 23 (0, 0))) #[.int .i64 xu, .int .i64 z3, .int .i64 yu] 23)
  simp only [World.size_alloc] at j32
  have f33 := j32.c (i := 0) rfl
  have f34 := j32.c (i := 1) rfl
  have f35 := j32.c (i := 2) rfl
  go_wp2_with fail
  clear f11 f12 f13 f15 f16 f17 f19 f20 f21 f23 f24 f25 f26 f27 f28 f29 f30 f31 f33 f34 f35
  replace b1 := j22
  replace b2 := ((b2.alloc (.cells #[.int .i64 xu, .int .i64 yu, .int .i64 zu] 23 (0, 0))).alloc (.cells #[.int .i64 xu, .int .i64 z3, .int .i64 yu] 23 (0, 0)))
  have b3 := Is.made w1 #[.int .i64 xu, .int .i64 yu, .int .i64 zu] 23
  replace b3 := (b3.alloc (.cells #[.int .i64 xu, .int .i64 z3, .int .i64 yu] 23 (0, 0)))
  have b4 := j32
  replace kx := (kx.alloc (.cells #[.int .i64 xu, .int .i64 yu, .int .i64 zu] 23 (0, 0))).alloc (.cells #[.int .i64 xu, .int .i64 z3, .int .i64 yu] 23 (0, 0))
  clear j14 j18 j22 j32
  (with_reducible refine ((Ca.o (rat_any nu ku au xu yu zu lou hiu fpu flu fcu xu z3 yu) _)).mono ?_)
  rintro r w2 ⟨rfl, k2⟩
  replace b1 := b1.kb k2
  replace b2 := b2.kb k2
  replace b3 := b3.kb k2
  replace b4 := b4.kb k2
  replace kx := kx.trans k2
  have s2 := k2.size
  simp only [World.size_alloc] at s2
  clear k2
  have j36 := (b1.alloc (.cells #[.string nu, .int .i64 ku, .int .i64 au, .int .i64 xu, .int .i64 z3, .int .i64 yu, .int .i64 lou, .int .i64 hiu, .slice fpu flu fcu] 28 (0, 0)))
  have f37 := j36.c (i := 1) rfl
  have f38 := j36.c (i := 2) rfl
  have j39 := (Is.made w2 #[.string nu, .int .i64 ku, .int .i64 z4, .int .i64 xu, .int .i64 z3, .int .i64 yu, .int .i64 lou, .int .i64 hiu, .slice fpu flu fcu] 28)
  have f40 := j39.c (i := 0) rfl
  have f41 := j39.c (i := 1) rfl
  have f42 := j39.c (i := 2) rfl
  have f43 := j39.c (i := 3) rfl
  have f44 := j39.c (i := 4) rfl
  have f45 := j39.c (i := 5) rfl
  have f46 := j39.c (i := 6) rfl
  have f47 := j39.c (i := 7) rfl
  have f48 := j39.c (i := 8) rfl
  have j49 := (b2.alloc (.cells #[.string nu, .int .i64 ku, .int .i64 z4, .int .i64 xu, .int .i64 z3, .int .i64 yu, .int .i64 lou, .int .i64 hiu, .slice fpu flu fcu] 28 (0, 0)))
  have f50 := j49.c (i := 0) rfl
  have f51 := j49.f 0
  have f52 := j49.c (i := 1) rfl
  have f53 := j49.f 1
  have f54 := j49.c (i := 2) rfl
  have f55 := j49.f 2
  have f56 := j49.c (i := 3) rfl
  have f57 := j49.f 3
  have f58 := j49.c (i := 4) rfl
  have f59 := j49.f 4
  have f60 := j49.c (i := 5) rfl
  have f61 := j49.f 5
  have f62 := j49.c (i := 6) rfl
  have f63 := j49.f 6
  have f64 := j49.c (i := 7) rfl
  have f65 := j49.f 7
  have f66 := j49.c (i := 8) rfl
  have f67 := j49.f 8
  go_wp2
  clear f37 f38 f40 f41 f42 f43 f44 f45 f46 f47 f48 f50 f51 f52 f53 f54 f55 f56 f57 f58 f59 f60 f61 f62 f63 f64 f65 f66 f67
  replace b2 := (b2.alloc (.cells #[.string nu, .int .i64 ku, .int .i64 z4, .int .i64 xu, .int .i64 z3, .int .i64 yu, .int .i64 lou, .int .i64 hiu, .slice fpu flu fcu] 28 (0, 0)))
  replace b2 : Is _ _ #[.string nu, .int .i64 0, .int .i64 0, .int .i64 0, .int .i64 0, .int .i64 0, .int .i64 0, .int .i64 0, .slice none 0 0] _ := b2.set 0 (.string nu)
  replace b2 : Is _ _ #[.string nu, .int .i64 ku, .int .i64 0, .int .i64 0, .int .i64 0, .int .i64 0, .int .i64 0, .int .i64 0, .slice none 0 0] _ := b2.set 1 (.int .i64 ku)
  replace b2 : Is _ _ #[.string nu, .int .i64 ku, .int .i64 z4, .int .i64 0, .int .i64 0, .int .i64 0, .int .i64 0, .int .i64 0, .slice none 0 0] _ := b2.set 2 (.int .i64 z4)
  replace b2 : Is _ _ #[.string nu, .int .i64 ku, .int .i64 z4, .int .i64 xu, .int .i64 0, .int .i64 0, .int .i64 0, .int .i64 0, .slice none 0 0] _ := b2.set 3 (.int .i64 xu)
  replace b2 : Is _ _ #[.string nu, .int .i64 ku, .int .i64 z4, .int .i64 xu, .int .i64 z3, .int .i64 0, .int .i64 0, .int .i64 0, .slice none 0 0] _ := b2.set 4 (.int .i64 z3)
  replace b2 : Is _ _ #[.string nu, .int .i64 ku, .int .i64 z4, .int .i64 xu, .int .i64 z3, .int .i64 yu, .int .i64 0, .int .i64 0, .slice none 0 0] _ := b2.set 5 (.int .i64 yu)
  replace b2 : Is _ _ #[.string nu, .int .i64 ku, .int .i64 z4, .int .i64 xu, .int .i64 z3, .int .i64 yu, .int .i64 lou, .int .i64 0, .slice none 0 0] _ := b2.set 6 (.int .i64 lou)
  replace b2 : Is _ _ #[.string nu, .int .i64 ku, .int .i64 z4, .int .i64 xu, .int .i64 z3, .int .i64 yu, .int .i64 lou, .int .i64 hiu, .slice none 0 0] _ := b2.set 7 (.int .i64 hiu)
  replace b2 : Is _ _ #[.string nu, .int .i64 ku, .int .i64 z4, .int .i64 xu, .int .i64 z3, .int .i64 yu, .int .i64 lou, .int .i64 hiu, .slice fpu flu fcu] _ := b2.set 8 (.slice fpu flu fcu)
  replace kx := (((((((((kx.alloc (.cells #[.string nu, .int .i64 ku, .int .i64 z4, .int .i64 xu, .int .i64 z3, .int .i64 yu, .int .i64 lou, .int .i64 hiu, .slice fpu flu fcu] 28 (0, 0))).setCell (p := ⟨w.heap.size + 1, 0, none⟩) (show w.heap.size ≤ w.heap.size + 1 by omega) (.string nu)).setCell (p := ⟨w.heap.size + 1, 1, none⟩) (show w.heap.size ≤ w.heap.size + 1 by omega) (.int .i64 ku)).setCell (p := ⟨w.heap.size + 1, 2, none⟩) (show w.heap.size ≤ w.heap.size + 1 by omega) (.int .i64 z4)).setCell (p := ⟨w.heap.size + 1, 3, none⟩) (show w.heap.size ≤ w.heap.size + 1 by omega) (.int .i64 xu)).setCell (p := ⟨w.heap.size + 1, 4, none⟩) (show w.heap.size ≤ w.heap.size + 1 by omega) (.int .i64 z3)).setCell (p := ⟨w.heap.size + 1, 5, none⟩) (show w.heap.size ≤ w.heap.size + 1 by omega) (.int .i64 yu)).setCell (p := ⟨w.heap.size + 1, 6, none⟩) (show w.heap.size ≤ w.heap.size + 1 by omega) (.int .i64 lou)).setCell (p := ⟨w.heap.size + 1, 7, none⟩) (show w.heap.size ≤ w.heap.size + 1 by omega) (.int .i64 hiu)).setCell (p := ⟨w.heap.size + 1, 8, none⟩) (show w.heap.size ≤ w.heap.size + 1 by omega) (.slice fpu flu fcu)
  refine ret_row2 Tryd.results29 rfl rfl rfl b2 Tryd.underlying28 rfl (by kernel_rfl) ?_
  exact ⟨rfl, kx⟩
set_option maxRecDepth 100000 in
set_option maxHeartbeats 4000000 in
theorem rTurn0_3 (nu : ByteArray) (ku : Int) (au : Int) (xu : Int) (yu : Int) (zu : Int) (lou : Int) (hiu : Int) (fpu : Option Addr) (flu : Nat) (fcu : Nat) (r1 : Int) (z2 : Int) (z3 : Int) (a1 : wrap64 (-yu) = z2) (a2 : wrap64 (-zu) = z3) (q1 : Ca 55 #[.agg #[.string nu, .int .i64 ku, .int .i64 au, .int .i64 xu, .int .i64 yu, .int .i64 zu, .int .i64 lou, .int .i64 hiu, .slice fpu flu fcu], .int .i64 0] (.int .i64 r1))  (h1 : (r1 != 0) = false) (h2 : (ku != 4) = true) (h3 : (au != 0) = false) (w : World)  : Calls Tryd.prog 29 #[.agg #[.string nu, .int .i64 ku, .int .i64 au, .int .i64 xu, .int .i64 yu, .int .i64 zu, .int .i64 lou, .int .i64 hiu, .slice fpu flu fcu], .int .i64 0] w fun r W' => r = .returned (.tuple #[.agg #[.string nu, .int .i64 ku, .int .i64 au, .int .i64 xu, .int .i64 z3, .int .i64 yu, .int .i64 lou, .int .i64 hiu, .slice fpu flu fcu], .int .i64 0]) ∧ Kb w W' := by
  have kx := Kb.refl w
  unfold Ca at q1
  have a1' : IntKind.i64.wrap (-yu) = z2 := (Go.IntWalk.i64_left _).trans a1
  have a2' : IntKind.i64.wrap (-zu) = z3 := (Go.IntWalk.i64_left _).trans a2
  have j1 := ((Is.made w #[.string nu, .int .i64 ku, .int .i64 au, .int .i64 xu, .int .i64 yu, .int .i64 zu, .int .i64 lou, .int .i64 hiu, .slice fpu flu fcu] 28).alloc (.cells #[.string ⟨#[]⟩, .int .i64 0, .int .i64 0, .int .i64 0, .int .i64 0, .int .i64 0, .int .i64 0, .int .i64 0, .slice none 0 0] 28 (0, 0)))
  have f2 := j1.c (i := 0) rfl
  have f3 := j1.c (i := 1) rfl
  have f4 := j1.c (i := 2) rfl
  have f5 := j1.c (i := 3) rfl
  have f6 := j1.c (i := 4) rfl
  have f7 := j1.c (i := 5) rfl
  have f8 := j1.c (i := 6) rfl
  have f9 := j1.c (i := 7) rfl
  have f10 := j1.c (i := 8) rfl
  go_enter Tryd.func29, Tryd.ntmps29
  go_wp2_with fail
  clear f2 f3 f4 f5 f6 f7 f8 f9 f10
  have b1 := j1
  have b2 := Is.made (w.alloc (.cells #[.string nu, .int .i64 ku, .int .i64 au, .int .i64 xu, .int .i64 yu, .int .i64 zu, .int .i64 lou, .int .i64 hiu, .slice fpu flu fcu] 28 (0, 0))) #[.string ⟨#[]⟩, .int .i64 0, .int .i64 0, .int .i64 0, .int .i64 0, .int .i64 0, .int .i64 0, .int .i64 0, .slice none 0 0] 28
  simp only [World.size_alloc] at b2
  replace kx := (kx.alloc (.cells #[.string nu, .int .i64 ku, .int .i64 au, .int .i64 xu, .int .i64 yu, .int .i64 zu, .int .i64 lou, .int .i64 hiu, .slice fpu flu fcu] 28 (0, 0))).alloc (.cells #[.string ⟨#[]⟩, .int .i64 0, .int .i64 0, .int .i64 0, .int .i64 0, .int .i64 0, .int .i64 0, .int .i64 0, .slice none 0 0] 28 (0, 0))
  clear j1
  (with_reducible refine (((q1).out _)).mono ?_)
  rintro r w1 ⟨rfl, k1⟩
  replace b1 := b1.kb k1
  replace b2 := b2.kb k1
  replace kx := kx.trans k1
  have s1 := k1.size
  simp only [World.size_alloc] at s1
  clear k1
  have f11 := b1.c (i := 3) rfl
  have f12 := b1.c (i := 4) rfl
  have f13 := b1.c (i := 5) rfl
  have j14 := (Is.made w1 #[.int .i64 xu, .int .i64 yu, .int .i64 zu] 23)
  have f15 := j14.c (i := 1) rfl
  have f16 := j14.c (i := 0) rfl
  have f17 := j14.c (i := 2) rfl
  have j18 := ((Is.made w1 #[.int .i64 xu, .int .i64 yu, .int .i64 zu] 23).alloc (.cells #[.int .i64 z2, .int .i64 xu, .int .i64 zu] 23 (0, 0)))
  have f19 := j18.c (i := 0) rfl
  have f20 := j18.c (i := 2) rfl
  have f21 := j18.c (i := 1) rfl
  have j22 := ((b1.alloc (.cells #[.int .i64 xu, .int .i64 yu, .int .i64 zu] 23 (0, 0))).alloc (.cells #[.int .i64 xu, .int .i64 z3, .int .i64 yu] 23 (0, 0)))
  have f23 := j22.c (i := 0) rfl
  have f24 := j22.c (i := 1) rfl
  have f25 := j22.c (i := 2) rfl
  have f26 := j22.c (i := 3) rfl
  have f27 := j22.c (i := 4) rfl
  have f28 := j22.c (i := 5) rfl
  have f29 := j22.c (i := 6) rfl
  have f30 := j22.c (i := 7) rfl
  have f31 := j22.c (i := 8) rfl
  have j32 := (Is.made (w1.alloc (.cells #[.int .i64 xu, .int .i64 yu, .int .i64 zu] 23 (0, 0))) #[.int .i64 xu, .int .i64 z3, .int .i64 yu] 23)
  simp only [World.size_alloc] at j32
  have f33 := j32.c (i := 0) rfl
  have f34 := j32.c (i := 1) rfl
  have f35 := j32.c (i := 2) rfl
  go_wp2_with fail
  clear f11 f12 f13 f15 f16 f17 f19 f20 f21 f23 f24 f25 f26 f27 f28 f29 f30 f31 f33 f34 f35
  replace b1 := j22
  replace b2 := ((b2.alloc (.cells #[.int .i64 xu, .int .i64 yu, .int .i64 zu] 23 (0, 0))).alloc (.cells #[.int .i64 xu, .int .i64 z3, .int .i64 yu] 23 (0, 0)))
  have b3 := Is.made w1 #[.int .i64 xu, .int .i64 yu, .int .i64 zu] 23
  replace b3 := (b3.alloc (.cells #[.int .i64 xu, .int .i64 z3, .int .i64 yu] 23 (0, 0)))
  have b4 := j32
  replace kx := (kx.alloc (.cells #[.int .i64 xu, .int .i64 yu, .int .i64 zu] 23 (0, 0))).alloc (.cells #[.int .i64 xu, .int .i64 z3, .int .i64 yu] 23 (0, 0))
  clear j14 j18 j22 j32
  (with_reducible refine ((Ca.o (rat_any nu ku au xu yu zu lou hiu fpu flu fcu xu z3 yu) _)).mono ?_)
  rintro r w2 ⟨rfl, k2⟩
  replace b1 := b1.kb k2
  replace b2 := b2.kb k2
  replace b3 := b3.kb k2
  replace b4 := b4.kb k2
  replace kx := kx.trans k2
  have s2 := k2.size
  simp only [World.size_alloc] at s2
  clear k2
  have j36 := (b1.alloc (.cells #[.string nu, .int .i64 ku, .int .i64 au, .int .i64 xu, .int .i64 z3, .int .i64 yu, .int .i64 lou, .int .i64 hiu, .slice fpu flu fcu] 28 (0, 0)))
  have f37 := j36.c (i := 1) rfl
  have f38 := j36.c (i := 2) rfl
  have j39 := (Is.made w2 #[.string nu, .int .i64 ku, .int .i64 au, .int .i64 xu, .int .i64 z3, .int .i64 yu, .int .i64 lou, .int .i64 hiu, .slice fpu flu fcu] 28)
  have f40 := j39.c (i := 0) rfl
  have f41 := j39.c (i := 1) rfl
  have f42 := j39.c (i := 2) rfl
  have f43 := j39.c (i := 3) rfl
  have f44 := j39.c (i := 4) rfl
  have f45 := j39.c (i := 5) rfl
  have f46 := j39.c (i := 6) rfl
  have f47 := j39.c (i := 7) rfl
  have f48 := j39.c (i := 8) rfl
  have j49 := (b2.alloc (.cells #[.string nu, .int .i64 ku, .int .i64 au, .int .i64 xu, .int .i64 z3, .int .i64 yu, .int .i64 lou, .int .i64 hiu, .slice fpu flu fcu] 28 (0, 0)))
  have f50 := j49.c (i := 0) rfl
  have f51 := j49.f 0
  have f52 := j49.c (i := 1) rfl
  have f53 := j49.f 1
  have f54 := j49.c (i := 2) rfl
  have f55 := j49.f 2
  have f56 := j49.c (i := 3) rfl
  have f57 := j49.f 3
  have f58 := j49.c (i := 4) rfl
  have f59 := j49.f 4
  have f60 := j49.c (i := 5) rfl
  have f61 := j49.f 5
  have f62 := j49.c (i := 6) rfl
  have f63 := j49.f 6
  have f64 := j49.c (i := 7) rfl
  have f65 := j49.f 7
  have f66 := j49.c (i := 8) rfl
  have f67 := j49.f 8
  go_wp2
  clear f37 f38 f40 f41 f42 f43 f44 f45 f46 f47 f48 f50 f51 f52 f53 f54 f55 f56 f57 f58 f59 f60 f61 f62 f63 f64 f65 f66 f67
  replace b2 := (b2.alloc (.cells #[.string nu, .int .i64 ku, .int .i64 au, .int .i64 xu, .int .i64 z3, .int .i64 yu, .int .i64 lou, .int .i64 hiu, .slice fpu flu fcu] 28 (0, 0)))
  replace b2 : Is _ _ #[.string nu, .int .i64 0, .int .i64 0, .int .i64 0, .int .i64 0, .int .i64 0, .int .i64 0, .int .i64 0, .slice none 0 0] _ := b2.set 0 (.string nu)
  replace b2 : Is _ _ #[.string nu, .int .i64 ku, .int .i64 0, .int .i64 0, .int .i64 0, .int .i64 0, .int .i64 0, .int .i64 0, .slice none 0 0] _ := b2.set 1 (.int .i64 ku)
  replace b2 : Is _ _ #[.string nu, .int .i64 ku, .int .i64 au, .int .i64 0, .int .i64 0, .int .i64 0, .int .i64 0, .int .i64 0, .slice none 0 0] _ := b2.set 2 (.int .i64 au)
  replace b2 : Is _ _ #[.string nu, .int .i64 ku, .int .i64 au, .int .i64 xu, .int .i64 0, .int .i64 0, .int .i64 0, .int .i64 0, .slice none 0 0] _ := b2.set 3 (.int .i64 xu)
  replace b2 : Is _ _ #[.string nu, .int .i64 ku, .int .i64 au, .int .i64 xu, .int .i64 z3, .int .i64 0, .int .i64 0, .int .i64 0, .slice none 0 0] _ := b2.set 4 (.int .i64 z3)
  replace b2 : Is _ _ #[.string nu, .int .i64 ku, .int .i64 au, .int .i64 xu, .int .i64 z3, .int .i64 yu, .int .i64 0, .int .i64 0, .slice none 0 0] _ := b2.set 5 (.int .i64 yu)
  replace b2 : Is _ _ #[.string nu, .int .i64 ku, .int .i64 au, .int .i64 xu, .int .i64 z3, .int .i64 yu, .int .i64 lou, .int .i64 0, .slice none 0 0] _ := b2.set 6 (.int .i64 lou)
  replace b2 : Is _ _ #[.string nu, .int .i64 ku, .int .i64 au, .int .i64 xu, .int .i64 z3, .int .i64 yu, .int .i64 lou, .int .i64 hiu, .slice none 0 0] _ := b2.set 7 (.int .i64 hiu)
  replace b2 : Is _ _ #[.string nu, .int .i64 ku, .int .i64 au, .int .i64 xu, .int .i64 z3, .int .i64 yu, .int .i64 lou, .int .i64 hiu, .slice fpu flu fcu] _ := b2.set 8 (.slice fpu flu fcu)
  replace kx := (((((((((kx.alloc (.cells #[.string nu, .int .i64 ku, .int .i64 au, .int .i64 xu, .int .i64 z3, .int .i64 yu, .int .i64 lou, .int .i64 hiu, .slice fpu flu fcu] 28 (0, 0))).setCell (p := ⟨w.heap.size + 1, 0, none⟩) (show w.heap.size ≤ w.heap.size + 1 by omega) (.string nu)).setCell (p := ⟨w.heap.size + 1, 1, none⟩) (show w.heap.size ≤ w.heap.size + 1 by omega) (.int .i64 ku)).setCell (p := ⟨w.heap.size + 1, 2, none⟩) (show w.heap.size ≤ w.heap.size + 1 by omega) (.int .i64 au)).setCell (p := ⟨w.heap.size + 1, 3, none⟩) (show w.heap.size ≤ w.heap.size + 1 by omega) (.int .i64 xu)).setCell (p := ⟨w.heap.size + 1, 4, none⟩) (show w.heap.size ≤ w.heap.size + 1 by omega) (.int .i64 z3)).setCell (p := ⟨w.heap.size + 1, 5, none⟩) (show w.heap.size ≤ w.heap.size + 1 by omega) (.int .i64 yu)).setCell (p := ⟨w.heap.size + 1, 6, none⟩) (show w.heap.size ≤ w.heap.size + 1 by omega) (.int .i64 lou)).setCell (p := ⟨w.heap.size + 1, 7, none⟩) (show w.heap.size ≤ w.heap.size + 1 by omega) (.int .i64 hiu)).setCell (p := ⟨w.heap.size + 1, 8, none⟩) (show w.heap.size ≤ w.heap.size + 1 by omega) (.slice fpu flu fcu)
  refine ret_row2 Tryd.results29 rfl rfl rfl b2 Tryd.underlying28 rfl (by kernel_rfl) ?_
  exact ⟨rfl, kx⟩
set_option maxRecDepth 100000 in
set_option maxHeartbeats 4000000 in
theorem rTurn0_4 (nu : ByteArray) (ku : Int) (au : Int) (xu : Int) (yu : Int) (zu : Int) (lou : Int) (hiu : Int) (fpu : Option Addr) (flu : Nat) (fcu : Nat) (r1 : Int) (z2 : Int) (z3 : Int) (a1 : wrap64 (-yu) = z2) (a2 : wrap64 (-zu) = z3) (q1 : Ca 55 #[.agg #[.string nu, .int .i64 ku, .int .i64 au, .int .i64 xu, .int .i64 yu, .int .i64 zu, .int .i64 lou, .int .i64 hiu, .slice fpu flu fcu], .int .i64 0] (.int .i64 r1))  (h1 : (r1 != 0) = false) (h2 : (ku != 4) = false) (w : World)  : Calls Tryd.prog 29 #[.agg #[.string nu, .int .i64 ku, .int .i64 au, .int .i64 xu, .int .i64 yu, .int .i64 zu, .int .i64 lou, .int .i64 hiu, .slice fpu flu fcu], .int .i64 0] w fun r W' => r = .returned (.tuple #[.agg #[.string nu, .int .i64 ku, .int .i64 au, .int .i64 xu, .int .i64 z3, .int .i64 yu, .int .i64 lou, .int .i64 hiu, .slice fpu flu fcu], .int .i64 0]) ∧ Kb w W' := by
  have kx := Kb.refl w
  unfold Ca at q1
  have a1' : IntKind.i64.wrap (-yu) = z2 := (Go.IntWalk.i64_left _).trans a1
  have a2' : IntKind.i64.wrap (-zu) = z3 := (Go.IntWalk.i64_left _).trans a2
  have j1 := ((Is.made w #[.string nu, .int .i64 ku, .int .i64 au, .int .i64 xu, .int .i64 yu, .int .i64 zu, .int .i64 lou, .int .i64 hiu, .slice fpu flu fcu] 28).alloc (.cells #[.string ⟨#[]⟩, .int .i64 0, .int .i64 0, .int .i64 0, .int .i64 0, .int .i64 0, .int .i64 0, .int .i64 0, .slice none 0 0] 28 (0, 0)))
  have f2 := j1.c (i := 0) rfl
  have f3 := j1.c (i := 1) rfl
  have f4 := j1.c (i := 2) rfl
  have f5 := j1.c (i := 3) rfl
  have f6 := j1.c (i := 4) rfl
  have f7 := j1.c (i := 5) rfl
  have f8 := j1.c (i := 6) rfl
  have f9 := j1.c (i := 7) rfl
  have f10 := j1.c (i := 8) rfl
  go_enter Tryd.func29, Tryd.ntmps29
  go_wp2_with fail
  clear f2 f3 f4 f5 f6 f7 f8 f9 f10
  have b1 := j1
  have b2 := Is.made (w.alloc (.cells #[.string nu, .int .i64 ku, .int .i64 au, .int .i64 xu, .int .i64 yu, .int .i64 zu, .int .i64 lou, .int .i64 hiu, .slice fpu flu fcu] 28 (0, 0))) #[.string ⟨#[]⟩, .int .i64 0, .int .i64 0, .int .i64 0, .int .i64 0, .int .i64 0, .int .i64 0, .int .i64 0, .slice none 0 0] 28
  simp only [World.size_alloc] at b2
  replace kx := (kx.alloc (.cells #[.string nu, .int .i64 ku, .int .i64 au, .int .i64 xu, .int .i64 yu, .int .i64 zu, .int .i64 lou, .int .i64 hiu, .slice fpu flu fcu] 28 (0, 0))).alloc (.cells #[.string ⟨#[]⟩, .int .i64 0, .int .i64 0, .int .i64 0, .int .i64 0, .int .i64 0, .int .i64 0, .int .i64 0, .slice none 0 0] 28 (0, 0))
  clear j1
  (with_reducible refine (((q1).out _)).mono ?_)
  rintro r w1 ⟨rfl, k1⟩
  replace b1 := b1.kb k1
  replace b2 := b2.kb k1
  replace kx := kx.trans k1
  have s1 := k1.size
  simp only [World.size_alloc] at s1
  clear k1
  have f11 := b1.c (i := 3) rfl
  have f12 := b1.c (i := 4) rfl
  have f13 := b1.c (i := 5) rfl
  have j14 := (Is.made w1 #[.int .i64 xu, .int .i64 yu, .int .i64 zu] 23)
  have f15 := j14.c (i := 1) rfl
  have f16 := j14.c (i := 0) rfl
  have f17 := j14.c (i := 2) rfl
  have j18 := ((Is.made w1 #[.int .i64 xu, .int .i64 yu, .int .i64 zu] 23).alloc (.cells #[.int .i64 z2, .int .i64 xu, .int .i64 zu] 23 (0, 0)))
  have f19 := j18.c (i := 0) rfl
  have f20 := j18.c (i := 2) rfl
  have f21 := j18.c (i := 1) rfl
  have j22 := ((b1.alloc (.cells #[.int .i64 xu, .int .i64 yu, .int .i64 zu] 23 (0, 0))).alloc (.cells #[.int .i64 xu, .int .i64 z3, .int .i64 yu] 23 (0, 0)))
  have f23 := j22.c (i := 0) rfl
  have f24 := j22.c (i := 1) rfl
  have f25 := j22.c (i := 2) rfl
  have f26 := j22.c (i := 3) rfl
  have f27 := j22.c (i := 4) rfl
  have f28 := j22.c (i := 5) rfl
  have f29 := j22.c (i := 6) rfl
  have f30 := j22.c (i := 7) rfl
  have f31 := j22.c (i := 8) rfl
  have j32 := (Is.made (w1.alloc (.cells #[.int .i64 xu, .int .i64 yu, .int .i64 zu] 23 (0, 0))) #[.int .i64 xu, .int .i64 z3, .int .i64 yu] 23)
  simp only [World.size_alloc] at j32
  have f33 := j32.c (i := 0) rfl
  have f34 := j32.c (i := 1) rfl
  have f35 := j32.c (i := 2) rfl
  go_wp2_with fail
  clear f11 f12 f13 f15 f16 f17 f19 f20 f21 f23 f24 f25 f26 f27 f28 f29 f30 f31 f33 f34 f35
  replace b1 := j22
  replace b2 := ((b2.alloc (.cells #[.int .i64 xu, .int .i64 yu, .int .i64 zu] 23 (0, 0))).alloc (.cells #[.int .i64 xu, .int .i64 z3, .int .i64 yu] 23 (0, 0)))
  have b3 := Is.made w1 #[.int .i64 xu, .int .i64 yu, .int .i64 zu] 23
  replace b3 := (b3.alloc (.cells #[.int .i64 xu, .int .i64 z3, .int .i64 yu] 23 (0, 0)))
  have b4 := j32
  replace kx := (kx.alloc (.cells #[.int .i64 xu, .int .i64 yu, .int .i64 zu] 23 (0, 0))).alloc (.cells #[.int .i64 xu, .int .i64 z3, .int .i64 yu] 23 (0, 0))
  clear j14 j18 j22 j32
  (with_reducible refine ((Ca.o (rat_any nu ku au xu yu zu lou hiu fpu flu fcu xu z3 yu) _)).mono ?_)
  rintro r w2 ⟨rfl, k2⟩
  replace b1 := b1.kb k2
  replace b2 := b2.kb k2
  replace b3 := b3.kb k2
  replace b4 := b4.kb k2
  replace kx := kx.trans k2
  have s2 := k2.size
  simp only [World.size_alloc] at s2
  clear k2
  have j36 := (b1.alloc (.cells #[.string nu, .int .i64 ku, .int .i64 au, .int .i64 xu, .int .i64 z3, .int .i64 yu, .int .i64 lou, .int .i64 hiu, .slice fpu flu fcu] 28 (0, 0)))
  have f37 := j36.c (i := 1) rfl
  have j38 := (Is.made w2 #[.string nu, .int .i64 ku, .int .i64 au, .int .i64 xu, .int .i64 z3, .int .i64 yu, .int .i64 lou, .int .i64 hiu, .slice fpu flu fcu] 28)
  have f39 := j38.c (i := 0) rfl
  have f40 := j38.c (i := 1) rfl
  have f41 := j38.c (i := 2) rfl
  have f42 := j38.c (i := 3) rfl
  have f43 := j38.c (i := 4) rfl
  have f44 := j38.c (i := 5) rfl
  have f45 := j38.c (i := 6) rfl
  have f46 := j38.c (i := 7) rfl
  have f47 := j38.c (i := 8) rfl
  have j48 := (b2.alloc (.cells #[.string nu, .int .i64 ku, .int .i64 au, .int .i64 xu, .int .i64 z3, .int .i64 yu, .int .i64 lou, .int .i64 hiu, .slice fpu flu fcu] 28 (0, 0)))
  have f49 := j48.c (i := 0) rfl
  have f50 := j48.f 0
  have f51 := j48.c (i := 1) rfl
  have f52 := j48.f 1
  have f53 := j48.c (i := 2) rfl
  have f54 := j48.f 2
  have f55 := j48.c (i := 3) rfl
  have f56 := j48.f 3
  have f57 := j48.c (i := 4) rfl
  have f58 := j48.f 4
  have f59 := j48.c (i := 5) rfl
  have f60 := j48.f 5
  have f61 := j48.c (i := 6) rfl
  have f62 := j48.f 6
  have f63 := j48.c (i := 7) rfl
  have f64 := j48.f 7
  have f65 := j48.c (i := 8) rfl
  have f66 := j48.f 8
  go_wp2
  clear f37 f39 f40 f41 f42 f43 f44 f45 f46 f47 f49 f50 f51 f52 f53 f54 f55 f56 f57 f58 f59 f60 f61 f62 f63 f64 f65 f66
  replace b2 := (b2.alloc (.cells #[.string nu, .int .i64 ku, .int .i64 au, .int .i64 xu, .int .i64 z3, .int .i64 yu, .int .i64 lou, .int .i64 hiu, .slice fpu flu fcu] 28 (0, 0)))
  replace b2 : Is _ _ #[.string nu, .int .i64 0, .int .i64 0, .int .i64 0, .int .i64 0, .int .i64 0, .int .i64 0, .int .i64 0, .slice none 0 0] _ := b2.set 0 (.string nu)
  replace b2 : Is _ _ #[.string nu, .int .i64 ku, .int .i64 0, .int .i64 0, .int .i64 0, .int .i64 0, .int .i64 0, .int .i64 0, .slice none 0 0] _ := b2.set 1 (.int .i64 ku)
  replace b2 : Is _ _ #[.string nu, .int .i64 ku, .int .i64 au, .int .i64 0, .int .i64 0, .int .i64 0, .int .i64 0, .int .i64 0, .slice none 0 0] _ := b2.set 2 (.int .i64 au)
  replace b2 : Is _ _ #[.string nu, .int .i64 ku, .int .i64 au, .int .i64 xu, .int .i64 0, .int .i64 0, .int .i64 0, .int .i64 0, .slice none 0 0] _ := b2.set 3 (.int .i64 xu)
  replace b2 : Is _ _ #[.string nu, .int .i64 ku, .int .i64 au, .int .i64 xu, .int .i64 z3, .int .i64 0, .int .i64 0, .int .i64 0, .slice none 0 0] _ := b2.set 4 (.int .i64 z3)
  replace b2 : Is _ _ #[.string nu, .int .i64 ku, .int .i64 au, .int .i64 xu, .int .i64 z3, .int .i64 yu, .int .i64 0, .int .i64 0, .slice none 0 0] _ := b2.set 5 (.int .i64 yu)
  replace b2 : Is _ _ #[.string nu, .int .i64 ku, .int .i64 au, .int .i64 xu, .int .i64 z3, .int .i64 yu, .int .i64 lou, .int .i64 0, .slice none 0 0] _ := b2.set 6 (.int .i64 lou)
  replace b2 : Is _ _ #[.string nu, .int .i64 ku, .int .i64 au, .int .i64 xu, .int .i64 z3, .int .i64 yu, .int .i64 lou, .int .i64 hiu, .slice none 0 0] _ := b2.set 7 (.int .i64 hiu)
  replace b2 : Is _ _ #[.string nu, .int .i64 ku, .int .i64 au, .int .i64 xu, .int .i64 z3, .int .i64 yu, .int .i64 lou, .int .i64 hiu, .slice fpu flu fcu] _ := b2.set 8 (.slice fpu flu fcu)
  replace kx := (((((((((kx.alloc (.cells #[.string nu, .int .i64 ku, .int .i64 au, .int .i64 xu, .int .i64 z3, .int .i64 yu, .int .i64 lou, .int .i64 hiu, .slice fpu flu fcu] 28 (0, 0))).setCell (p := ⟨w.heap.size + 1, 0, none⟩) (show w.heap.size ≤ w.heap.size + 1 by omega) (.string nu)).setCell (p := ⟨w.heap.size + 1, 1, none⟩) (show w.heap.size ≤ w.heap.size + 1 by omega) (.int .i64 ku)).setCell (p := ⟨w.heap.size + 1, 2, none⟩) (show w.heap.size ≤ w.heap.size + 1 by omega) (.int .i64 au)).setCell (p := ⟨w.heap.size + 1, 3, none⟩) (show w.heap.size ≤ w.heap.size + 1 by omega) (.int .i64 xu)).setCell (p := ⟨w.heap.size + 1, 4, none⟩) (show w.heap.size ≤ w.heap.size + 1 by omega) (.int .i64 z3)).setCell (p := ⟨w.heap.size + 1, 5, none⟩) (show w.heap.size ≤ w.heap.size + 1 by omega) (.int .i64 yu)).setCell (p := ⟨w.heap.size + 1, 6, none⟩) (show w.heap.size ≤ w.heap.size + 1 by omega) (.int .i64 lou)).setCell (p := ⟨w.heap.size + 1, 7, none⟩) (show w.heap.size ≤ w.heap.size + 1 by omega) (.int .i64 hiu)).setCell (p := ⟨w.heap.size + 1, 8, none⟩) (show w.heap.size ≤ w.heap.size + 1 by omega) (.slice fpu flu fcu)
  refine ret_row2 Tryd.results29 rfl rfl rfl b2 Tryd.underlying28 rfl (by kernel_rfl) ?_
  exact ⟨rfl, kx⟩
set_option maxRecDepth 100000 in
theorem rTurn0_any (nu : ByteArray) (ku : Int) (au : Int) (xu : Int) (yu : Int) (zu : Int) (lou : Int) (hiu : Int) (fpu : Option Addr) (flu : Nat) (fcu : Nat) (r1 : Int) (q1 : Ca 55 #[.agg #[.string nu, .int .i64 ku, .int .i64 au, .int .i64 xu, .int .i64 yu, .int .i64 zu, .int .i64 lou, .int .i64 hiu, .slice fpu flu fcu], .int .i64 0] (.int .i64 r1))  : Ca 29 #[.agg #[.string nu, .int .i64 ku, .int .i64 au, .int .i64 xu, .int .i64 yu, .int .i64 zu, .int .i64 lou, .int .i64 hiu, .slice fpu flu fcu], .int .i64 0] (if (r1 != 0) = true then (.tuple #[.agg #[.string ⟨#[]⟩, .int .i64 0, .int .i64 0, .int .i64 0, .int .i64 0, .int .i64 0, .int .i64 0, .int .i64 0, .slice none 0 0], .int .i64 r1]) else (if (ku != 4) = true then (if (au != 0) = true then (.tuple #[.agg #[.string nu, .int .i64 ku, .int .i64 (wrap64 (3 - au)), .int .i64 xu, .int .i64 (wrap64 (-zu)), .int .i64 yu, .int .i64 lou, .int .i64 hiu, .slice fpu flu fcu], .int .i64 0]) else (.tuple #[.agg #[.string nu, .int .i64 ku, .int .i64 au, .int .i64 xu, .int .i64 (wrap64 (-zu)), .int .i64 yu, .int .i64 lou, .int .i64 hiu, .slice fpu flu fcu], .int .i64 0])) else (.tuple #[.agg #[.string nu, .int .i64 ku, .int .i64 au, .int .i64 xu, .int .i64 (wrap64 (-zu)), .int .i64 yu, .int .i64 lou, .int .i64 hiu, .slice fpu flu fcu], .int .i64 0]))) := Lib.hid fun w => by
  rcases Bool.eq_false_or_eq_true (r1 != 0) with h1 | h1
  · rw [if_pos h1]
    exact rTurn0_1 nu ku au xu yu zu lou hiu fpu flu fcu r1 q1 h1 w
  · rw [if_neg (by rw [h1]; decide)]
    rcases Bool.eq_false_or_eq_true (ku != 4) with h2 | h2
    · rw [if_pos h2]
      rcases Bool.eq_false_or_eq_true (au != 0) with h3 | h3
      · rw [if_pos h3]
        exact rTurn0_2 nu ku au xu yu zu lou hiu fpu flu fcu r1 ((wrap64 (-yu))) ((wrap64 (-zu))) ((wrap64 (3 - au))) rfl rfl rfl q1 h1 h2 h3 w
      · rw [if_neg (by rw [h3]; decide)]
        exact rTurn0_3 nu ku au xu yu zu lou hiu fpu flu fcu r1 ((wrap64 (-yu))) ((wrap64 (-zu))) rfl rfl q1 h1 h2 h3 w
    · rw [if_neg (by rw [h2]; decide)]
      exact rTurn0_4 nu ku au xu yu zu lou hiu fpu flu fcu r1 ((wrap64 (-yu))) ((wrap64 (-zu))) rfl rfl q1 h1 h2 w
set_option maxRecDepth 100000 in
set_option maxHeartbeats 4000000 in
theorem rTurn1_1 (nu : ByteArray) (ku : Int) (au : Int) (xu : Int) (yu : Int) (zu : Int) (lou : Int) (hiu : Int) (fpu : Option Addr) (flu : Nat) (fcu : Nat) (r1 : Int)   (q1 : Ca 55 #[.agg #[.string nu, .int .i64 ku, .int .i64 au, .int .i64 xu, .int .i64 yu, .int .i64 zu, .int .i64 lou, .int .i64 hiu, .slice fpu flu fcu], .int .i64 1] (.int .i64 r1))  (h1 : (r1 != 0) = true) (w : World)  : Calls Tryd.prog 29 #[.agg #[.string nu, .int .i64 ku, .int .i64 au, .int .i64 xu, .int .i64 yu, .int .i64 zu, .int .i64 lou, .int .i64 hiu, .slice fpu flu fcu], .int .i64 1] w fun r W' => r = .returned (.tuple #[.agg #[.string ⟨#[]⟩, .int .i64 0, .int .i64 0, .int .i64 0, .int .i64 0, .int .i64 0, .int .i64 0, .int .i64 0, .slice none 0 0], .int .i64 r1]) ∧ Kb w W' := by
  have kx := Kb.refl w
  unfold Ca at q1
  have j1 := ((Is.made w #[.string nu, .int .i64 ku, .int .i64 au, .int .i64 xu, .int .i64 yu, .int .i64 zu, .int .i64 lou, .int .i64 hiu, .slice fpu flu fcu] 28).alloc (.cells #[.string ⟨#[]⟩, .int .i64 0, .int .i64 0, .int .i64 0, .int .i64 0, .int .i64 0, .int .i64 0, .int .i64 0, .slice none 0 0] 28 (0, 0)))
  have f2 := j1.c (i := 0) rfl
  have f3 := j1.c (i := 1) rfl
  have f4 := j1.c (i := 2) rfl
  have f5 := j1.c (i := 3) rfl
  have f6 := j1.c (i := 4) rfl
  have f7 := j1.c (i := 5) rfl
  have f8 := j1.c (i := 6) rfl
  have f9 := j1.c (i := 7) rfl
  have f10 := j1.c (i := 8) rfl
  go_enter Tryd.func29, Tryd.ntmps29
  go_wp2_with fail
  clear f2 f3 f4 f5 f6 f7 f8 f9 f10
  have b1 := j1
  have b2 := Is.made (w.alloc (.cells #[.string nu, .int .i64 ku, .int .i64 au, .int .i64 xu, .int .i64 yu, .int .i64 zu, .int .i64 lou, .int .i64 hiu, .slice fpu flu fcu] 28 (0, 0))) #[.string ⟨#[]⟩, .int .i64 0, .int .i64 0, .int .i64 0, .int .i64 0, .int .i64 0, .int .i64 0, .int .i64 0, .slice none 0 0] 28
  simp only [World.size_alloc] at b2
  replace kx := (kx.alloc (.cells #[.string nu, .int .i64 ku, .int .i64 au, .int .i64 xu, .int .i64 yu, .int .i64 zu, .int .i64 lou, .int .i64 hiu, .slice fpu flu fcu] 28 (0, 0))).alloc (.cells #[.string ⟨#[]⟩, .int .i64 0, .int .i64 0, .int .i64 0, .int .i64 0, .int .i64 0, .int .i64 0, .int .i64 0, .slice none 0 0] 28 (0, 0))
  clear j1
  (with_reducible refine (((q1).out _)).mono ?_)
  rintro r w1 ⟨rfl, k1⟩
  replace b1 := b1.kb k1
  replace b2 := b2.kb k1
  replace kx := kx.trans k1
  have s1 := k1.size
  simp only [World.size_alloc] at s1
  clear k1
  have f11 := b2.c (i := 0) rfl
  have f12 := b2.f 0
  have f13 := b2.c (i := 1) rfl
  have f14 := b2.f 1
  have f15 := b2.c (i := 2) rfl
  have f16 := b2.f 2
  have f17 := b2.c (i := 3) rfl
  have f18 := b2.f 3
  have f19 := b2.c (i := 4) rfl
  have f20 := b2.f 4
  have f21 := b2.c (i := 5) rfl
  have f22 := b2.f 5
  have f23 := b2.c (i := 6) rfl
  have f24 := b2.f 6
  have f25 := b2.c (i := 7) rfl
  have f26 := b2.f 7
  have f27 := b2.c (i := 8) rfl
  have f28 := b2.f 8
  go_wp2
  clear f11 f12 f13 f14 f15 f16 f17 f18 f19 f20 f21 f22 f23 f24 f25 f26 f27 f28
  replace b2 : Is _ _ #[.string ⟨#[]⟩, .int .i64 0, .int .i64 0, .int .i64 0, .int .i64 0, .int .i64 0, .int .i64 0, .int .i64 0, .slice none 0 0] _ := b2.set 0 (.string ⟨#[]⟩)
  replace b2 : Is _ _ #[.string ⟨#[]⟩, .int .i64 0, .int .i64 0, .int .i64 0, .int .i64 0, .int .i64 0, .int .i64 0, .int .i64 0, .slice none 0 0] _ := b2.set 1 (.int .i64 0)
  replace b2 : Is _ _ #[.string ⟨#[]⟩, .int .i64 0, .int .i64 0, .int .i64 0, .int .i64 0, .int .i64 0, .int .i64 0, .int .i64 0, .slice none 0 0] _ := b2.set 2 (.int .i64 0)
  replace b2 : Is _ _ #[.string ⟨#[]⟩, .int .i64 0, .int .i64 0, .int .i64 0, .int .i64 0, .int .i64 0, .int .i64 0, .int .i64 0, .slice none 0 0] _ := b2.set 3 (.int .i64 0)
  replace b2 : Is _ _ #[.string ⟨#[]⟩, .int .i64 0, .int .i64 0, .int .i64 0, .int .i64 0, .int .i64 0, .int .i64 0, .int .i64 0, .slice none 0 0] _ := b2.set 4 (.int .i64 0)
  replace b2 : Is _ _ #[.string ⟨#[]⟩, .int .i64 0, .int .i64 0, .int .i64 0, .int .i64 0, .int .i64 0, .int .i64 0, .int .i64 0, .slice none 0 0] _ := b2.set 5 (.int .i64 0)
  replace b2 : Is _ _ #[.string ⟨#[]⟩, .int .i64 0, .int .i64 0, .int .i64 0, .int .i64 0, .int .i64 0, .int .i64 0, .int .i64 0, .slice none 0 0] _ := b2.set 6 (.int .i64 0)
  replace b2 : Is _ _ #[.string ⟨#[]⟩, .int .i64 0, .int .i64 0, .int .i64 0, .int .i64 0, .int .i64 0, .int .i64 0, .int .i64 0, .slice none 0 0] _ := b2.set 7 (.int .i64 0)
  replace b2 : Is _ _ #[.string ⟨#[]⟩, .int .i64 0, .int .i64 0, .int .i64 0, .int .i64 0, .int .i64 0, .int .i64 0, .int .i64 0, .slice none 0 0] _ := b2.set 8 (.slice none 0 0)
  replace kx := ((((((((kx.setCell (p := ⟨w.heap.size + 1, 0, none⟩) (show w.heap.size ≤ w.heap.size + 1 by omega) (.string ⟨#[]⟩)).setCell (p := ⟨w.heap.size + 1, 1, none⟩) (show w.heap.size ≤ w.heap.size + 1 by omega) (.int .i64 0)).setCell (p := ⟨w.heap.size + 1, 2, none⟩) (show w.heap.size ≤ w.heap.size + 1 by omega) (.int .i64 0)).setCell (p := ⟨w.heap.size + 1, 3, none⟩) (show w.heap.size ≤ w.heap.size + 1 by omega) (.int .i64 0)).setCell (p := ⟨w.heap.size + 1, 4, none⟩) (show w.heap.size ≤ w.heap.size + 1 by omega) (.int .i64 0)).setCell (p := ⟨w.heap.size + 1, 5, none⟩) (show w.heap.size ≤ w.heap.size + 1 by omega) (.int .i64 0)).setCell (p := ⟨w.heap.size + 1, 6, none⟩) (show w.heap.size ≤ w.heap.size + 1 by omega) (.int .i64 0)).setCell (p := ⟨w.heap.size + 1, 7, none⟩) (show w.heap.size ≤ w.heap.size + 1 by omega) (.int .i64 0)).setCell (p := ⟨w.heap.size + 1, 8, none⟩) (show w.heap.size ≤ w.heap.size + 1 by omega) (.slice none 0 0)
  refine ret_row2 Tryd.results29 rfl rfl rfl b2 Tryd.underlying28 rfl (by kernel_rfl) ?_
  exact ⟨rfl, kx⟩
set_option maxRecDepth 100000 in
set_option maxHeartbeats 4000000 in
theorem rTurn1_2 (nu : ByteArray) (ku : Int) (au : Int) (xu : Int) (yu : Int) (zu : Int) (lou : Int) (hiu : Int) (fpu : Option Addr) (flu : Nat) (fcu : Nat) (r1 : Int) (z2 : Int) (z3 : Int) (z4 : Int) (a1 : wrap64 (-yu) = z2) (a2 : wrap64 (-xu) = z3) (a3 : wrap64 (2 - au) = z4) (q1 : Ca 55 #[.agg #[.string nu, .int .i64 ku, .int .i64 au, .int .i64 xu, .int .i64 yu, .int .i64 zu, .int .i64 lou, .int .i64 hiu, .slice fpu flu fcu], .int .i64 1] (.int .i64 r1))  (h1 : (r1 != 0) = false) (h2 : (ku != 4) = true) (h3 : (au != 1) = true) (w : World)  : Calls Tryd.prog 29 #[.agg #[.string nu, .int .i64 ku, .int .i64 au, .int .i64 xu, .int .i64 yu, .int .i64 zu, .int .i64 lou, .int .i64 hiu, .slice fpu flu fcu], .int .i64 1] w fun r W' => r = .returned (.tuple #[.agg #[.string nu, .int .i64 ku, .int .i64 z4, .int .i64 zu, .int .i64 yu, .int .i64 z3, .int .i64 lou, .int .i64 hiu, .slice fpu flu fcu], .int .i64 0]) ∧ Kb w W' := by
  have kx := Kb.refl w
  unfold Ca at q1
  have a1' : IntKind.i64.wrap (-yu) = z2 := (Go.IntWalk.i64_left _).trans a1
  have a2' : IntKind.i64.wrap (-xu) = z3 := (Go.IntWalk.i64_left _).trans a2
  have a3' : IntKind.i64.wrap (2 - au) = z4 := (Go.IntWalk.i64_left _).trans a3
  have j1 := ((Is.made w #[.string nu, .int .i64 ku, .int .i64 au, .int .i64 xu, .int .i64 yu, .int .i64 zu, .int .i64 lou, .int .i64 hiu, .slice fpu flu fcu] 28).alloc (.cells #[.string ⟨#[]⟩, .int .i64 0, .int .i64 0, .int .i64 0, .int .i64 0, .int .i64 0, .int .i64 0, .int .i64 0, .slice none 0 0] 28 (0, 0)))
  have f2 := j1.c (i := 0) rfl
  have f3 := j1.c (i := 1) rfl
  have f4 := j1.c (i := 2) rfl
  have f5 := j1.c (i := 3) rfl
  have f6 := j1.c (i := 4) rfl
  have f7 := j1.c (i := 5) rfl
  have f8 := j1.c (i := 6) rfl
  have f9 := j1.c (i := 7) rfl
  have f10 := j1.c (i := 8) rfl
  go_enter Tryd.func29, Tryd.ntmps29
  go_wp2_with fail
  clear f2 f3 f4 f5 f6 f7 f8 f9 f10
  have b1 := j1
  have b2 := Is.made (w.alloc (.cells #[.string nu, .int .i64 ku, .int .i64 au, .int .i64 xu, .int .i64 yu, .int .i64 zu, .int .i64 lou, .int .i64 hiu, .slice fpu flu fcu] 28 (0, 0))) #[.string ⟨#[]⟩, .int .i64 0, .int .i64 0, .int .i64 0, .int .i64 0, .int .i64 0, .int .i64 0, .int .i64 0, .slice none 0 0] 28
  simp only [World.size_alloc] at b2
  replace kx := (kx.alloc (.cells #[.string nu, .int .i64 ku, .int .i64 au, .int .i64 xu, .int .i64 yu, .int .i64 zu, .int .i64 lou, .int .i64 hiu, .slice fpu flu fcu] 28 (0, 0))).alloc (.cells #[.string ⟨#[]⟩, .int .i64 0, .int .i64 0, .int .i64 0, .int .i64 0, .int .i64 0, .int .i64 0, .int .i64 0, .slice none 0 0] 28 (0, 0))
  clear j1
  (with_reducible refine (((q1).out _)).mono ?_)
  rintro r w1 ⟨rfl, k1⟩
  replace b1 := b1.kb k1
  replace b2 := b2.kb k1
  replace kx := kx.trans k1
  have s1 := k1.size
  simp only [World.size_alloc] at s1
  clear k1
  have f11 := b1.c (i := 3) rfl
  have f12 := b1.c (i := 4) rfl
  have f13 := b1.c (i := 5) rfl
  have j14 := (Is.made w1 #[.int .i64 xu, .int .i64 yu, .int .i64 zu] 23)
  have f15 := j14.c (i := 1) rfl
  have f16 := j14.c (i := 0) rfl
  have f17 := j14.c (i := 2) rfl
  have j18 := ((Is.made w1 #[.int .i64 xu, .int .i64 yu, .int .i64 zu] 23).alloc (.cells #[.int .i64 z2, .int .i64 xu, .int .i64 zu] 23 (0, 0)))
  have f19 := j18.c (i := 2) rfl
  have f20 := j18.c (i := 1) rfl
  have f21 := j18.c (i := 0) rfl
  have j22 := ((b1.alloc (.cells #[.int .i64 xu, .int .i64 yu, .int .i64 zu] 23 (0, 0))).alloc (.cells #[.int .i64 zu, .int .i64 yu, .int .i64 z3] 23 (0, 0)))
  have f23 := j22.c (i := 0) rfl
  have f24 := j22.c (i := 1) rfl
  have f25 := j22.c (i := 2) rfl
  have f26 := j22.c (i := 3) rfl
  have f27 := j22.c (i := 4) rfl
  have f28 := j22.c (i := 5) rfl
  have f29 := j22.c (i := 6) rfl
  have f30 := j22.c (i := 7) rfl
  have f31 := j22.c (i := 8) rfl
  have j32 := (Is.made (w1.alloc (.cells #[.int .i64 xu, .int .i64 yu, .int .i64 zu] 23 (0, 0))) #[.int .i64 zu, .int .i64 yu, .int .i64 z3] 23)
  simp only [World.size_alloc] at j32
  have f33 := j32.c (i := 0) rfl
  have f34 := j32.c (i := 1) rfl
  have f35 := j32.c (i := 2) rfl
  go_wp2_with fail
  clear f11 f12 f13 f15 f16 f17 f19 f20 f21 f23 f24 f25 f26 f27 f28 f29 f30 f31 f33 f34 f35
  replace b1 := j22
  replace b2 := ((b2.alloc (.cells #[.int .i64 xu, .int .i64 yu, .int .i64 zu] 23 (0, 0))).alloc (.cells #[.int .i64 zu, .int .i64 yu, .int .i64 z3] 23 (0, 0)))
  have b3 := Is.made w1 #[.int .i64 xu, .int .i64 yu, .int .i64 zu] 23
  replace b3 := (b3.alloc (.cells #[.int .i64 zu, .int .i64 yu, .int .i64 z3] 23 (0, 0)))
  have b4 := j32
  replace kx := (kx.alloc (.cells #[.int .i64 xu, .int .i64 yu, .int .i64 zu] 23 (0, 0))).alloc (.cells #[.int .i64 zu, .int .i64 yu, .int .i64 z3] 23 (0, 0))
  clear j14 j18 j22 j32
  (with_reducible refine ((Ca.o (rat_any nu ku au xu yu zu lou hiu fpu flu fcu zu yu z3) _)).mono ?_)
  rintro r w2 ⟨rfl, k2⟩
  replace b1 := b1.kb k2
  replace b2 := b2.kb k2
  replace b3 := b3.kb k2
  replace b4 := b4.kb k2
  replace kx := kx.trans k2
  have s2 := k2.size
  simp only [World.size_alloc] at s2
  clear k2
  have j36 := (b1.alloc (.cells #[.string nu, .int .i64 ku, .int .i64 au, .int .i64 zu, .int .i64 yu, .int .i64 z3, .int .i64 lou, .int .i64 hiu, .slice fpu flu fcu] 28 (0, 0)))
  have f37 := j36.c (i := 1) rfl
  have f38 := j36.c (i := 2) rfl
  have j39 := (Is.made w2 #[.string nu, .int .i64 ku, .int .i64 z4, .int .i64 zu, .int .i64 yu, .int .i64 z3, .int .i64 lou, .int .i64 hiu, .slice fpu flu fcu] 28)
  have f40 := j39.c (i := 0) rfl
  have f41 := j39.c (i := 1) rfl
  have f42 := j39.c (i := 2) rfl
  have f43 := j39.c (i := 3) rfl
  have f44 := j39.c (i := 4) rfl
  have f45 := j39.c (i := 5) rfl
  have f46 := j39.c (i := 6) rfl
  have f47 := j39.c (i := 7) rfl
  have f48 := j39.c (i := 8) rfl
  have j49 := (b2.alloc (.cells #[.string nu, .int .i64 ku, .int .i64 z4, .int .i64 zu, .int .i64 yu, .int .i64 z3, .int .i64 lou, .int .i64 hiu, .slice fpu flu fcu] 28 (0, 0)))
  have f50 := j49.c (i := 0) rfl
  have f51 := j49.f 0
  have f52 := j49.c (i := 1) rfl
  have f53 := j49.f 1
  have f54 := j49.c (i := 2) rfl
  have f55 := j49.f 2
  have f56 := j49.c (i := 3) rfl
  have f57 := j49.f 3
  have f58 := j49.c (i := 4) rfl
  have f59 := j49.f 4
  have f60 := j49.c (i := 5) rfl
  have f61 := j49.f 5
  have f62 := j49.c (i := 6) rfl
  have f63 := j49.f 6
  have f64 := j49.c (i := 7) rfl
  have f65 := j49.f 7
  have f66 := j49.c (i := 8) rfl
  have f67 := j49.f 8
  go_wp2
  clear f37 f38 f40 f41 f42 f43 f44 f45 f46 f47 f48 f50 f51 f52 f53 f54 f55 f56 f57 f58 f59 f60 f61 f62 f63 f64 f65 f66 f67
  replace b2 := (b2.alloc (.cells #[.string nu, .int .i64 ku, .int .i64 z4, .int .i64 zu, .int .i64 yu, .int .i64 z3, .int .i64 lou, .int .i64 hiu, .slice fpu flu fcu] 28 (0, 0)))
  replace b2 : Is _ _ #[.string nu, .int .i64 0, .int .i64 0, .int .i64 0, .int .i64 0, .int .i64 0, .int .i64 0, .int .i64 0, .slice none 0 0] _ := b2.set 0 (.string nu)
  replace b2 : Is _ _ #[.string nu, .int .i64 ku, .int .i64 0, .int .i64 0, .int .i64 0, .int .i64 0, .int .i64 0, .int .i64 0, .slice none 0 0] _ := b2.set 1 (.int .i64 ku)
  replace b2 : Is _ _ #[.string nu, .int .i64 ku, .int .i64 z4, .int .i64 0, .int .i64 0, .int .i64 0, .int .i64 0, .int .i64 0, .slice none 0 0] _ := b2.set 2 (.int .i64 z4)
  replace b2 : Is _ _ #[.string nu, .int .i64 ku, .int .i64 z4, .int .i64 zu, .int .i64 0, .int .i64 0, .int .i64 0, .int .i64 0, .slice none 0 0] _ := b2.set 3 (.int .i64 zu)
  replace b2 : Is _ _ #[.string nu, .int .i64 ku, .int .i64 z4, .int .i64 zu, .int .i64 yu, .int .i64 0, .int .i64 0, .int .i64 0, .slice none 0 0] _ := b2.set 4 (.int .i64 yu)
  replace b2 : Is _ _ #[.string nu, .int .i64 ku, .int .i64 z4, .int .i64 zu, .int .i64 yu, .int .i64 z3, .int .i64 0, .int .i64 0, .slice none 0 0] _ := b2.set 5 (.int .i64 z3)
  replace b2 : Is _ _ #[.string nu, .int .i64 ku, .int .i64 z4, .int .i64 zu, .int .i64 yu, .int .i64 z3, .int .i64 lou, .int .i64 0, .slice none 0 0] _ := b2.set 6 (.int .i64 lou)
  replace b2 : Is _ _ #[.string nu, .int .i64 ku, .int .i64 z4, .int .i64 zu, .int .i64 yu, .int .i64 z3, .int .i64 lou, .int .i64 hiu, .slice none 0 0] _ := b2.set 7 (.int .i64 hiu)
  replace b2 : Is _ _ #[.string nu, .int .i64 ku, .int .i64 z4, .int .i64 zu, .int .i64 yu, .int .i64 z3, .int .i64 lou, .int .i64 hiu, .slice fpu flu fcu] _ := b2.set 8 (.slice fpu flu fcu)
  replace kx := (((((((((kx.alloc (.cells #[.string nu, .int .i64 ku, .int .i64 z4, .int .i64 zu, .int .i64 yu, .int .i64 z3, .int .i64 lou, .int .i64 hiu, .slice fpu flu fcu] 28 (0, 0))).setCell (p := ⟨w.heap.size + 1, 0, none⟩) (show w.heap.size ≤ w.heap.size + 1 by omega) (.string nu)).setCell (p := ⟨w.heap.size + 1, 1, none⟩) (show w.heap.size ≤ w.heap.size + 1 by omega) (.int .i64 ku)).setCell (p := ⟨w.heap.size + 1, 2, none⟩) (show w.heap.size ≤ w.heap.size + 1 by omega) (.int .i64 z4)).setCell (p := ⟨w.heap.size + 1, 3, none⟩) (show w.heap.size ≤ w.heap.size + 1 by omega) (.int .i64 zu)).setCell (p := ⟨w.heap.size + 1, 4, none⟩) (show w.heap.size ≤ w.heap.size + 1 by omega) (.int .i64 yu)).setCell (p := ⟨w.heap.size + 1, 5, none⟩) (show w.heap.size ≤ w.heap.size + 1 by omega) (.int .i64 z3)).setCell (p := ⟨w.heap.size + 1, 6, none⟩) (show w.heap.size ≤ w.heap.size + 1 by omega) (.int .i64 lou)).setCell (p := ⟨w.heap.size + 1, 7, none⟩) (show w.heap.size ≤ w.heap.size + 1 by omega) (.int .i64 hiu)).setCell (p := ⟨w.heap.size + 1, 8, none⟩) (show w.heap.size ≤ w.heap.size + 1 by omega) (.slice fpu flu fcu)
  refine ret_row2 Tryd.results29 rfl rfl rfl b2 Tryd.underlying28 rfl (by kernel_rfl) ?_
  exact ⟨rfl, kx⟩
set_option maxRecDepth 100000 in
set_option maxHeartbeats 4000000 in
theorem rTurn1_3 (nu : ByteArray) (ku : Int) (au : Int) (xu : Int) (yu : Int) (zu : Int) (lou : Int) (hiu : Int) (fpu : Option Addr) (flu : Nat) (fcu : Nat) (r1 : Int) (z2 : Int) (z3 : Int) (a1 : wrap64 (-yu) = z2) (a2 : wrap64 (-xu) = z3) (q1 : Ca 55 #[.agg #[.string nu, .int .i64 ku, .int .i64 au, .int .i64 xu, .int .i64 yu, .int .i64 zu, .int .i64 lou, .int .i64 hiu, .slice fpu flu fcu], .int .i64 1] (.int .i64 r1))  (h1 : (r1 != 0) = false) (h2 : (ku != 4) = true) (h3 : (au != 1) = false) (w : World)  : Calls Tryd.prog 29 #[.agg #[.string nu, .int .i64 ku, .int .i64 au, .int .i64 xu, .int .i64 yu, .int .i64 zu, .int .i64 lou, .int .i64 hiu, .slice fpu flu fcu], .int .i64 1] w fun r W' => r = .returned (.tuple #[.agg #[.string nu, .int .i64 ku, .int .i64 au, .int .i64 zu, .int .i64 yu, .int .i64 z3, .int .i64 lou, .int .i64 hiu, .slice fpu flu fcu], .int .i64 0]) ∧ Kb w W' := by
  have kx := Kb.refl w
  unfold Ca at q1
  have a1' : IntKind.i64.wrap (-yu) = z2 := (Go.IntWalk.i64_left _).trans a1
  have a2' : IntKind.i64.wrap (-xu) = z3 := (Go.IntWalk.i64_left _).trans a2
  have j1 := ((Is.made w #[.string nu, .int .i64 ku, .int .i64 au, .int .i64 xu, .int .i64 yu, .int .i64 zu, .int .i64 lou, .int .i64 hiu, .slice fpu flu fcu] 28).alloc (.cells #[.string ⟨#[]⟩, .int .i64 0, .int .i64 0, .int .i64 0, .int .i64 0, .int .i64 0, .int .i64 0, .int .i64 0, .slice none 0 0] 28 (0, 0)))
  have f2 := j1.c (i := 0) rfl
  have f3 := j1.c (i := 1) rfl
  have f4 := j1.c (i := 2) rfl
  have f5 := j1.c (i := 3) rfl
  have f6 := j1.c (i := 4) rfl
  have f7 := j1.c (i := 5) rfl
  have f8 := j1.c (i := 6) rfl
  have f9 := j1.c (i := 7) rfl
  have f10 := j1.c (i := 8) rfl
  go_enter Tryd.func29, Tryd.ntmps29
  go_wp2_with fail
  clear f2 f3 f4 f5 f6 f7 f8 f9 f10
  have b1 := j1
  have b2 := Is.made (w.alloc (.cells #[.string nu, .int .i64 ku, .int .i64 au, .int .i64 xu, .int .i64 yu, .int .i64 zu, .int .i64 lou, .int .i64 hiu, .slice fpu flu fcu] 28 (0, 0))) #[.string ⟨#[]⟩, .int .i64 0, .int .i64 0, .int .i64 0, .int .i64 0, .int .i64 0, .int .i64 0, .int .i64 0, .slice none 0 0] 28
  simp only [World.size_alloc] at b2
  replace kx := (kx.alloc (.cells #[.string nu, .int .i64 ku, .int .i64 au, .int .i64 xu, .int .i64 yu, .int .i64 zu, .int .i64 lou, .int .i64 hiu, .slice fpu flu fcu] 28 (0, 0))).alloc (.cells #[.string ⟨#[]⟩, .int .i64 0, .int .i64 0, .int .i64 0, .int .i64 0, .int .i64 0, .int .i64 0, .int .i64 0, .slice none 0 0] 28 (0, 0))
  clear j1
  (with_reducible refine (((q1).out _)).mono ?_)
  rintro r w1 ⟨rfl, k1⟩
  replace b1 := b1.kb k1
  replace b2 := b2.kb k1
  replace kx := kx.trans k1
  have s1 := k1.size
  simp only [World.size_alloc] at s1
  clear k1
  have f11 := b1.c (i := 3) rfl
  have f12 := b1.c (i := 4) rfl
  have f13 := b1.c (i := 5) rfl
  have j14 := (Is.made w1 #[.int .i64 xu, .int .i64 yu, .int .i64 zu] 23)
  have f15 := j14.c (i := 1) rfl
  have f16 := j14.c (i := 0) rfl
  have f17 := j14.c (i := 2) rfl
  have j18 := ((Is.made w1 #[.int .i64 xu, .int .i64 yu, .int .i64 zu] 23).alloc (.cells #[.int .i64 z2, .int .i64 xu, .int .i64 zu] 23 (0, 0)))
  have f19 := j18.c (i := 2) rfl
  have f20 := j18.c (i := 1) rfl
  have f21 := j18.c (i := 0) rfl
  have j22 := ((b1.alloc (.cells #[.int .i64 xu, .int .i64 yu, .int .i64 zu] 23 (0, 0))).alloc (.cells #[.int .i64 zu, .int .i64 yu, .int .i64 z3] 23 (0, 0)))
  have f23 := j22.c (i := 0) rfl
  have f24 := j22.c (i := 1) rfl
  have f25 := j22.c (i := 2) rfl
  have f26 := j22.c (i := 3) rfl
  have f27 := j22.c (i := 4) rfl
  have f28 := j22.c (i := 5) rfl
  have f29 := j22.c (i := 6) rfl
  have f30 := j22.c (i := 7) rfl
  have f31 := j22.c (i := 8) rfl
  have j32 := (Is.made (w1.alloc (.cells #[.int .i64 xu, .int .i64 yu, .int .i64 zu] 23 (0, 0))) #[.int .i64 zu, .int .i64 yu, .int .i64 z3] 23)
  simp only [World.size_alloc] at j32
  have f33 := j32.c (i := 0) rfl
  have f34 := j32.c (i := 1) rfl
  have f35 := j32.c (i := 2) rfl
  go_wp2_with fail
  clear f11 f12 f13 f15 f16 f17 f19 f20 f21 f23 f24 f25 f26 f27 f28 f29 f30 f31 f33 f34 f35
  replace b1 := j22
  replace b2 := ((b2.alloc (.cells #[.int .i64 xu, .int .i64 yu, .int .i64 zu] 23 (0, 0))).alloc (.cells #[.int .i64 zu, .int .i64 yu, .int .i64 z3] 23 (0, 0)))
  have b3 := Is.made w1 #[.int .i64 xu, .int .i64 yu, .int .i64 zu] 23
  replace b3 := (b3.alloc (.cells #[.int .i64 zu, .int .i64 yu, .int .i64 z3] 23 (0, 0)))
  have b4 := j32
  replace kx := (kx.alloc (.cells #[.int .i64 xu, .int .i64 yu, .int .i64 zu] 23 (0, 0))).alloc (.cells #[.int .i64 zu, .int .i64 yu, .int .i64 z3] 23 (0, 0))
  clear j14 j18 j22 j32
  (with_reducible refine ((Ca.o (rat_any nu ku au xu yu zu lou hiu fpu flu fcu zu yu z3) _)).mono ?_)
  rintro r w2 ⟨rfl, k2⟩
  replace b1 := b1.kb k2
  replace b2 := b2.kb k2
  replace b3 := b3.kb k2
  replace b4 := b4.kb k2
  replace kx := kx.trans k2
  have s2 := k2.size
  simp only [World.size_alloc] at s2
  clear k2
  have j36 := (b1.alloc (.cells #[.string nu, .int .i64 ku, .int .i64 au, .int .i64 zu, .int .i64 yu, .int .i64 z3, .int .i64 lou, .int .i64 hiu, .slice fpu flu fcu] 28 (0, 0)))
  have f37 := j36.c (i := 1) rfl
  have f38 := j36.c (i := 2) rfl
  have j39 := (Is.made w2 #[.string nu, .int .i64 ku, .int .i64 au, .int .i64 zu, .int .i64 yu, .int .i64 z3, .int .i64 lou, .int .i64 hiu, .slice fpu flu fcu] 28)
  have f40 := j39.c (i := 0) rfl
  have f41 := j39.c (i := 1) rfl
  have f42 := j39.c (i := 2) rfl
  have f43 := j39.c (i := 3) rfl
  have f44 := j39.c (i := 4) rfl
  have f45 := j39.c (i := 5) rfl
  have f46 := j39.c (i := 6) rfl
  have f47 := j39.c (i := 7) rfl
  have f48 := j39.c (i := 8) rfl
  have j49 := (b2.alloc (.cells #[.string nu, .int .i64 ku, .int .i64 au, .int .i64 zu, .int .i64 yu, .int .i64 z3, .int .i64 lou, .int .i64 hiu, .slice fpu flu fcu] 28 (0, 0)))
  have f50 := j49.c (i := 0) rfl
  have f51 := j49.f 0
  have f52 := j49.c (i := 1) rfl
  have f53 := j49.f 1
  have f54 := j49.c (i := 2) rfl
  have f55 := j49.f 2
  have f56 := j49.c (i := 3) rfl
  have f57 := j49.f 3
  have f58 := j49.c (i := 4) rfl
  have f59 := j49.f 4
  have f60 := j49.c (i := 5) rfl
  have f61 := j49.f 5
  have f62 := j49.c (i := 6) rfl
  have f63 := j49.f 6
  have f64 := j49.c (i := 7) rfl
  have f65 := j49.f 7
  have f66 := j49.c (i := 8) rfl
  have f67 := j49.f 8
  go_wp2
  clear f37 f38 f40 f41 f42 f43 f44 f45 f46 f47 f48 f50 f51 f52 f53 f54 f55 f56 f57 f58 f59 f60 f61 f62 f63 f64 f65 f66 f67
  replace b2 := (b2.alloc (.cells #[.string nu, .int .i64 ku, .int .i64 au, .int .i64 zu, .int .i64 yu, .int .i64 z3, .int .i64 lou, .int .i64 hiu, .slice fpu flu fcu] 28 (0, 0)))
  replace b2 : Is _ _ #[.string nu, .int .i64 0, .int .i64 0, .int .i64 0, .int .i64 0, .int .i64 0, .int .i64 0, .int .i64 0, .slice none 0 0] _ := b2.set 0 (.string nu)
  replace b2 : Is _ _ #[.string nu, .int .i64 ku, .int .i64 0, .int .i64 0, .int .i64 0, .int .i64 0, .int .i64 0, .int .i64 0, .slice none 0 0] _ := b2.set 1 (.int .i64 ku)
  replace b2 : Is _ _ #[.string nu, .int .i64 ku, .int .i64 au, .int .i64 0, .int .i64 0, .int .i64 0, .int .i64 0, .int .i64 0, .slice none 0 0] _ := b2.set 2 (.int .i64 au)
  replace b2 : Is _ _ #[.string nu, .int .i64 ku, .int .i64 au, .int .i64 zu, .int .i64 0, .int .i64 0, .int .i64 0, .int .i64 0, .slice none 0 0] _ := b2.set 3 (.int .i64 zu)
  replace b2 : Is _ _ #[.string nu, .int .i64 ku, .int .i64 au, .int .i64 zu, .int .i64 yu, .int .i64 0, .int .i64 0, .int .i64 0, .slice none 0 0] _ := b2.set 4 (.int .i64 yu)
  replace b2 : Is _ _ #[.string nu, .int .i64 ku, .int .i64 au, .int .i64 zu, .int .i64 yu, .int .i64 z3, .int .i64 0, .int .i64 0, .slice none 0 0] _ := b2.set 5 (.int .i64 z3)
  replace b2 : Is _ _ #[.string nu, .int .i64 ku, .int .i64 au, .int .i64 zu, .int .i64 yu, .int .i64 z3, .int .i64 lou, .int .i64 0, .slice none 0 0] _ := b2.set 6 (.int .i64 lou)
  replace b2 : Is _ _ #[.string nu, .int .i64 ku, .int .i64 au, .int .i64 zu, .int .i64 yu, .int .i64 z3, .int .i64 lou, .int .i64 hiu, .slice none 0 0] _ := b2.set 7 (.int .i64 hiu)
  replace b2 : Is _ _ #[.string nu, .int .i64 ku, .int .i64 au, .int .i64 zu, .int .i64 yu, .int .i64 z3, .int .i64 lou, .int .i64 hiu, .slice fpu flu fcu] _ := b2.set 8 (.slice fpu flu fcu)
  replace kx := (((((((((kx.alloc (.cells #[.string nu, .int .i64 ku, .int .i64 au, .int .i64 zu, .int .i64 yu, .int .i64 z3, .int .i64 lou, .int .i64 hiu, .slice fpu flu fcu] 28 (0, 0))).setCell (p := ⟨w.heap.size + 1, 0, none⟩) (show w.heap.size ≤ w.heap.size + 1 by omega) (.string nu)).setCell (p := ⟨w.heap.size + 1, 1, none⟩) (show w.heap.size ≤ w.heap.size + 1 by omega) (.int .i64 ku)).setCell (p := ⟨w.heap.size + 1, 2, none⟩) (show w.heap.size ≤ w.heap.size + 1 by omega) (.int .i64 au)).setCell (p := ⟨w.heap.size + 1, 3, none⟩) (show w.heap.size ≤ w.heap.size + 1 by omega) (.int .i64 zu)).setCell (p := ⟨w.heap.size + 1, 4, none⟩) (show w.heap.size ≤ w.heap.size + 1 by omega) (.int .i64 yu)).setCell (p := ⟨w.heap.size + 1, 5, none⟩) (show w.heap.size ≤ w.heap.size + 1 by omega) (.int .i64 z3)).setCell (p := ⟨w.heap.size + 1, 6, none⟩) (show w.heap.size ≤ w.heap.size + 1 by omega) (.int .i64 lou)).setCell (p := ⟨w.heap.size + 1, 7, none⟩) (show w.heap.size ≤ w.heap.size + 1 by omega) (.int .i64 hiu)).setCell (p := ⟨w.heap.size + 1, 8, none⟩) (show w.heap.size ≤ w.heap.size + 1 by omega) (.slice fpu flu fcu)
  refine ret_row2 Tryd.results29 rfl rfl rfl b2 Tryd.underlying28 rfl (by kernel_rfl) ?_
  exact ⟨rfl, kx⟩
set_option maxRecDepth 100000 in
set_option maxHeartbeats 4000000 in
theorem rTurn1_4 (nu : ByteArray) (ku : Int) (au : Int) (xu : Int) (yu : Int) (zu : Int) (lou : Int) (hiu : Int) (fpu : Option Addr) (flu : Nat) (fcu : Nat) (r1 : Int) (z2 : Int) (z3 : Int) (a1 : wrap64 (-yu) = z2) (a2 : wrap64 (-xu) = z3) (q1 : Ca 55 #[.agg #[.string nu, .int .i64 ku, .int .i64 au, .int .i64 xu, .int .i64 yu, .int .i64 zu, .int .i64 lou, .int .i64 hiu, .slice fpu flu fcu], .int .i64 1] (.int .i64 r1))  (h1 : (r1 != 0) = false) (h2 : (ku != 4) = false) (w : World)  : Calls Tryd.prog 29 #[.agg #[.string nu, .int .i64 ku, .int .i64 au, .int .i64 xu, .int .i64 yu, .int .i64 zu, .int .i64 lou, .int .i64 hiu, .slice fpu flu fcu], .int .i64 1] w fun r W' => r = .returned (.tuple #[.agg #[.string nu, .int .i64 ku, .int .i64 au, .int .i64 zu, .int .i64 yu, .int .i64 z3, .int .i64 lou, .int .i64 hiu, .slice fpu flu fcu], .int .i64 0]) ∧ Kb w W' := by
  have kx := Kb.refl w
  unfold Ca at q1
  have a1' : IntKind.i64.wrap (-yu) = z2 := (Go.IntWalk.i64_left _).trans a1
  have a2' : IntKind.i64.wrap (-xu) = z3 := (Go.IntWalk.i64_left _).trans a2
  have j1 := ((Is.made w #[.string nu, .int .i64 ku, .int .i64 au, .int .i64 xu, .int .i64 yu, .int .i64 zu, .int .i64 lou, .int .i64 hiu, .slice fpu flu fcu] 28).alloc (.cells #[.string ⟨#[]⟩, .int .i64 0, .int .i64 0, .int .i64 0, .int .i64 0, .int .i64 0, .int .i64 0, .int .i64 0, .slice none 0 0] 28 (0, 0)))
  have f2 := j1.c (i := 0) rfl
  have f3 := j1.c (i := 1) rfl
  have f4 := j1.c (i := 2) rfl
  have f5 := j1.c (i := 3) rfl
  have f6 := j1.c (i := 4) rfl
  have f7 := j1.c (i := 5) rfl
  have f8 := j1.c (i := 6) rfl
  have f9 := j1.c (i := 7) rfl
  have f10 := j1.c (i := 8) rfl
  go_enter Tryd.func29, Tryd.ntmps29
  go_wp2_with fail
  clear f2 f3 f4 f5 f6 f7 f8 f9 f10
  have b1 := j1
  have b2 := Is.made (w.alloc (.cells #[.string nu, .int .i64 ku, .int .i64 au, .int .i64 xu, .int .i64 yu, .int .i64 zu, .int .i64 lou, .int .i64 hiu, .slice fpu flu fcu] 28 (0, 0))) #[.string ⟨#[]⟩, .int .i64 0, .int .i64 0, .int .i64 0, .int .i64 0, .int .i64 0, .int .i64 0, .int .i64 0, .slice none 0 0] 28
  simp only [World.size_alloc] at b2
  replace kx := (kx.alloc (.cells #[.string nu, .int .i64 ku, .int .i64 au, .int .i64 xu, .int .i64 yu, .int .i64 zu, .int .i64 lou, .int .i64 hiu, .slice fpu flu fcu] 28 (0, 0))).alloc (.cells #[.string ⟨#[]⟩, .int .i64 0, .int .i64 0, .int .i64 0, .int .i64 0, .int .i64 0, .int .i64 0, .int .i64 0, .slice none 0 0] 28 (0, 0))
  clear j1
  (with_reducible refine (((q1).out _)).mono ?_)
  rintro r w1 ⟨rfl, k1⟩
  replace b1 := b1.kb k1
  replace b2 := b2.kb k1
  replace kx := kx.trans k1
  have s1 := k1.size
  simp only [World.size_alloc] at s1
  clear k1
  have f11 := b1.c (i := 3) rfl
  have f12 := b1.c (i := 4) rfl
  have f13 := b1.c (i := 5) rfl
  have j14 := (Is.made w1 #[.int .i64 xu, .int .i64 yu, .int .i64 zu] 23)
  have f15 := j14.c (i := 1) rfl
  have f16 := j14.c (i := 0) rfl
  have f17 := j14.c (i := 2) rfl
  have j18 := ((Is.made w1 #[.int .i64 xu, .int .i64 yu, .int .i64 zu] 23).alloc (.cells #[.int .i64 z2, .int .i64 xu, .int .i64 zu] 23 (0, 0)))
  have f19 := j18.c (i := 2) rfl
  have f20 := j18.c (i := 1) rfl
  have f21 := j18.c (i := 0) rfl
  have j22 := ((b1.alloc (.cells #[.int .i64 xu, .int .i64 yu, .int .i64 zu] 23 (0, 0))).alloc (.cells #[.int .i64 zu, .int .i64 yu, .int .i64 z3] 23 (0, 0)))
  have f23 := j22.c (i := 0) rfl
  have f24 := j22.c (i := 1) rfl
  have f25 := j22.c (i := 2) rfl
  have f26 := j22.c (i := 3) rfl
  have f27 := j22.c (i := 4) rfl
  have f28 := j22.c (i := 5) rfl
  have f29 := j22.c (i := 6) rfl
  have f30 := j22.c (i := 7) rfl
  have f31 := j22.c (i := 8) rfl
  have j32 := (Is.made (w1.alloc (.cells #[.int .i64 xu, .int .i64 yu, .int .i64 zu] 23 (0, 0))) #[.int .i64 zu, .int .i64 yu, .int .i64 z3] 23)
  simp only [World.size_alloc] at j32
  have f33 := j32.c (i := 0) rfl
  have f34 := j32.c (i := 1) rfl
  have f35 := j32.c (i := 2) rfl
  go_wp2_with fail
  clear f11 f12 f13 f15 f16 f17 f19 f20 f21 f23 f24 f25 f26 f27 f28 f29 f30 f31 f33 f34 f35
  replace b1 := j22
  replace b2 := ((b2.alloc (.cells #[.int .i64 xu, .int .i64 yu, .int .i64 zu] 23 (0, 0))).alloc (.cells #[.int .i64 zu, .int .i64 yu, .int .i64 z3] 23 (0, 0)))
  have b3 := Is.made w1 #[.int .i64 xu, .int .i64 yu, .int .i64 zu] 23
  replace b3 := (b3.alloc (.cells #[.int .i64 zu, .int .i64 yu, .int .i64 z3] 23 (0, 0)))
  have b4 := j32
  replace kx := (kx.alloc (.cells #[.int .i64 xu, .int .i64 yu, .int .i64 zu] 23 (0, 0))).alloc (.cells #[.int .i64 zu, .int .i64 yu, .int .i64 z3] 23 (0, 0))
  clear j14 j18 j22 j32
  (with_reducible refine ((Ca.o (rat_any nu ku au xu yu zu lou hiu fpu flu fcu zu yu z3) _)).mono ?_)
  rintro r w2 ⟨rfl, k2⟩
  replace b1 := b1.kb k2
  replace b2 := b2.kb k2
  replace b3 := b3.kb k2
  replace b4 := b4.kb k2
  replace kx := kx.trans k2
  have s2 := k2.size
  simp only [World.size_alloc] at s2
  clear k2
  have j36 := (b1.alloc (.cells #[.string nu, .int .i64 ku, .int .i64 au, .int .i64 zu, .int .i64 yu, .int .i64 z3, .int .i64 lou, .int .i64 hiu, .slice fpu flu fcu] 28 (0, 0)))
  have f37 := j36.c (i := 1) rfl
  have j38 := (Is.made w2 #[.string nu, .int .i64 ku, .int .i64 au, .int .i64 zu, .int .i64 yu, .int .i64 z3, .int .i64 lou, .int .i64 hiu, .slice fpu flu fcu] 28)
  have f39 := j38.c (i := 0) rfl
  have f40 := j38.c (i := 1) rfl
  have f41 := j38.c (i := 2) rfl
  have f42 := j38.c (i := 3) rfl
  have f43 := j38.c (i := 4) rfl
  have f44 := j38.c (i := 5) rfl
  have f45 := j38.c (i := 6) rfl
  have f46 := j38.c (i := 7) rfl
  have f47 := j38.c (i := 8) rfl
  have j48 := (b2.alloc (.cells #[.string nu, .int .i64 ku, .int .i64 au, .int .i64 zu, .int .i64 yu, .int .i64 z3, .int .i64 lou, .int .i64 hiu, .slice fpu flu fcu] 28 (0, 0)))
  have f49 := j48.c (i := 0) rfl
  have f50 := j48.f 0
  have f51 := j48.c (i := 1) rfl
  have f52 := j48.f 1
  have f53 := j48.c (i := 2) rfl
  have f54 := j48.f 2
  have f55 := j48.c (i := 3) rfl
  have f56 := j48.f 3
  have f57 := j48.c (i := 4) rfl
  have f58 := j48.f 4
  have f59 := j48.c (i := 5) rfl
  have f60 := j48.f 5
  have f61 := j48.c (i := 6) rfl
  have f62 := j48.f 6
  have f63 := j48.c (i := 7) rfl
  have f64 := j48.f 7
  have f65 := j48.c (i := 8) rfl
  have f66 := j48.f 8
  go_wp2
  clear f37 f39 f40 f41 f42 f43 f44 f45 f46 f47 f49 f50 f51 f52 f53 f54 f55 f56 f57 f58 f59 f60 f61 f62 f63 f64 f65 f66
  replace b2 := (b2.alloc (.cells #[.string nu, .int .i64 ku, .int .i64 au, .int .i64 zu, .int .i64 yu, .int .i64 z3, .int .i64 lou, .int .i64 hiu, .slice fpu flu fcu] 28 (0, 0)))
  replace b2 : Is _ _ #[.string nu, .int .i64 0, .int .i64 0, .int .i64 0, .int .i64 0, .int .i64 0, .int .i64 0, .int .i64 0, .slice none 0 0] _ := b2.set 0 (.string nu)
  replace b2 : Is _ _ #[.string nu, .int .i64 ku, .int .i64 0, .int .i64 0, .int .i64 0, .int .i64 0, .int .i64 0, .int .i64 0, .slice none 0 0] _ := b2.set 1 (.int .i64 ku)
  replace b2 : Is _ _ #[.string nu, .int .i64 ku, .int .i64 au, .int .i64 0, .int .i64 0, .int .i64 0, .int .i64 0, .int .i64 0, .slice none 0 0] _ := b2.set 2 (.int .i64 au)
  replace b2 : Is _ _ #[.string nu, .int .i64 ku, .int .i64 au, .int .i64 zu, .int .i64 0, .int .i64 0, .int .i64 0, .int .i64 0, .slice none 0 0] _ := b2.set 3 (.int .i64 zu)
  replace b2 : Is _ _ #[.string nu, .int .i64 ku, .int .i64 au, .int .i64 zu, .int .i64 yu, .int .i64 0, .int .i64 0, .int .i64 0, .slice none 0 0] _ := b2.set 4 (.int .i64 yu)
  replace b2 : Is _ _ #[.string nu, .int .i64 ku, .int .i64 au, .int .i64 zu, .int .i64 yu, .int .i64 z3, .int .i64 0, .int .i64 0, .slice none 0 0] _ := b2.set 5 (.int .i64 z3)
  replace b2 : Is _ _ #[.string nu, .int .i64 ku, .int .i64 au, .int .i64 zu, .int .i64 yu, .int .i64 z3, .int .i64 lou, .int .i64 0, .slice none 0 0] _ := b2.set 6 (.int .i64 lou)
  replace b2 : Is _ _ #[.string nu, .int .i64 ku, .int .i64 au, .int .i64 zu, .int .i64 yu, .int .i64 z3, .int .i64 lou, .int .i64 hiu, .slice none 0 0] _ := b2.set 7 (.int .i64 hiu)
  replace b2 : Is _ _ #[.string nu, .int .i64 ku, .int .i64 au, .int .i64 zu, .int .i64 yu, .int .i64 z3, .int .i64 lou, .int .i64 hiu, .slice fpu flu fcu] _ := b2.set 8 (.slice fpu flu fcu)
  replace kx := (((((((((kx.alloc (.cells #[.string nu, .int .i64 ku, .int .i64 au, .int .i64 zu, .int .i64 yu, .int .i64 z3, .int .i64 lou, .int .i64 hiu, .slice fpu flu fcu] 28 (0, 0))).setCell (p := ⟨w.heap.size + 1, 0, none⟩) (show w.heap.size ≤ w.heap.size + 1 by omega) (.string nu)).setCell (p := ⟨w.heap.size + 1, 1, none⟩) (show w.heap.size ≤ w.heap.size + 1 by omega) (.int .i64 ku)).setCell (p := ⟨w.heap.size + 1, 2, none⟩) (show w.heap.size ≤ w.heap.size + 1 by omega) (.int .i64 au)).setCell (p := ⟨w.heap.size + 1, 3, none⟩) (show w.heap.size ≤ w.heap.size + 1 by omega) (.int .i64 zu)).setCell (p := ⟨w.heap.size + 1, 4, none⟩) (show w.heap.size ≤ w.heap.size + 1 by omega) (.int .i64 yu)).setCell (p := ⟨w.heap.size + 1, 5, none⟩) (show w.heap.size ≤ w.heap.size + 1 by omega) (.int .i64 z3)).setCell (p := ⟨w.heap.size + 1, 6, none⟩) (show w.heap.size ≤ w.heap.size + 1 by omega) (.int .i64 lou)).setCell (p := ⟨w.heap.size + 1, 7, none⟩) (show w.heap.size ≤ w.heap.size + 1 by omega) (.int .i64 hiu)).setCell (p := ⟨w.heap.size + 1, 8, none⟩) (show w.heap.size ≤ w.heap.size + 1 by omega) (.slice fpu flu fcu)
  refine ret_row2 Tryd.results29 rfl rfl rfl b2 Tryd.underlying28 rfl (by kernel_rfl) ?_
  exact ⟨rfl, kx⟩
set_option maxRecDepth 100000 in
theorem rTurn1_any (nu : ByteArray) (ku : Int) (au : Int) (xu : Int) (yu : Int) (zu : Int) (lou : Int) (hiu : Int) (fpu : Option Addr) (flu : Nat) (fcu : Nat) (r1 : Int) (q1 : Ca 55 #[.agg #[.string nu, .int .i64 ku, .int .i64 au, .int .i64 xu, .int .i64 yu, .int .i64 zu, .int .i64 lou, .int .i64 hiu, .slice fpu flu fcu], .int .i64 1] (.int .i64 r1))  : Ca 29 #[.agg #[.string nu, .int .i64 ku, .int .i64 au, .int .i64 xu, .int .i64 yu, .int .i64 zu, .int .i64 lou, .int .i64 hiu, .slice fpu flu fcu], .int .i64 1] (if (r1 != 0) = true then (.tuple #[.agg #[.string ⟨#[]⟩, .int .i64 0, .int .i64 0, .int .i64 0, .int .i64 0, .int .i64 0, .int .i64 0, .int .i64 0, .slice none 0 0], .int .i64 r1]) else (if (ku != 4) = true then (if (au != 1) = true then (.tuple #[.agg #[.string nu, .int .i64 ku, .int .i64 (wrap64 (2 - au)), .int .i64 zu, .int .i64 yu, .int .i64 (wrap64 (-xu)), .int .i64 lou, .int .i64 hiu, .slice fpu flu fcu], .int .i64 0]) else (.tuple #[.agg #[.string nu, .int .i64 ku, .int .i64 au, .int .i64 zu, .int .i64 yu, .int .i64 (wrap64 (-xu)), .int .i64 lou, .int .i64 hiu, .slice fpu flu fcu], .int .i64 0])) else (.tuple #[.agg #[.string nu, .int .i64 ku, .int .i64 au, .int .i64 zu, .int .i64 yu, .int .i64 (wrap64 (-xu)), .int .i64 lou, .int .i64 hiu, .slice fpu flu fcu], .int .i64 0]))) := Lib.hid fun w => by
  rcases Bool.eq_false_or_eq_true (r1 != 0) with h1 | h1
  · rw [if_pos h1]
    exact rTurn1_1 nu ku au xu yu zu lou hiu fpu flu fcu r1 q1 h1 w
  · rw [if_neg (by rw [h1]; decide)]
    rcases Bool.eq_false_or_eq_true (ku != 4) with h2 | h2
    · rw [if_pos h2]
      rcases Bool.eq_false_or_eq_true (au != 1) with h3 | h3
      · rw [if_pos h3]
        exact rTurn1_2 nu ku au xu yu zu lou hiu fpu flu fcu r1 ((wrap64 (-yu))) ((wrap64 (-xu))) ((wrap64 (2 - au))) rfl rfl rfl q1 h1 h2 h3 w
      · rw [if_neg (by rw [h3]; decide)]
        exact rTurn1_3 nu ku au xu yu zu lou hiu fpu flu fcu r1 ((wrap64 (-yu))) ((wrap64 (-xu))) rfl rfl q1 h1 h2 h3 w
    · rw [if_neg (by rw [h2]; decide)]
      exact rTurn1_4 nu ku au xu yu zu lou hiu fpu flu fcu r1 ((wrap64 (-yu))) ((wrap64 (-xu))) rfl rfl q1 h1 h2 w
set_option maxRecDepth 100000 in
set_option maxHeartbeats 4000000 in
theorem rTurn2_1 (nu : ByteArray) (ku : Int) (au : Int) (xu : Int) (yu : Int) (zu : Int) (lou : Int) (hiu : Int) (fpu : Option Addr) (flu : Nat) (fcu : Nat) (r1 : Int)   (q1 : Ca 55 #[.agg #[.string nu, .int .i64 ku, .int .i64 au, .int .i64 xu, .int .i64 yu, .int .i64 zu, .int .i64 lou, .int .i64 hiu, .slice fpu flu fcu], .int .i64 2] (.int .i64 r1))  (h1 : (r1 != 0) = true) (w : World)  : Calls Tryd.prog 29 #[.agg #[.string nu, .int .i64 ku, .int .i64 au, .int .i64 xu, .int .i64 yu, .int .i64 zu, .int .i64 lou, .int .i64 hiu, .slice fpu flu fcu], .int .i64 2] w fun r W' => r = .returned (.tuple #[.agg #[.string ⟨#[]⟩, .int .i64 0, .int .i64 0, .int .i64 0, .int .i64 0, .int .i64 0, .int .i64 0, .int .i64 0, .slice none 0 0], .int .i64 r1]) ∧ Kb w W' := by
  have kx := Kb.refl w
  unfold Ca at q1
  have j1 := ((Is.made w #[.string nu, .int .i64 ku, .int .i64 au, .int .i64 xu, .int .i64 yu, .int .i64 zu, .int .i64 lou, .int .i64 hiu, .slice fpu flu fcu] 28).alloc (.cells #[.string ⟨#[]⟩, .int .i64 0, .int .i64 0, .int .i64 0, .int .i64 0, .int .i64 0, .int .i64 0, .int .i64 0, .slice none 0 0] 28 (0, 0)))
  have f2 := j1.c (i := 0) rfl
  have f3 := j1.c (i := 1) rfl
  have f4 := j1.c (i := 2) rfl
  have f5 := j1.c (i := 3) rfl
  have f6 := j1.c (i := 4) rfl
  have f7 := j1.c (i := 5) rfl
  have f8 := j1.c (i := 6) rfl
  have f9 := j1.c (i := 7) rfl
  have f10 := j1.c (i := 8) rfl
  go_enter Tryd.func29, Tryd.ntmps29
  go_wp2_with fail
  clear f2 f3 f4 f5 f6 f7 f8 f9 f10
  have b1 := j1
  have b2 := Is.made (w.alloc (.cells #[.string nu, .int .i64 ku, .int .i64 au, .int .i64 xu, .int .i64 yu, .int .i64 zu, .int .i64 lou, .int .i64 hiu, .slice fpu flu fcu] 28 (0, 0))) #[.string ⟨#[]⟩, .int .i64 0, .int .i64 0, .int .i64 0, .int .i64 0, .int .i64 0, .int .i64 0, .int .i64 0, .slice none 0 0] 28
  simp only [World.size_alloc] at b2
  replace kx := (kx.alloc (.cells #[.string nu, .int .i64 ku, .int .i64 au, .int .i64 xu, .int .i64 yu, .int .i64 zu, .int .i64 lou, .int .i64 hiu, .slice fpu flu fcu] 28 (0, 0))).alloc (.cells #[.string ⟨#[]⟩, .int .i64 0, .int .i64 0, .int .i64 0, .int .i64 0, .int .i64 0, .int .i64 0, .int .i64 0, .slice none 0 0] 28 (0, 0))
  clear j1
  (with_reducible refine (((q1).out _)).mono ?_)
  rintro r w1 ⟨rfl, k1⟩
  replace b1 := b1.kb k1
  replace b2 := b2.kb k1
  replace kx := kx.trans k1
  have s1 := k1.size
  simp only [World.size_alloc] at s1
  clear k1
  have f11 := b2.c (i := 0) rfl
  have f12 := b2.f 0
  have f13 := b2.c (i := 1) rfl
  have f14 := b2.f 1
  have f15 := b2.c (i := 2) rfl
  have f16 := b2.f 2
  have f17 := b2.c (i := 3) rfl
  have f18 := b2.f 3
  have f19 := b2.c (i := 4) rfl
  have f20 := b2.f 4
  have f21 := b2.c (i := 5) rfl
  have f22 := b2.f 5
  have f23 := b2.c (i := 6) rfl
  have f24 := b2.f 6
  have f25 := b2.c (i := 7) rfl
  have f26 := b2.f 7
  have f27 := b2.c (i := 8) rfl
  have f28 := b2.f 8
  go_wp2
  clear f11 f12 f13 f14 f15 f16 f17 f18 f19 f20 f21 f22 f23 f24 f25 f26 f27 f28
  replace b2 : Is _ _ #[.string ⟨#[]⟩, .int .i64 0, .int .i64 0, .int .i64 0, .int .i64 0, .int .i64 0, .int .i64 0, .int .i64 0, .slice none 0 0] _ := b2.set 0 (.string ⟨#[]⟩)
  replace b2 : Is _ _ #[.string ⟨#[]⟩, .int .i64 0, .int .i64 0, .int .i64 0, .int .i64 0, .int .i64 0, .int .i64 0, .int .i64 0, .slice none 0 0] _ := b2.set 1 (.int .i64 0)
  replace b2 : Is _ _ #[.string ⟨#[]⟩, .int .i64 0, .int .i64 0, .int .i64 0, .int .i64 0, .int .i64 0, .int .i64 0, .int .i64 0, .slice none 0 0] _ := b2.set 2 (.int .i64 0)
  replace b2 : Is _ _ #[.string ⟨#[]⟩, .int .i64 0, .int .i64 0, .int .i64 0, .int .i64 0, .int .i64 0, .int .i64 0, .int .i64 0, .slice none 0 0] _ := b2.set 3 (.int .i64 0)
  replace b2 : Is _ _ #[.string ⟨#[]⟩, .int .i64 0, .int .i64 0, .int .i64 0, .int .i64 0, .int .i64 0, .int .i64 0, .int .i64 0, .slice none 0 0] _ := b2.set 4 (.int .i64 0)
  replace b2 : Is _ _ #[.string ⟨#[]⟩, .int .i64 0, .int .i64 0, .int .i64 0, .int .i64 0, .int .i64 0, .int .i64 0, .int .i64 0, .slice none 0 0] _ := b2.set 5 (.int .i64 0)
  replace b2 : Is _ _ #[.string ⟨#[]⟩, .int .i64 0, .int .i64 0, .int .i64 0, .int .i64 0, .int .i64 0, .int .i64 0, .int .i64 0, .slice none 0 0] _ := b2.set 6 (.int .i64 0)
  replace b2 : Is _ _ #[.string ⟨#[]⟩, .int .i64 0, .int .i64 0, .int .i64 0, .int .i64 0, .int .i64 0, .int .i64 0, .int .i64 0, .slice none 0 0] _ := b2.set 7 (.int .i64 0)
  replace b2 : Is _ _ #[.string ⟨#[]⟩, .int .i64 0, .int .i64 0, .int .i64 0, .int .i64 0, .int .i64 0, .int .i64 0, .int .i64 0, .slice none 0 0] _ := b2.set 8 (.slice none 0 0)
  replace kx := ((((((((kx.setCell (p := ⟨w.heap.size + 1, 0, none⟩) (show w.heap.size ≤ w.heap.size + 1 by omega) (.string ⟨#[]⟩)).setCell (p := ⟨w.heap.size + 1, 1, none⟩) (show w.heap.size ≤ w.heap.size + 1 by omega) (.int .i64 0)).setCell (p := ⟨w.heap.size + 1, 2, none⟩) (show w.heap.size ≤ w.heap.size + 1 by omega) (.int .i64 0)).setCell (p := ⟨w.heap.size + 1, 3, none⟩) (show w.heap.size ≤ w.heap.size + 1 by omega) (.int .i64 0)).setCell (p := ⟨w.heap.size + 1, 4, none⟩) (show w.heap.size ≤ w.heap.size + 1 by omega) (.int .i64 0)).setCell (p := ⟨w.heap.size + 1, 5, none⟩) (show w.heap.size ≤ w.heap.size + 1 by omega) (.int .i64 0)).setCell (p := ⟨w.heap.size + 1, 6, none⟩) (show w.heap.size ≤ w.heap.size + 1 by omega) (.int .i64 0)).setCell (p := ⟨w.heap.size + 1, 7, none⟩) (show w.heap.size ≤ w.heap.size + 1 by omega) (.int .i64 0)).setCell (p := ⟨w.heap.size + 1, 8, none⟩) (show w.heap.size ≤ w.heap.size + 1 by omega) (.slice none 0 0)
  refine ret_row2 Tryd.results29 rfl rfl rfl b2 Tryd.underlying28 rfl (by kernel_rfl) ?_
  exact ⟨rfl, kx⟩
set_option maxRecDepth 100000 in
set_option maxHeartbeats 4000000 in
theorem rTurn2_2 (nu : ByteArray) (ku : Int) (au : Int) (xu : Int) (yu : Int) (zu : Int) (lou : Int) (hiu : Int) (fpu : Option Addr) (flu : Nat) (fcu : Nat) (r1 : Int) (z2 : Int) (z3 : Int) (a1 : wrap64 (-yu) = z2) (a2 : wrap64 (1 - au) = z3) (q1 : Ca 55 #[.agg #[.string nu, .int .i64 ku, .int .i64 au, .int .i64 xu, .int .i64 yu, .int .i64 zu, .int .i64 lou, .int .i64 hiu, .slice fpu flu fcu], .int .i64 2] (.int .i64 r1))  (h1 : (r1 != 0) = false) (h2 : (ku != 4) = true) (h3 : (au != 2) = true) (w : World)  : Calls Tryd.prog 29 #[.agg #[.string nu, .int .i64 ku, .int .i64 au, .int .i64 xu, .int .i64 yu, .int .i64 zu, .int .i64 lou, .int .i64 hiu, .slice fpu flu fcu], .int .i64 2] w fun r W' => r = .returned (.tuple #[.agg #[.string nu, .int .i64 ku, .int .i64 z3, .int .i64 z2, .int .i64 xu, .int .i64 zu, .int .i64 lou, .int .i64 hiu, .slice fpu flu fcu], .int .i64 0]) ∧ Kb w W' := by
  have kx := Kb.refl w
  unfold Ca at q1
  have a1' : IntKind.i64.wrap (-yu) = z2 := (Go.IntWalk.i64_left _).trans a1
  have a2' : IntKind.i64.wrap (1 - au) = z3 := (Go.IntWalk.i64_left _).trans a2
  have j1 := ((Is.made w #[.string nu, .int .i64 ku, .int .i64 au, .int .i64 xu, .int .i64 yu, .int .i64 zu, .int .i64 lou, .int .i64 hiu, .slice fpu flu fcu] 28).alloc (.cells #[.string ⟨#[]⟩, .int .i64 0, .int .i64 0, .int .i64 0, .int .i64 0, .int .i64 0, .int .i64 0, .int .i64 0, .slice none 0 0] 28 (0, 0)))
  have f2 := j1.c (i := 0) rfl
  have f3 := j1.c (i := 1) rfl
  have f4 := j1.c (i := 2) rfl
  have f5 := j1.c (i := 3) rfl
  have f6 := j1.c (i := 4) rfl
  have f7 := j1.c (i := 5) rfl
  have f8 := j1.c (i := 6) rfl
  have f9 := j1.c (i := 7) rfl
  have f10 := j1.c (i := 8) rfl
  go_enter Tryd.func29, Tryd.ntmps29
  go_wp2_with fail
  clear f2 f3 f4 f5 f6 f7 f8 f9 f10
  have b1 := j1
  have b2 := Is.made (w.alloc (.cells #[.string nu, .int .i64 ku, .int .i64 au, .int .i64 xu, .int .i64 yu, .int .i64 zu, .int .i64 lou, .int .i64 hiu, .slice fpu flu fcu] 28 (0, 0))) #[.string ⟨#[]⟩, .int .i64 0, .int .i64 0, .int .i64 0, .int .i64 0, .int .i64 0, .int .i64 0, .int .i64 0, .slice none 0 0] 28
  simp only [World.size_alloc] at b2
  replace kx := (kx.alloc (.cells #[.string nu, .int .i64 ku, .int .i64 au, .int .i64 xu, .int .i64 yu, .int .i64 zu, .int .i64 lou, .int .i64 hiu, .slice fpu flu fcu] 28 (0, 0))).alloc (.cells #[.string ⟨#[]⟩, .int .i64 0, .int .i64 0, .int .i64 0, .int .i64 0, .int .i64 0, .int .i64 0, .int .i64 0, .slice none 0 0] 28 (0, 0))
  clear j1
  (with_reducible refine (((q1).out _)).mono ?_)
  rintro r w1 ⟨rfl, k1⟩
  replace b1 := b1.kb k1
  replace b2 := b2.kb k1
  replace kx := kx.trans k1
  have s1 := k1.size
  simp only [World.size_alloc] at s1
  clear k1
  have f11 := b1.c (i := 3) rfl
  have f12 := b1.c (i := 4) rfl
  have f13 := b1.c (i := 5) rfl
  have j14 := (Is.made w1 #[.int .i64 xu, .int .i64 yu, .int .i64 zu] 23)
  have f15 := j14.c (i := 1) rfl
  have f16 := j14.c (i := 0) rfl
  have f17 := j14.c (i := 2) rfl
  have j18 := ((b1.alloc (.cells #[.int .i64 xu, .int .i64 yu, .int .i64 zu] 23 (0, 0))).alloc (.cells #[.int .i64 z2, .int .i64 xu, .int .i64 zu] 23 (0, 0)))
  have f19 := j18.c (i := 0) rfl
  have f20 := j18.c (i := 1) rfl
  have f21 := j18.c (i := 2) rfl
  have f22 := j18.c (i := 3) rfl
  have f23 := j18.c (i := 4) rfl
  have f24 := j18.c (i := 5) rfl
  have f25 := j18.c (i := 6) rfl
  have f26 := j18.c (i := 7) rfl
  have f27 := j18.c (i := 8) rfl
  have j28 := (Is.made (w1.alloc (.cells #[.int .i64 xu, .int .i64 yu, .int .i64 zu] 23 (0, 0))) #[.int .i64 z2, .int .i64 xu, .int .i64 zu] 23)
  simp only [World.size_alloc] at j28
  have f29 := j28.c (i := 0) rfl
  have f30 := j28.c (i := 1) rfl
  have f31 := j28.c (i := 2) rfl
  go_wp2_with fail
  clear f11 f12 f13 f15 f16 f17 f19 f20 f21 f22 f23 f24 f25 f26 f27 f29 f30 f31
  replace b1 := j18
  replace b2 := ((b2.alloc (.cells #[.int .i64 xu, .int .i64 yu, .int .i64 zu] 23 (0, 0))).alloc (.cells #[.int .i64 z2, .int .i64 xu, .int .i64 zu] 23 (0, 0)))
  have b3 := Is.made w1 #[.int .i64 xu, .int .i64 yu, .int .i64 zu] 23
  replace b3 := (b3.alloc (.cells #[.int .i64 z2, .int .i64 xu, .int .i64 zu] 23 (0, 0)))
  have b4 := j28
  replace kx := (kx.alloc (.cells #[.int .i64 xu, .int .i64 yu, .int .i64 zu] 23 (0, 0))).alloc (.cells #[.int .i64 z2, .int .i64 xu, .int .i64 zu] 23 (0, 0))
  clear j14 j18 j28
  (with_reducible refine ((Ca.o (rat_any nu ku au xu yu zu lou hiu fpu flu fcu z2 xu zu) _)).mono ?_)
  rintro r w2 ⟨rfl, k2⟩
  replace b1 := b1.kb k2
  replace b2 := b2.kb k2
  replace b3 := b3.kb k2
  replace b4 := b4.kb k2
  replace kx := kx.trans k2
  have s2 := k2.size
  simp only [World.size_alloc] at s2
  clear k2
  have j32 := (b1.alloc (.cells #[.string nu, .int .i64 ku, .int .i64 au, .int .i64 z2, .int .i64 xu, .int .i64 zu, .int .i64 lou, .int .i64 hiu, .slice fpu flu fcu] 28 (0, 0)))
  have f33 := j32.c (i := 1) rfl
  have f34 := j32.c (i := 2) rfl
  have j35 := (Is.made w2 #[.string nu, .int .i64 ku, .int .i64 z3, .int .i64 z2, .int .i64 xu, .int .i64 zu, .int .i64 lou, .int .i64 hiu, .slice fpu flu fcu] 28)
  have f36 := j35.c (i := 0) rfl
  have f37 := j35.c (i := 1) rfl
  have f38 := j35.c (i := 2) rfl
  have f39 := j35.c (i := 3) rfl
  have f40 := j35.c (i := 4) rfl
  have f41 := j35.c (i := 5) rfl
  have f42 := j35.c (i := 6) rfl
  have f43 := j35.c (i := 7) rfl
  have f44 := j35.c (i := 8) rfl
  have j45 := (b2.alloc (.cells #[.string nu, .int .i64 ku, .int .i64 z3, .int .i64 z2, .int .i64 xu, .int .i64 zu, .int .i64 lou, .int .i64 hiu, .slice fpu flu fcu] 28 (0, 0)))
  have f46 := j45.c (i := 0) rfl
  have f47 := j45.f 0
  have f48 := j45.c (i := 1) rfl
  have f49 := j45.f 1
  have f50 := j45.c (i := 2) rfl
  have f51 := j45.f 2
  have f52 := j45.c (i := 3) rfl
  have f53 := j45.f 3
  have f54 := j45.c (i := 4) rfl
  have f55 := j45.f 4
  have f56 := j45.c (i := 5) rfl
  have f57 := j45.f 5
  have f58 := j45.c (i := 6) rfl
  have f59 := j45.f 6
  have f60 := j45.c (i := 7) rfl
  have f61 := j45.f 7
  have f62 := j45.c (i := 8) rfl
  have f63 := j45.f 8
  go_wp2
  clear f33 f34 f36 f37 f38 f39 f40 f41 f42 f43 f44 f46 f47 f48 f49 f50 f51 f52 f53 f54 f55 f56 f57 f58 f59 f60 f61 f62 f63
  replace b2 := (b2.alloc (.cells #[.string nu, .int .i64 ku, .int .i64 z3, .int .i64 z2, .int .i64 xu, .int .i64 zu, .int .i64 lou, .int .i64 hiu, .slice fpu flu fcu] 28 (0, 0)))
  replace b2 : Is _ _ #[.string nu, .int .i64 0, .int .i64 0, .int .i64 0, .int .i64 0, .int .i64 0, .int .i64 0, .int .i64 0, .slice none 0 0] _ := b2.set 0 (.string nu)
  replace b2 : Is _ _ #[.string nu, .int .i64 ku, .int .i64 0, .int .i64 0, .int .i64 0, .int .i64 0, .int .i64 0, .int .i64 0, .slice none 0 0] _ := b2.set 1 (.int .i64 ku)
  replace b2 : Is _ _ #[.string nu, .int .i64 ku, .int .i64 z3, .int .i64 0, .int .i64 0, .int .i64 0, .int .i64 0, .int .i64 0, .slice none 0 0] _ := b2.set 2 (.int .i64 z3)
  replace b2 : Is _ _ #[.string nu, .int .i64 ku, .int .i64 z3, .int .i64 z2, .int .i64 0, .int .i64 0, .int .i64 0, .int .i64 0, .slice none 0 0] _ := b2.set 3 (.int .i64 z2)
  replace b2 : Is _ _ #[.string nu, .int .i64 ku, .int .i64 z3, .int .i64 z2, .int .i64 xu, .int .i64 0, .int .i64 0, .int .i64 0, .slice none 0 0] _ := b2.set 4 (.int .i64 xu)
  replace b2 : Is _ _ #[.string nu, .int .i64 ku, .int .i64 z3, .int .i64 z2, .int .i64 xu, .int .i64 zu, .int .i64 0, .int .i64 0, .slice none 0 0] _ := b2.set 5 (.int .i64 zu)
  replace b2 : Is _ _ #[.string nu, .int .i64 ku, .int .i64 z3, .int .i64 z2, .int .i64 xu, .int .i64 zu, .int .i64 lou, .int .i64 0, .slice none 0 0] _ := b2.set 6 (.int .i64 lou)
  replace b2 : Is _ _ #[.string nu, .int .i64 ku, .int .i64 z3, .int .i64 z2, .int .i64 xu, .int .i64 zu, .int .i64 lou, .int .i64 hiu, .slice none 0 0] _ := b2.set 7 (.int .i64 hiu)
  replace b2 : Is _ _ #[.string nu, .int .i64 ku, .int .i64 z3, .int .i64 z2, .int .i64 xu, .int .i64 zu, .int .i64 lou, .int .i64 hiu, .slice fpu flu fcu] _ := b2.set 8 (.slice fpu flu fcu)
  replace kx := (((((((((kx.alloc (.cells #[.string nu, .int .i64 ku, .int .i64 z3, .int .i64 z2, .int .i64 xu, .int .i64 zu, .int .i64 lou, .int .i64 hiu, .slice fpu flu fcu] 28 (0, 0))).setCell (p := ⟨w.heap.size + 1, 0, none⟩) (show w.heap.size ≤ w.heap.size + 1 by omega) (.string nu)).setCell (p := ⟨w.heap.size + 1, 1, none⟩) (show w.heap.size ≤ w.heap.size + 1 by omega) (.int .i64 ku)).setCell (p := ⟨w.heap.size + 1, 2, none⟩) (show w.heap.size ≤ w.heap.size + 1 by omega) (.int .i64 z3)).setCell (p := ⟨w.heap.size + 1, 3, none⟩) (show w.heap.size ≤ w.heap.size + 1 by omega) (.int .i64 z2)).setCell (p := ⟨w.heap.size + 1, 4, none⟩) (show w.heap.size ≤ w.heap.size + 1 by omega) (.int .i64 xu)).setCell (p := ⟨w.heap.size + 1, 5, none⟩) (show w.heap.size ≤ w.heap.size + 1 by omega) (.int .i64 zu)).setCell (p := ⟨w.heap.size + 1, 6, none⟩) (show w.heap.size ≤ w.heap.size + 1 by omega) (.int .i64 lou)).setCell (p := ⟨w.heap.size + 1, 7, none⟩) (show w.heap.size ≤ w.heap.size + 1 by omega) (.int .i64 hiu)).setCell (p := ⟨w.heap.size + 1, 8, none⟩) (show w.heap.size ≤ w.heap.size + 1 by omega) (.slice fpu flu fcu)
  refine ret_row2 Tryd.results29 rfl rfl rfl b2 Tryd.underlying28 rfl (by kernel_rfl) ?_
  exact ⟨rfl, kx⟩
set_option maxRecDepth 100000 in
set_option maxHeartbeats 4000000 in
theorem rTurn2_3 (nu : ByteArray) (ku : Int) (au : Int) (xu : Int) (yu : Int) (zu : Int) (lou : Int) (hiu : Int) (fpu : Option Addr) (flu : Nat) (fcu : Nat) (r1 : Int) (z2 : Int) (a1 : wrap64 (-yu) = z2) (q1 : Ca 55 #[.agg #[.string nu, .int .i64 ku, .int .i64 au, .int .i64 xu, .int .i64 yu, .int .i64 zu, .int .i64 lou, .int .i64 hiu, .slice fpu flu fcu], .int .i64 2] (.int .i64 r1))  (h1 : (r1 != 0) = false) (h2 : (ku != 4) = true) (h3 : (au != 2) = false) (w : World)  : Calls Tryd.prog 29 #[.agg #[.string nu, .int .i64 ku, .int .i64 au, .int .i64 xu, .int .i64 yu, .int .i64 zu, .int .i64 lou, .int .i64 hiu, .slice fpu flu fcu], .int .i64 2] w fun r W' => r = .returned (.tuple #[.agg #[.string nu, .int .i64 ku, .int .i64 au, .int .i64 z2, .int .i64 xu, .int .i64 zu, .int .i64 lou, .int .i64 hiu, .slice fpu flu fcu], .int .i64 0]) ∧ Kb w W' := by
  have kx := Kb.refl w
  unfold Ca at q1
  have a1' : IntKind.i64.wrap (-yu) = z2 := (Go.IntWalk.i64_left _).trans a1
  have j1 := ((Is.made w #[.string nu, .int .i64 ku, .int .i64 au, .int .i64 xu, .int .i64 yu, .int .i64 zu, .int .i64 lou, .int .i64 hiu, .slice fpu flu fcu] 28).alloc (.cells #[.string ⟨#[]⟩, .int .i64 0, .int .i64 0, .int .i64 0, .int .i64 0, .int .i64 0, .int .i64 0, .int .i64 0, .slice none 0 0] 28 (0, 0)))
  have f2 := j1.c (i := 0) rfl
  have f3 := j1.c (i := 1) rfl
  have f4 := j1.c (i := 2) rfl
  have f5 := j1.c (i := 3) rfl
  have f6 := j1.c (i := 4) rfl
  have f7 := j1.c (i := 5) rfl
  have f8 := j1.c (i := 6) rfl
  have f9 := j1.c (i := 7) rfl
  have f10 := j1.c (i := 8) rfl
  go_enter Tryd.func29, Tryd.ntmps29
  go_wp2_with fail
  clear f2 f3 f4 f5 f6 f7 f8 f9 f10
  have b1 := j1
  have b2 := Is.made (w.alloc (.cells #[.string nu, .int .i64 ku, .int .i64 au, .int .i64 xu, .int .i64 yu, .int .i64 zu, .int .i64 lou, .int .i64 hiu, .slice fpu flu fcu] 28 (0, 0))) #[.string ⟨#[]⟩, .int .i64 0, .int .i64 0, .int .i64 0, .int .i64 0, .int .i64 0, .int .i64 0, .int .i64 0, .slice none 0 0] 28
  simp only [World.size_alloc] at b2
  replace kx := (kx.alloc (.cells #[.string nu, .int .i64 ku, .int .i64 au, .int .i64 xu, .int .i64 yu, .int .i64 zu, .int .i64 lou, .int .i64 hiu, .slice fpu flu fcu] 28 (0, 0))).alloc (.cells #[.string ⟨#[]⟩, .int .i64 0, .int .i64 0, .int .i64 0, .int .i64 0, .int .i64 0, .int .i64 0, .int .i64 0, .slice none 0 0] 28 (0, 0))
  clear j1
  (with_reducible refine (((q1).out _)).mono ?_)
  rintro r w1 ⟨rfl, k1⟩
  replace b1 := b1.kb k1
  replace b2 := b2.kb k1
  replace kx := kx.trans k1
  have s1 := k1.size
  simp only [World.size_alloc] at s1
  clear k1
  have f11 := b1.c (i := 3) rfl
  have f12 := b1.c (i := 4) rfl
  have f13 := b1.c (i := 5) rfl
  have j14 := (Is.made w1 #[.int .i64 xu, .int .i64 yu, .int .i64 zu] 23)
  have f15 := j14.c (i := 1) rfl
  have f16 := j14.c (i := 0) rfl
  have f17 := j14.c (i := 2) rfl
  have j18 := ((b1.alloc (.cells #[.int .i64 xu, .int .i64 yu, .int .i64 zu] 23 (0, 0))).alloc (.cells #[.int .i64 z2, .int .i64 xu, .int .i64 zu] 23 (0, 0)))
  have f19 := j18.c (i := 0) rfl
  have f20 := j18.c (i := 1) rfl
  have f21 := j18.c (i := 2) rfl
  have f22 := j18.c (i := 3) rfl
  have f23 := j18.c (i := 4) rfl
  have f24 := j18.c (i := 5) rfl
  have f25 := j18.c (i := 6) rfl
  have f26 := j18.c (i := 7) rfl
  have f27 := j18.c (i := 8) rfl
  have j28 := (Is.made (w1.alloc (.cells #[.int .i64 xu, .int .i64 yu, .int .i64 zu] 23 (0, 0))) #[.int .i64 z2, .int .i64 xu, .int .i64 zu] 23)
  simp only [World.size_alloc] at j28
  have f29 := j28.c (i := 0) rfl
  have f30 := j28.c (i := 1) rfl
  have f31 := j28.c (i := 2) rfl
  go_wp2_with fail
  clear f11 f12 f13 f15 f16 f17 f19 f20 f21 f22 f23 f24 f25 f26 f27 f29 f30 f31
  replace b1 := j18
  replace b2 := ((b2.alloc (.cells #[.int .i64 xu, .int .i64 yu, .int .i64 zu] 23 (0, 0))).alloc (.cells #[.int .i64 z2, .int .i64 xu, .int .i64 zu] 23 (0, 0)))
  have b3 := Is.made w1 #[.int .i64 xu, .int .i64 yu, .int .i64 zu] 23
  replace b3 := (b3.alloc (.cells #[.int .i64 z2, .int .i64 xu, .int .i64 zu] 23 (0, 0)))
  have b4 := j28
  replace kx := (kx.alloc (.cells #[.int .i64 xu, .int .i64 yu, .int .i64 zu] 23 (0, 0))).alloc (.cells #[.int .i64 z2, .int .i64 xu, .int .i64 zu] 23 (0, 0))
  clear j14 j18 j28
  (with_reducible refine ((Ca.o (rat_any nu ku au xu yu zu lou hiu fpu flu fcu z2 xu zu) _)).mono ?_)
  rintro r w2 ⟨rfl, k2⟩
  replace b1 := b1.kb k2
  replace b2 := b2.kb k2
  replace b3 := b3.kb k2
  replace b4 := b4.kb k2
  replace kx := kx.trans k2
  have s2 := k2.size
  simp only [World.size_alloc] at s2
  clear k2
  have j32 := (b1.alloc (.cells #[.string nu, .int .i64 ku, .int .i64 au, .int .i64 z2, .int .i64 xu, .int .i64 zu, .int .i64 lou, .int .i64 hiu, .slice fpu flu fcu] 28 (0, 0)))
  have f33 := j32.c (i := 1) rfl
  have f34 := j32.c (i := 2) rfl
  have j35 := (Is.made w2 #[.string nu, .int .i64 ku, .int .i64 au, .int .i64 z2, .int .i64 xu, .int .i64 zu, .int .i64 lou, .int .i64 hiu, .slice fpu flu fcu] 28)
  have f36 := j35.c (i := 0) rfl
  have f37 := j35.c (i := 1) rfl
  have f38 := j35.c (i := 2) rfl
  have f39 := j35.c (i := 3) rfl
  have f40 := j35.c (i := 4) rfl
  have f41 := j35.c (i := 5) rfl
  have f42 := j35.c (i := 6) rfl
  have f43 := j35.c (i := 7) rfl
  have f44 := j35.c (i := 8) rfl
  have j45 := (b2.alloc (.cells #[.string nu, .int .i64 ku, .int .i64 au, .int .i64 z2, .int .i64 xu, .int .i64 zu, .int .i64 lou, .int .i64 hiu, .slice fpu flu fcu] 28 (0, 0)))
  have f46 := j45.c (i := 0) rfl
  have f47 := j45.f 0
  have f48 := j45.c (i := 1) rfl
  have f49 := j45.f 1
  have f50 := j45.c (i := 2) rfl
  have f51 := j45.f 2
  have f52 := j45.c (i := 3) rfl
  have f53 := j45.f 3
  have f54 := j45.c (i := 4) rfl
  have f55 := j45.f 4
  have f56 := j45.c (i := 5) rfl
  have f57 := j45.f 5
  have f58 := j45.c (i := 6) rfl
  have f59 := j45.f 6
  have f60 := j45.c (i := 7) rfl
  have f61 := j45.f 7
  have f62 := j45.c (i := 8) rfl
  have f63 := j45.f 8
  go_wp2
  clear f33 f34 f36 f37 f38 f39 f40 f41 f42 f43 f44 f46 f47 f48 f49 f50 f51 f52 f53 f54 f55 f56 f57 f58 f59 f60 f61 f62 f63
  replace b2 := (b2.alloc (.cells #[.string nu, .int .i64 ku, .int .i64 au, .int .i64 z2, .int .i64 xu, .int .i64 zu, .int .i64 lou, .int .i64 hiu, .slice fpu flu fcu] 28 (0, 0)))
  replace b2 : Is _ _ #[.string nu, .int .i64 0, .int .i64 0, .int .i64 0, .int .i64 0, .int .i64 0, .int .i64 0, .int .i64 0, .slice none 0 0] _ := b2.set 0 (.string nu)
  replace b2 : Is _ _ #[.string nu, .int .i64 ku, .int .i64 0, .int .i64 0, .int .i64 0, .int .i64 0, .int .i64 0, .int .i64 0, .slice none 0 0] _ := b2.set 1 (.int .i64 ku)
  replace b2 : Is _ _ #[.string nu, .int .i64 ku, .int .i64 au, .int .i64 0, .int .i64 0, .int .i64 0, .int .i64 0, .int .i64 0, .slice none 0 0] _ := b2.set 2 (.int .i64 au)
  replace b2 : Is _ _ #[.string nu, .int .i64 ku, .int .i64 au, .int .i64 z2, .int .i64 0, .int .i64 0, .int .i64 0, .int .i64 0, .slice none 0 0] _ := b2.set 3 (.int .i64 z2)
  replace b2 : Is _ _ #[.string nu, .int .i64 ku, .int .i64 au, .int .i64 z2, .int .i64 xu, .int .i64 0, .int .i64 0, .int .i64 0, .slice none 0 0] _ := b2.set 4 (.int .i64 xu)
  replace b2 : Is _ _ #[.string nu, .int .i64 ku, .int .i64 au, .int .i64 z2, .int .i64 xu, .int .i64 zu, .int .i64 0, .int .i64 0, .slice none 0 0] _ := b2.set 5 (.int .i64 zu)
  replace b2 : Is _ _ #[.string nu, .int .i64 ku, .int .i64 au, .int .i64 z2, .int .i64 xu, .int .i64 zu, .int .i64 lou, .int .i64 0, .slice none 0 0] _ := b2.set 6 (.int .i64 lou)
  replace b2 : Is _ _ #[.string nu, .int .i64 ku, .int .i64 au, .int .i64 z2, .int .i64 xu, .int .i64 zu, .int .i64 lou, .int .i64 hiu, .slice none 0 0] _ := b2.set 7 (.int .i64 hiu)
  replace b2 : Is _ _ #[.string nu, .int .i64 ku, .int .i64 au, .int .i64 z2, .int .i64 xu, .int .i64 zu, .int .i64 lou, .int .i64 hiu, .slice fpu flu fcu] _ := b2.set 8 (.slice fpu flu fcu)
  replace kx := (((((((((kx.alloc (.cells #[.string nu, .int .i64 ku, .int .i64 au, .int .i64 z2, .int .i64 xu, .int .i64 zu, .int .i64 lou, .int .i64 hiu, .slice fpu flu fcu] 28 (0, 0))).setCell (p := ⟨w.heap.size + 1, 0, none⟩) (show w.heap.size ≤ w.heap.size + 1 by omega) (.string nu)).setCell (p := ⟨w.heap.size + 1, 1, none⟩) (show w.heap.size ≤ w.heap.size + 1 by omega) (.int .i64 ku)).setCell (p := ⟨w.heap.size + 1, 2, none⟩) (show w.heap.size ≤ w.heap.size + 1 by omega) (.int .i64 au)).setCell (p := ⟨w.heap.size + 1, 3, none⟩) (show w.heap.size ≤ w.heap.size + 1 by omega) (.int .i64 z2)).setCell (p := ⟨w.heap.size + 1, 4, none⟩) (show w.heap.size ≤ w.heap.size + 1 by omega) (.int .i64 xu)).setCell (p := ⟨w.heap.size + 1, 5, none⟩) (show w.heap.size ≤ w.heap.size + 1 by omega) (.int .i64 zu)).setCell (p := ⟨w.heap.size + 1, 6, none⟩) (show w.heap.size ≤ w.heap.size + 1 by omega) (.int .i64 lou)).setCell (p := ⟨w.heap.size + 1, 7, none⟩) (show w.heap.size ≤ w.heap.size + 1 by omega) (.int .i64 hiu)).setCell (p := ⟨w.heap.size + 1, 8, none⟩) (show w.heap.size ≤ w.heap.size + 1 by omega) (.slice fpu flu fcu)
  refine ret_row2 Tryd.results29 rfl rfl rfl b2 Tryd.underlying28 rfl (by kernel_rfl) ?_
  exact ⟨rfl, kx⟩
set_option maxRecDepth 100000 in
set_option maxHeartbeats 4000000 in
theorem rTurn2_4 (nu : ByteArray) (ku : Int) (au : Int) (xu : Int) (yu : Int) (zu : Int) (lou : Int) (hiu : Int) (fpu : Option Addr) (flu : Nat) (fcu : Nat) (r1 : Int) (z2 : Int) (a1 : wrap64 (-yu) = z2) (q1 : Ca 55 #[.agg #[.string nu, .int .i64 ku, .int .i64 au, .int .i64 xu, .int .i64 yu, .int .i64 zu, .int .i64 lou, .int .i64 hiu, .slice fpu flu fcu], .int .i64 2] (.int .i64 r1))  (h1 : (r1 != 0) = false) (h2 : (ku != 4) = false) (w : World)  : Calls Tryd.prog 29 #[.agg #[.string nu, .int .i64 ku, .int .i64 au, .int .i64 xu, .int .i64 yu, .int .i64 zu, .int .i64 lou, .int .i64 hiu, .slice fpu flu fcu], .int .i64 2] w fun r W' => r = .returned (.tuple #[.agg #[.string nu, .int .i64 ku, .int .i64 au, .int .i64 z2, .int .i64 xu, .int .i64 zu, .int .i64 lou, .int .i64 hiu, .slice fpu flu fcu], .int .i64 0]) ∧ Kb w W' := by
  have kx := Kb.refl w
  unfold Ca at q1
  have a1' : IntKind.i64.wrap (-yu) = z2 := (Go.IntWalk.i64_left _).trans a1
  have j1 := ((Is.made w #[.string nu, .int .i64 ku, .int .i64 au, .int .i64 xu, .int .i64 yu, .int .i64 zu, .int .i64 lou, .int .i64 hiu, .slice fpu flu fcu] 28).alloc (.cells #[.string ⟨#[]⟩, .int .i64 0, .int .i64 0, .int .i64 0, .int .i64 0, .int .i64 0, .int .i64 0, .int .i64 0, .slice none 0 0] 28 (0, 0)))
  have f2 := j1.c (i := 0) rfl
  have f3 := j1.c (i := 1) rfl
  have f4 := j1.c (i := 2) rfl
  have f5 := j1.c (i := 3) rfl
  have f6 := j1.c (i := 4) rfl
  have f7 := j1.c (i := 5) rfl
  have f8 := j1.c (i := 6) rfl
  have f9 := j1.c (i := 7) rfl
  have f10 := j1.c (i := 8) rfl
  go_enter Tryd.func29, Tryd.ntmps29
  go_wp2_with fail
  clear f2 f3 f4 f5 f6 f7 f8 f9 f10
  have b1 := j1
  have b2 := Is.made (w.alloc (.cells #[.string nu, .int .i64 ku, .int .i64 au, .int .i64 xu, .int .i64 yu, .int .i64 zu, .int .i64 lou, .int .i64 hiu, .slice fpu flu fcu] 28 (0, 0))) #[.string ⟨#[]⟩, .int .i64 0, .int .i64 0, .int .i64 0, .int .i64 0, .int .i64 0, .int .i64 0, .int .i64 0, .slice none 0 0] 28
  simp only [World.size_alloc] at b2
  replace kx := (kx.alloc (.cells #[.string nu, .int .i64 ku, .int .i64 au, .int .i64 xu, .int .i64 yu, .int .i64 zu, .int .i64 lou, .int .i64 hiu, .slice fpu flu fcu] 28 (0, 0))).alloc (.cells #[.string ⟨#[]⟩, .int .i64 0, .int .i64 0, .int .i64 0, .int .i64 0, .int .i64 0, .int .i64 0, .int .i64 0, .slice none 0 0] 28 (0, 0))
  clear j1
  (with_reducible refine (((q1).out _)).mono ?_)
  rintro r w1 ⟨rfl, k1⟩
  replace b1 := b1.kb k1
  replace b2 := b2.kb k1
  replace kx := kx.trans k1
  have s1 := k1.size
  simp only [World.size_alloc] at s1
  clear k1
  have f11 := b1.c (i := 3) rfl
  have f12 := b1.c (i := 4) rfl
  have f13 := b1.c (i := 5) rfl
  have j14 := (Is.made w1 #[.int .i64 xu, .int .i64 yu, .int .i64 zu] 23)
  have f15 := j14.c (i := 1) rfl
  have f16 := j14.c (i := 0) rfl
  have f17 := j14.c (i := 2) rfl
  have j18 := ((b1.alloc (.cells #[.int .i64 xu, .int .i64 yu, .int .i64 zu] 23 (0, 0))).alloc (.cells #[.int .i64 z2, .int .i64 xu, .int .i64 zu] 23 (0, 0)))
  have f19 := j18.c (i := 0) rfl
  have f20 := j18.c (i := 1) rfl
  have f21 := j18.c (i := 2) rfl
  have f22 := j18.c (i := 3) rfl
  have f23 := j18.c (i := 4) rfl
  have f24 := j18.c (i := 5) rfl
  have f25 := j18.c (i := 6) rfl
  have f26 := j18.c (i := 7) rfl
  have f27 := j18.c (i := 8) rfl
  have j28 := (Is.made (w1.alloc (.cells #[.int .i64 xu, .int .i64 yu, .int .i64 zu] 23 (0, 0))) #[.int .i64 z2, .int .i64 xu, .int .i64 zu] 23)
  simp only [World.size_alloc] at j28
  have f29 := j28.c (i := 0) rfl
  have f30 := j28.c (i := 1) rfl
  have f31 := j28.c (i := 2) rfl
  go_wp2_with fail
  clear f11 f12 f13 f15 f16 f17 f19 f20 f21 f22 f23 f24 f25 f26 f27 f29 f30 f31
  replace b1 := j18
  replace b2 := ((b2.alloc (.cells #[.int .i64 xu, .int .i64 yu, .int .i64 zu] 23 (0, 0))).alloc (.cells #[.int .i64 z2, .int .i64 xu, .int .i64 zu] 23 (0, 0)))
  have b3 := Is.made w1 #[.int .i64 xu, .int .i64 yu, .int .i64 zu] 23
  replace b3 := (b3.alloc (.cells #[.int .i64 z2, .int .i64 xu, .int .i64 zu] 23 (0, 0)))
  have b4 := j28
  replace kx := (kx.alloc (.cells #[.int .i64 xu, .int .i64 yu, .int .i64 zu] 23 (0, 0))).alloc (.cells #[.int .i64 z2, .int .i64 xu, .int .i64 zu] 23 (0, 0))
  clear j14 j18 j28
  (with_reducible refine ((Ca.o (rat_any nu ku au xu yu zu lou hiu fpu flu fcu z2 xu zu) _)).mono ?_)
  rintro r w2 ⟨rfl, k2⟩
  replace b1 := b1.kb k2
  replace b2 := b2.kb k2
  replace b3 := b3.kb k2
  replace b4 := b4.kb k2
  replace kx := kx.trans k2
  have s2 := k2.size
  simp only [World.size_alloc] at s2
  clear k2
  have j32 := (b1.alloc (.cells #[.string nu, .int .i64 ku, .int .i64 au, .int .i64 z2, .int .i64 xu, .int .i64 zu, .int .i64 lou, .int .i64 hiu, .slice fpu flu fcu] 28 (0, 0)))
  have f33 := j32.c (i := 1) rfl
  have j34 := (Is.made w2 #[.string nu, .int .i64 ku, .int .i64 au, .int .i64 z2, .int .i64 xu, .int .i64 zu, .int .i64 lou, .int .i64 hiu, .slice fpu flu fcu] 28)
  have f35 := j34.c (i := 0) rfl
  have f36 := j34.c (i := 1) rfl
  have f37 := j34.c (i := 2) rfl
  have f38 := j34.c (i := 3) rfl
  have f39 := j34.c (i := 4) rfl
  have f40 := j34.c (i := 5) rfl
  have f41 := j34.c (i := 6) rfl
  have f42 := j34.c (i := 7) rfl
  have f43 := j34.c (i := 8) rfl
  have j44 := (b2.alloc (.cells #[.string nu, .int .i64 ku, .int .i64 au, .int .i64 z2, .int .i64 xu, .int .i64 zu, .int .i64 lou, .int .i64 hiu, .slice fpu flu fcu] 28 (0, 0)))
  have f45 := j44.c (i := 0) rfl
  have f46 := j44.f 0
  have f47 := j44.c (i := 1) rfl
  have f48 := j44.f 1
  have f49 := j44.c (i := 2) rfl
  have f50 := j44.f 2
  have f51 := j44.c (i := 3) rfl
  have f52 := j44.f 3
  have f53 := j44.c (i := 4) rfl
  have f54 := j44.f 4
  have f55 := j44.c (i := 5) rfl
  have f56 := j44.f 5
  have f57 := j44.c (i := 6) rfl
  have f58 := j44.f 6
  have f59 := j44.c (i := 7) rfl
  have f60 := j44.f 7
  have f61 := j44.c (i := 8) rfl
  have f62 := j44.f 8
  go_wp2
  clear f33 f35 f36 f37 f38 f39 f40 f41 f42 f43 f45 f46 f47 f48 f49 f50 f51 f52 f53 f54 f55 f56 f57 f58 f59 f60 f61 f62
  replace b2 := (b2.alloc (.cells #[.string nu, .int .i64 ku, .int .i64 au, .int .i64 z2, .int .i64 xu, .int .i64 zu, .int .i64 lou, .int .i64 hiu, .slice fpu flu fcu] 28 (0, 0)))
  replace b2 : Is _ _ #[.string nu, .int .i64 0, .int .i64 0, .int .i64 0, .int .i64 0, .int .i64 0, .int .i64 0, .int .i64 0, .slice none 0 0] _ := b2.set 0 (.string nu)
  replace b2 : Is _ _ #[.string nu, .int .i64 ku, .int .i64 0, .int .i64 0, .int .i64 0, .int .i64 0, .int .i64 0, .int .i64 0, .slice none 0 0] _ := b2.set 1 (.int .i64 ku)
  replace b2 : Is _ _ #[.string nu, .int .i64 ku, .int .i64 au, .int .i64 0, .int .i64 0, .int .i64 0, .int .i64 0, .int .i64 0, .slice none 0 0] _ := b2.set 2 (.int .i64 au)
  replace b2 : Is _ _ #[.string nu, .int .i64 ku, .int .i64 au, .int .i64 z2, .int .i64 0, .int .i64 0, .int .i64 0, .int .i64 0, .slice none 0 0] _ := b2.set 3 (.int .i64 z2)
  replace b2 : Is _ _ #[.string nu, .int .i64 ku, .int .i64 au, .int .i64 z2, .int .i64 xu, .int .i64 0, .int .i64 0, .int .i64 0, .slice none 0 0] _ := b2.set 4 (.int .i64 xu)
  replace b2 : Is _ _ #[.string nu, .int .i64 ku, .int .i64 au, .int .i64 z2, .int .i64 xu, .int .i64 zu, .int .i64 0, .int .i64 0, .slice none 0 0] _ := b2.set 5 (.int .i64 zu)
  replace b2 : Is _ _ #[.string nu, .int .i64 ku, .int .i64 au, .int .i64 z2, .int .i64 xu, .int .i64 zu, .int .i64 lou, .int .i64 0, .slice none 0 0] _ := b2.set 6 (.int .i64 lou)
  replace b2 : Is _ _ #[.string nu, .int .i64 ku, .int .i64 au, .int .i64 z2, .int .i64 xu, .int .i64 zu, .int .i64 lou, .int .i64 hiu, .slice none 0 0] _ := b2.set 7 (.int .i64 hiu)
  replace b2 : Is _ _ #[.string nu, .int .i64 ku, .int .i64 au, .int .i64 z2, .int .i64 xu, .int .i64 zu, .int .i64 lou, .int .i64 hiu, .slice fpu flu fcu] _ := b2.set 8 (.slice fpu flu fcu)
  replace kx := (((((((((kx.alloc (.cells #[.string nu, .int .i64 ku, .int .i64 au, .int .i64 z2, .int .i64 xu, .int .i64 zu, .int .i64 lou, .int .i64 hiu, .slice fpu flu fcu] 28 (0, 0))).setCell (p := ⟨w.heap.size + 1, 0, none⟩) (show w.heap.size ≤ w.heap.size + 1 by omega) (.string nu)).setCell (p := ⟨w.heap.size + 1, 1, none⟩) (show w.heap.size ≤ w.heap.size + 1 by omega) (.int .i64 ku)).setCell (p := ⟨w.heap.size + 1, 2, none⟩) (show w.heap.size ≤ w.heap.size + 1 by omega) (.int .i64 au)).setCell (p := ⟨w.heap.size + 1, 3, none⟩) (show w.heap.size ≤ w.heap.size + 1 by omega) (.int .i64 z2)).setCell (p := ⟨w.heap.size + 1, 4, none⟩) (show w.heap.size ≤ w.heap.size + 1 by omega) (.int .i64 xu)).setCell (p := ⟨w.heap.size + 1, 5, none⟩) (show w.heap.size ≤ w.heap.size + 1 by omega) (.int .i64 zu)).setCell (p := ⟨w.heap.size + 1, 6, none⟩) (show w.heap.size ≤ w.heap.size + 1 by omega) (.int .i64 lou)).setCell (p := ⟨w.heap.size + 1, 7, none⟩) (show w.heap.size ≤ w.heap.size + 1 by omega) (.int .i64 hiu)).setCell (p := ⟨w.heap.size + 1, 8, none⟩) (show w.heap.size ≤ w.heap.size + 1 by omega) (.slice fpu flu fcu)
  refine ret_row2 Tryd.results29 rfl rfl rfl b2 Tryd.underlying28 rfl (by kernel_rfl) ?_
  exact ⟨rfl, kx⟩
set_option maxRecDepth 100000 in
theorem rTurn2_any (nu : ByteArray) (ku : Int) (au : Int) (xu : Int) (yu : Int) (zu : Int) (lou : Int) (hiu : Int) (fpu : Option Addr) (flu : Nat) (fcu : Nat) (r1 : Int) (q1 : Ca 55 #[.agg #[.string nu, .int .i64 ku, .int .i64 au, .int .i64 xu, .int .i64 yu, .int .i64 zu, .int .i64 lou, .int .i64 hiu, .slice fpu flu fcu], .int .i64 2] (.int .i64 r1))  : Ca 29 #[.agg #[.string nu, .int .i64 ku, .int .i64 au, .int .i64 xu, .int .i64 yu, .int .i64 zu, .int .i64 lou, .int .i64 hiu, .slice fpu flu fcu], .int .i64 2] (if (r1 != 0) = true then (.tuple #[.agg #[.string ⟨#[]⟩, .int .i64 0, .int .i64 0, .int .i64 0, .int .i64 0, .int .i64 0, .int .i64 0, .int .i64 0, .slice none 0 0], .int .i64 r1]) else (if (ku != 4) = true then (if (au != 2) = true then (.tuple #[.agg #[.string nu, .int .i64 ku, .int .i64 (wrap64 (1 - au)), .int .i64 (wrap64 (-yu)), .int .i64 xu, .int .i64 zu, .int .i64 lou, .int .i64 hiu, .slice fpu flu fcu], .int .i64 0]) else (.tuple #[.agg #[.string nu, .int .i64 ku, .int .i64 au, .int .i64 (wrap64 (-yu)), .int .i64 xu, .int .i64 zu, .int .i64 lou, .int .i64 hiu, .slice fpu flu fcu], .int .i64 0])) else (.tuple #[.agg #[.string nu, .int .i64 ku, .int .i64 au, .int .i64 (wrap64 (-yu)), .int .i64 xu, .int .i64 zu, .int .i64 lou, .int .i64 hiu, .slice fpu flu fcu], .int .i64 0]))) := Lib.hid fun w => by
  rcases Bool.eq_false_or_eq_true (r1 != 0) with h1 | h1
  · rw [if_pos h1]
    exact rTurn2_1 nu ku au xu yu zu lou hiu fpu flu fcu r1 q1 h1 w
  · rw [if_neg (by rw [h1]; decide)]
    rcases Bool.eq_false_or_eq_true (ku != 4) with h2 | h2
    · rw [if_pos h2]
      rcases Bool.eq_false_or_eq_true (au != 2) with h3 | h3
      · rw [if_pos h3]
        exact rTurn2_2 nu ku au xu yu zu lou hiu fpu flu fcu r1 ((wrap64 (-yu))) ((wrap64 (1 - au))) rfl rfl q1 h1 h2 h3 w
      · rw [if_neg (by rw [h3]; decide)]
        exact rTurn2_3 nu ku au xu yu zu lou hiu fpu flu fcu r1 ((wrap64 (-yu))) rfl q1 h1 h2 h3 w
    · rw [if_neg (by rw [h2]; decide)]
      exact rTurn2_4 nu ku au xu yu zu lou hiu fpu flu fcu r1 ((wrap64 (-yu))) rfl q1 h1 h2 w
end Go.Proofs.YtdmfkgopalelgaaDoor
