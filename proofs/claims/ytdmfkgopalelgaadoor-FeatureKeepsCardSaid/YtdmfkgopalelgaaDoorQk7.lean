/- Features: Mirror, any frames. -/
import Derived.Test.YtdmfkgopalelgaaDoorQk6
import Derived.Test.YtdmfkgopalelgaaDoorQg4
namespace Go.Proofs.YtdmfkgopalelgaaDoor
open Go.RowKit

set_option maxRecDepth 100000 in
set_option maxHeartbeats 4000000 in
theorem cMirror0_2 (nu : ByteArray) (ku : Int) (au : Int) (xu : Int) (yu : Int) (zu : Int) (lou : Int) (hiu : Int) (fpu : Option Addr) (flu : Nat) (fcu : Nat) (fs : List FrT) (hfl : fs.length ≤ 1000) (hall : Hid (∀ f ∈ fs, f.ds.length ≤ 1000)) (r1 : Int) (z2 : Int) (a1 : wrap64 (-xu) = z2) (q1 : Ca 50 #[.agg #[.string nu, .int .i64 ku, .int .i64 au, .int .i64 xu, .int .i64 yu, .int .i64 zu, .int .i64 lou, .int .i64 hiu, .slice fpu flu fcu], .int .i64 0] (.int .i64 r1))  (h1 : (r1 != 0) = false) (w : World) (da : FrS w (.slice fpu flu fcu) fs)  : Calls Tryd.prog 26 #[.agg #[.string nu, .int .i64 ku, .int .i64 au, .int .i64 xu, .int .i64 yu, .int .i64 zu, .int .i64 lou, .int .i64 hiu, .slice fpu flu fcu], .int .i64 0] w fun r W' => ∃ q' c', r = .returned (.tuple #[.agg #[.string nu, .int .i64 ku, .int .i64 au, .int .i64 z2, .int .i64 yu, .int .i64 zu, .int .i64 lou, .int .i64 hiu, .slice q' flu c'], .int .i64 0]) ∧ FrU w.heap.size W' (.slice q' flu c') fs ∧ Kb w W' := by
  have kx := Kb.refl w
  unfold Ca at q1
  have da0 := Lib.hid da
  have a1' : IntKind.i64.wrap (-xu) = z2 := (Go.IntWalk.i64_left _).trans a1
  have j1 := ((Is.made w #[.string nu, .int .i64 ku, .int .i64 au, .int .i64 xu, .int .i64 yu, .int .i64 zu, .int .i64 lou, .int .i64 hiu, .slice fpu flu fcu] 28).alloc (.cells #[.string ⟨#[]⟩, .int .i64 0, .int .i64 0, .int .i64 0, .int .i64 0, .int .i64 0, .int .i64 0, .int .i64 0, .slice none 0 0] 28 (0, 0)))
  have f2 := j1.c (i := 0) rfl
  have f3 := j1.c (i := 1) rfl
  have f4 := j1.c (i := 2) rfl
  have f5 := j1.c (i := 3) rfl
  have f6 := j1.c (i := 4) rfl
  have f7 := j1.c (i := 5) rfl
  have f8 := j1.c (i := 6) rfl
  have f9 := j1.c (i := 7) rfl
  have f10 := j1.c (i := 8) rfl
  go_enter Tryd.func26, Tryd.ntmps26
  go_wp2_with fail
  clear f2 f3 f4 f5 f6 f7 f8 f9 f10
  have b1 := j1
  have b2 := Is.made (w.alloc (.cells #[.string nu, .int .i64 ku, .int .i64 au, .int .i64 xu, .int .i64 yu, .int .i64 zu, .int .i64 lou, .int .i64 hiu, .slice fpu flu fcu] 28 (0, 0))) #[.string ⟨#[]⟩, .int .i64 0, .int .i64 0, .int .i64 0, .int .i64 0, .int .i64 0, .int .i64 0, .int .i64 0, .slice none 0 0] 28
  simp only [World.size_alloc] at b2
  replace kx := (kx.alloc (.cells #[.string nu, .int .i64 ku, .int .i64 au, .int .i64 xu, .int .i64 yu, .int .i64 zu, .int .i64 lou, .int .i64 hiu, .slice fpu flu fcu] 28 (0, 0))).alloc (.cells #[.string ⟨#[]⟩, .int .i64 0, .int .i64 0, .int .i64 0, .int .i64 0, .int .i64 0, .int .i64 0, .int .i64 0, .slice none 0 0] 28 (0, 0))
  clear j1
  replace da := da0.out.kb kx
  (with_reducible refine (((q1).out _)).mono ?_)
  rintro r w1 ⟨rfl, k1⟩
  replace da := da.kb k1
  replace b1 := b1.kb k1
  replace b2 := b2.kb k1
  replace kx := kx.trans k1
  have s1 := k1.size
  simp only [World.size_alloc] at s1
  clear k1
  have f11 := b1.c (i := 3) rfl
  have f12 := b1.c (i := 4) rfl
  have f13 := b1.c (i := 5) rfl
  go_wp2_with fail
  clear f11 f12 f13
  replace b1 := (b1.alloc (.cells #[.int .i64 xu, .int .i64 yu, .int .i64 zu] 23 (0, 0)))
  replace b2 := (b2.alloc (.cells #[.int .i64 xu, .int .i64 yu, .int .i64 zu] 23 (0, 0)))
  have b3 := Is.made w1 #[.int .i64 xu, .int .i64 yu, .int .i64 zu] 23
  replace kx := kx.alloc (.cells #[.int .i64 xu, .int .i64 yu, .int .i64 zu] 23 (0, 0))
  replace da := da0.out.kb kx
  (with_reducible refine (cCoord0_1 w1.heap.size _).mono ?_)
  rintro r w2 ⟨g2, rfl, p2, i2, k2⟩
  replace da := da.kb k2
  replace b1 := b1.kb k2
  replace b2 := b2.kb k2
  replace b3 := b3.kb k2
  replace kx := kx.trans k2
  have s2 := k2.size
  simp only [World.size_alloc] at s2
  clear k2
  simp only [World.size_alloc] at i2
  have en1 := (enters_of Tryd.func76 (by kernel_rfl) rfl : ∀ args W, (callFunc 76 args).run Tryd.prog W = .ok (.enter 76 args) W)
  go_wp2_with fail
  (with_reducible refine (cRead_0 _ _ _ _ _ _ p2 (b3.c (i := 0) rfl)).mono ?_)
  rintro r w3 ⟨rfl, k3⟩
  replace da := da.kb k3
  replace b1 := b1.kb k3
  replace b2 := b2.kb k3
  replace b3 := b3.kb k3
  replace p2 := p2.kb k3
  replace kx := kx.trans k3
  have s3 := k3.size
  skip
  clear k3
  have en2 := (enters_of Tryd.func77 (by kernel_rfl) rfl : ∀ args W, (callFunc 77 args).run Tryd.prog W = .ok (.enter 77 args) W)
  go_wp2_with fail
  (with_reducible refine (cWrite_0 _ _ _ _ _ _ _ _ _ _ _ _ p2 rfl rfl b3 rfl).mono ?_)
  rintro r w4 ⟨rfl, y4, k4⟩
  have s4 := k4.2.2.2.1
  replace b1 := b1.kx k4 (by simp only [List.mem_singleton]; omega)
  replace b2 := b2.kx k4 (by simp only [List.mem_singleton]; omega)
  replace p2 := p2.kx k4 (by simp only [List.mem_singleton]; omega)
  replace b3 : Is w4 (w1.heap.size) #[.int .i64 z2, .int .i64 yu, .int .i64 zu] 23 := y4
  replace kx := k4.old kx (by intro x hx; simp only [List.mem_singleton] at hx; subst hx; omega)
  replace da := da0.out.kb kx
  clear y4
  have f14 := b1.c (i := 0) rfl
  have f15 := b1.c (i := 1) rfl
  have f16 := b1.c (i := 2) rfl
  have f17 := b1.c (i := 3) rfl
  have f18 := b1.c (i := 4) rfl
  have f19 := b1.c (i := 5) rfl
  have f20 := b1.c (i := 6) rfl
  have f21 := b1.c (i := 7) rfl
  have f22 := b1.c (i := 8) rfl
  have f23 := b3.c (i := 0) rfl
  have f24 := b3.c (i := 1) rfl
  have f25 := b3.c (i := 2) rfl
  go_wp2_with fail
  clear f14 f15 f16 f17 f18 f19 f20 f21 f22 f23 f24 f25
  (with_reducible refine (cplace_1 nu ku au xu yu zu lou hiu fpu flu fcu fs hfl hall z2 yu zu _ da).mono ?_)
  rintro r w5 ⟨qq, cc, rfl, U1, k5⟩
  replace da := da.kb k5
  replace b1 := b1.kb k5
  replace b2 := b2.kb k5
  replace b3 := b3.kb k5
  replace p2 := p2.kb k5
  replace kx := kx.trans k5
  have s5 := k5.size
  skip
  clear k5
  try simp only [World.size_alloc, World.size_setCell] at U1
  have f26 := b2.c (i := 0) rfl
  have f27 := b2.f 0
  have f28 := b2.c (i := 1) rfl
  have f29 := b2.f 1
  have f30 := b2.c (i := 2) rfl
  have f31 := b2.f 2
  have f32 := b2.c (i := 3) rfl
  have f33 := b2.f 3
  have f34 := b2.c (i := 4) rfl
  have f35 := b2.f 4
  have f36 := b2.c (i := 5) rfl
  have f37 := b2.f 5
  have f38 := b2.c (i := 6) rfl
  have f39 := b2.f 6
  have f40 := b2.c (i := 7) rfl
  have f41 := b2.f 7
  have f42 := b2.c (i := 8) rfl
  have f43 := b2.f 8
  go_wp2
  clear f26 f27 f28 f29 f30 f31 f32 f33 f34 f35 f36 f37 f38 f39 f40 f41 f42 f43
  replace b2 : Is _ _ #[.string nu, .int .i64 0, .int .i64 0, .int .i64 0, .int .i64 0, .int .i64 0, .int .i64 0, .int .i64 0, .slice none 0 0] _ := b2.set 0 (.string nu)
  replace b2 : Is _ _ #[.string nu, .int .i64 ku, .int .i64 0, .int .i64 0, .int .i64 0, .int .i64 0, .int .i64 0, .int .i64 0, .slice none 0 0] _ := b2.set 1 (.int .i64 ku)
  replace b2 : Is _ _ #[.string nu, .int .i64 ku, .int .i64 au, .int .i64 0, .int .i64 0, .int .i64 0, .int .i64 0, .int .i64 0, .slice none 0 0] _ := b2.set 2 (.int .i64 au)
  replace b2 : Is _ _ #[.string nu, .int .i64 ku, .int .i64 au, .int .i64 z2, .int .i64 0, .int .i64 0, .int .i64 0, .int .i64 0, .slice none 0 0] _ := b2.set 3 (.int .i64 z2)
  replace b2 : Is _ _ #[.string nu, .int .i64 ku, .int .i64 au, .int .i64 z2, .int .i64 yu, .int .i64 0, .int .i64 0, .int .i64 0, .slice none 0 0] _ := b2.set 4 (.int .i64 yu)
  replace b2 : Is _ _ #[.string nu, .int .i64 ku, .int .i64 au, .int .i64 z2, .int .i64 yu, .int .i64 zu, .int .i64 0, .int .i64 0, .slice none 0 0] _ := b2.set 5 (.int .i64 zu)
  replace b2 : Is _ _ #[.string nu, .int .i64 ku, .int .i64 au, .int .i64 z2, .int .i64 yu, .int .i64 zu, .int .i64 lou, .int .i64 0, .slice none 0 0] _ := b2.set 6 (.int .i64 lou)
  replace b2 : Is _ _ #[.string nu, .int .i64 ku, .int .i64 au, .int .i64 z2, .int .i64 yu, .int .i64 zu, .int .i64 lou, .int .i64 hiu, .slice none 0 0] _ := b2.set 7 (.int .i64 hiu)
  replace b2 : Is _ _ #[.string nu, .int .i64 ku, .int .i64 au, .int .i64 z2, .int .i64 yu, .int .i64 zu, .int .i64 lou, .int .i64 hiu, .slice qq flu cc] _ := b2.set 8 (.slice qq flu cc)
  replace U1 := (((((((((U1.far (p := ⟨w.heap.size + 1, 0, none⟩) (show w.heap.size + 1 < (w4.heap.size) by omega) (.string nu)).far (p := ⟨w.heap.size + 1, 1, none⟩) (show w.heap.size + 1 < (w4.heap.size) by omega) (.int .i64 ku)).far (p := ⟨w.heap.size + 1, 2, none⟩) (show w.heap.size + 1 < (w4.heap.size) by omega) (.int .i64 au)).far (p := ⟨w.heap.size + 1, 3, none⟩) (show w.heap.size + 1 < (w4.heap.size) by omega) (.int .i64 z2)).far (p := ⟨w.heap.size + 1, 4, none⟩) (show w.heap.size + 1 < (w4.heap.size) by omega) (.int .i64 yu)).far (p := ⟨w.heap.size + 1, 5, none⟩) (show w.heap.size + 1 < (w4.heap.size) by omega) (.int .i64 zu)).far (p := ⟨w.heap.size + 1, 6, none⟩) (show w.heap.size + 1 < (w4.heap.size) by omega) (.int .i64 lou)).far (p := ⟨w.heap.size + 1, 7, none⟩) (show w.heap.size + 1 < (w4.heap.size) by omega) (.int .i64 hiu)).far (p := ⟨w.heap.size + 1, 8, none⟩) (show w.heap.size + 1 < (w4.heap.size) by omega) (.slice qq flu cc))
  replace kx := ((((((((kx.setCell (p := ⟨w.heap.size + 1, 0, none⟩) (show w.heap.size ≤ w.heap.size + 1 by omega) (.string nu)).setCell (p := ⟨w.heap.size + 1, 1, none⟩) (show w.heap.size ≤ w.heap.size + 1 by omega) (.int .i64 ku)).setCell (p := ⟨w.heap.size + 1, 2, none⟩) (show w.heap.size ≤ w.heap.size + 1 by omega) (.int .i64 au)).setCell (p := ⟨w.heap.size + 1, 3, none⟩) (show w.heap.size ≤ w.heap.size + 1 by omega) (.int .i64 z2)).setCell (p := ⟨w.heap.size + 1, 4, none⟩) (show w.heap.size ≤ w.heap.size + 1 by omega) (.int .i64 yu)).setCell (p := ⟨w.heap.size + 1, 5, none⟩) (show w.heap.size ≤ w.heap.size + 1 by omega) (.int .i64 zu)).setCell (p := ⟨w.heap.size + 1, 6, none⟩) (show w.heap.size ≤ w.heap.size + 1 by omega) (.int .i64 lou)).setCell (p := ⟨w.heap.size + 1, 7, none⟩) (show w.heap.size ≤ w.heap.size + 1 by omega) (.int .i64 hiu)).setCell (p := ⟨w.heap.size + 1, 8, none⟩) (show w.heap.size ≤ w.heap.size + 1 by omega) (.slice qq flu cc)
  refine ret_row2 Tryd.results26 rfl rfl rfl b2 Tryd.underlying28 rfl (by kernel_rfl) ?_
  exact ⟨_, _, rfl, U1.mono (by omega), kx⟩
set_option maxRecDepth 100000 in
set_option maxHeartbeats 4000000 in
theorem cMirror1_2 (nu : ByteArray) (ku : Int) (au : Int) (xu : Int) (yu : Int) (zu : Int) (lou : Int) (hiu : Int) (fpu : Option Addr) (flu : Nat) (fcu : Nat) (fs : List FrT) (hfl : fs.length ≤ 1000) (hall : Hid (∀ f ∈ fs, f.ds.length ≤ 1000)) (r1 : Int) (z2 : Int) (a1 : wrap64 (-yu) = z2) (q1 : Ca 50 #[.agg #[.string nu, .int .i64 ku, .int .i64 au, .int .i64 xu, .int .i64 yu, .int .i64 zu, .int .i64 lou, .int .i64 hiu, .slice fpu flu fcu], .int .i64 1] (.int .i64 r1))  (h1 : (r1 != 0) = false) (w : World) (da : FrS w (.slice fpu flu fcu) fs)  : Calls Tryd.prog 26 #[.agg #[.string nu, .int .i64 ku, .int .i64 au, .int .i64 xu, .int .i64 yu, .int .i64 zu, .int .i64 lou, .int .i64 hiu, .slice fpu flu fcu], .int .i64 1] w fun r W' => ∃ q' c', r = .returned (.tuple #[.agg #[.string nu, .int .i64 ku, .int .i64 au, .int .i64 xu, .int .i64 z2, .int .i64 zu, .int .i64 lou, .int .i64 hiu, .slice q' flu c'], .int .i64 0]) ∧ FrU w.heap.size W' (.slice q' flu c') fs ∧ Kb w W' := by
  have kx := Kb.refl w
  unfold Ca at q1
  have da0 := Lib.hid da
  have a1' : IntKind.i64.wrap (-yu) = z2 := (Go.IntWalk.i64_left _).trans a1
  have j1 := ((Is.made w #[.string nu, .int .i64 ku, .int .i64 au, .int .i64 xu, .int .i64 yu, .int .i64 zu, .int .i64 lou, .int .i64 hiu, .slice fpu flu fcu] 28).alloc (.cells #[.string ⟨#[]⟩, .int .i64 0, .int .i64 0, .int .i64 0, .int .i64 0, .int .i64 0, .int .i64 0, .int .i64 0, .slice none 0 0] 28 (0, 0)))
  have f2 := j1.c (i := 0) rfl
  have f3 := j1.c (i := 1) rfl
  have f4 := j1.c (i := 2) rfl
  have f5 := j1.c (i := 3) rfl
  have f6 := j1.c (i := 4) rfl
  have f7 := j1.c (i := 5) rfl
  have f8 := j1.c (i := 6) rfl
  have f9 := j1.c (i := 7) rfl
  have f10 := j1.c (i := 8) rfl
  go_enter Tryd.func26, Tryd.ntmps26
  go_wp2_with fail
  clear f2 f3 f4 f5 f6 f7 f8 f9 f10
  have b1 := j1
  have b2 := Is.made (w.alloc (.cells #[.string nu, .int .i64 ku, .int .i64 au, .int .i64 xu, .int .i64 yu, .int .i64 zu, .int .i64 lou, .int .i64 hiu, .slice fpu flu fcu] 28 (0, 0))) #[.string ⟨#[]⟩, .int .i64 0, .int .i64 0, .int .i64 0, .int .i64 0, .int .i64 0, .int .i64 0, .int .i64 0, .slice none 0 0] 28
  simp only [World.size_alloc] at b2
  replace kx := (kx.alloc (.cells #[.string nu, .int .i64 ku, .int .i64 au, .int .i64 xu, .int .i64 yu, .int .i64 zu, .int .i64 lou, .int .i64 hiu, .slice fpu flu fcu] 28 (0, 0))).alloc (.cells #[.string ⟨#[]⟩, .int .i64 0, .int .i64 0, .int .i64 0, .int .i64 0, .int .i64 0, .int .i64 0, .int .i64 0, .slice none 0 0] 28 (0, 0))
  clear j1
  replace da := da0.out.kb kx
  (with_reducible refine (((q1).out _)).mono ?_)
  rintro r w1 ⟨rfl, k1⟩
  replace da := da.kb k1
  replace b1 := b1.kb k1
  replace b2 := b2.kb k1
  replace kx := kx.trans k1
  have s1 := k1.size
  simp only [World.size_alloc] at s1
  clear k1
  have f11 := b1.c (i := 3) rfl
  have f12 := b1.c (i := 4) rfl
  have f13 := b1.c (i := 5) rfl
  go_wp2_with fail
  clear f11 f12 f13
  replace b1 := (b1.alloc (.cells #[.int .i64 xu, .int .i64 yu, .int .i64 zu] 23 (0, 0)))
  replace b2 := (b2.alloc (.cells #[.int .i64 xu, .int .i64 yu, .int .i64 zu] 23 (0, 0)))
  have b3 := Is.made w1 #[.int .i64 xu, .int .i64 yu, .int .i64 zu] 23
  replace kx := kx.alloc (.cells #[.int .i64 xu, .int .i64 yu, .int .i64 zu] 23 (0, 0))
  replace da := da0.out.kb kx
  (with_reducible refine (cCoord0_1 w1.heap.size _).mono ?_)
  rintro r w2 ⟨g2, rfl, p2, i2, k2⟩
  replace da := da.kb k2
  replace b1 := b1.kb k2
  replace b2 := b2.kb k2
  replace b3 := b3.kb k2
  replace kx := kx.trans k2
  have s2 := k2.size
  simp only [World.size_alloc] at s2
  clear k2
  simp only [World.size_alloc] at i2
  have en1 := (enters_of Tryd.func76 (by kernel_rfl) rfl : ∀ args W, (callFunc 76 args).run Tryd.prog W = .ok (.enter 76 args) W)
  go_wp2_with fail
  (with_reducible refine (cRead_1 _ _ _ _ _ _ p2 (b3.c (i := 1) rfl)).mono ?_)
  rintro r w3 ⟨rfl, k3⟩
  replace da := da.kb k3
  replace b1 := b1.kb k3
  replace b2 := b2.kb k3
  replace b3 := b3.kb k3
  replace p2 := p2.kb k3
  replace kx := kx.trans k3
  have s3 := k3.size
  skip
  clear k3
  have en2 := (enters_of Tryd.func77 (by kernel_rfl) rfl : ∀ args W, (callFunc 77 args).run Tryd.prog W = .ok (.enter 77 args) W)
  go_wp2_with fail
  (with_reducible refine (cWrite_1 _ _ _ _ _ _ _ _ _ _ _ _ p2 rfl rfl b3 rfl).mono ?_)
  rintro r w4 ⟨rfl, y4, k4⟩
  have s4 := k4.2.2.2.1
  replace b1 := b1.kx k4 (by simp only [List.mem_singleton]; omega)
  replace b2 := b2.kx k4 (by simp only [List.mem_singleton]; omega)
  replace p2 := p2.kx k4 (by simp only [List.mem_singleton]; omega)
  replace b3 : Is w4 (w1.heap.size) #[.int .i64 xu, .int .i64 z2, .int .i64 zu] 23 := y4
  replace kx := k4.old kx (by intro x hx; simp only [List.mem_singleton] at hx; subst hx; omega)
  replace da := da0.out.kb kx
  clear y4
  have f14 := b1.c (i := 0) rfl
  have f15 := b1.c (i := 1) rfl
  have f16 := b1.c (i := 2) rfl
  have f17 := b1.c (i := 3) rfl
  have f18 := b1.c (i := 4) rfl
  have f19 := b1.c (i := 5) rfl
  have f20 := b1.c (i := 6) rfl
  have f21 := b1.c (i := 7) rfl
  have f22 := b1.c (i := 8) rfl
  have f23 := b3.c (i := 0) rfl
  have f24 := b3.c (i := 1) rfl
  have f25 := b3.c (i := 2) rfl
  go_wp2_with fail
  clear f14 f15 f16 f17 f18 f19 f20 f21 f22 f23 f24 f25
  (with_reducible refine (cplace_1 nu ku au xu yu zu lou hiu fpu flu fcu fs hfl hall xu z2 zu _ da).mono ?_)
  rintro r w5 ⟨qq, cc, rfl, U1, k5⟩
  replace da := da.kb k5
  replace b1 := b1.kb k5
  replace b2 := b2.kb k5
  replace b3 := b3.kb k5
  replace p2 := p2.kb k5
  replace kx := kx.trans k5
  have s5 := k5.size
  skip
  clear k5
  try simp only [World.size_alloc, World.size_setCell] at U1
  have f26 := b2.c (i := 0) rfl
  have f27 := b2.f 0
  have f28 := b2.c (i := 1) rfl
  have f29 := b2.f 1
  have f30 := b2.c (i := 2) rfl
  have f31 := b2.f 2
  have f32 := b2.c (i := 3) rfl
  have f33 := b2.f 3
  have f34 := b2.c (i := 4) rfl
  have f35 := b2.f 4
  have f36 := b2.c (i := 5) rfl
  have f37 := b2.f 5
  have f38 := b2.c (i := 6) rfl
  have f39 := b2.f 6
  have f40 := b2.c (i := 7) rfl
  have f41 := b2.f 7
  have f42 := b2.c (i := 8) rfl
  have f43 := b2.f 8
  go_wp2
  clear f26 f27 f28 f29 f30 f31 f32 f33 f34 f35 f36 f37 f38 f39 f40 f41 f42 f43
  replace b2 : Is _ _ #[.string nu, .int .i64 0, .int .i64 0, .int .i64 0, .int .i64 0, .int .i64 0, .int .i64 0, .int .i64 0, .slice none 0 0] _ := b2.set 0 (.string nu)
  replace b2 : Is _ _ #[.string nu, .int .i64 ku, .int .i64 0, .int .i64 0, .int .i64 0, .int .i64 0, .int .i64 0, .int .i64 0, .slice none 0 0] _ := b2.set 1 (.int .i64 ku)
  replace b2 : Is _ _ #[.string nu, .int .i64 ku, .int .i64 au, .int .i64 0, .int .i64 0, .int .i64 0, .int .i64 0, .int .i64 0, .slice none 0 0] _ := b2.set 2 (.int .i64 au)
  replace b2 : Is _ _ #[.string nu, .int .i64 ku, .int .i64 au, .int .i64 xu, .int .i64 0, .int .i64 0, .int .i64 0, .int .i64 0, .slice none 0 0] _ := b2.set 3 (.int .i64 xu)
  replace b2 : Is _ _ #[.string nu, .int .i64 ku, .int .i64 au, .int .i64 xu, .int .i64 z2, .int .i64 0, .int .i64 0, .int .i64 0, .slice none 0 0] _ := b2.set 4 (.int .i64 z2)
  replace b2 : Is _ _ #[.string nu, .int .i64 ku, .int .i64 au, .int .i64 xu, .int .i64 z2, .int .i64 zu, .int .i64 0, .int .i64 0, .slice none 0 0] _ := b2.set 5 (.int .i64 zu)
  replace b2 : Is _ _ #[.string nu, .int .i64 ku, .int .i64 au, .int .i64 xu, .int .i64 z2, .int .i64 zu, .int .i64 lou, .int .i64 0, .slice none 0 0] _ := b2.set 6 (.int .i64 lou)
  replace b2 : Is _ _ #[.string nu, .int .i64 ku, .int .i64 au, .int .i64 xu, .int .i64 z2, .int .i64 zu, .int .i64 lou, .int .i64 hiu, .slice none 0 0] _ := b2.set 7 (.int .i64 hiu)
  replace b2 : Is _ _ #[.string nu, .int .i64 ku, .int .i64 au, .int .i64 xu, .int .i64 z2, .int .i64 zu, .int .i64 lou, .int .i64 hiu, .slice qq flu cc] _ := b2.set 8 (.slice qq flu cc)
  replace U1 := (((((((((U1.far (p := ⟨w.heap.size + 1, 0, none⟩) (show w.heap.size + 1 < (w4.heap.size) by omega) (.string nu)).far (p := ⟨w.heap.size + 1, 1, none⟩) (show w.heap.size + 1 < (w4.heap.size) by omega) (.int .i64 ku)).far (p := ⟨w.heap.size + 1, 2, none⟩) (show w.heap.size + 1 < (w4.heap.size) by omega) (.int .i64 au)).far (p := ⟨w.heap.size + 1, 3, none⟩) (show w.heap.size + 1 < (w4.heap.size) by omega) (.int .i64 xu)).far (p := ⟨w.heap.size + 1, 4, none⟩) (show w.heap.size + 1 < (w4.heap.size) by omega) (.int .i64 z2)).far (p := ⟨w.heap.size + 1, 5, none⟩) (show w.heap.size + 1 < (w4.heap.size) by omega) (.int .i64 zu)).far (p := ⟨w.heap.size + 1, 6, none⟩) (show w.heap.size + 1 < (w4.heap.size) by omega) (.int .i64 lou)).far (p := ⟨w.heap.size + 1, 7, none⟩) (show w.heap.size + 1 < (w4.heap.size) by omega) (.int .i64 hiu)).far (p := ⟨w.heap.size + 1, 8, none⟩) (show w.heap.size + 1 < (w4.heap.size) by omega) (.slice qq flu cc))
  replace kx := ((((((((kx.setCell (p := ⟨w.heap.size + 1, 0, none⟩) (show w.heap.size ≤ w.heap.size + 1 by omega) (.string nu)).setCell (p := ⟨w.heap.size + 1, 1, none⟩) (show w.heap.size ≤ w.heap.size + 1 by omega) (.int .i64 ku)).setCell (p := ⟨w.heap.size + 1, 2, none⟩) (show w.heap.size ≤ w.heap.size + 1 by omega) (.int .i64 au)).setCell (p := ⟨w.heap.size + 1, 3, none⟩) (show w.heap.size ≤ w.heap.size + 1 by omega) (.int .i64 xu)).setCell (p := ⟨w.heap.size + 1, 4, none⟩) (show w.heap.size ≤ w.heap.size + 1 by omega) (.int .i64 z2)).setCell (p := ⟨w.heap.size + 1, 5, none⟩) (show w.heap.size ≤ w.heap.size + 1 by omega) (.int .i64 zu)).setCell (p := ⟨w.heap.size + 1, 6, none⟩) (show w.heap.size ≤ w.heap.size + 1 by omega) (.int .i64 lou)).setCell (p := ⟨w.heap.size + 1, 7, none⟩) (show w.heap.size ≤ w.heap.size + 1 by omega) (.int .i64 hiu)).setCell (p := ⟨w.heap.size + 1, 8, none⟩) (show w.heap.size ≤ w.heap.size + 1 by omega) (.slice qq flu cc)
  refine ret_row2 Tryd.results26 rfl rfl rfl b2 Tryd.underlying28 rfl (by kernel_rfl) ?_
  exact ⟨_, _, rfl, U1.mono (by omega), kx⟩
set_option maxRecDepth 100000 in
set_option maxHeartbeats 4000000 in
theorem cMirror2_2 (nu : ByteArray) (ku : Int) (au : Int) (xu : Int) (yu : Int) (zu : Int) (lou : Int) (hiu : Int) (fpu : Option Addr) (flu : Nat) (fcu : Nat) (fs : List FrT) (hfl : fs.length ≤ 1000) (hall : Hid (∀ f ∈ fs, f.ds.length ≤ 1000)) (r1 : Int) (z2 : Int) (a1 : wrap64 (-zu) = z2) (q1 : Ca 50 #[.agg #[.string nu, .int .i64 ku, .int .i64 au, .int .i64 xu, .int .i64 yu, .int .i64 zu, .int .i64 lou, .int .i64 hiu, .slice fpu flu fcu], .int .i64 2] (.int .i64 r1))  (h1 : (r1 != 0) = false) (w : World) (da : FrS w (.slice fpu flu fcu) fs)  : Calls Tryd.prog 26 #[.agg #[.string nu, .int .i64 ku, .int .i64 au, .int .i64 xu, .int .i64 yu, .int .i64 zu, .int .i64 lou, .int .i64 hiu, .slice fpu flu fcu], .int .i64 2] w fun r W' => ∃ q' c', r = .returned (.tuple #[.agg #[.string nu, .int .i64 ku, .int .i64 au, .int .i64 xu, .int .i64 yu, .int .i64 z2, .int .i64 lou, .int .i64 hiu, .slice q' flu c'], .int .i64 0]) ∧ FrU w.heap.size W' (.slice q' flu c') fs ∧ Kb w W' := by
  have kx := Kb.refl w
  unfold Ca at q1
  have da0 := Lib.hid da
  have a1' : IntKind.i64.wrap (-zu) = z2 := (Go.IntWalk.i64_left _).trans a1
  have j1 := ((Is.made w #[.string nu, .int .i64 ku, .int .i64 au, .int .i64 xu, .int .i64 yu, .int .i64 zu, .int .i64 lou, .int .i64 hiu, .slice fpu flu fcu] 28).alloc (.cells #[.string ⟨#[]⟩, .int .i64 0, .int .i64 0, .int .i64 0, .int .i64 0, .int .i64 0, .int .i64 0, .int .i64 0, .slice none 0 0] 28 (0, 0)))
  have f2 := j1.c (i := 0) rfl
  have f3 := j1.c (i := 1) rfl
  have f4 := j1.c (i := 2) rfl
  have f5 := j1.c (i := 3) rfl
  have f6 := j1.c (i := 4) rfl
  have f7 := j1.c (i := 5) rfl
  have f8 := j1.c (i := 6) rfl
  have f9 := j1.c (i := 7) rfl
  have f10 := j1.c (i := 8) rfl
  go_enter Tryd.func26, Tryd.ntmps26
  go_wp2_with fail
  clear f2 f3 f4 f5 f6 f7 f8 f9 f10
  have b1 := j1
  have b2 := Is.made (w.alloc (.cells #[.string nu, .int .i64 ku, .int .i64 au, .int .i64 xu, .int .i64 yu, .int .i64 zu, .int .i64 lou, .int .i64 hiu, .slice fpu flu fcu] 28 (0, 0))) #[.string ⟨#[]⟩, .int .i64 0, .int .i64 0, .int .i64 0, .int .i64 0, .int .i64 0, .int .i64 0, .int .i64 0, .slice none 0 0] 28
  simp only [World.size_alloc] at b2
  replace kx := (kx.alloc (.cells #[.string nu, .int .i64 ku, .int .i64 au, .int .i64 xu, .int .i64 yu, .int .i64 zu, .int .i64 lou, .int .i64 hiu, .slice fpu flu fcu] 28 (0, 0))).alloc (.cells #[.string ⟨#[]⟩, .int .i64 0, .int .i64 0, .int .i64 0, .int .i64 0, .int .i64 0, .int .i64 0, .int .i64 0, .slice none 0 0] 28 (0, 0))
  clear j1
  replace da := da0.out.kb kx
  (with_reducible refine (((q1).out _)).mono ?_)
  rintro r w1 ⟨rfl, k1⟩
  replace da := da.kb k1
  replace b1 := b1.kb k1
  replace b2 := b2.kb k1
  replace kx := kx.trans k1
  have s1 := k1.size
  simp only [World.size_alloc] at s1
  clear k1
  have f11 := b1.c (i := 3) rfl
  have f12 := b1.c (i := 4) rfl
  have f13 := b1.c (i := 5) rfl
  go_wp2_with fail
  clear f11 f12 f13
  replace b1 := (b1.alloc (.cells #[.int .i64 xu, .int .i64 yu, .int .i64 zu] 23 (0, 0)))
  replace b2 := (b2.alloc (.cells #[.int .i64 xu, .int .i64 yu, .int .i64 zu] 23 (0, 0)))
  have b3 := Is.made w1 #[.int .i64 xu, .int .i64 yu, .int .i64 zu] 23
  replace kx := kx.alloc (.cells #[.int .i64 xu, .int .i64 yu, .int .i64 zu] 23 (0, 0))
  replace da := da0.out.kb kx
  (with_reducible refine (cCoord0_1 w1.heap.size _).mono ?_)
  rintro r w2 ⟨g2, rfl, p2, i2, k2⟩
  replace da := da.kb k2
  replace b1 := b1.kb k2
  replace b2 := b2.kb k2
  replace b3 := b3.kb k2
  replace kx := kx.trans k2
  have s2 := k2.size
  simp only [World.size_alloc] at s2
  clear k2
  simp only [World.size_alloc] at i2
  have en1 := (enters_of Tryd.func76 (by kernel_rfl) rfl : ∀ args W, (callFunc 76 args).run Tryd.prog W = .ok (.enter 76 args) W)
  go_wp2_with fail
  (with_reducible refine (cRead_2 _ _ _ _ _ _ p2 (b3.c (i := 2) rfl)).mono ?_)
  rintro r w3 ⟨rfl, k3⟩
  replace da := da.kb k3
  replace b1 := b1.kb k3
  replace b2 := b2.kb k3
  replace b3 := b3.kb k3
  replace p2 := p2.kb k3
  replace kx := kx.trans k3
  have s3 := k3.size
  skip
  clear k3
  have en2 := (enters_of Tryd.func77 (by kernel_rfl) rfl : ∀ args W, (callFunc 77 args).run Tryd.prog W = .ok (.enter 77 args) W)
  go_wp2_with fail
  (with_reducible refine (cWrite_2 _ _ _ _ _ _ _ _ _ _ _ _ p2 rfl rfl b3 rfl).mono ?_)
  rintro r w4 ⟨rfl, y4, k4⟩
  have s4 := k4.2.2.2.1
  replace b1 := b1.kx k4 (by simp only [List.mem_singleton]; omega)
  replace b2 := b2.kx k4 (by simp only [List.mem_singleton]; omega)
  replace p2 := p2.kx k4 (by simp only [List.mem_singleton]; omega)
  replace b3 : Is w4 (w1.heap.size) #[.int .i64 xu, .int .i64 yu, .int .i64 z2] 23 := y4
  replace kx := k4.old kx (by intro x hx; simp only [List.mem_singleton] at hx; subst hx; omega)
  replace da := da0.out.kb kx
  clear y4
  have f14 := b1.c (i := 0) rfl
  have f15 := b1.c (i := 1) rfl
  have f16 := b1.c (i := 2) rfl
  have f17 := b1.c (i := 3) rfl
  have f18 := b1.c (i := 4) rfl
  have f19 := b1.c (i := 5) rfl
  have f20 := b1.c (i := 6) rfl
  have f21 := b1.c (i := 7) rfl
  have f22 := b1.c (i := 8) rfl
  have f23 := b3.c (i := 0) rfl
  have f24 := b3.c (i := 1) rfl
  have f25 := b3.c (i := 2) rfl
  go_wp2_with fail
  clear f14 f15 f16 f17 f18 f19 f20 f21 f22 f23 f24 f25
  (with_reducible refine (cplace_1 nu ku au xu yu zu lou hiu fpu flu fcu fs hfl hall xu yu z2 _ da).mono ?_)
  rintro r w5 ⟨qq, cc, rfl, U1, k5⟩
  replace da := da.kb k5
  replace b1 := b1.kb k5
  replace b2 := b2.kb k5
  replace b3 := b3.kb k5
  replace p2 := p2.kb k5
  replace kx := kx.trans k5
  have s5 := k5.size
  skip
  clear k5
  try simp only [World.size_alloc, World.size_setCell] at U1
  have f26 := b2.c (i := 0) rfl
  have f27 := b2.f 0
  have f28 := b2.c (i := 1) rfl
  have f29 := b2.f 1
  have f30 := b2.c (i := 2) rfl
  have f31 := b2.f 2
  have f32 := b2.c (i := 3) rfl
  have f33 := b2.f 3
  have f34 := b2.c (i := 4) rfl
  have f35 := b2.f 4
  have f36 := b2.c (i := 5) rfl
  have f37 := b2.f 5
  have f38 := b2.c (i := 6) rfl
  have f39 := b2.f 6
  have f40 := b2.c (i := 7) rfl
  have f41 := b2.f 7
  have f42 := b2.c (i := 8) rfl
  have f43 := b2.f 8
  go_wp2
  clear f26 f27 f28 f29 f30 f31 f32 f33 f34 f35 f36 f37 f38 f39 f40 f41 f42 f43
  replace b2 : Is _ _ #[.string nu, .int .i64 0, .int .i64 0, .int .i64 0, .int .i64 0, .int .i64 0, .int .i64 0, .int .i64 0, .slice none 0 0] _ := b2.set 0 (.string nu)
  replace b2 : Is _ _ #[.string nu, .int .i64 ku, .int .i64 0, .int .i64 0, .int .i64 0, .int .i64 0, .int .i64 0, .int .i64 0, .slice none 0 0] _ := b2.set 1 (.int .i64 ku)
  replace b2 : Is _ _ #[.string nu, .int .i64 ku, .int .i64 au, .int .i64 0, .int .i64 0, .int .i64 0, .int .i64 0, .int .i64 0, .slice none 0 0] _ := b2.set 2 (.int .i64 au)
  replace b2 : Is _ _ #[.string nu, .int .i64 ku, .int .i64 au, .int .i64 xu, .int .i64 0, .int .i64 0, .int .i64 0, .int .i64 0, .slice none 0 0] _ := b2.set 3 (.int .i64 xu)
  replace b2 : Is _ _ #[.string nu, .int .i64 ku, .int .i64 au, .int .i64 xu, .int .i64 yu, .int .i64 0, .int .i64 0, .int .i64 0, .slice none 0 0] _ := b2.set 4 (.int .i64 yu)
  replace b2 : Is _ _ #[.string nu, .int .i64 ku, .int .i64 au, .int .i64 xu, .int .i64 yu, .int .i64 z2, .int .i64 0, .int .i64 0, .slice none 0 0] _ := b2.set 5 (.int .i64 z2)
  replace b2 : Is _ _ #[.string nu, .int .i64 ku, .int .i64 au, .int .i64 xu, .int .i64 yu, .int .i64 z2, .int .i64 lou, .int .i64 0, .slice none 0 0] _ := b2.set 6 (.int .i64 lou)
  replace b2 : Is _ _ #[.string nu, .int .i64 ku, .int .i64 au, .int .i64 xu, .int .i64 yu, .int .i64 z2, .int .i64 lou, .int .i64 hiu, .slice none 0 0] _ := b2.set 7 (.int .i64 hiu)
  replace b2 : Is _ _ #[.string nu, .int .i64 ku, .int .i64 au, .int .i64 xu, .int .i64 yu, .int .i64 z2, .int .i64 lou, .int .i64 hiu, .slice qq flu cc] _ := b2.set 8 (.slice qq flu cc)
  replace U1 := (((((((((U1.far (p := ⟨w.heap.size + 1, 0, none⟩) (show w.heap.size + 1 < (w4.heap.size) by omega) (.string nu)).far (p := ⟨w.heap.size + 1, 1, none⟩) (show w.heap.size + 1 < (w4.heap.size) by omega) (.int .i64 ku)).far (p := ⟨w.heap.size + 1, 2, none⟩) (show w.heap.size + 1 < (w4.heap.size) by omega) (.int .i64 au)).far (p := ⟨w.heap.size + 1, 3, none⟩) (show w.heap.size + 1 < (w4.heap.size) by omega) (.int .i64 xu)).far (p := ⟨w.heap.size + 1, 4, none⟩) (show w.heap.size + 1 < (w4.heap.size) by omega) (.int .i64 yu)).far (p := ⟨w.heap.size + 1, 5, none⟩) (show w.heap.size + 1 < (w4.heap.size) by omega) (.int .i64 z2)).far (p := ⟨w.heap.size + 1, 6, none⟩) (show w.heap.size + 1 < (w4.heap.size) by omega) (.int .i64 lou)).far (p := ⟨w.heap.size + 1, 7, none⟩) (show w.heap.size + 1 < (w4.heap.size) by omega) (.int .i64 hiu)).far (p := ⟨w.heap.size + 1, 8, none⟩) (show w.heap.size + 1 < (w4.heap.size) by omega) (.slice qq flu cc))
  replace kx := ((((((((kx.setCell (p := ⟨w.heap.size + 1, 0, none⟩) (show w.heap.size ≤ w.heap.size + 1 by omega) (.string nu)).setCell (p := ⟨w.heap.size + 1, 1, none⟩) (show w.heap.size ≤ w.heap.size + 1 by omega) (.int .i64 ku)).setCell (p := ⟨w.heap.size + 1, 2, none⟩) (show w.heap.size ≤ w.heap.size + 1 by omega) (.int .i64 au)).setCell (p := ⟨w.heap.size + 1, 3, none⟩) (show w.heap.size ≤ w.heap.size + 1 by omega) (.int .i64 xu)).setCell (p := ⟨w.heap.size + 1, 4, none⟩) (show w.heap.size ≤ w.heap.size + 1 by omega) (.int .i64 yu)).setCell (p := ⟨w.heap.size + 1, 5, none⟩) (show w.heap.size ≤ w.heap.size + 1 by omega) (.int .i64 z2)).setCell (p := ⟨w.heap.size + 1, 6, none⟩) (show w.heap.size ≤ w.heap.size + 1 by omega) (.int .i64 lou)).setCell (p := ⟨w.heap.size + 1, 7, none⟩) (show w.heap.size ≤ w.heap.size + 1 by omega) (.int .i64 hiu)).setCell (p := ⟨w.heap.size + 1, 8, none⟩) (show w.heap.size ≤ w.heap.size + 1 by omega) (.slice qq flu cc)
  refine ret_row2 Tryd.results26 rfl rfl rfl b2 Tryd.underlying28 rfl (by kernel_rfl) ?_
  exact ⟨_, _, rfl, U1.mono (by omega), kx⟩
end Go.Proofs.YtdmfkgopalelgaaDoor
