/- Features: Turn around axis 0, any frames. -/
import Derived.Test.YtdmfkgopalelgaaDoorQk6
import Derived.Test.YtdmfkgopalelgaaDoorQg4
namespace Go.Proofs.YtdmfkgopalelgaaDoor
open Go.RowKit

set_option maxRecDepth 100000 in
set_option maxHeartbeats 4000000 in
theorem cTurn0_2 (nu : ByteArray) (ku : Int) (au : Int) (xu : Int) (yu : Int) (zu : Int) (lou : Int) (hiu : Int) (fpu : Option Addr) (flu : Nat) (fcu : Nat) (fs : List FrT) (hfl : fs.length ≤ 1000) (hall : Hid (∀ f ∈ fs, f.ds.length ≤ 1000)) (r1 : Int) (z2 : Int) (a1 : wrap64 (-zu) = z2) (q1 : Ca 50 #[.agg #[.string nu, .int .i64 ku, .int .i64 au, .int .i64 xu, .int .i64 yu, .int .i64 zu, .int .i64 lou, .int .i64 hiu, .slice fpu flu fcu], .int .i64 0] (.int .i64 r1))  (h1 : (r1 != 0) = false) (h2 : (ku == 4) = true) (w : World) (da : FrS w (.slice fpu flu fcu) fs)  : Calls Tryd.prog 28 #[.agg #[.string nu, .int .i64 ku, .int .i64 au, .int .i64 xu, .int .i64 yu, .int .i64 zu, .int .i64 lou, .int .i64 hiu, .slice fpu flu fcu], .int .i64 0] w fun r W' => ∃ q' c', r = .returned (.tuple #[.agg #[.string nu, .int .i64 ku, .int .i64 au, .int .i64 xu, .int .i64 z2, .int .i64 yu, .int .i64 lou, .int .i64 hiu, .slice q' flu c'], .int .i64 0]) ∧ FrU w.heap.size W' (.slice q' flu c') fs ∧ Kb w W' := by
  have kx := Kb.refl w
  unfold Ca at q1
  have da0 := Lib.hid da
  have a1' : IntKind.i64.wrap (-zu) = z2 := (Go.IntWalk.i64_left _).trans a1
  have j1 := ((Is.made w #[.string nu, .int .i64 ku, .int .i64 au, .int .i64 xu, .int .i64 yu, .int .i64 zu, .int .i64 lou, .int .i64 hiu, .slice fpu flu fcu] 28).alloc (.cells #[.string ⟨#[]⟩, .int .i64 0, .int .i64 0, .int .i64 0, .int .i64 0, .int .i64 0, .int .i64 0, .int .i64 0, .slice none 0 0] 28 (0, 0)))
  have f2 := j1.c (i := 0) rfl
  have f3 := j1.c (i := 1) rfl
  have f4 := j1.c (i := 2) rfl
  have f5 := j1.c (i := 3) rfl
  have f6 := j1.c (i := 4) rfl
  have f7 := j1.c (i := 5) rfl
  have f8 := j1.c (i := 6) rfl
  have f9 := j1.c (i := 7) rfl
  have f10 := j1.c (i := 8) rfl
  go_enter Tryd.func28, Tryd.ntmps28
  go_wp2_with fail
  clear f2 f3 f4 f5 f6 f7 f8 f9 f10
  have b1 := j1
  have b2 := Is.made (w.alloc (.cells #[.string nu, .int .i64 ku, .int .i64 au, .int .i64 xu, .int .i64 yu, .int .i64 zu, .int .i64 lou, .int .i64 hiu, .slice fpu flu fcu] 28 (0, 0))) #[.string ⟨#[]⟩, .int .i64 0, .int .i64 0, .int .i64 0, .int .i64 0, .int .i64 0, .int .i64 0, .int .i64 0, .slice none 0 0] 28
  simp only [World.size_alloc] at b2
  replace kx := (kx.alloc (.cells #[.string nu, .int .i64 ku, .int .i64 au, .int .i64 xu, .int .i64 yu, .int .i64 zu, .int .i64 lou, .int .i64 hiu, .slice fpu flu fcu] 28 (0, 0))).alloc (.cells #[.string ⟨#[]⟩, .int .i64 0, .int .i64 0, .int .i64 0, .int .i64 0, .int .i64 0, .int .i64 0, .int .i64 0, .slice none 0 0] 28 (0, 0))
  clear j1
  replace da := da0.out.kb kx
  (with_reducible refine (((q1).out _)).mono ?_)
  rintro r w1 ⟨rfl, k1⟩
  replace da := da.kb k1
  replace b1 := b1.kb k1
  replace b2 := b2.kb k1
  replace kx := kx.trans k1
  have s1 := k1.size
  simp only [World.size_alloc] at s1
  clear k1
  have f11 := b1.c (i := 3) rfl
  have f12 := b1.c (i := 4) rfl
  have f13 := b1.c (i := 5) rfl
  go_wp2_with fail
  clear f11 f12 f13
  replace b1 := (b1.alloc (.cells #[.int .i64 xu, .int .i64 yu, .int .i64 zu] 23 (0, 0)))
  replace b2 := (b2.alloc (.cells #[.int .i64 xu, .int .i64 yu, .int .i64 zu] 23 (0, 0)))
  have b3 := Is.made w1 #[.int .i64 xu, .int .i64 yu, .int .i64 zu] 23
  replace kx := kx.alloc (.cells #[.int .i64 xu, .int .i64 yu, .int .i64 zu] 23 (0, 0))
  replace da := da0.out.kb kx
  (with_reducible refine (cCoord3_1 w.heap.size _).mono ?_)
  rintro r w2 ⟨g2, rfl, p2, i2, k2⟩
  replace da := da.kb k2
  replace b1 := b1.kb k2
  replace b2 := b2.kb k2
  replace b3 := b3.kb k2
  replace kx := kx.trans k2
  have s2 := k2.size
  simp only [World.size_alloc] at s2
  clear k2
  simp only [World.size_alloc] at i2
  go_wp2_with fail
  (with_reducible refine (cCoord0_1 w1.heap.size _).mono ?_)
  rintro r w3 ⟨g3, rfl, p3, i3, k3⟩
  replace da := da.kb k3
  replace b1 := b1.kb k3
  replace b2 := b2.kb k3
  replace b3 := b3.kb k3
  replace p2 := p2.kb k3
  replace kx := kx.trans k3
  have s3 := k3.size
  skip
  clear k3
  have en1 := (enters_of Tryd.func76 (by kernel_rfl) rfl : ∀ args W, (callFunc 76 args).run Tryd.prog W = .ok (.enter 76 args) W)
  go_wp2_with fail
  (with_reducible refine (cRead_2 _ _ _ _ _ _ p2 (b1.c (i := 5) rfl)).mono ?_)
  rintro r w4 ⟨rfl, k4⟩
  replace da := da.kb k4
  replace b1 := b1.kb k4
  replace b2 := b2.kb k4
  replace b3 := b3.kb k4
  replace p2 := p2.kb k4
  replace p3 := p3.kb k4
  replace kx := kx.trans k4
  have s4 := k4.size
  skip
  clear k4
  have en2 := (enters_of Tryd.func77 (by kernel_rfl) rfl : ∀ args W, (callFunc 77 args).run Tryd.prog W = .ok (.enter 77 args) W)
  go_wp2_with fail
  (with_reducible refine (cWrite_1 _ _ _ _ _ _ _ _ _ _ _ _ p3 rfl rfl b3 rfl).mono ?_)
  rintro r w5 ⟨rfl, y5, k5⟩
  have s5 := k5.2.2.2.1
  replace b1 := b1.kx k5 (by simp only [List.mem_singleton]; omega)
  replace b2 := b2.kx k5 (by simp only [List.mem_singleton]; omega)
  replace p2 := p2.kx k5 (by simp only [List.mem_singleton]; omega)
  replace p3 := p3.kx k5 (by simp only [List.mem_singleton]; omega)
  replace b3 : Is w5 (w1.heap.size) #[.int .i64 xu, .int .i64 z2, .int .i64 zu] 23 := y5
  replace kx := k5.old kx (by intro x hx; simp only [List.mem_singleton] at hx; subst hx; omega)
  replace da := da0.out.kb kx
  clear y5
  have en3 := (enters_of Tryd.func76 (by kernel_rfl) rfl : ∀ args W, (callFunc 76 args).run Tryd.prog W = .ok (.enter 76 args) W)
  go_wp2_with fail
  (with_reducible refine (cRead_1 _ _ _ _ _ _ p2 (b1.c (i := 4) rfl)).mono ?_)
  rintro r w6 ⟨rfl, k6⟩
  replace da := da.kb k6
  replace b1 := b1.kb k6
  replace b2 := b2.kb k6
  replace b3 := b3.kb k6
  replace p2 := p2.kb k6
  replace p3 := p3.kb k6
  replace kx := kx.trans k6
  have s6 := k6.size
  skip
  clear k6
  have en4 := (enters_of Tryd.func77 (by kernel_rfl) rfl : ∀ args W, (callFunc 77 args).run Tryd.prog W = .ok (.enter 77 args) W)
  go_wp2_with fail
  (with_reducible refine (cWrite_2 _ _ _ _ _ _ _ _ _ _ _ _ p3 rfl rfl b3 rfl).mono ?_)
  rintro r w7 ⟨rfl, y7, k7⟩
  have s7 := k7.2.2.2.1
  replace b1 := b1.kx k7 (by simp only [List.mem_singleton]; omega)
  replace b2 := b2.kx k7 (by simp only [List.mem_singleton]; omega)
  replace p2 := p2.kx k7 (by simp only [List.mem_singleton]; omega)
  replace p3 := p3.kx k7 (by simp only [List.mem_singleton]; omega)
  replace b3 : Is w7 (w1.heap.size) #[.int .i64 xu, .int .i64 z2, .int .i64 yu] 23 := y7
  replace kx := k7.old kx (by intro x hx; simp only [List.mem_singleton] at hx; subst hx; omega)
  replace da := da0.out.kb kx
  clear y7
  have f14 := b1.c (i := 0) rfl
  have f15 := b1.c (i := 1) rfl
  have f16 := b1.c (i := 2) rfl
  have f17 := b1.c (i := 3) rfl
  have f18 := b1.c (i := 4) rfl
  have f19 := b1.c (i := 5) rfl
  have f20 := b1.c (i := 6) rfl
  have f21 := b1.c (i := 7) rfl
  have f22 := b1.c (i := 8) rfl
  have f23 := b3.c (i := 0) rfl
  have f24 := b3.c (i := 1) rfl
  have f25 := b3.c (i := 2) rfl
  go_wp2_with fail
  clear f14 f15 f16 f17 f18 f19 f20 f21 f22 f23 f24 f25
  (with_reducible refine (cplace_1 nu ku au xu yu zu lou hiu fpu flu fcu fs hfl hall xu z2 yu _ da).mono ?_)
  rintro r w8 ⟨qq, cc, rfl, U1, k8⟩
  replace da := da.kb k8
  replace b1 := b1.kb k8
  replace b2 := b2.kb k8
  replace b3 := b3.kb k8
  replace p2 := p2.kb k8
  replace p3 := p3.kb k8
  replace kx := kx.trans k8
  have s8 := k8.size
  skip
  clear k8
  try simp only [World.size_alloc, World.size_setCell] at U1
  have j26 := (b1.alloc (.cells #[.string nu, .int .i64 ku, .int .i64 au, .int .i64 xu, .int .i64 z2, .int .i64 yu, .int .i64 lou, .int .i64 hiu, .slice qq flu cc] 28 (0, 0)))
  have f27 := j26.c (i := 1) rfl
  have j28 := (Is.made w8 #[.string nu, .int .i64 ku, .int .i64 au, .int .i64 xu, .int .i64 z2, .int .i64 yu, .int .i64 lou, .int .i64 hiu, .slice qq flu cc] 28)
  have f29 := j28.c (i := 0) rfl
  have f30 := j28.c (i := 1) rfl
  have f31 := j28.c (i := 2) rfl
  have f32 := j28.c (i := 3) rfl
  have f33 := j28.c (i := 4) rfl
  have f34 := j28.c (i := 5) rfl
  have f35 := j28.c (i := 6) rfl
  have f36 := j28.c (i := 7) rfl
  have f37 := j28.c (i := 8) rfl
  have j38 := (b2.alloc (.cells #[.string nu, .int .i64 ku, .int .i64 au, .int .i64 xu, .int .i64 z2, .int .i64 yu, .int .i64 lou, .int .i64 hiu, .slice qq flu cc] 28 (0, 0)))
  have f39 := j38.c (i := 0) rfl
  have f40 := j38.f 0
  have f41 := j38.c (i := 1) rfl
  have f42 := j38.f 1
  have f43 := j38.c (i := 2) rfl
  have f44 := j38.f 2
  have f45 := j38.c (i := 3) rfl
  have f46 := j38.f 3
  have f47 := j38.c (i := 4) rfl
  have f48 := j38.f 4
  have f49 := j38.c (i := 5) rfl
  have f50 := j38.f 5
  have f51 := j38.c (i := 6) rfl
  have f52 := j38.f 6
  have f53 := j38.c (i := 7) rfl
  have f54 := j38.f 7
  have f55 := j38.c (i := 8) rfl
  have f56 := j38.f 8
  go_wp2
  clear f27 f29 f30 f31 f32 f33 f34 f35 f36 f37 f39 f40 f41 f42 f43 f44 f45 f46 f47 f48 f49 f50 f51 f52 f53 f54 f55 f56
  replace b2 := (b2.alloc (.cells #[.string nu, .int .i64 ku, .int .i64 au, .int .i64 xu, .int .i64 z2, .int .i64 yu, .int .i64 lou, .int .i64 hiu, .slice qq flu cc] 28 (0, 0)))
  replace b2 : Is _ _ #[.string nu, .int .i64 0, .int .i64 0, .int .i64 0, .int .i64 0, .int .i64 0, .int .i64 0, .int .i64 0, .slice none 0 0] _ := b2.set 0 (.string nu)
  replace b2 : Is _ _ #[.string nu, .int .i64 ku, .int .i64 0, .int .i64 0, .int .i64 0, .int .i64 0, .int .i64 0, .int .i64 0, .slice none 0 0] _ := b2.set 1 (.int .i64 ku)
  replace b2 : Is _ _ #[.string nu, .int .i64 ku, .int .i64 au, .int .i64 0, .int .i64 0, .int .i64 0, .int .i64 0, .int .i64 0, .slice none 0 0] _ := b2.set 2 (.int .i64 au)
  replace b2 : Is _ _ #[.string nu, .int .i64 ku, .int .i64 au, .int .i64 xu, .int .i64 0, .int .i64 0, .int .i64 0, .int .i64 0, .slice none 0 0] _ := b2.set 3 (.int .i64 xu)
  replace b2 : Is _ _ #[.string nu, .int .i64 ku, .int .i64 au, .int .i64 xu, .int .i64 z2, .int .i64 0, .int .i64 0, .int .i64 0, .slice none 0 0] _ := b2.set 4 (.int .i64 z2)
  replace b2 : Is _ _ #[.string nu, .int .i64 ku, .int .i64 au, .int .i64 xu, .int .i64 z2, .int .i64 yu, .int .i64 0, .int .i64 0, .slice none 0 0] _ := b2.set 5 (.int .i64 yu)
  replace b2 : Is _ _ #[.string nu, .int .i64 ku, .int .i64 au, .int .i64 xu, .int .i64 z2, .int .i64 yu, .int .i64 lou, .int .i64 0, .slice none 0 0] _ := b2.set 6 (.int .i64 lou)
  replace b2 : Is _ _ #[.string nu, .int .i64 ku, .int .i64 au, .int .i64 xu, .int .i64 z2, .int .i64 yu, .int .i64 lou, .int .i64 hiu, .slice none 0 0] _ := b2.set 7 (.int .i64 hiu)
  replace b2 : Is _ _ #[.string nu, .int .i64 ku, .int .i64 au, .int .i64 xu, .int .i64 z2, .int .i64 yu, .int .i64 lou, .int .i64 hiu, .slice qq flu cc] _ := b2.set 8 (.slice qq flu cc)
  replace U1 := ((((((((((U1.alloc (.cells #[.string nu, .int .i64 ku, .int .i64 au, .int .i64 xu, .int .i64 z2, .int .i64 yu, .int .i64 lou, .int .i64 hiu, .slice qq flu cc] 28 (0, 0))).far (p := ⟨w.heap.size + 1, 0, none⟩) (show w.heap.size + 1 < (w7.heap.size) by omega) (.string nu)).far (p := ⟨w.heap.size + 1, 1, none⟩) (show w.heap.size + 1 < (w7.heap.size) by omega) (.int .i64 ku)).far (p := ⟨w.heap.size + 1, 2, none⟩) (show w.heap.size + 1 < (w7.heap.size) by omega) (.int .i64 au)).far (p := ⟨w.heap.size + 1, 3, none⟩) (show w.heap.size + 1 < (w7.heap.size) by omega) (.int .i64 xu)).far (p := ⟨w.heap.size + 1, 4, none⟩) (show w.heap.size + 1 < (w7.heap.size) by omega) (.int .i64 z2)).far (p := ⟨w.heap.size + 1, 5, none⟩) (show w.heap.size + 1 < (w7.heap.size) by omega) (.int .i64 yu)).far (p := ⟨w.heap.size + 1, 6, none⟩) (show w.heap.size + 1 < (w7.heap.size) by omega) (.int .i64 lou)).far (p := ⟨w.heap.size + 1, 7, none⟩) (show w.heap.size + 1 < (w7.heap.size) by omega) (.int .i64 hiu)).far (p := ⟨w.heap.size + 1, 8, none⟩) (show w.heap.size + 1 < (w7.heap.size) by omega) (.slice qq flu cc))
  replace kx := (((((((((kx.alloc (.cells #[.string nu, .int .i64 ku, .int .i64 au, .int .i64 xu, .int .i64 z2, .int .i64 yu, .int .i64 lou, .int .i64 hiu, .slice qq flu cc] 28 (0, 0))).setCell (p := ⟨w.heap.size + 1, 0, none⟩) (show w.heap.size ≤ w.heap.size + 1 by omega) (.string nu)).setCell (p := ⟨w.heap.size + 1, 1, none⟩) (show w.heap.size ≤ w.heap.size + 1 by omega) (.int .i64 ku)).setCell (p := ⟨w.heap.size + 1, 2, none⟩) (show w.heap.size ≤ w.heap.size + 1 by omega) (.int .i64 au)).setCell (p := ⟨w.heap.size + 1, 3, none⟩) (show w.heap.size ≤ w.heap.size + 1 by omega) (.int .i64 xu)).setCell (p := ⟨w.heap.size + 1, 4, none⟩) (show w.heap.size ≤ w.heap.size + 1 by omega) (.int .i64 z2)).setCell (p := ⟨w.heap.size + 1, 5, none⟩) (show w.heap.size ≤ w.heap.size + 1 by omega) (.int .i64 yu)).setCell (p := ⟨w.heap.size + 1, 6, none⟩) (show w.heap.size ≤ w.heap.size + 1 by omega) (.int .i64 lou)).setCell (p := ⟨w.heap.size + 1, 7, none⟩) (show w.heap.size ≤ w.heap.size + 1 by omega) (.int .i64 hiu)).setCell (p := ⟨w.heap.size + 1, 8, none⟩) (show w.heap.size ≤ w.heap.size + 1 by omega) (.slice qq flu cc)
  refine ret_row2 Tryd.results28 rfl rfl rfl b2 Tryd.underlying28 rfl (by kernel_rfl) ?_
  exact ⟨_, _, rfl, U1.mono (by omega), kx⟩
set_option maxRecDepth 100000 in
set_option maxHeartbeats 4000000 in
theorem cTurn0_3 (nu : ByteArray) (ku : Int) (au : Int) (xu : Int) (yu : Int) (zu : Int) (lou : Int) (hiu : Int) (fpu : Option Addr) (flu : Nat) (fcu : Nat) (fs : List FrT) (hfl : fs.length ≤ 1000) (hall : Hid (∀ f ∈ fs, f.ds.length ≤ 1000)) (r1 : Int) (z2 : Int) (a1 : wrap64 (-zu) = z2) (q1 : Ca 50 #[.agg #[.string nu, .int .i64 ku, .int .i64 au, .int .i64 xu, .int .i64 yu, .int .i64 zu, .int .i64 lou, .int .i64 hiu, .slice fpu flu fcu], .int .i64 0] (.int .i64 r1))  (h1 : (r1 != 0) = false) (h2 : (ku == 4) = false) (h3 : (au == 1) = true) (w : World) (da : FrS w (.slice fpu flu fcu) fs)  : Calls Tryd.prog 28 #[.agg #[.string nu, .int .i64 ku, .int .i64 au, .int .i64 xu, .int .i64 yu, .int .i64 zu, .int .i64 lou, .int .i64 hiu, .slice fpu flu fcu], .int .i64 0] w fun r W' => ∃ q' c', r = .returned (.tuple #[.agg #[.string nu, .int .i64 ku, .int .i64 2, .int .i64 xu, .int .i64 z2, .int .i64 yu, .int .i64 lou, .int .i64 hiu, .slice q' flu c'], .int .i64 0]) ∧ FrU w.heap.size W' (.slice q' flu c') fs ∧ Kb w W' := by
  have kx := Kb.refl w
  unfold Ca at q1
  have da0 := Lib.hid da
  have a1' : IntKind.i64.wrap (-zu) = z2 := (Go.IntWalk.i64_left _).trans a1
  have j1 := ((Is.made w #[.string nu, .int .i64 ku, .int .i64 au, .int .i64 xu, .int .i64 yu, .int .i64 zu, .int .i64 lou, .int .i64 hiu, .slice fpu flu fcu] 28).alloc (.cells #[.string ⟨#[]⟩, .int .i64 0, .int .i64 0, .int .i64 0, .int .i64 0, .int .i64 0, .int .i64 0, .int .i64 0, .slice none 0 0] 28 (0, 0)))
  have f2 := j1.c (i := 0) rfl
  have f3 := j1.c (i := 1) rfl
  have f4 := j1.c (i := 2) rfl
  have f5 := j1.c (i := 3) rfl
  have f6 := j1.c (i := 4) rfl
  have f7 := j1.c (i := 5) rfl
  have f8 := j1.c (i := 6) rfl
  have f9 := j1.c (i := 7) rfl
  have f10 := j1.c (i := 8) rfl
  go_enter Tryd.func28, Tryd.ntmps28
  go_wp2_with fail
  clear f2 f3 f4 f5 f6 f7 f8 f9 f10
  have b1 := j1
  have b2 := Is.made (w.alloc (.cells #[.string nu, .int .i64 ku, .int .i64 au, .int .i64 xu, .int .i64 yu, .int .i64 zu, .int .i64 lou, .int .i64 hiu, .slice fpu flu fcu] 28 (0, 0))) #[.string ⟨#[]⟩, .int .i64 0, .int .i64 0, .int .i64 0, .int .i64 0, .int .i64 0, .int .i64 0, .int .i64 0, .slice none 0 0] 28
  simp only [World.size_alloc] at b2
  replace kx := (kx.alloc (.cells #[.string nu, .int .i64 ku, .int .i64 au, .int .i64 xu, .int .i64 yu, .int .i64 zu, .int .i64 lou, .int .i64 hiu, .slice fpu flu fcu] 28 (0, 0))).alloc (.cells #[.string ⟨#[]⟩, .int .i64 0, .int .i64 0, .int .i64 0, .int .i64 0, .int .i64 0, .int .i64 0, .int .i64 0, .slice none 0 0] 28 (0, 0))
  clear j1
  replace da := da0.out.kb kx
  (with_reducible refine (((q1).out _)).mono ?_)
  rintro r w1 ⟨rfl, k1⟩
  replace da := da.kb k1
  replace b1 := b1.kb k1
  replace b2 := b2.kb k1
  replace kx := kx.trans k1
  have s1 := k1.size
  simp only [World.size_alloc] at s1
  clear k1
  have f11 := b1.c (i := 3) rfl
  have f12 := b1.c (i := 4) rfl
  have f13 := b1.c (i := 5) rfl
  go_wp2_with fail
  clear f11 f12 f13
  replace b1 := (b1.alloc (.cells #[.int .i64 xu, .int .i64 yu, .int .i64 zu] 23 (0, 0)))
  replace b2 := (b2.alloc (.cells #[.int .i64 xu, .int .i64 yu, .int .i64 zu] 23 (0, 0)))
  have b3 := Is.made w1 #[.int .i64 xu, .int .i64 yu, .int .i64 zu] 23
  replace kx := kx.alloc (.cells #[.int .i64 xu, .int .i64 yu, .int .i64 zu] 23 (0, 0))
  replace da := da0.out.kb kx
  (with_reducible refine (cCoord3_1 w.heap.size _).mono ?_)
  rintro r w2 ⟨g2, rfl, p2, i2, k2⟩
  replace da := da.kb k2
  replace b1 := b1.kb k2
  replace b2 := b2.kb k2
  replace b3 := b3.kb k2
  replace kx := kx.trans k2
  have s2 := k2.size
  simp only [World.size_alloc] at s2
  clear k2
  simp only [World.size_alloc] at i2
  go_wp2_with fail
  (with_reducible refine (cCoord0_1 w1.heap.size _).mono ?_)
  rintro r w3 ⟨g3, rfl, p3, i3, k3⟩
  replace da := da.kb k3
  replace b1 := b1.kb k3
  replace b2 := b2.kb k3
  replace b3 := b3.kb k3
  replace p2 := p2.kb k3
  replace kx := kx.trans k3
  have s3 := k3.size
  skip
  clear k3
  have en1 := (enters_of Tryd.func76 (by kernel_rfl) rfl : ∀ args W, (callFunc 76 args).run Tryd.prog W = .ok (.enter 76 args) W)
  go_wp2_with fail
  (with_reducible refine (cRead_2 _ _ _ _ _ _ p2 (b1.c (i := 5) rfl)).mono ?_)
  rintro r w4 ⟨rfl, k4⟩
  replace da := da.kb k4
  replace b1 := b1.kb k4
  replace b2 := b2.kb k4
  replace b3 := b3.kb k4
  replace p2 := p2.kb k4
  replace p3 := p3.kb k4
  replace kx := kx.trans k4
  have s4 := k4.size
  skip
  clear k4
  have en2 := (enters_of Tryd.func77 (by kernel_rfl) rfl : ∀ args W, (callFunc 77 args).run Tryd.prog W = .ok (.enter 77 args) W)
  go_wp2_with fail
  (with_reducible refine (cWrite_1 _ _ _ _ _ _ _ _ _ _ _ _ p3 rfl rfl b3 rfl).mono ?_)
  rintro r w5 ⟨rfl, y5, k5⟩
  have s5 := k5.2.2.2.1
  replace b1 := b1.kx k5 (by simp only [List.mem_singleton]; omega)
  replace b2 := b2.kx k5 (by simp only [List.mem_singleton]; omega)
  replace p2 := p2.kx k5 (by simp only [List.mem_singleton]; omega)
  replace p3 := p3.kx k5 (by simp only [List.mem_singleton]; omega)
  replace b3 : Is w5 (w1.heap.size) #[.int .i64 xu, .int .i64 z2, .int .i64 zu] 23 := y5
  replace kx := k5.old kx (by intro x hx; simp only [List.mem_singleton] at hx; subst hx; omega)
  replace da := da0.out.kb kx
  clear y5
  have en3 := (enters_of Tryd.func76 (by kernel_rfl) rfl : ∀ args W, (callFunc 76 args).run Tryd.prog W = .ok (.enter 76 args) W)
  go_wp2_with fail
  (with_reducible refine (cRead_1 _ _ _ _ _ _ p2 (b1.c (i := 4) rfl)).mono ?_)
  rintro r w6 ⟨rfl, k6⟩
  replace da := da.kb k6
  replace b1 := b1.kb k6
  replace b2 := b2.kb k6
  replace b3 := b3.kb k6
  replace p2 := p2.kb k6
  replace p3 := p3.kb k6
  replace kx := kx.trans k6
  have s6 := k6.size
  skip
  clear k6
  have en4 := (enters_of Tryd.func77 (by kernel_rfl) rfl : ∀ args W, (callFunc 77 args).run Tryd.prog W = .ok (.enter 77 args) W)
  go_wp2_with fail
  (with_reducible refine (cWrite_2 _ _ _ _ _ _ _ _ _ _ _ _ p3 rfl rfl b3 rfl).mono ?_)
  rintro r w7 ⟨rfl, y7, k7⟩
  have s7 := k7.2.2.2.1
  replace b1 := b1.kx k7 (by simp only [List.mem_singleton]; omega)
  replace b2 := b2.kx k7 (by simp only [List.mem_singleton]; omega)
  replace p2 := p2.kx k7 (by simp only [List.mem_singleton]; omega)
  replace p3 := p3.kx k7 (by simp only [List.mem_singleton]; omega)
  replace b3 : Is w7 (w1.heap.size) #[.int .i64 xu, .int .i64 z2, .int .i64 yu] 23 := y7
  replace kx := k7.old kx (by intro x hx; simp only [List.mem_singleton] at hx; subst hx; omega)
  replace da := da0.out.kb kx
  clear y7
  have f14 := b1.c (i := 0) rfl
  have f15 := b1.c (i := 1) rfl
  have f16 := b1.c (i := 2) rfl
  have f17 := b1.c (i := 3) rfl
  have f18 := b1.c (i := 4) rfl
  have f19 := b1.c (i := 5) rfl
  have f20 := b1.c (i := 6) rfl
  have f21 := b1.c (i := 7) rfl
  have f22 := b1.c (i := 8) rfl
  have f23 := b3.c (i := 0) rfl
  have f24 := b3.c (i := 1) rfl
  have f25 := b3.c (i := 2) rfl
  go_wp2_with fail
  clear f14 f15 f16 f17 f18 f19 f20 f21 f22 f23 f24 f25
  (with_reducible refine (cplace_1 nu ku au xu yu zu lou hiu fpu flu fcu fs hfl hall xu z2 yu _ da).mono ?_)
  rintro r w8 ⟨qq, cc, rfl, U1, k8⟩
  replace da := da.kb k8
  replace b1 := b1.kb k8
  replace b2 := b2.kb k8
  replace b3 := b3.kb k8
  replace p2 := p2.kb k8
  replace p3 := p3.kb k8
  replace kx := kx.trans k8
  have s8 := k8.size
  skip
  clear k8
  try simp only [World.size_alloc, World.size_setCell] at U1
  have j26 := (b1.alloc (.cells #[.string nu, .int .i64 ku, .int .i64 au, .int .i64 xu, .int .i64 z2, .int .i64 yu, .int .i64 lou, .int .i64 hiu, .slice qq flu cc] 28 (0, 0)))
  have f27 := j26.c (i := 1) rfl
  have f28 := j26.c (i := 2) rfl
  have j29 := (Is.made w8 #[.string nu, .int .i64 ku, .int .i64 2, .int .i64 xu, .int .i64 z2, .int .i64 yu, .int .i64 lou, .int .i64 hiu, .slice qq flu cc] 28)
  have f30 := j29.c (i := 0) rfl
  have f31 := j29.c (i := 1) rfl
  have f32 := j29.c (i := 2) rfl
  have f33 := j29.c (i := 3) rfl
  have f34 := j29.c (i := 4) rfl
  have f35 := j29.c (i := 5) rfl
  have f36 := j29.c (i := 6) rfl
  have f37 := j29.c (i := 7) rfl
  have f38 := j29.c (i := 8) rfl
  have j39 := (b2.alloc (.cells #[.string nu, .int .i64 ku, .int .i64 2, .int .i64 xu, .int .i64 z2, .int .i64 yu, .int .i64 lou, .int .i64 hiu, .slice qq flu cc] 28 (0, 0)))
  have f40 := j39.c (i := 0) rfl
  have f41 := j39.f 0
  have f42 := j39.c (i := 1) rfl
  have f43 := j39.f 1
  have f44 := j39.c (i := 2) rfl
  have f45 := j39.f 2
  have f46 := j39.c (i := 3) rfl
  have f47 := j39.f 3
  have f48 := j39.c (i := 4) rfl
  have f49 := j39.f 4
  have f50 := j39.c (i := 5) rfl
  have f51 := j39.f 5
  have f52 := j39.c (i := 6) rfl
  have f53 := j39.f 6
  have f54 := j39.c (i := 7) rfl
  have f55 := j39.f 7
  have f56 := j39.c (i := 8) rfl
  have f57 := j39.f 8
  go_wp2
  clear f27 f28 f30 f31 f32 f33 f34 f35 f36 f37 f38 f40 f41 f42 f43 f44 f45 f46 f47 f48 f49 f50 f51 f52 f53 f54 f55 f56 f57
  replace b2 := (b2.alloc (.cells #[.string nu, .int .i64 ku, .int .i64 2, .int .i64 xu, .int .i64 z2, .int .i64 yu, .int .i64 lou, .int .i64 hiu, .slice qq flu cc] 28 (0, 0)))
  replace b2 : Is _ _ #[.string nu, .int .i64 0, .int .i64 0, .int .i64 0, .int .i64 0, .int .i64 0, .int .i64 0, .int .i64 0, .slice none 0 0] _ := b2.set 0 (.string nu)
  replace b2 : Is _ _ #[.string nu, .int .i64 ku, .int .i64 0, .int .i64 0, .int .i64 0, .int .i64 0, .int .i64 0, .int .i64 0, .slice none 0 0] _ := b2.set 1 (.int .i64 ku)
  replace b2 : Is _ _ #[.string nu, .int .i64 ku, .int .i64 2, .int .i64 0, .int .i64 0, .int .i64 0, .int .i64 0, .int .i64 0, .slice none 0 0] _ := b2.set 2 (.int .i64 2)
  replace b2 : Is _ _ #[.string nu, .int .i64 ku, .int .i64 2, .int .i64 xu, .int .i64 0, .int .i64 0, .int .i64 0, .int .i64 0, .slice none 0 0] _ := b2.set 3 (.int .i64 xu)
  replace b2 : Is _ _ #[.string nu, .int .i64 ku, .int .i64 2, .int .i64 xu, .int .i64 z2, .int .i64 0, .int .i64 0, .int .i64 0, .slice none 0 0] _ := b2.set 4 (.int .i64 z2)
  replace b2 : Is _ _ #[.string nu, .int .i64 ku, .int .i64 2, .int .i64 xu, .int .i64 z2, .int .i64 yu, .int .i64 0, .int .i64 0, .slice none 0 0] _ := b2.set 5 (.int .i64 yu)
  replace b2 : Is _ _ #[.string nu, .int .i64 ku, .int .i64 2, .int .i64 xu, .int .i64 z2, .int .i64 yu, .int .i64 lou, .int .i64 0, .slice none 0 0] _ := b2.set 6 (.int .i64 lou)
  replace b2 : Is _ _ #[.string nu, .int .i64 ku, .int .i64 2, .int .i64 xu, .int .i64 z2, .int .i64 yu, .int .i64 lou, .int .i64 hiu, .slice none 0 0] _ := b2.set 7 (.int .i64 hiu)
  replace b2 : Is _ _ #[.string nu, .int .i64 ku, .int .i64 2, .int .i64 xu, .int .i64 z2, .int .i64 yu, .int .i64 lou, .int .i64 hiu, .slice qq flu cc] _ := b2.set 8 (.slice qq flu cc)
  replace U1 := ((((((((((U1.alloc (.cells #[.string nu, .int .i64 ku, .int .i64 2, .int .i64 xu, .int .i64 z2, .int .i64 yu, .int .i64 lou, .int .i64 hiu, .slice qq flu cc] 28 (0, 0))).far (p := ⟨w.heap.size + 1, 0, none⟩) (show w.heap.size + 1 < (w7.heap.size) by omega) (.string nu)).far (p := ⟨w.heap.size + 1, 1, none⟩) (show w.heap.size + 1 < (w7.heap.size) by omega) (.int .i64 ku)).far (p := ⟨w.heap.size + 1, 2, none⟩) (show w.heap.size + 1 < (w7.heap.size) by omega) (.int .i64 2)).far (p := ⟨w.heap.size + 1, 3, none⟩) (show w.heap.size + 1 < (w7.heap.size) by omega) (.int .i64 xu)).far (p := ⟨w.heap.size + 1, 4, none⟩) (show w.heap.size + 1 < (w7.heap.size) by omega) (.int .i64 z2)).far (p := ⟨w.heap.size + 1, 5, none⟩) (show w.heap.size + 1 < (w7.heap.size) by omega) (.int .i64 yu)).far (p := ⟨w.heap.size + 1, 6, none⟩) (show w.heap.size + 1 < (w7.heap.size) by omega) (.int .i64 lou)).far (p := ⟨w.heap.size + 1, 7, none⟩) (show w.heap.size + 1 < (w7.heap.size) by omega) (.int .i64 hiu)).far (p := ⟨w.heap.size + 1, 8, none⟩) (show w.heap.size + 1 < (w7.heap.size) by omega) (.slice qq flu cc))
  replace kx := (((((((((kx.alloc (.cells #[.string nu, .int .i64 ku, .int .i64 2, .int .i64 xu, .int .i64 z2, .int .i64 yu, .int .i64 lou, .int .i64 hiu, .slice qq flu cc] 28 (0, 0))).setCell (p := ⟨w.heap.size + 1, 0, none⟩) (show w.heap.size ≤ w.heap.size + 1 by omega) (.string nu)).setCell (p := ⟨w.heap.size + 1, 1, none⟩) (show w.heap.size ≤ w.heap.size + 1 by omega) (.int .i64 ku)).setCell (p := ⟨w.heap.size + 1, 2, none⟩) (show w.heap.size ≤ w.heap.size + 1 by omega) (.int .i64 2)).setCell (p := ⟨w.heap.size + 1, 3, none⟩) (show w.heap.size ≤ w.heap.size + 1 by omega) (.int .i64 xu)).setCell (p := ⟨w.heap.size + 1, 4, none⟩) (show w.heap.size ≤ w.heap.size + 1 by omega) (.int .i64 z2)).setCell (p := ⟨w.heap.size + 1, 5, none⟩) (show w.heap.size ≤ w.heap.size + 1 by omega) (.int .i64 yu)).setCell (p := ⟨w.heap.size + 1, 6, none⟩) (show w.heap.size ≤ w.heap.size + 1 by omega) (.int .i64 lou)).setCell (p := ⟨w.heap.size + 1, 7, none⟩) (show w.heap.size ≤ w.heap.size + 1 by omega) (.int .i64 hiu)).setCell (p := ⟨w.heap.size + 1, 8, none⟩) (show w.heap.size ≤ w.heap.size + 1 by omega) (.slice qq flu cc)
  refine ret_row2 Tryd.results28 rfl rfl rfl b2 Tryd.underlying28 rfl (by kernel_rfl) ?_
  exact ⟨_, _, rfl, U1.mono (by omega), kx⟩
set_option maxRecDepth 100000 in
set_option maxHeartbeats 4000000 in
theorem cTurn0_4 (nu : ByteArray) (ku : Int) (au : Int) (xu : Int) (yu : Int) (zu : Int) (lou : Int) (hiu : Int) (fpu : Option Addr) (flu : Nat) (fcu : Nat) (fs : List FrT) (hfl : fs.length ≤ 1000) (hall : Hid (∀ f ∈ fs, f.ds.length ≤ 1000)) (r1 : Int) (z2 : Int) (a1 : wrap64 (-zu) = z2) (q1 : Ca 50 #[.agg #[.string nu, .int .i64 ku, .int .i64 au, .int .i64 xu, .int .i64 yu, .int .i64 zu, .int .i64 lou, .int .i64 hiu, .slice fpu flu fcu], .int .i64 0] (.int .i64 r1))  (h1 : (r1 != 0) = false) (h2 : (ku == 4) = false) (h3 : (au == 1) = false) (h4 : (au == 2) = true) (w : World) (da : FrS w (.slice fpu flu fcu) fs)  : Calls Tryd.prog 28 #[.agg #[.string nu, .int .i64 ku, .int .i64 au, .int .i64 xu, .int .i64 yu, .int .i64 zu, .int .i64 lou, .int .i64 hiu, .slice fpu flu fcu], .int .i64 0] w fun r W' => ∃ q' c', r = .returned (.tuple #[.agg #[.string nu, .int .i64 ku, .int .i64 1, .int .i64 xu, .int .i64 z2, .int .i64 yu, .int .i64 lou, .int .i64 hiu, .slice q' flu c'], .int .i64 0]) ∧ FrU w.heap.size W' (.slice q' flu c') fs ∧ Kb w W' := by
  have kx := Kb.refl w
  unfold Ca at q1
  have da0 := Lib.hid da
  have a1' : IntKind.i64.wrap (-zu) = z2 := (Go.IntWalk.i64_left _).trans a1
  have j1 := ((Is.made w #[.string nu, .int .i64 ku, .int .i64 au, .int .i64 xu, .int .i64 yu, .int .i64 zu, .int .i64 lou, .int .i64 hiu, .slice fpu flu fcu] 28).alloc (.cells #[.string ⟨#[]⟩, .int .i64 0, .int .i64 0, .int .i64 0, .int .i64 0, .int .i64 0, .int .i64 0, .int .i64 0, .slice none 0 0] 28 (0, 0)))
  have f2 := j1.c (i := 0) rfl
  have f3 := j1.c (i := 1) rfl
  have f4 := j1.c (i := 2) rfl
  have f5 := j1.c (i := 3) rfl
  have f6 := j1.c (i := 4) rfl
  have f7 := j1.c (i := 5) rfl
  have f8 := j1.c (i := 6) rfl
  have f9 := j1.c (i := 7) rfl
  have f10 := j1.c (i := 8) rfl
  go_enter Tryd.func28, Tryd.ntmps28
  go_wp2_with fail
  clear f2 f3 f4 f5 f6 f7 f8 f9 f10
  have b1 := j1
  have b2 := Is.made (w.alloc (.cells #[.string nu, .int .i64 ku, .int .i64 au, .int .i64 xu, .int .i64 yu, .int .i64 zu, .int .i64 lou, .int .i64 hiu, .slice fpu flu fcu] 28 (0, 0))) #[.string ⟨#[]⟩, .int .i64 0, .int .i64 0, .int .i64 0, .int .i64 0, .int .i64 0, .int .i64 0, .int .i64 0, .slice none 0 0] 28
  simp only [World.size_alloc] at b2
  replace kx := (kx.alloc (.cells #[.string nu, .int .i64 ku, .int .i64 au, .int .i64 xu, .int .i64 yu, .int .i64 zu, .int .i64 lou, .int .i64 hiu, .slice fpu flu fcu] 28 (0, 0))).alloc (.cells #[.string ⟨#[]⟩, .int .i64 0, .int .i64 0, .int .i64 0, .int .i64 0, .int .i64 0, .int .i64 0, .int .i64 0, .slice none 0 0] 28 (0, 0))
  clear j1
  replace da := da0.out.kb kx
  (with_reducible refine (((q1).out _)).mono ?_)
  rintro r w1 ⟨rfl, k1⟩
  replace da := da.kb k1
  replace b1 := b1.kb k1
  replace b2 := b2.kb k1
  replace kx := kx.trans k1
  have s1 := k1.size
  simp only [World.size_alloc] at s1
  clear k1
  have f11 := b1.c (i := 3) rfl
  have f12 := b1.c (i := 4) rfl
  have f13 := b1.c (i := 5) rfl
  go_wp2_with fail
  clear f11 f12 f13
  replace b1 := (b1.alloc (.cells #[.int .i64 xu, .int .i64 yu, .int .i64 zu] 23 (0, 0)))
  replace b2 := (b2.alloc (.cells #[.int .i64 xu, .int .i64 yu, .int .i64 zu] 23 (0, 0)))
  have b3 := Is.made w1 #[.int .i64 xu, .int .i64 yu, .int .i64 zu] 23
  replace kx := kx.alloc (.cells #[.int .i64 xu, .int .i64 yu, .int .i64 zu] 23 (0, 0))
  replace da := da0.out.kb kx
  (with_reducible refine (cCoord3_1 w.heap.size _).mono ?_)
  rintro r w2 ⟨g2, rfl, p2, i2, k2⟩
  replace da := da.kb k2
  replace b1 := b1.kb k2
  replace b2 := b2.kb k2
  replace b3 := b3.kb k2
  replace kx := kx.trans k2
  have s2 := k2.size
  simp only [World.size_alloc] at s2
  clear k2
  simp only [World.size_alloc] at i2
  go_wp2_with fail
  (with_reducible refine (cCoord0_1 w1.heap.size _).mono ?_)
  rintro r w3 ⟨g3, rfl, p3, i3, k3⟩
  replace da := da.kb k3
  replace b1 := b1.kb k3
  replace b2 := b2.kb k3
  replace b3 := b3.kb k3
  replace p2 := p2.kb k3
  replace kx := kx.trans k3
  have s3 := k3.size
  skip
  clear k3
  have en1 := (enters_of Tryd.func76 (by kernel_rfl) rfl : ∀ args W, (callFunc 76 args).run Tryd.prog W = .ok (.enter 76 args) W)
  go_wp2_with fail
  (with_reducible refine (cRead_2 _ _ _ _ _ _ p2 (b1.c (i := 5) rfl)).mono ?_)
  rintro r w4 ⟨rfl, k4⟩
  replace da := da.kb k4
  replace b1 := b1.kb k4
  replace b2 := b2.kb k4
  replace b3 := b3.kb k4
  replace p2 := p2.kb k4
  replace p3 := p3.kb k4
  replace kx := kx.trans k4
  have s4 := k4.size
  skip
  clear k4
  have en2 := (enters_of Tryd.func77 (by kernel_rfl) rfl : ∀ args W, (callFunc 77 args).run Tryd.prog W = .ok (.enter 77 args) W)
  go_wp2_with fail
  (with_reducible refine (cWrite_1 _ _ _ _ _ _ _ _ _ _ _ _ p3 rfl rfl b3 rfl).mono ?_)
  rintro r w5 ⟨rfl, y5, k5⟩
  have s5 := k5.2.2.2.1
  replace b1 := b1.kx k5 (by simp only [List.mem_singleton]; omega)
  replace b2 := b2.kx k5 (by simp only [List.mem_singleton]; omega)
  replace p2 := p2.kx k5 (by simp only [List.mem_singleton]; omega)
  replace p3 := p3.kx k5 (by simp only [List.mem_singleton]; omega)
  replace b3 : Is w5 (w1.heap.size) #[.int .i64 xu, .int .i64 z2, .int .i64 zu] 23 := y5
  replace kx := k5.old kx (by intro x hx; simp only [List.mem_singleton] at hx; subst hx; omega)
  replace da := da0.out.kb kx
  clear y5
  have en3 := (enters_of Tryd.func76 (by kernel_rfl) rfl : ∀ args W, (callFunc 76 args).run Tryd.prog W = .ok (.enter 76 args) W)
  go_wp2_with fail
  (with_reducible refine (cRead_1 _ _ _ _ _ _ p2 (b1.c (i := 4) rfl)).mono ?_)
  rintro r w6 ⟨rfl, k6⟩
  replace da := da.kb k6
  replace b1 := b1.kb k6
  replace b2 := b2.kb k6
  replace b3 := b3.kb k6
  replace p2 := p2.kb k6
  replace p3 := p3.kb k6
  replace kx := kx.trans k6
  have s6 := k6.size
  skip
  clear k6
  have en4 := (enters_of Tryd.func77 (by kernel_rfl) rfl : ∀ args W, (callFunc 77 args).run Tryd.prog W = .ok (.enter 77 args) W)
  go_wp2_with fail
  (with_reducible refine (cWrite_2 _ _ _ _ _ _ _ _ _ _ _ _ p3 rfl rfl b3 rfl).mono ?_)
  rintro r w7 ⟨rfl, y7, k7⟩
  have s7 := k7.2.2.2.1
  replace b1 := b1.kx k7 (by simp only [List.mem_singleton]; omega)
  replace b2 := b2.kx k7 (by simp only [List.mem_singleton]; omega)
  replace p2 := p2.kx k7 (by simp only [List.mem_singleton]; omega)
  replace p3 := p3.kx k7 (by simp only [List.mem_singleton]; omega)
  replace b3 : Is w7 (w1.heap.size) #[.int .i64 xu, .int .i64 z2, .int .i64 yu] 23 := y7
  replace kx := k7.old kx (by intro x hx; simp only [List.mem_singleton] at hx; subst hx; omega)
  replace da := da0.out.kb kx
  clear y7
  have f14 := b1.c (i := 0) rfl
  have f15 := b1.c (i := 1) rfl
  have f16 := b1.c (i := 2) rfl
  have f17 := b1.c (i := 3) rfl
  have f18 := b1.c (i := 4) rfl
  have f19 := b1.c (i := 5) rfl
  have f20 := b1.c (i := 6) rfl
  have f21 := b1.c (i := 7) rfl
  have f22 := b1.c (i := 8) rfl
  have f23 := b3.c (i := 0) rfl
  have f24 := b3.c (i := 1) rfl
  have f25 := b3.c (i := 2) rfl
  go_wp2_with fail
  clear f14 f15 f16 f17 f18 f19 f20 f21 f22 f23 f24 f25
  (with_reducible refine (cplace_1 nu ku au xu yu zu lou hiu fpu flu fcu fs hfl hall xu z2 yu _ da).mono ?_)
  rintro r w8 ⟨qq, cc, rfl, U1, k8⟩
  replace da := da.kb k8
  replace b1 := b1.kb k8
  replace b2 := b2.kb k8
  replace b3 := b3.kb k8
  replace p2 := p2.kb k8
  replace p3 := p3.kb k8
  replace kx := kx.trans k8
  have s8 := k8.size
  skip
  clear k8
  try simp only [World.size_alloc, World.size_setCell] at U1
  have j26 := (b1.alloc (.cells #[.string nu, .int .i64 ku, .int .i64 au, .int .i64 xu, .int .i64 z2, .int .i64 yu, .int .i64 lou, .int .i64 hiu, .slice qq flu cc] 28 (0, 0)))
  have f27 := j26.c (i := 1) rfl
  have f28 := j26.c (i := 2) rfl
  have j29 := (Is.made w8 #[.string nu, .int .i64 ku, .int .i64 1, .int .i64 xu, .int .i64 z2, .int .i64 yu, .int .i64 lou, .int .i64 hiu, .slice qq flu cc] 28)
  have f30 := j29.c (i := 0) rfl
  have f31 := j29.c (i := 1) rfl
  have f32 := j29.c (i := 2) rfl
  have f33 := j29.c (i := 3) rfl
  have f34 := j29.c (i := 4) rfl
  have f35 := j29.c (i := 5) rfl
  have f36 := j29.c (i := 6) rfl
  have f37 := j29.c (i := 7) rfl
  have f38 := j29.c (i := 8) rfl
  have j39 := (b2.alloc (.cells #[.string nu, .int .i64 ku, .int .i64 1, .int .i64 xu, .int .i64 z2, .int .i64 yu, .int .i64 lou, .int .i64 hiu, .slice qq flu cc] 28 (0, 0)))
  have f40 := j39.c (i := 0) rfl
  have f41 := j39.f 0
  have f42 := j39.c (i := 1) rfl
  have f43 := j39.f 1
  have f44 := j39.c (i := 2) rfl
  have f45 := j39.f 2
  have f46 := j39.c (i := 3) rfl
  have f47 := j39.f 3
  have f48 := j39.c (i := 4) rfl
  have f49 := j39.f 4
  have f50 := j39.c (i := 5) rfl
  have f51 := j39.f 5
  have f52 := j39.c (i := 6) rfl
  have f53 := j39.f 6
  have f54 := j39.c (i := 7) rfl
  have f55 := j39.f 7
  have f56 := j39.c (i := 8) rfl
  have f57 := j39.f 8
  go_wp2
  clear f27 f28 f30 f31 f32 f33 f34 f35 f36 f37 f38 f40 f41 f42 f43 f44 f45 f46 f47 f48 f49 f50 f51 f52 f53 f54 f55 f56 f57
  replace b2 := (b2.alloc (.cells #[.string nu, .int .i64 ku, .int .i64 1, .int .i64 xu, .int .i64 z2, .int .i64 yu, .int .i64 lou, .int .i64 hiu, .slice qq flu cc] 28 (0, 0)))
  replace b2 : Is _ _ #[.string nu, .int .i64 0, .int .i64 0, .int .i64 0, .int .i64 0, .int .i64 0, .int .i64 0, .int .i64 0, .slice none 0 0] _ := b2.set 0 (.string nu)
  replace b2 : Is _ _ #[.string nu, .int .i64 ku, .int .i64 0, .int .i64 0, .int .i64 0, .int .i64 0, .int .i64 0, .int .i64 0, .slice none 0 0] _ := b2.set 1 (.int .i64 ku)
  replace b2 : Is _ _ #[.string nu, .int .i64 ku, .int .i64 1, .int .i64 0, .int .i64 0, .int .i64 0, .int .i64 0, .int .i64 0, .slice none 0 0] _ := b2.set 2 (.int .i64 1)
  replace b2 : Is _ _ #[.string nu, .int .i64 ku, .int .i64 1, .int .i64 xu, .int .i64 0, .int .i64 0, .int .i64 0, .int .i64 0, .slice none 0 0] _ := b2.set 3 (.int .i64 xu)
  replace b2 : Is _ _ #[.string nu, .int .i64 ku, .int .i64 1, .int .i64 xu, .int .i64 z2, .int .i64 0, .int .i64 0, .int .i64 0, .slice none 0 0] _ := b2.set 4 (.int .i64 z2)
  replace b2 : Is _ _ #[.string nu, .int .i64 ku, .int .i64 1, .int .i64 xu, .int .i64 z2, .int .i64 yu, .int .i64 0, .int .i64 0, .slice none 0 0] _ := b2.set 5 (.int .i64 yu)
  replace b2 : Is _ _ #[.string nu, .int .i64 ku, .int .i64 1, .int .i64 xu, .int .i64 z2, .int .i64 yu, .int .i64 lou, .int .i64 0, .slice none 0 0] _ := b2.set 6 (.int .i64 lou)
  replace b2 : Is _ _ #[.string nu, .int .i64 ku, .int .i64 1, .int .i64 xu, .int .i64 z2, .int .i64 yu, .int .i64 lou, .int .i64 hiu, .slice none 0 0] _ := b2.set 7 (.int .i64 hiu)
  replace b2 : Is _ _ #[.string nu, .int .i64 ku, .int .i64 1, .int .i64 xu, .int .i64 z2, .int .i64 yu, .int .i64 lou, .int .i64 hiu, .slice qq flu cc] _ := b2.set 8 (.slice qq flu cc)
  replace U1 := ((((((((((U1.alloc (.cells #[.string nu, .int .i64 ku, .int .i64 1, .int .i64 xu, .int .i64 z2, .int .i64 yu, .int .i64 lou, .int .i64 hiu, .slice qq flu cc] 28 (0, 0))).far (p := ⟨w.heap.size + 1, 0, none⟩) (show w.heap.size + 1 < (w7.heap.size) by omega) (.string nu)).far (p := ⟨w.heap.size + 1, 1, none⟩) (show w.heap.size + 1 < (w7.heap.size) by omega) (.int .i64 ku)).far (p := ⟨w.heap.size + 1, 2, none⟩) (show w.heap.size + 1 < (w7.heap.size) by omega) (.int .i64 1)).far (p := ⟨w.heap.size + 1, 3, none⟩) (show w.heap.size + 1 < (w7.heap.size) by omega) (.int .i64 xu)).far (p := ⟨w.heap.size + 1, 4, none⟩) (show w.heap.size + 1 < (w7.heap.size) by omega) (.int .i64 z2)).far (p := ⟨w.heap.size + 1, 5, none⟩) (show w.heap.size + 1 < (w7.heap.size) by omega) (.int .i64 yu)).far (p := ⟨w.heap.size + 1, 6, none⟩) (show w.heap.size + 1 < (w7.heap.size) by omega) (.int .i64 lou)).far (p := ⟨w.heap.size + 1, 7, none⟩) (show w.heap.size + 1 < (w7.heap.size) by omega) (.int .i64 hiu)).far (p := ⟨w.heap.size + 1, 8, none⟩) (show w.heap.size + 1 < (w7.heap.size) by omega) (.slice qq flu cc))
  replace kx := (((((((((kx.alloc (.cells #[.string nu, .int .i64 ku, .int .i64 1, .int .i64 xu, .int .i64 z2, .int .i64 yu, .int .i64 lou, .int .i64 hiu, .slice qq flu cc] 28 (0, 0))).setCell (p := ⟨w.heap.size + 1, 0, none⟩) (show w.heap.size ≤ w.heap.size + 1 by omega) (.string nu)).setCell (p := ⟨w.heap.size + 1, 1, none⟩) (show w.heap.size ≤ w.heap.size + 1 by omega) (.int .i64 ku)).setCell (p := ⟨w.heap.size + 1, 2, none⟩) (show w.heap.size ≤ w.heap.size + 1 by omega) (.int .i64 1)).setCell (p := ⟨w.heap.size + 1, 3, none⟩) (show w.heap.size ≤ w.heap.size + 1 by omega) (.int .i64 xu)).setCell (p := ⟨w.heap.size + 1, 4, none⟩) (show w.heap.size ≤ w.heap.size + 1 by omega) (.int .i64 z2)).setCell (p := ⟨w.heap.size + 1, 5, none⟩) (show w.heap.size ≤ w.heap.size + 1 by omega) (.int .i64 yu)).setCell (p := ⟨w.heap.size + 1, 6, none⟩) (show w.heap.size ≤ w.heap.size + 1 by omega) (.int .i64 lou)).setCell (p := ⟨w.heap.size + 1, 7, none⟩) (show w.heap.size ≤ w.heap.size + 1 by omega) (.int .i64 hiu)).setCell (p := ⟨w.heap.size + 1, 8, none⟩) (show w.heap.size ≤ w.heap.size + 1 by omega) (.slice qq flu cc)
  refine ret_row2 Tryd.results28 rfl rfl rfl b2 Tryd.underlying28 rfl (by kernel_rfl) ?_
  exact ⟨_, _, rfl, U1.mono (by omega), kx⟩
set_option maxRecDepth 100000 in
set_option maxHeartbeats 4000000 in
theorem cTurn0_5 (nu : ByteArray) (ku : Int) (au : Int) (xu : Int) (yu : Int) (zu : Int) (lou : Int) (hiu : Int) (fpu : Option Addr) (flu : Nat) (fcu : Nat) (fs : List FrT) (hfl : fs.length ≤ 1000) (hall : Hid (∀ f ∈ fs, f.ds.length ≤ 1000)) (r1 : Int) (z2 : Int) (a1 : wrap64 (-zu) = z2) (q1 : Ca 50 #[.agg #[.string nu, .int .i64 ku, .int .i64 au, .int .i64 xu, .int .i64 yu, .int .i64 zu, .int .i64 lou, .int .i64 hiu, .slice fpu flu fcu], .int .i64 0] (.int .i64 r1))  (h1 : (r1 != 0) = false) (h2 : (ku == 4) = false) (h3 : (au == 1) = false) (h4 : (au == 2) = false) (w : World) (da : FrS w (.slice fpu flu fcu) fs)  : Calls Tryd.prog 28 #[.agg #[.string nu, .int .i64 ku, .int .i64 au, .int .i64 xu, .int .i64 yu, .int .i64 zu, .int .i64 lou, .int .i64 hiu, .slice fpu flu fcu], .int .i64 0] w fun r W' => ∃ q' c', r = .returned (.tuple #[.agg #[.string nu, .int .i64 ku, .int .i64 au, .int .i64 xu, .int .i64 z2, .int .i64 yu, .int .i64 lou, .int .i64 hiu, .slice q' flu c'], .int .i64 0]) ∧ FrU w.heap.size W' (.slice q' flu c') fs ∧ Kb w W' := by
  have kx := Kb.refl w
  unfold Ca at q1
  have da0 := Lib.hid da
  have a1' : IntKind.i64.wrap (-zu) = z2 := (Go.IntWalk.i64_left _).trans a1
  have j1 := ((Is.made w #[.string nu, .int .i64 ku, .int .i64 au, .int .i64 xu, .int .i64 yu, .int .i64 zu, .int .i64 lou, .int .i64 hiu, .slice fpu flu fcu] 28).alloc (.cells #[.string ⟨#[]⟩, .int .i64 0, .int .i64 0, .int .i64 0, .int .i64 0, .int .i64 0, .int .i64 0, .int .i64 0, .slice none 0 0] 28 (0, 0)))
  have f2 := j1.c (i := 0) rfl
  have f3 := j1.c (i := 1) rfl
  have f4 := j1.c (i := 2) rfl
  have f5 := j1.c (i := 3) rfl
  have f6 := j1.c (i := 4) rfl
  have f7 := j1.c (i := 5) rfl
  have f8 := j1.c (i := 6) rfl
  have f9 := j1.c (i := 7) rfl
  have f10 := j1.c (i := 8) rfl
  go_enter Tryd.func28, Tryd.ntmps28
  go_wp2_with fail
  clear f2 f3 f4 f5 f6 f7 f8 f9 f10
  have b1 := j1
  have b2 := Is.made (w.alloc (.cells #[.string nu, .int .i64 ku, .int .i64 au, .int .i64 xu, .int .i64 yu, .int .i64 zu, .int .i64 lou, .int .i64 hiu, .slice fpu flu fcu] 28 (0, 0))) #[.string ⟨#[]⟩, .int .i64 0, .int .i64 0, .int .i64 0, .int .i64 0, .int .i64 0, .int .i64 0, .int .i64 0, .slice none 0 0] 28
  simp only [World.size_alloc] at b2
  replace kx := (kx.alloc (.cells #[.string nu, .int .i64 ku, .int .i64 au, .int .i64 xu, .int .i64 yu, .int .i64 zu, .int .i64 lou, .int .i64 hiu, .slice fpu flu fcu] 28 (0, 0))).alloc (.cells #[.string ⟨#[]⟩, .int .i64 0, .int .i64 0, .int .i64 0, .int .i64 0, .int .i64 0, .int .i64 0, .int .i64 0, .slice none 0 0] 28 (0, 0))
  clear j1
  replace da := da0.out.kb kx
  (with_reducible refine (((q1).out _)).mono ?_)
  rintro r w1 ⟨rfl, k1⟩
  replace da := da.kb k1
  replace b1 := b1.kb k1
  replace b2 := b2.kb k1
  replace kx := kx.trans k1
  have s1 := k1.size
  simp only [World.size_alloc] at s1
  clear k1
  have f11 := b1.c (i := 3) rfl
  have f12 := b1.c (i := 4) rfl
  have f13 := b1.c (i := 5) rfl
  go_wp2_with fail
  clear f11 f12 f13
  replace b1 := (b1.alloc (.cells #[.int .i64 xu, .int .i64 yu, .int .i64 zu] 23 (0, 0)))
  replace b2 := (b2.alloc (.cells #[.int .i64 xu, .int .i64 yu, .int .i64 zu] 23 (0, 0)))
  have b3 := Is.made w1 #[.int .i64 xu, .int .i64 yu, .int .i64 zu] 23
  replace kx := kx.alloc (.cells #[.int .i64 xu, .int .i64 yu, .int .i64 zu] 23 (0, 0))
  replace da := da0.out.kb kx
  (with_reducible refine (cCoord3_1 w.heap.size _).mono ?_)
  rintro r w2 ⟨g2, rfl, p2, i2, k2⟩
  replace da := da.kb k2
  replace b1 := b1.kb k2
  replace b2 := b2.kb k2
  replace b3 := b3.kb k2
  replace kx := kx.trans k2
  have s2 := k2.size
  simp only [World.size_alloc] at s2
  clear k2
  simp only [World.size_alloc] at i2
  go_wp2_with fail
  (with_reducible refine (cCoord0_1 w1.heap.size _).mono ?_)
  rintro r w3 ⟨g3, rfl, p3, i3, k3⟩
  replace da := da.kb k3
  replace b1 := b1.kb k3
  replace b2 := b2.kb k3
  replace b3 := b3.kb k3
  replace p2 := p2.kb k3
  replace kx := kx.trans k3
  have s3 := k3.size
  skip
  clear k3
  have en1 := (enters_of Tryd.func76 (by kernel_rfl) rfl : ∀ args W, (callFunc 76 args).run Tryd.prog W = .ok (.enter 76 args) W)
  go_wp2_with fail
  (with_reducible refine (cRead_2 _ _ _ _ _ _ p2 (b1.c (i := 5) rfl)).mono ?_)
  rintro r w4 ⟨rfl, k4⟩
  replace da := da.kb k4
  replace b1 := b1.kb k4
  replace b2 := b2.kb k4
  replace b3 := b3.kb k4
  replace p2 := p2.kb k4
  replace p3 := p3.kb k4
  replace kx := kx.trans k4
  have s4 := k4.size
  skip
  clear k4
  have en2 := (enters_of Tryd.func77 (by kernel_rfl) rfl : ∀ args W, (callFunc 77 args).run Tryd.prog W = .ok (.enter 77 args) W)
  go_wp2_with fail
  (with_reducible refine (cWrite_1 _ _ _ _ _ _ _ _ _ _ _ _ p3 rfl rfl b3 rfl).mono ?_)
  rintro r w5 ⟨rfl, y5, k5⟩
  have s5 := k5.2.2.2.1
  replace b1 := b1.kx k5 (by simp only [List.mem_singleton]; omega)
  replace b2 := b2.kx k5 (by simp only [List.mem_singleton]; omega)
  replace p2 := p2.kx k5 (by simp only [List.mem_singleton]; omega)
  replace p3 := p3.kx k5 (by simp only [List.mem_singleton]; omega)
  replace b3 : Is w5 (w1.heap.size) #[.int .i64 xu, .int .i64 z2, .int .i64 zu] 23 := y5
  replace kx := k5.old kx (by intro x hx; simp only [List.mem_singleton] at hx; subst hx; omega)
  replace da := da0.out.kb kx
  clear y5
  have en3 := (enters_of Tryd.func76 (by kernel_rfl) rfl : ∀ args W, (callFunc 76 args).run Tryd.prog W = .ok (.enter 76 args) W)
  go_wp2_with fail
  (with_reducible refine (cRead_1 _ _ _ _ _ _ p2 (b1.c (i := 4) rfl)).mono ?_)
  rintro r w6 ⟨rfl, k6⟩
  replace da := da.kb k6
  replace b1 := b1.kb k6
  replace b2 := b2.kb k6
  replace b3 := b3.kb k6
  replace p2 := p2.kb k6
  replace p3 := p3.kb k6
  replace kx := kx.trans k6
  have s6 := k6.size
  skip
  clear k6
  have en4 := (enters_of Tryd.func77 (by kernel_rfl) rfl : ∀ args W, (callFunc 77 args).run Tryd.prog W = .ok (.enter 77 args) W)
  go_wp2_with fail
  (with_reducible refine (cWrite_2 _ _ _ _ _ _ _ _ _ _ _ _ p3 rfl rfl b3 rfl).mono ?_)
  rintro r w7 ⟨rfl, y7, k7⟩
  have s7 := k7.2.2.2.1
  replace b1 := b1.kx k7 (by simp only [List.mem_singleton]; omega)
  replace b2 := b2.kx k7 (by simp only [List.mem_singleton]; omega)
  replace p2 := p2.kx k7 (by simp only [List.mem_singleton]; omega)
  replace p3 := p3.kx k7 (by simp only [List.mem_singleton]; omega)
  replace b3 : Is w7 (w1.heap.size) #[.int .i64 xu, .int .i64 z2, .int .i64 yu] 23 := y7
  replace kx := k7.old kx (by intro x hx; simp only [List.mem_singleton] at hx; subst hx; omega)
  replace da := da0.out.kb kx
  clear y7
  have f14 := b1.c (i := 0) rfl
  have f15 := b1.c (i := 1) rfl
  have f16 := b1.c (i := 2) rfl
  have f17 := b1.c (i := 3) rfl
  have f18 := b1.c (i := 4) rfl
  have f19 := b1.c (i := 5) rfl
  have f20 := b1.c (i := 6) rfl
  have f21 := b1.c (i := 7) rfl
  have f22 := b1.c (i := 8) rfl
  have f23 := b3.c (i := 0) rfl
  have f24 := b3.c (i := 1) rfl
  have f25 := b3.c (i := 2) rfl
  go_wp2_with fail
  clear f14 f15 f16 f17 f18 f19 f20 f21 f22 f23 f24 f25
  (with_reducible refine (cplace_1 nu ku au xu yu zu lou hiu fpu flu fcu fs hfl hall xu z2 yu _ da).mono ?_)
  rintro r w8 ⟨qq, cc, rfl, U1, k8⟩
  replace da := da.kb k8
  replace b1 := b1.kb k8
  replace b2 := b2.kb k8
  replace b3 := b3.kb k8
  replace p2 := p2.kb k8
  replace p3 := p3.kb k8
  replace kx := kx.trans k8
  have s8 := k8.size
  skip
  clear k8
  try simp only [World.size_alloc, World.size_setCell] at U1
  have j26 := (b1.alloc (.cells #[.string nu, .int .i64 ku, .int .i64 au, .int .i64 xu, .int .i64 z2, .int .i64 yu, .int .i64 lou, .int .i64 hiu, .slice qq flu cc] 28 (0, 0)))
  have f27 := j26.c (i := 1) rfl
  have f28 := j26.c (i := 2) rfl
  have j29 := (Is.made w8 #[.string nu, .int .i64 ku, .int .i64 au, .int .i64 xu, .int .i64 z2, .int .i64 yu, .int .i64 lou, .int .i64 hiu, .slice qq flu cc] 28)
  have f30 := j29.c (i := 0) rfl
  have f31 := j29.c (i := 1) rfl
  have f32 := j29.c (i := 2) rfl
  have f33 := j29.c (i := 3) rfl
  have f34 := j29.c (i := 4) rfl
  have f35 := j29.c (i := 5) rfl
  have f36 := j29.c (i := 6) rfl
  have f37 := j29.c (i := 7) rfl
  have f38 := j29.c (i := 8) rfl
  have j39 := (b2.alloc (.cells #[.string nu, .int .i64 ku, .int .i64 au, .int .i64 xu, .int .i64 z2, .int .i64 yu, .int .i64 lou, .int .i64 hiu, .slice qq flu cc] 28 (0, 0)))
  have f40 := j39.c (i := 0) rfl
  have f41 := j39.f 0
  have f42 := j39.c (i := 1) rfl
  have f43 := j39.f 1
  have f44 := j39.c (i := 2) rfl
  have f45 := j39.f 2
  have f46 := j39.c (i := 3) rfl
  have f47 := j39.f 3
  have f48 := j39.c (i := 4) rfl
  have f49 := j39.f 4
  have f50 := j39.c (i := 5) rfl
  have f51 := j39.f 5
  have f52 := j39.c (i := 6) rfl
  have f53 := j39.f 6
  have f54 := j39.c (i := 7) rfl
  have f55 := j39.f 7
  have f56 := j39.c (i := 8) rfl
  have f57 := j39.f 8
  go_wp2
  clear f27 f28 f30 f31 f32 f33 f34 f35 f36 f37 f38 f40 f41 f42 f43 f44 f45 f46 f47 f48 f49 f50 f51 f52 f53 f54 f55 f56 f57
  replace b2 := (b2.alloc (.cells #[.string nu, .int .i64 ku, .int .i64 au, .int .i64 xu, .int .i64 z2, .int .i64 yu, .int .i64 lou, .int .i64 hiu, .slice qq flu cc] 28 (0, 0)))
  replace b2 : Is _ _ #[.string nu, .int .i64 0, .int .i64 0, .int .i64 0, .int .i64 0, .int .i64 0, .int .i64 0, .int .i64 0, .slice none 0 0] _ := b2.set 0 (.string nu)
  replace b2 : Is _ _ #[.string nu, .int .i64 ku, .int .i64 0, .int .i64 0, .int .i64 0, .int .i64 0, .int .i64 0, .int .i64 0, .slice none 0 0] _ := b2.set 1 (.int .i64 ku)
  replace b2 : Is _ _ #[.string nu, .int .i64 ku, .int .i64 au, .int .i64 0, .int .i64 0, .int .i64 0, .int .i64 0, .int .i64 0, .slice none 0 0] _ := b2.set 2 (.int .i64 au)
  replace b2 : Is _ _ #[.string nu, .int .i64 ku, .int .i64 au, .int .i64 xu, .int .i64 0, .int .i64 0, .int .i64 0, .int .i64 0, .slice none 0 0] _ := b2.set 3 (.int .i64 xu)
  replace b2 : Is _ _ #[.string nu, .int .i64 ku, .int .i64 au, .int .i64 xu, .int .i64 z2, .int .i64 0, .int .i64 0, .int .i64 0, .slice none 0 0] _ := b2.set 4 (.int .i64 z2)
  replace b2 : Is _ _ #[.string nu, .int .i64 ku, .int .i64 au, .int .i64 xu, .int .i64 z2, .int .i64 yu, .int .i64 0, .int .i64 0, .slice none 0 0] _ := b2.set 5 (.int .i64 yu)
  replace b2 : Is _ _ #[.string nu, .int .i64 ku, .int .i64 au, .int .i64 xu, .int .i64 z2, .int .i64 yu, .int .i64 lou, .int .i64 0, .slice none 0 0] _ := b2.set 6 (.int .i64 lou)
  replace b2 : Is _ _ #[.string nu, .int .i64 ku, .int .i64 au, .int .i64 xu, .int .i64 z2, .int .i64 yu, .int .i64 lou, .int .i64 hiu, .slice none 0 0] _ := b2.set 7 (.int .i64 hiu)
  replace b2 : Is _ _ #[.string nu, .int .i64 ku, .int .i64 au, .int .i64 xu, .int .i64 z2, .int .i64 yu, .int .i64 lou, .int .i64 hiu, .slice qq flu cc] _ := b2.set 8 (.slice qq flu cc)
  replace U1 := ((((((((((U1.alloc (.cells #[.string nu, .int .i64 ku, .int .i64 au, .int .i64 xu, .int .i64 z2, .int .i64 yu, .int .i64 lou, .int .i64 hiu, .slice qq flu cc] 28 (0, 0))).far (p := ⟨w.heap.size + 1, 0, none⟩) (show w.heap.size + 1 < (w7.heap.size) by omega) (.string nu)).far (p := ⟨w.heap.size + 1, 1, none⟩) (show w.heap.size + 1 < (w7.heap.size) by omega) (.int .i64 ku)).far (p := ⟨w.heap.size + 1, 2, none⟩) (show w.heap.size + 1 < (w7.heap.size) by omega) (.int .i64 au)).far (p := ⟨w.heap.size + 1, 3, none⟩) (show w.heap.size + 1 < (w7.heap.size) by omega) (.int .i64 xu)).far (p := ⟨w.heap.size + 1, 4, none⟩) (show w.heap.size + 1 < (w7.heap.size) by omega) (.int .i64 z2)).far (p := ⟨w.heap.size + 1, 5, none⟩) (show w.heap.size + 1 < (w7.heap.size) by omega) (.int .i64 yu)).far (p := ⟨w.heap.size + 1, 6, none⟩) (show w.heap.size + 1 < (w7.heap.size) by omega) (.int .i64 lou)).far (p := ⟨w.heap.size + 1, 7, none⟩) (show w.heap.size + 1 < (w7.heap.size) by omega) (.int .i64 hiu)).far (p := ⟨w.heap.size + 1, 8, none⟩) (show w.heap.size + 1 < (w7.heap.size) by omega) (.slice qq flu cc))
  replace kx := (((((((((kx.alloc (.cells #[.string nu, .int .i64 ku, .int .i64 au, .int .i64 xu, .int .i64 z2, .int .i64 yu, .int .i64 lou, .int .i64 hiu, .slice qq flu cc] 28 (0, 0))).setCell (p := ⟨w.heap.size + 1, 0, none⟩) (show w.heap.size ≤ w.heap.size + 1 by omega) (.string nu)).setCell (p := ⟨w.heap.size + 1, 1, none⟩) (show w.heap.size ≤ w.heap.size + 1 by omega) (.int .i64 ku)).setCell (p := ⟨w.heap.size + 1, 2, none⟩) (show w.heap.size ≤ w.heap.size + 1 by omega) (.int .i64 au)).setCell (p := ⟨w.heap.size + 1, 3, none⟩) (show w.heap.size ≤ w.heap.size + 1 by omega) (.int .i64 xu)).setCell (p := ⟨w.heap.size + 1, 4, none⟩) (show w.heap.size ≤ w.heap.size + 1 by omega) (.int .i64 z2)).setCell (p := ⟨w.heap.size + 1, 5, none⟩) (show w.heap.size ≤ w.heap.size + 1 by omega) (.int .i64 yu)).setCell (p := ⟨w.heap.size + 1, 6, none⟩) (show w.heap.size ≤ w.heap.size + 1 by omega) (.int .i64 lou)).setCell (p := ⟨w.heap.size + 1, 7, none⟩) (show w.heap.size ≤ w.heap.size + 1 by omega) (.int .i64 hiu)).setCell (p := ⟨w.heap.size + 1, 8, none⟩) (show w.heap.size ≤ w.heap.size + 1 by omega) (.slice qq flu cc)
  refine ret_row2 Tryd.results28 rfl rfl rfl b2 Tryd.underlying28 rfl (by kernel_rfl) ?_
  exact ⟨_, _, rfl, U1.mono (by omega), kx⟩
end Go.Proofs.YtdmfkgopalelgaaDoor
