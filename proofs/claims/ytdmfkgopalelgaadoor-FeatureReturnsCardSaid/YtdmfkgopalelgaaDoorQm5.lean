/- Features: walks of the law Returns. -/
import Derived.Test.YtdmfkgopalelgaaDoorQm1
import Derived.Test.YtdmfkgopalelgaaDoorM86
namespace Go.Proofs.YtdmfkgopalelgaaDoor
open Go.RowKit

set_option maxRecDepth 100000 in
set_option maxHeartbeats 4000000 in
theorem rtN_1 (nu : ByteArray) (ku : Int) (au : Int) (xu : Int) (yu : Int) (zu : Int) (lou : Int) (hiu : Int) (fpu : Option Addr) (flu : Nat) (fcu : Nat) (fs : List FrT) (c : Int) (k : Int) (ta11 : Int) (tx11 : Int) (ty11 : Int) (tz11 : Int) (ta12 : Int) (tx12 : Int) (ty12 : Int) (tz12 : Int) (ta13 : Int) (tx13 : Int) (ty13 : Int) (tz13 : Int) (tx21 : Int) (ty21 : Int) (tz21 : Int) (tx31 : Int) (ty31 : Int) (tz31 : Int) (du : Int) (dv : Int) (dw : Int) (ndu : Int) (ndv : Int) (ndw : Int)     (qr : Hid (∀ W : World, FrS W (.slice fpu flu fcu) fs → Calls Tryd.prog 32 #[.agg #[.string nu, .int .i64 ku, .int .i64 au, .int .i64 xu, .int .i64 yu, .int .i64 zu, .int .i64 lou, .int .i64 hiu, .slice fpu flu fcu]] W fun r w' => r = .returned (.bool false) ∧ Kb W w')) (w : World) (gl : Gl w) (da : FrS w (.slice fpu flu fcu) fs)  : Calls Tryd.prog 8 #[.agg #[.string nu, .int .i64 ku, .int .i64 au, .int .i64 xu, .int .i64 yu, .int .i64 zu, .int .i64 lou, .int .i64 hiu, .slice fpu flu fcu], .agg #[.int .i64 du, .int .i64 dv, .int .i64 dw], .int .u8 c] w fun r W' => r = .returned (.bool true) ∧ Kb w W' := by
  have kx := Kb.refl w
  have da0 := Lib.hid da
  have gl0 := Lib.hid gl
  have j1 := ((Is.made w #[.string nu, .int .i64 ku, .int .i64 au, .int .i64 xu, .int .i64 yu, .int .i64 zu, .int .i64 lou, .int .i64 hiu, .slice fpu flu fcu] 28).alloc (.cells #[.int .i64 du, .int .i64 dv, .int .i64 dw] 23 (0, 0)))
  have f2 := j1.c (i := 0) rfl
  have f3 := j1.c (i := 1) rfl
  have f4 := j1.c (i := 2) rfl
  have f5 := j1.c (i := 3) rfl
  have f6 := j1.c (i := 4) rfl
  have f7 := j1.c (i := 5) rfl
  have f8 := j1.c (i := 6) rfl
  have f9 := j1.c (i := 7) rfl
  have f10 := j1.c (i := 8) rfl
  go_enter Tryd.func8, Tryd.ntmps8
  go_wp2_with fail
  clear f2 f3 f4 f5 f6 f7 f8 f9 f10
  have b1 := j1
  have b2 := Is.made (w.alloc (.cells #[.string nu, .int .i64 ku, .int .i64 au, .int .i64 xu, .int .i64 yu, .int .i64 zu, .int .i64 lou, .int .i64 hiu, .slice fpu flu fcu] 28 (0, 0))) #[.int .i64 du, .int .i64 dv, .int .i64 dw] 23
  simp only [World.size_alloc] at b2
  replace kx := (kx.alloc (.cells #[.string nu, .int .i64 ku, .int .i64 au, .int .i64 xu, .int .i64 yu, .int .i64 zu, .int .i64 lou, .int .i64 hiu, .slice fpu flu fcu] 28 (0, 0))).alloc (.cells #[.int .i64 du, .int .i64 dv, .int .i64 dw] 23 (0, 0))
  clear j1
  replace da := da0.out.kb kx
  replace gl := gl0.out.kb kx
  (with_reducible refine (qr.out _ da).mono ?_)
  rintro r w1 ⟨rfl, k1⟩
  replace da := da.kb k1
  replace gl := gl.kb k1
  replace b1 := b1.kb k1
  replace b2 := b2.kb k1
  replace kx := kx.trans k1
  have s1 := k1.size
  simp only [World.size_alloc] at s1
  clear k1
  go_wp2_with fail
  (with_reducible refine ((Cg.out awake_any _ gl)).mono ?_)
  rintro r w2 ⟨rfl, k2⟩
  replace da := da.kb k2
  replace gl := gl.kb k2
  replace b1 := b1.kb k2
  replace b2 := b2.kb k2
  replace kx := kx.trans k2
  have s2 := k2.size
  skip
  clear k2
  go_wp2
  go_ret
  exact ⟨rfl, kx⟩
set_option maxRecDepth 100000 in
set_option maxHeartbeats 4000000 in
theorem rtE_1 (nu : ByteArray) (ku : Int) (au : Int) (xu : Int) (yu : Int) (zu : Int) (lou : Int) (hiu : Int) (fpu : Option Addr) (flu : Nat) (fcu : Nat) (fs : List FrT) (c : Int) (k : Int) (ta11 : Int) (tx11 : Int) (ty11 : Int) (tz11 : Int) (ta12 : Int) (tx12 : Int) (ty12 : Int) (tz12 : Int) (ta13 : Int) (tx13 : Int) (ty13 : Int) (tz13 : Int) (tx21 : Int) (ty21 : Int) (tz21 : Int) (tx31 : Int) (ty31 : Int) (tz31 : Int) (du : Int) (dv : Int) (dw : Int) (ndu : Int) (ndv : Int) (ndw : Int)     (qr : Hid (∀ W : World, FrS W (.slice fpu flu fcu) fs → Calls Tryd.prog 32 #[.agg #[.string nu, .int .i64 ku, .int .i64 au, .int .i64 xu, .int .i64 yu, .int .i64 zu, .int .i64 lou, .int .i64 hiu, .slice fpu flu fcu]] W fun r w' => r = .returned (.bool true) ∧ Kb W w')) (qT0 : Hid (∀ (W : World) (p : Option Addr) (l c : Nat), FrS W (.slice p l c) fs → Calls Tryd.prog 28 #[.agg #[.string nu, .int .i64 ku, .int .i64 au, .int .i64 xu, .int .i64 yu, .int .i64 zu, .int .i64 lou, .int .i64 hiu, .slice p l c], .int .i64 k] W fun r W' => ∃ q' l' c', r = .returned (.tuple #[.agg #[.string nu, .int .i64 ku, .int .i64 ta11, .int .i64 tx11, .int .i64 ty11, .int .i64 tz11, .int .i64 lou, .int .i64 hiu, .slice q' l' c'], .int .i64 0]) ∧ FrU W.heap.size W' (.slice q' l' c') fs ∧ Kb W W')) (qT1 : Hid (∀ (W : World) (p : Option Addr) (l c : Nat), FrS W (.slice p l c) fs → Calls Tryd.prog 28 #[.agg #[.string nu, .int .i64 ku, .int .i64 ta11, .int .i64 tx11, .int .i64 ty11, .int .i64 tz11, .int .i64 lou, .int .i64 hiu, .slice p l c], .int .i64 k] W fun r W' => ∃ q' l' c', r = .returned (.tuple #[.agg #[.string nu, .int .i64 ku, .int .i64 ta12, .int .i64 tx12, .int .i64 ty12, .int .i64 tz12, .int .i64 lou, .int .i64 hiu, .slice q' l' c'], .int .i64 0]) ∧ FrU W.heap.size W' (.slice q' l' c') fs ∧ Kb W W')) (qT2 : Hid (∀ (W : World) (p : Option Addr) (l c : Nat), FrS W (.slice p l c) fs → Calls Tryd.prog 28 #[.agg #[.string nu, .int .i64 ku, .int .i64 ta12, .int .i64 tx12, .int .i64 ty12, .int .i64 tz12, .int .i64 lou, .int .i64 hiu, .slice p l c], .int .i64 k] W fun r W' => ∃ q' l' c', r = .returned (.tuple #[.agg #[.string nu, .int .i64 ku, .int .i64 ta13, .int .i64 tx13, .int .i64 ty13, .int .i64 tz13, .int .i64 lou, .int .i64 hiu, .slice q' l' c'], .int .i64 0]) ∧ FrU W.heap.size W' (.slice q' l' c') fs ∧ Kb W W')) (qT3 : Hid (∀ (W : World) (p : Option Addr) (l c : Nat), FrS W (.slice p l c) fs → Calls Tryd.prog 28 #[.agg #[.string nu, .int .i64 ku, .int .i64 ta13, .int .i64 tx13, .int .i64 ty13, .int .i64 tz13, .int .i64 lou, .int .i64 hiu, .slice p l c], .int .i64 k] W fun r W' => ∃ q' l' c', r = .returned (.tuple #[.agg #[.string nu, .int .i64 ku, .int .i64 au, .int .i64 xu, .int .i64 yu, .int .i64 zu, .int .i64 lou, .int .i64 hiu, .slice q' l' c'], .int .i64 0]) ∧ FrU W.heap.size W' (.slice q' l' c') fs ∧ Kb W W')) (qM1 : Hid (∀ (W : World) (p : Option Addr) (l c : Nat), FrS W (.slice p l c) fs → Calls Tryd.prog 26 #[.agg #[.string nu, .int .i64 ku, .int .i64 au, .int .i64 xu, .int .i64 yu, .int .i64 zu, .int .i64 lou, .int .i64 hiu, .slice p l c], .int .i64 k] W fun r W' => ∃ q' l' c', r = .returned (.tuple #[.agg #[.string nu, .int .i64 ku, .int .i64 au, .int .i64 tx21, .int .i64 ty21, .int .i64 tz21, .int .i64 lou, .int .i64 hiu, .slice q' l' c'], .int .i64 0]) ∧ FrU W.heap.size W' (.slice q' l' c') fs ∧ Kb W W')) (qM2 : Hid (∀ (W : World) (p : Option Addr) (l c : Nat), FrS W (.slice p l c) fs → Calls Tryd.prog 26 #[.agg #[.string nu, .int .i64 ku, .int .i64 au, .int .i64 tx21, .int .i64 ty21, .int .i64 tz21, .int .i64 lou, .int .i64 hiu, .slice p l c], .int .i64 k] W fun r W' => ∃ q' l' c', r = .returned (.tuple #[.agg #[.string nu, .int .i64 ku, .int .i64 au, .int .i64 xu, .int .i64 yu, .int .i64 zu, .int .i64 lou, .int .i64 hiu, .slice q' l' c'], .int .i64 0]) ∧ FrU W.heap.size W' (.slice q' l' c') fs ∧ Kb W W')) (sS : Hid (fs.length ≤ 12 ∧ ∀ f ∈ fs, f.ds.length ≤ 1000000)) (c0 : 0 ≤ c) (c1 : c ≤ 255) (ek : c.tmod 3 = k) (k0 : 0 ≤ k) (k2 : k ≤ 2) (qVE : Hid (∀ W : World, FrS W (.slice fpu flu fcu) fs → Calls Tryd.prog 24 #[.agg #[.string nu, .int .i64 ku, .int .i64 au, .int .i64 xu, .int .i64 yu, .int .i64 zu, .int .i64 lou, .int .i64 hiu, .slice fpu flu fcu], .agg #[.int .i64 du, .int .i64 dv, .int .i64 dw]] W fun r W' => r = .returned (.tuple #[.agg #[.string ⟨#[]⟩, .int .i64 0, .int .i64 0, .int .i64 0, .int .i64 0, .int .i64 0, .int .i64 0, .int .i64 0, .slice none 0 0], .int .i64 2]) ∧ Kb W W')) (w : World) (gl : Gl w) (da : FrS w (.slice fpu flu fcu) fs)  : Calls Tryd.prog 8 #[.agg #[.string nu, .int .i64 ku, .int .i64 au, .int .i64 xu, .int .i64 yu, .int .i64 zu, .int .i64 lou, .int .i64 hiu, .slice fpu flu fcu], .agg #[.int .i64 du, .int .i64 dv, .int .i64 dw], .int .u8 c] w fun r W' => r = .returned (.bool true) ∧ Kb w W' := by
  have kx := Kb.refl w
  have da0 := Lib.hid da
  have gl0 := Lib.hid gl
  have j1 := ((Is.made w #[.string nu, .int .i64 ku, .int .i64 au, .int .i64 xu, .int .i64 yu, .int .i64 zu, .int .i64 lou, .int .i64 hiu, .slice fpu flu fcu] 28).alloc (.cells #[.int .i64 du, .int .i64 dv, .int .i64 dw] 23 (0, 0)))
  have f2 := j1.c (i := 0) rfl
  have f3 := j1.c (i := 1) rfl
  have f4 := j1.c (i := 2) rfl
  have f5 := j1.c (i := 3) rfl
  have f6 := j1.c (i := 4) rfl
  have f7 := j1.c (i := 5) rfl
  have f8 := j1.c (i := 6) rfl
  have f9 := j1.c (i := 7) rfl
  have f10 := j1.c (i := 8) rfl
  go_enter Tryd.func8, Tryd.ntmps8
  go_wp2_with fail
  clear f2 f3 f4 f5 f6 f7 f8 f9 f10
  have b1 := j1
  have b2 := Is.made (w.alloc (.cells #[.string nu, .int .i64 ku, .int .i64 au, .int .i64 xu, .int .i64 yu, .int .i64 zu, .int .i64 lou, .int .i64 hiu, .slice fpu flu fcu] 28 (0, 0))) #[.int .i64 du, .int .i64 dv, .int .i64 dw] 23
  simp only [World.size_alloc] at b2
  replace kx := (kx.alloc (.cells #[.string nu, .int .i64 ku, .int .i64 au, .int .i64 xu, .int .i64 yu, .int .i64 zu, .int .i64 lou, .int .i64 hiu, .slice fpu flu fcu] 28 (0, 0))).alloc (.cells #[.int .i64 du, .int .i64 dv, .int .i64 dw] 23 (0, 0))
  clear j1
  replace da := da0.out.kb kx
  replace gl := gl0.out.kb kx
  (with_reducible refine (qr.out _ da).mono ?_)
  rintro r w1 ⟨rfl, k1⟩
  replace da := da.kb k1
  replace gl := gl.kb k1
  replace b1 := b1.kb k1
  replace b2 := b2.kb k1
  replace kx := kx.trans k1
  have s1 := k1.size
  simp only [World.size_alloc] at s1
  clear k1
  have y11 : c.tmod 3 = k := ek
  have y12 : wrap64 k = k := Go.IntWalk.wrap64_in _ (by omega)
  have y12' : IntKind.i64.wrap k = k := (Go.IntWalk.i64_left _).trans y12
  have f13 := b1.c (i := 0) rfl
  have f14 := b1.c (i := 1) rfl
  have f15 := b1.c (i := 2) rfl
  have f16 := b1.c (i := 3) rfl
  have f17 := b1.c (i := 4) rfl
  have f18 := b1.c (i := 5) rfl
  have f19 := b1.c (i := 6) rfl
  have f20 := b1.c (i := 7) rfl
  have f21 := b1.c (i := 8) rfl
  go_wp2_with fail
  refine wp_loop_rounds 5 ?_
  rw [rounds_succ]
  have j22 := (Is.made w1 #[.string nu, .int .i64 ku, .int .i64 au, .int .i64 xu, .int .i64 yu, .int .i64 zu, .int .i64 lou, .int .i64 hiu, .slice fpu flu fcu] 28)
  have f23 := j22.c (i := 0) rfl
  have f24 := j22.c (i := 1) rfl
  have f25 := j22.c (i := 2) rfl
  have f26 := j22.c (i := 3) rfl
  have f27 := j22.c (i := 4) rfl
  have f28 := j22.c (i := 5) rfl
  have f29 := j22.c (i := 6) rfl
  have f30 := j22.c (i := 7) rfl
  have f31 := j22.c (i := 8) rfl
  go_wp2_with fail
  clear f13 f14 f15 f16 f17 f18 f19 f20 f21 f23 f24 f25 f26 f27 f28 f29 f30 f31
  replace b1 := (b1.alloc (.cells #[.string nu, .int .i64 ku, .int .i64 au, .int .i64 xu, .int .i64 yu, .int .i64 zu, .int .i64 lou, .int .i64 hiu, .slice fpu flu fcu] 28 (0, 0)))
  replace b2 := (b2.alloc (.cells #[.string nu, .int .i64 ku, .int .i64 au, .int .i64 xu, .int .i64 yu, .int .i64 zu, .int .i64 lou, .int .i64 hiu, .slice fpu flu fcu] 28 (0, 0)))
  have b3 := j22
  replace kx := kx.alloc (.cells #[.string nu, .int .i64 ku, .int .i64 au, .int .i64 xu, .int .i64 yu, .int .i64 zu, .int .i64 lou, .int .i64 hiu, .slice fpu flu fcu] 28 (0, 0))
  clear j22
  replace da := da0.out.kb kx
  replace gl := gl0.out.kb kx
  (with_reducible refine (qT0.out _ _ _ _ da).mono ?_)
  rintro r w2 ⟨fp41, fl41, fc41, rfl, U41, k2⟩
  replace da := da.kb k2
  replace gl := gl.kb k2
  replace b1 := b1.kb k2
  replace b2 := b2.kb k2
  replace b3 := b3.kb k2
  replace kx := kx.trans k2
  have s2 := k2.size
  simp only [World.size_alloc] at s2
  clear k2
  try simp only [World.size_alloc, World.size_setCell] at U41
  have j32 := (Is.made w2 #[.string nu, .int .i64 ku, .int .i64 ta11, .int .i64 tx11, .int .i64 ty11, .int .i64 tz11, .int .i64 lou, .int .i64 hiu, .slice fp41 fl41 fc41] 28)
  have f33 := j32.c (i := 0) rfl
  have f34 := j32.c (i := 1) rfl
  have f35 := j32.c (i := 2) rfl
  have f36 := j32.c (i := 3) rfl
  have f37 := j32.c (i := 4) rfl
  have f38 := j32.c (i := 5) rfl
  have f39 := j32.c (i := 6) rfl
  have f40 := j32.c (i := 7) rfl
  have f41 := j32.c (i := 8) rfl
  have j42 := (b3.alloc (.cells #[.string nu, .int .i64 ku, .int .i64 ta11, .int .i64 tx11, .int .i64 ty11, .int .i64 tz11, .int .i64 lou, .int .i64 hiu, .slice fp41 fl41 fc41] 28 (0, 0)))
  have f43 := j42.c (i := 0) rfl
  have f44 := j42.f 0
  have f45 := j42.c (i := 1) rfl
  have f46 := j42.f 1
  have f47 := j42.c (i := 2) rfl
  have f48 := j42.f 2
  have f49 := j42.c (i := 3) rfl
  have f50 := j42.f 3
  have f51 := j42.c (i := 4) rfl
  have f52 := j42.f 4
  have f53 := j42.c (i := 5) rfl
  have f54 := j42.f 5
  have f55 := j42.c (i := 6) rfl
  have f56 := j42.f 6
  have f57 := j42.c (i := 7) rfl
  have f58 := j42.f 7
  have f59 := j42.c (i := 8) rfl
  have f60 := j42.f 8
  go_wp2_with fail
  clear f33 f34 f35 f36 f37 f38 f39 f40 f41 f43 f44 f45 f46 f47 f48 f49 f50 f51 f52 f53 f54 f55 f56 f57 f58 f59 f60
  replace b1 := ((((((((((b1.alloc (.cells #[.string nu, .int .i64 ku, .int .i64 ta11, .int .i64 tx11, .int .i64 ty11, .int .i64 tz11, .int .i64 lou, .int .i64 hiu, .slice fp41 fl41 fc41] 28 (0, 0))).far (p := ⟨w1.heap.size, 0, none⟩) (show w.heap.size ≠ w1.heap.size by omega) (.string nu)).far (p := ⟨w1.heap.size, 1, none⟩) (show w.heap.size ≠ w1.heap.size by omega) (.int .i64 ku)).far (p := ⟨w1.heap.size, 2, none⟩) (show w.heap.size ≠ w1.heap.size by omega) (.int .i64 ta11)).far (p := ⟨w1.heap.size, 3, none⟩) (show w.heap.size ≠ w1.heap.size by omega) (.int .i64 tx11)).far (p := ⟨w1.heap.size, 4, none⟩) (show w.heap.size ≠ w1.heap.size by omega) (.int .i64 ty11)).far (p := ⟨w1.heap.size, 5, none⟩) (show w.heap.size ≠ w1.heap.size by omega) (.int .i64 tz11)).far (p := ⟨w1.heap.size, 6, none⟩) (show w.heap.size ≠ w1.heap.size by omega) (.int .i64 lou)).far (p := ⟨w1.heap.size, 7, none⟩) (show w.heap.size ≠ w1.heap.size by omega) (.int .i64 hiu)).far (p := ⟨w1.heap.size, 8, none⟩) (show w.heap.size ≠ w1.heap.size by omega) (.slice fp41 fl41 fc41))
  replace b2 := ((((((((((b2.alloc (.cells #[.string nu, .int .i64 ku, .int .i64 ta11, .int .i64 tx11, .int .i64 ty11, .int .i64 tz11, .int .i64 lou, .int .i64 hiu, .slice fp41 fl41 fc41] 28 (0, 0))).far (p := ⟨w1.heap.size, 0, none⟩) (show w.heap.size + 1 ≠ w1.heap.size by omega) (.string nu)).far (p := ⟨w1.heap.size, 1, none⟩) (show w.heap.size + 1 ≠ w1.heap.size by omega) (.int .i64 ku)).far (p := ⟨w1.heap.size, 2, none⟩) (show w.heap.size + 1 ≠ w1.heap.size by omega) (.int .i64 ta11)).far (p := ⟨w1.heap.size, 3, none⟩) (show w.heap.size + 1 ≠ w1.heap.size by omega) (.int .i64 tx11)).far (p := ⟨w1.heap.size, 4, none⟩) (show w.heap.size + 1 ≠ w1.heap.size by omega) (.int .i64 ty11)).far (p := ⟨w1.heap.size, 5, none⟩) (show w.heap.size + 1 ≠ w1.heap.size by omega) (.int .i64 tz11)).far (p := ⟨w1.heap.size, 6, none⟩) (show w.heap.size + 1 ≠ w1.heap.size by omega) (.int .i64 lou)).far (p := ⟨w1.heap.size, 7, none⟩) (show w.heap.size + 1 ≠ w1.heap.size by omega) (.int .i64 hiu)).far (p := ⟨w1.heap.size, 8, none⟩) (show w.heap.size + 1 ≠ w1.heap.size by omega) (.slice fp41 fl41 fc41))
  replace b3 := (b3.alloc (.cells #[.string nu, .int .i64 ku, .int .i64 ta11, .int .i64 tx11, .int .i64 ty11, .int .i64 tz11, .int .i64 lou, .int .i64 hiu, .slice fp41 fl41 fc41] 28 (0, 0)))
  replace b3 : Is _ _ #[.string nu, .int .i64 ku, .int .i64 au, .int .i64 xu, .int .i64 yu, .int .i64 zu, .int .i64 lou, .int .i64 hiu, .slice fpu flu fcu] _ := b3.set 0 (.string nu)
  replace b3 : Is _ _ #[.string nu, .int .i64 ku, .int .i64 au, .int .i64 xu, .int .i64 yu, .int .i64 zu, .int .i64 lou, .int .i64 hiu, .slice fpu flu fcu] _ := b3.set 1 (.int .i64 ku)
  replace b3 : Is _ _ #[.string nu, .int .i64 ku, .int .i64 ta11, .int .i64 xu, .int .i64 yu, .int .i64 zu, .int .i64 lou, .int .i64 hiu, .slice fpu flu fcu] _ := b3.set 2 (.int .i64 ta11)
  replace b3 : Is _ _ #[.string nu, .int .i64 ku, .int .i64 ta11, .int .i64 tx11, .int .i64 yu, .int .i64 zu, .int .i64 lou, .int .i64 hiu, .slice fpu flu fcu] _ := b3.set 3 (.int .i64 tx11)
  replace b3 : Is _ _ #[.string nu, .int .i64 ku, .int .i64 ta11, .int .i64 tx11, .int .i64 ty11, .int .i64 zu, .int .i64 lou, .int .i64 hiu, .slice fpu flu fcu] _ := b3.set 4 (.int .i64 ty11)
  replace b3 : Is _ _ #[.string nu, .int .i64 ku, .int .i64 ta11, .int .i64 tx11, .int .i64 ty11, .int .i64 tz11, .int .i64 lou, .int .i64 hiu, .slice fpu flu fcu] _ := b3.set 5 (.int .i64 tz11)
  replace b3 : Is _ _ #[.string nu, .int .i64 ku, .int .i64 ta11, .int .i64 tx11, .int .i64 ty11, .int .i64 tz11, .int .i64 lou, .int .i64 hiu, .slice fpu flu fcu] _ := b3.set 6 (.int .i64 lou)
  replace b3 : Is _ _ #[.string nu, .int .i64 ku, .int .i64 ta11, .int .i64 tx11, .int .i64 ty11, .int .i64 tz11, .int .i64 lou, .int .i64 hiu, .slice fpu flu fcu] _ := b3.set 7 (.int .i64 hiu)
  replace b3 : Is _ _ #[.string nu, .int .i64 ku, .int .i64 ta11, .int .i64 tx11, .int .i64 ty11, .int .i64 tz11, .int .i64 lou, .int .i64 hiu, .slice fp41 fl41 fc41] _ := b3.set 8 (.slice fp41 fl41 fc41)
  replace U41 := ((((((((((U41.alloc (.cells #[.string nu, .int .i64 ku, .int .i64 ta11, .int .i64 tx11, .int .i64 ty11, .int .i64 tz11, .int .i64 lou, .int .i64 hiu, .slice fp41 fl41 fc41] 28 (0, 0))).far (p := ⟨w1.heap.size, 0, none⟩) (show w1.heap.size < (w1.heap.size + 1) by omega) (.string nu)).far (p := ⟨w1.heap.size, 1, none⟩) (show w1.heap.size < (w1.heap.size + 1) by omega) (.int .i64 ku)).far (p := ⟨w1.heap.size, 2, none⟩) (show w1.heap.size < (w1.heap.size + 1) by omega) (.int .i64 ta11)).far (p := ⟨w1.heap.size, 3, none⟩) (show w1.heap.size < (w1.heap.size + 1) by omega) (.int .i64 tx11)).far (p := ⟨w1.heap.size, 4, none⟩) (show w1.heap.size < (w1.heap.size + 1) by omega) (.int .i64 ty11)).far (p := ⟨w1.heap.size, 5, none⟩) (show w1.heap.size < (w1.heap.size + 1) by omega) (.int .i64 tz11)).far (p := ⟨w1.heap.size, 6, none⟩) (show w1.heap.size < (w1.heap.size + 1) by omega) (.int .i64 lou)).far (p := ⟨w1.heap.size, 7, none⟩) (show w1.heap.size < (w1.heap.size + 1) by omega) (.int .i64 hiu)).far (p := ⟨w1.heap.size, 8, none⟩) (show w1.heap.size < (w1.heap.size + 1) by omega) (.slice fp41 fl41 fc41))
  have b4 := Is.made w2 #[.string nu, .int .i64 ku, .int .i64 ta11, .int .i64 tx11, .int .i64 ty11, .int .i64 tz11, .int .i64 lou, .int .i64 hiu, .slice fp41 fl41 fc41] 28
  replace b4 := (((((((((b4.far (p := ⟨w1.heap.size, 0, none⟩) (show w2.heap.size ≠ w1.heap.size by omega) (.string nu)).far (p := ⟨w1.heap.size, 1, none⟩) (show w2.heap.size ≠ w1.heap.size by omega) (.int .i64 ku)).far (p := ⟨w1.heap.size, 2, none⟩) (show w2.heap.size ≠ w1.heap.size by omega) (.int .i64 ta11)).far (p := ⟨w1.heap.size, 3, none⟩) (show w2.heap.size ≠ w1.heap.size by omega) (.int .i64 tx11)).far (p := ⟨w1.heap.size, 4, none⟩) (show w2.heap.size ≠ w1.heap.size by omega) (.int .i64 ty11)).far (p := ⟨w1.heap.size, 5, none⟩) (show w2.heap.size ≠ w1.heap.size by omega) (.int .i64 tz11)).far (p := ⟨w1.heap.size, 6, none⟩) (show w2.heap.size ≠ w1.heap.size by omega) (.int .i64 lou)).far (p := ⟨w1.heap.size, 7, none⟩) (show w2.heap.size ≠ w1.heap.size by omega) (.int .i64 hiu)).far (p := ⟨w1.heap.size, 8, none⟩) (show w2.heap.size ≠ w1.heap.size by omega) (.slice fp41 fl41 fc41))
  replace kx := (((((((((kx.alloc (.cells #[.string nu, .int .i64 ku, .int .i64 ta11, .int .i64 tx11, .int .i64 ty11, .int .i64 tz11, .int .i64 lou, .int .i64 hiu, .slice fp41 fl41 fc41] 28 (0, 0))).setCell (p := ⟨w1.heap.size, 0, none⟩) (show w.heap.size ≤ w1.heap.size by omega) (.string nu)).setCell (p := ⟨w1.heap.size, 1, none⟩) (show w.heap.size ≤ w1.heap.size by omega) (.int .i64 ku)).setCell (p := ⟨w1.heap.size, 2, none⟩) (show w.heap.size ≤ w1.heap.size by omega) (.int .i64 ta11)).setCell (p := ⟨w1.heap.size, 3, none⟩) (show w.heap.size ≤ w1.heap.size by omega) (.int .i64 tx11)).setCell (p := ⟨w1.heap.size, 4, none⟩) (show w.heap.size ≤ w1.heap.size by omega) (.int .i64 ty11)).setCell (p := ⟨w1.heap.size, 5, none⟩) (show w.heap.size ≤ w1.heap.size by omega) (.int .i64 tz11)).setCell (p := ⟨w1.heap.size, 6, none⟩) (show w.heap.size ≤ w1.heap.size by omega) (.int .i64 lou)).setCell (p := ⟨w1.heap.size, 7, none⟩) (show w.heap.size ≤ w1.heap.size by omega) (.int .i64 hiu)).setCell (p := ⟨w1.heap.size, 8, none⟩) (show w.heap.size ≤ w1.heap.size by omega) (.slice fp41 fl41 fc41)
  clear j32 j42
  replace da := da0.out.kb kx
  replace gl := gl0.out.kb kx
  have s3 : w2.heap.size + 1 ≤ ((((((((((w2.alloc (.cells #[.string nu, .int .i64 ku, .int .i64 ta11, .int .i64 tx11, .int .i64 ty11, .int .i64 tz11, .int .i64 lou, .int .i64 hiu, .slice fp41 fl41 fc41] 28 (0, 0))).setCell ⟨w1.heap.size, 0, none⟩ (.string nu)).setCell ⟨w1.heap.size, 1, none⟩ (.int .i64 ku)).setCell ⟨w1.heap.size, 2, none⟩ (.int .i64 ta11)).setCell ⟨w1.heap.size, 3, none⟩ (.int .i64 tx11)).setCell ⟨w1.heap.size, 4, none⟩ (.int .i64 ty11)).setCell ⟨w1.heap.size, 5, none⟩ (.int .i64 tz11)).setCell ⟨w1.heap.size, 6, none⟩ (.int .i64 lou)).setCell ⟨w1.heap.size, 7, none⟩ (.int .i64 hiu)).setCell ⟨w1.heap.size, 8, none⟩ (.slice fp41 fl41 fc41)).heap.size := by simp only [World.size_alloc, World.size_setCell]; exact Nat.le_refl _
  generalize ((((((((((w2.alloc (.cells #[.string nu, .int .i64 ku, .int .i64 ta11, .int .i64 tx11, .int .i64 ty11, .int .i64 tz11, .int .i64 lou, .int .i64 hiu, .slice fp41 fl41 fc41] 28 (0, 0))).setCell ⟨w1.heap.size, 0, none⟩ (.string nu)).setCell ⟨w1.heap.size, 1, none⟩ (.int .i64 ku)).setCell ⟨w1.heap.size, 2, none⟩ (.int .i64 ta11)).setCell ⟨w1.heap.size, 3, none⟩ (.int .i64 tx11)).setCell ⟨w1.heap.size, 4, none⟩ (.int .i64 ty11)).setCell ⟨w1.heap.size, 5, none⟩ (.int .i64 tz11)).setCell ⟨w1.heap.size, 6, none⟩ (.int .i64 lou)).setCell ⟨w1.heap.size, 7, none⟩ (.int .i64 hiu)).setCell ⟨w1.heap.size, 8, none⟩ (.slice fp41 fl41 fc41)) = w3 at *
  rw [rounds_succ]
  have f61 := b3.c (i := 0) rfl
  have f62 := b3.c (i := 1) rfl
  have f63 := b3.c (i := 2) rfl
  have f64 := b3.c (i := 3) rfl
  have f65 := b3.c (i := 4) rfl
  have f66 := b3.c (i := 5) rfl
  have f67 := b3.c (i := 6) rfl
  have f68 := b3.c (i := 7) rfl
  have f69 := b3.c (i := 8) rfl
  go_wp2_with fail
  clear f61 f62 f63 f64 f65 f66 f67 f68 f69
  (with_reducible refine (qT1.out _ _ _ _ U41.frs).mono ?_)
  rintro r w4 ⟨fp42, fl42, fc42, rfl, U42, k4⟩
  replace da := da.kb k4
  replace gl := gl.kb k4
  replace b1 := b1.kb k4
  replace b2 := b2.kb k4
  replace b3 := b3.kb k4
  replace U41 := U41.kb k4
  replace b4 := b4.kb k4
  replace kx := kx.trans k4
  have s4 := k4.size
  skip
  clear k4
  try simp only [World.size_alloc, World.size_setCell] at U42
  have j70 := (Is.made w4 #[.string nu, .int .i64 ku, .int .i64 ta12, .int .i64 tx12, .int .i64 ty12, .int .i64 tz12, .int .i64 lou, .int .i64 hiu, .slice fp42 fl42 fc42] 28)
  have f71 := j70.c (i := 0) rfl
  have f72 := j70.c (i := 1) rfl
  have f73 := j70.c (i := 2) rfl
  have f74 := j70.c (i := 3) rfl
  have f75 := j70.c (i := 4) rfl
  have f76 := j70.c (i := 5) rfl
  have f77 := j70.c (i := 6) rfl
  have f78 := j70.c (i := 7) rfl
  have f79 := j70.c (i := 8) rfl
  have j80 := (b3.alloc (.cells #[.string nu, .int .i64 ku, .int .i64 ta12, .int .i64 tx12, .int .i64 ty12, .int .i64 tz12, .int .i64 lou, .int .i64 hiu, .slice fp42 fl42 fc42] 28 (0, 0)))
  have f81 := j80.c (i := 0) rfl
  have f82 := j80.f 0
  have f83 := j80.c (i := 1) rfl
  have f84 := j80.f 1
  have f85 := j80.c (i := 2) rfl
  have f86 := j80.f 2
  have f87 := j80.c (i := 3) rfl
  have f88 := j80.f 3
  have f89 := j80.c (i := 4) rfl
  have f90 := j80.f 4
  have f91 := j80.c (i := 5) rfl
  have f92 := j80.f 5
  have f93 := j80.c (i := 6) rfl
  have f94 := j80.f 6
  have f95 := j80.c (i := 7) rfl
  have f96 := j80.f 7
  have f97 := j80.c (i := 8) rfl
  have f98 := j80.f 8
  go_wp2_with fail
  clear f71 f72 f73 f74 f75 f76 f77 f78 f79 f81 f82 f83 f84 f85 f86 f87 f88 f89 f90 f91 f92 f93 f94 f95 f96 f97 f98
  replace b1 := ((((((((((b1.alloc (.cells #[.string nu, .int .i64 ku, .int .i64 ta12, .int .i64 tx12, .int .i64 ty12, .int .i64 tz12, .int .i64 lou, .int .i64 hiu, .slice fp42 fl42 fc42] 28 (0, 0))).far (p := ⟨w1.heap.size, 0, none⟩) (show w.heap.size ≠ w1.heap.size by omega) (.string nu)).far (p := ⟨w1.heap.size, 1, none⟩) (show w.heap.size ≠ w1.heap.size by omega) (.int .i64 ku)).far (p := ⟨w1.heap.size, 2, none⟩) (show w.heap.size ≠ w1.heap.size by omega) (.int .i64 ta12)).far (p := ⟨w1.heap.size, 3, none⟩) (show w.heap.size ≠ w1.heap.size by omega) (.int .i64 tx12)).far (p := ⟨w1.heap.size, 4, none⟩) (show w.heap.size ≠ w1.heap.size by omega) (.int .i64 ty12)).far (p := ⟨w1.heap.size, 5, none⟩) (show w.heap.size ≠ w1.heap.size by omega) (.int .i64 tz12)).far (p := ⟨w1.heap.size, 6, none⟩) (show w.heap.size ≠ w1.heap.size by omega) (.int .i64 lou)).far (p := ⟨w1.heap.size, 7, none⟩) (show w.heap.size ≠ w1.heap.size by omega) (.int .i64 hiu)).far (p := ⟨w1.heap.size, 8, none⟩) (show w.heap.size ≠ w1.heap.size by omega) (.slice fp42 fl42 fc42))
  replace b2 := ((((((((((b2.alloc (.cells #[.string nu, .int .i64 ku, .int .i64 ta12, .int .i64 tx12, .int .i64 ty12, .int .i64 tz12, .int .i64 lou, .int .i64 hiu, .slice fp42 fl42 fc42] 28 (0, 0))).far (p := ⟨w1.heap.size, 0, none⟩) (show w.heap.size + 1 ≠ w1.heap.size by omega) (.string nu)).far (p := ⟨w1.heap.size, 1, none⟩) (show w.heap.size + 1 ≠ w1.heap.size by omega) (.int .i64 ku)).far (p := ⟨w1.heap.size, 2, none⟩) (show w.heap.size + 1 ≠ w1.heap.size by omega) (.int .i64 ta12)).far (p := ⟨w1.heap.size, 3, none⟩) (show w.heap.size + 1 ≠ w1.heap.size by omega) (.int .i64 tx12)).far (p := ⟨w1.heap.size, 4, none⟩) (show w.heap.size + 1 ≠ w1.heap.size by omega) (.int .i64 ty12)).far (p := ⟨w1.heap.size, 5, none⟩) (show w.heap.size + 1 ≠ w1.heap.size by omega) (.int .i64 tz12)).far (p := ⟨w1.heap.size, 6, none⟩) (show w.heap.size + 1 ≠ w1.heap.size by omega) (.int .i64 lou)).far (p := ⟨w1.heap.size, 7, none⟩) (show w.heap.size + 1 ≠ w1.heap.size by omega) (.int .i64 hiu)).far (p := ⟨w1.heap.size, 8, none⟩) (show w.heap.size + 1 ≠ w1.heap.size by omega) (.slice fp42 fl42 fc42))
  replace b3 := (b3.alloc (.cells #[.string nu, .int .i64 ku, .int .i64 ta12, .int .i64 tx12, .int .i64 ty12, .int .i64 tz12, .int .i64 lou, .int .i64 hiu, .slice fp42 fl42 fc42] 28 (0, 0)))
  replace b3 : Is _ _ #[.string nu, .int .i64 ku, .int .i64 ta11, .int .i64 tx11, .int .i64 ty11, .int .i64 tz11, .int .i64 lou, .int .i64 hiu, .slice fp41 fl41 fc41] _ := b3.set 0 (.string nu)
  replace b3 : Is _ _ #[.string nu, .int .i64 ku, .int .i64 ta11, .int .i64 tx11, .int .i64 ty11, .int .i64 tz11, .int .i64 lou, .int .i64 hiu, .slice fp41 fl41 fc41] _ := b3.set 1 (.int .i64 ku)
  replace b3 : Is _ _ #[.string nu, .int .i64 ku, .int .i64 ta12, .int .i64 tx11, .int .i64 ty11, .int .i64 tz11, .int .i64 lou, .int .i64 hiu, .slice fp41 fl41 fc41] _ := b3.set 2 (.int .i64 ta12)
  replace b3 : Is _ _ #[.string nu, .int .i64 ku, .int .i64 ta12, .int .i64 tx12, .int .i64 ty11, .int .i64 tz11, .int .i64 lou, .int .i64 hiu, .slice fp41 fl41 fc41] _ := b3.set 3 (.int .i64 tx12)
  replace b3 : Is _ _ #[.string nu, .int .i64 ku, .int .i64 ta12, .int .i64 tx12, .int .i64 ty12, .int .i64 tz11, .int .i64 lou, .int .i64 hiu, .slice fp41 fl41 fc41] _ := b3.set 4 (.int .i64 ty12)
  replace b3 : Is _ _ #[.string nu, .int .i64 ku, .int .i64 ta12, .int .i64 tx12, .int .i64 ty12, .int .i64 tz12, .int .i64 lou, .int .i64 hiu, .slice fp41 fl41 fc41] _ := b3.set 5 (.int .i64 tz12)
  replace b3 : Is _ _ #[.string nu, .int .i64 ku, .int .i64 ta12, .int .i64 tx12, .int .i64 ty12, .int .i64 tz12, .int .i64 lou, .int .i64 hiu, .slice fp41 fl41 fc41] _ := b3.set 6 (.int .i64 lou)
  replace b3 : Is _ _ #[.string nu, .int .i64 ku, .int .i64 ta12, .int .i64 tx12, .int .i64 ty12, .int .i64 tz12, .int .i64 lou, .int .i64 hiu, .slice fp41 fl41 fc41] _ := b3.set 7 (.int .i64 hiu)
  replace b3 : Is _ _ #[.string nu, .int .i64 ku, .int .i64 ta12, .int .i64 tx12, .int .i64 ty12, .int .i64 tz12, .int .i64 lou, .int .i64 hiu, .slice fp42 fl42 fc42] _ := b3.set 8 (.slice fp42 fl42 fc42)
  replace U41 := ((((((((((U41.alloc (.cells #[.string nu, .int .i64 ku, .int .i64 ta12, .int .i64 tx12, .int .i64 ty12, .int .i64 tz12, .int .i64 lou, .int .i64 hiu, .slice fp42 fl42 fc42] 28 (0, 0))).far (p := ⟨w1.heap.size, 0, none⟩) (show w1.heap.size < (w1.heap.size + 1) by omega) (.string nu)).far (p := ⟨w1.heap.size, 1, none⟩) (show w1.heap.size < (w1.heap.size + 1) by omega) (.int .i64 ku)).far (p := ⟨w1.heap.size, 2, none⟩) (show w1.heap.size < (w1.heap.size + 1) by omega) (.int .i64 ta12)).far (p := ⟨w1.heap.size, 3, none⟩) (show w1.heap.size < (w1.heap.size + 1) by omega) (.int .i64 tx12)).far (p := ⟨w1.heap.size, 4, none⟩) (show w1.heap.size < (w1.heap.size + 1) by omega) (.int .i64 ty12)).far (p := ⟨w1.heap.size, 5, none⟩) (show w1.heap.size < (w1.heap.size + 1) by omega) (.int .i64 tz12)).far (p := ⟨w1.heap.size, 6, none⟩) (show w1.heap.size < (w1.heap.size + 1) by omega) (.int .i64 lou)).far (p := ⟨w1.heap.size, 7, none⟩) (show w1.heap.size < (w1.heap.size + 1) by omega) (.int .i64 hiu)).far (p := ⟨w1.heap.size, 8, none⟩) (show w1.heap.size < (w1.heap.size + 1) by omega) (.slice fp42 fl42 fc42))
  replace b4 := ((((((((((b4.alloc (.cells #[.string nu, .int .i64 ku, .int .i64 ta12, .int .i64 tx12, .int .i64 ty12, .int .i64 tz12, .int .i64 lou, .int .i64 hiu, .slice fp42 fl42 fc42] 28 (0, 0))).far (p := ⟨w1.heap.size, 0, none⟩) (show w2.heap.size ≠ w1.heap.size by omega) (.string nu)).far (p := ⟨w1.heap.size, 1, none⟩) (show w2.heap.size ≠ w1.heap.size by omega) (.int .i64 ku)).far (p := ⟨w1.heap.size, 2, none⟩) (show w2.heap.size ≠ w1.heap.size by omega) (.int .i64 ta12)).far (p := ⟨w1.heap.size, 3, none⟩) (show w2.heap.size ≠ w1.heap.size by omega) (.int .i64 tx12)).far (p := ⟨w1.heap.size, 4, none⟩) (show w2.heap.size ≠ w1.heap.size by omega) (.int .i64 ty12)).far (p := ⟨w1.heap.size, 5, none⟩) (show w2.heap.size ≠ w1.heap.size by omega) (.int .i64 tz12)).far (p := ⟨w1.heap.size, 6, none⟩) (show w2.heap.size ≠ w1.heap.size by omega) (.int .i64 lou)).far (p := ⟨w1.heap.size, 7, none⟩) (show w2.heap.size ≠ w1.heap.size by omega) (.int .i64 hiu)).far (p := ⟨w1.heap.size, 8, none⟩) (show w2.heap.size ≠ w1.heap.size by omega) (.slice fp42 fl42 fc42))
  replace U42 := ((((((((((U42.alloc (.cells #[.string nu, .int .i64 ku, .int .i64 ta12, .int .i64 tx12, .int .i64 ty12, .int .i64 tz12, .int .i64 lou, .int .i64 hiu, .slice fp42 fl42 fc42] 28 (0, 0))).far (p := ⟨w1.heap.size, 0, none⟩) (show w1.heap.size < (w3.heap.size) by omega) (.string nu)).far (p := ⟨w1.heap.size, 1, none⟩) (show w1.heap.size < (w3.heap.size) by omega) (.int .i64 ku)).far (p := ⟨w1.heap.size, 2, none⟩) (show w1.heap.size < (w3.heap.size) by omega) (.int .i64 ta12)).far (p := ⟨w1.heap.size, 3, none⟩) (show w1.heap.size < (w3.heap.size) by omega) (.int .i64 tx12)).far (p := ⟨w1.heap.size, 4, none⟩) (show w1.heap.size < (w3.heap.size) by omega) (.int .i64 ty12)).far (p := ⟨w1.heap.size, 5, none⟩) (show w1.heap.size < (w3.heap.size) by omega) (.int .i64 tz12)).far (p := ⟨w1.heap.size, 6, none⟩) (show w1.heap.size < (w3.heap.size) by omega) (.int .i64 lou)).far (p := ⟨w1.heap.size, 7, none⟩) (show w1.heap.size < (w3.heap.size) by omega) (.int .i64 hiu)).far (p := ⟨w1.heap.size, 8, none⟩) (show w1.heap.size < (w3.heap.size) by omega) (.slice fp42 fl42 fc42))
  have b5 := Is.made w4 #[.string nu, .int .i64 ku, .int .i64 ta12, .int .i64 tx12, .int .i64 ty12, .int .i64 tz12, .int .i64 lou, .int .i64 hiu, .slice fp42 fl42 fc42] 28
  replace b5 := (((((((((b5.far (p := ⟨w1.heap.size, 0, none⟩) (show w4.heap.size ≠ w1.heap.size by omega) (.string nu)).far (p := ⟨w1.heap.size, 1, none⟩) (show w4.heap.size ≠ w1.heap.size by omega) (.int .i64 ku)).far (p := ⟨w1.heap.size, 2, none⟩) (show w4.heap.size ≠ w1.heap.size by omega) (.int .i64 ta12)).far (p := ⟨w1.heap.size, 3, none⟩) (show w4.heap.size ≠ w1.heap.size by omega) (.int .i64 tx12)).far (p := ⟨w1.heap.size, 4, none⟩) (show w4.heap.size ≠ w1.heap.size by omega) (.int .i64 ty12)).far (p := ⟨w1.heap.size, 5, none⟩) (show w4.heap.size ≠ w1.heap.size by omega) (.int .i64 tz12)).far (p := ⟨w1.heap.size, 6, none⟩) (show w4.heap.size ≠ w1.heap.size by omega) (.int .i64 lou)).far (p := ⟨w1.heap.size, 7, none⟩) (show w4.heap.size ≠ w1.heap.size by omega) (.int .i64 hiu)).far (p := ⟨w1.heap.size, 8, none⟩) (show w4.heap.size ≠ w1.heap.size by omega) (.slice fp42 fl42 fc42))
  replace kx := (((((((((kx.alloc (.cells #[.string nu, .int .i64 ku, .int .i64 ta12, .int .i64 tx12, .int .i64 ty12, .int .i64 tz12, .int .i64 lou, .int .i64 hiu, .slice fp42 fl42 fc42] 28 (0, 0))).setCell (p := ⟨w1.heap.size, 0, none⟩) (show w.heap.size ≤ w1.heap.size by omega) (.string nu)).setCell (p := ⟨w1.heap.size, 1, none⟩) (show w.heap.size ≤ w1.heap.size by omega) (.int .i64 ku)).setCell (p := ⟨w1.heap.size, 2, none⟩) (show w.heap.size ≤ w1.heap.size by omega) (.int .i64 ta12)).setCell (p := ⟨w1.heap.size, 3, none⟩) (show w.heap.size ≤ w1.heap.size by omega) (.int .i64 tx12)).setCell (p := ⟨w1.heap.size, 4, none⟩) (show w.heap.size ≤ w1.heap.size by omega) (.int .i64 ty12)).setCell (p := ⟨w1.heap.size, 5, none⟩) (show w.heap.size ≤ w1.heap.size by omega) (.int .i64 tz12)).setCell (p := ⟨w1.heap.size, 6, none⟩) (show w.heap.size ≤ w1.heap.size by omega) (.int .i64 lou)).setCell (p := ⟨w1.heap.size, 7, none⟩) (show w.heap.size ≤ w1.heap.size by omega) (.int .i64 hiu)).setCell (p := ⟨w1.heap.size, 8, none⟩) (show w.heap.size ≤ w1.heap.size by omega) (.slice fp42 fl42 fc42)
  clear j70 j80
  replace da := da0.out.kb kx
  replace gl := gl0.out.kb kx
  have s5 : w4.heap.size + 1 ≤ ((((((((((w4.alloc (.cells #[.string nu, .int .i64 ku, .int .i64 ta12, .int .i64 tx12, .int .i64 ty12, .int .i64 tz12, .int .i64 lou, .int .i64 hiu, .slice fp42 fl42 fc42] 28 (0, 0))).setCell ⟨w1.heap.size, 0, none⟩ (.string nu)).setCell ⟨w1.heap.size, 1, none⟩ (.int .i64 ku)).setCell ⟨w1.heap.size, 2, none⟩ (.int .i64 ta12)).setCell ⟨w1.heap.size, 3, none⟩ (.int .i64 tx12)).setCell ⟨w1.heap.size, 4, none⟩ (.int .i64 ty12)).setCell ⟨w1.heap.size, 5, none⟩ (.int .i64 tz12)).setCell ⟨w1.heap.size, 6, none⟩ (.int .i64 lou)).setCell ⟨w1.heap.size, 7, none⟩ (.int .i64 hiu)).setCell ⟨w1.heap.size, 8, none⟩ (.slice fp42 fl42 fc42)).heap.size := by simp only [World.size_alloc, World.size_setCell]; exact Nat.le_refl _
  generalize ((((((((((w4.alloc (.cells #[.string nu, .int .i64 ku, .int .i64 ta12, .int .i64 tx12, .int .i64 ty12, .int .i64 tz12, .int .i64 lou, .int .i64 hiu, .slice fp42 fl42 fc42] 28 (0, 0))).setCell ⟨w1.heap.size, 0, none⟩ (.string nu)).setCell ⟨w1.heap.size, 1, none⟩ (.int .i64 ku)).setCell ⟨w1.heap.size, 2, none⟩ (.int .i64 ta12)).setCell ⟨w1.heap.size, 3, none⟩ (.int .i64 tx12)).setCell ⟨w1.heap.size, 4, none⟩ (.int .i64 ty12)).setCell ⟨w1.heap.size, 5, none⟩ (.int .i64 tz12)).setCell ⟨w1.heap.size, 6, none⟩ (.int .i64 lou)).setCell ⟨w1.heap.size, 7, none⟩ (.int .i64 hiu)).setCell ⟨w1.heap.size, 8, none⟩ (.slice fp42 fl42 fc42)) = w5 at *
  rw [rounds_succ]
  have f99 := b3.c (i := 0) rfl
  have f100 := b3.c (i := 1) rfl
  have f101 := b3.c (i := 2) rfl
  have f102 := b3.c (i := 3) rfl
  have f103 := b3.c (i := 4) rfl
  have f104 := b3.c (i := 5) rfl
  have f105 := b3.c (i := 6) rfl
  have f106 := b3.c (i := 7) rfl
  have f107 := b3.c (i := 8) rfl
  go_wp2_with fail
  clear f99 f100 f101 f102 f103 f104 f105 f106 f107
  (with_reducible refine (qT2.out _ _ _ _ U42.frs).mono ?_)
  rintro r w6 ⟨fp43, fl43, fc43, rfl, U43, k6⟩
  replace da := da.kb k6
  replace gl := gl.kb k6
  replace b1 := b1.kb k6
  replace b2 := b2.kb k6
  replace b3 := b3.kb k6
  replace U41 := U41.kb k6
  replace b4 := b4.kb k6
  replace U42 := U42.kb k6
  replace b5 := b5.kb k6
  replace kx := kx.trans k6
  have s6 := k6.size
  skip
  clear k6
  try simp only [World.size_alloc, World.size_setCell] at U43
  have j108 := (Is.made w6 #[.string nu, .int .i64 ku, .int .i64 ta13, .int .i64 tx13, .int .i64 ty13, .int .i64 tz13, .int .i64 lou, .int .i64 hiu, .slice fp43 fl43 fc43] 28)
  have f109 := j108.c (i := 0) rfl
  have f110 := j108.c (i := 1) rfl
  have f111 := j108.c (i := 2) rfl
  have f112 := j108.c (i := 3) rfl
  have f113 := j108.c (i := 4) rfl
  have f114 := j108.c (i := 5) rfl
  have f115 := j108.c (i := 6) rfl
  have f116 := j108.c (i := 7) rfl
  have f117 := j108.c (i := 8) rfl
  have j118 := (b3.alloc (.cells #[.string nu, .int .i64 ku, .int .i64 ta13, .int .i64 tx13, .int .i64 ty13, .int .i64 tz13, .int .i64 lou, .int .i64 hiu, .slice fp43 fl43 fc43] 28 (0, 0)))
  have f119 := j118.c (i := 0) rfl
  have f120 := j118.f 0
  have f121 := j118.c (i := 1) rfl
  have f122 := j118.f 1
  have f123 := j118.c (i := 2) rfl
  have f124 := j118.f 2
  have f125 := j118.c (i := 3) rfl
  have f126 := j118.f 3
  have f127 := j118.c (i := 4) rfl
  have f128 := j118.f 4
  have f129 := j118.c (i := 5) rfl
  have f130 := j118.f 5
  have f131 := j118.c (i := 6) rfl
  have f132 := j118.f 6
  have f133 := j118.c (i := 7) rfl
  have f134 := j118.f 7
  have f135 := j118.c (i := 8) rfl
  have f136 := j118.f 8
  go_wp2_with fail
  clear f109 f110 f111 f112 f113 f114 f115 f116 f117 f119 f120 f121 f122 f123 f124 f125 f126 f127 f128 f129 f130 f131 f132 f133 f134 f135 f136
  replace b1 := ((((((((((b1.alloc (.cells #[.string nu, .int .i64 ku, .int .i64 ta13, .int .i64 tx13, .int .i64 ty13, .int .i64 tz13, .int .i64 lou, .int .i64 hiu, .slice fp43 fl43 fc43] 28 (0, 0))).far (p := ⟨w1.heap.size, 0, none⟩) (show w.heap.size ≠ w1.heap.size by omega) (.string nu)).far (p := ⟨w1.heap.size, 1, none⟩) (show w.heap.size ≠ w1.heap.size by omega) (.int .i64 ku)).far (p := ⟨w1.heap.size, 2, none⟩) (show w.heap.size ≠ w1.heap.size by omega) (.int .i64 ta13)).far (p := ⟨w1.heap.size, 3, none⟩) (show w.heap.size ≠ w1.heap.size by omega) (.int .i64 tx13)).far (p := ⟨w1.heap.size, 4, none⟩) (show w.heap.size ≠ w1.heap.size by omega) (.int .i64 ty13)).far (p := ⟨w1.heap.size, 5, none⟩) (show w.heap.size ≠ w1.heap.size by omega) (.int .i64 tz13)).far (p := ⟨w1.heap.size, 6, none⟩) (show w.heap.size ≠ w1.heap.size by omega) (.int .i64 lou)).far (p := ⟨w1.heap.size, 7, none⟩) (show w.heap.size ≠ w1.heap.size by omega) (.int .i64 hiu)).far (p := ⟨w1.heap.size, 8, none⟩) (show w.heap.size ≠ w1.heap.size by omega) (.slice fp43 fl43 fc43))
  replace b2 := ((((((((((b2.alloc (.cells #[.string nu, .int .i64 ku, .int .i64 ta13, .int .i64 tx13, .int .i64 ty13, .int .i64 tz13, .int .i64 lou, .int .i64 hiu, .slice fp43 fl43 fc43] 28 (0, 0))).far (p := ⟨w1.heap.size, 0, none⟩) (show w.heap.size + 1 ≠ w1.heap.size by omega) (.string nu)).far (p := ⟨w1.heap.size, 1, none⟩) (show w.heap.size + 1 ≠ w1.heap.size by omega) (.int .i64 ku)).far (p := ⟨w1.heap.size, 2, none⟩) (show w.heap.size + 1 ≠ w1.heap.size by omega) (.int .i64 ta13)).far (p := ⟨w1.heap.size, 3, none⟩) (show w.heap.size + 1 ≠ w1.heap.size by omega) (.int .i64 tx13)).far (p := ⟨w1.heap.size, 4, none⟩) (show w.heap.size + 1 ≠ w1.heap.size by omega) (.int .i64 ty13)).far (p := ⟨w1.heap.size, 5, none⟩) (show w.heap.size + 1 ≠ w1.heap.size by omega) (.int .i64 tz13)).far (p := ⟨w1.heap.size, 6, none⟩) (show w.heap.size + 1 ≠ w1.heap.size by omega) (.int .i64 lou)).far (p := ⟨w1.heap.size, 7, none⟩) (show w.heap.size + 1 ≠ w1.heap.size by omega) (.int .i64 hiu)).far (p := ⟨w1.heap.size, 8, none⟩) (show w.heap.size + 1 ≠ w1.heap.size by omega) (.slice fp43 fl43 fc43))
  replace b3 := (b3.alloc (.cells #[.string nu, .int .i64 ku, .int .i64 ta13, .int .i64 tx13, .int .i64 ty13, .int .i64 tz13, .int .i64 lou, .int .i64 hiu, .slice fp43 fl43 fc43] 28 (0, 0)))
  replace b3 : Is _ _ #[.string nu, .int .i64 ku, .int .i64 ta12, .int .i64 tx12, .int .i64 ty12, .int .i64 tz12, .int .i64 lou, .int .i64 hiu, .slice fp42 fl42 fc42] _ := b3.set 0 (.string nu)
  replace b3 : Is _ _ #[.string nu, .int .i64 ku, .int .i64 ta12, .int .i64 tx12, .int .i64 ty12, .int .i64 tz12, .int .i64 lou, .int .i64 hiu, .slice fp42 fl42 fc42] _ := b3.set 1 (.int .i64 ku)
  replace b3 : Is _ _ #[.string nu, .int .i64 ku, .int .i64 ta13, .int .i64 tx12, .int .i64 ty12, .int .i64 tz12, .int .i64 lou, .int .i64 hiu, .slice fp42 fl42 fc42] _ := b3.set 2 (.int .i64 ta13)
  replace b3 : Is _ _ #[.string nu, .int .i64 ku, .int .i64 ta13, .int .i64 tx13, .int .i64 ty12, .int .i64 tz12, .int .i64 lou, .int .i64 hiu, .slice fp42 fl42 fc42] _ := b3.set 3 (.int .i64 tx13)
  replace b3 : Is _ _ #[.string nu, .int .i64 ku, .int .i64 ta13, .int .i64 tx13, .int .i64 ty13, .int .i64 tz12, .int .i64 lou, .int .i64 hiu, .slice fp42 fl42 fc42] _ := b3.set 4 (.int .i64 ty13)
  replace b3 : Is _ _ #[.string nu, .int .i64 ku, .int .i64 ta13, .int .i64 tx13, .int .i64 ty13, .int .i64 tz13, .int .i64 lou, .int .i64 hiu, .slice fp42 fl42 fc42] _ := b3.set 5 (.int .i64 tz13)
  replace b3 : Is _ _ #[.string nu, .int .i64 ku, .int .i64 ta13, .int .i64 tx13, .int .i64 ty13, .int .i64 tz13, .int .i64 lou, .int .i64 hiu, .slice fp42 fl42 fc42] _ := b3.set 6 (.int .i64 lou)
  replace b3 : Is _ _ #[.string nu, .int .i64 ku, .int .i64 ta13, .int .i64 tx13, .int .i64 ty13, .int .i64 tz13, .int .i64 lou, .int .i64 hiu, .slice fp42 fl42 fc42] _ := b3.set 7 (.int .i64 hiu)
  replace b3 : Is _ _ #[.string nu, .int .i64 ku, .int .i64 ta13, .int .i64 tx13, .int .i64 ty13, .int .i64 tz13, .int .i64 lou, .int .i64 hiu, .slice fp43 fl43 fc43] _ := b3.set 8 (.slice fp43 fl43 fc43)
  replace U41 := ((((((((((U41.alloc (.cells #[.string nu, .int .i64 ku, .int .i64 ta13, .int .i64 tx13, .int .i64 ty13, .int .i64 tz13, .int .i64 lou, .int .i64 hiu, .slice fp43 fl43 fc43] 28 (0, 0))).far (p := ⟨w1.heap.size, 0, none⟩) (show w1.heap.size < (w1.heap.size + 1) by omega) (.string nu)).far (p := ⟨w1.heap.size, 1, none⟩) (show w1.heap.size < (w1.heap.size + 1) by omega) (.int .i64 ku)).far (p := ⟨w1.heap.size, 2, none⟩) (show w1.heap.size < (w1.heap.size + 1) by omega) (.int .i64 ta13)).far (p := ⟨w1.heap.size, 3, none⟩) (show w1.heap.size < (w1.heap.size + 1) by omega) (.int .i64 tx13)).far (p := ⟨w1.heap.size, 4, none⟩) (show w1.heap.size < (w1.heap.size + 1) by omega) (.int .i64 ty13)).far (p := ⟨w1.heap.size, 5, none⟩) (show w1.heap.size < (w1.heap.size + 1) by omega) (.int .i64 tz13)).far (p := ⟨w1.heap.size, 6, none⟩) (show w1.heap.size < (w1.heap.size + 1) by omega) (.int .i64 lou)).far (p := ⟨w1.heap.size, 7, none⟩) (show w1.heap.size < (w1.heap.size + 1) by omega) (.int .i64 hiu)).far (p := ⟨w1.heap.size, 8, none⟩) (show w1.heap.size < (w1.heap.size + 1) by omega) (.slice fp43 fl43 fc43))
  replace b4 := ((((((((((b4.alloc (.cells #[.string nu, .int .i64 ku, .int .i64 ta13, .int .i64 tx13, .int .i64 ty13, .int .i64 tz13, .int .i64 lou, .int .i64 hiu, .slice fp43 fl43 fc43] 28 (0, 0))).far (p := ⟨w1.heap.size, 0, none⟩) (show w2.heap.size ≠ w1.heap.size by omega) (.string nu)).far (p := ⟨w1.heap.size, 1, none⟩) (show w2.heap.size ≠ w1.heap.size by omega) (.int .i64 ku)).far (p := ⟨w1.heap.size, 2, none⟩) (show w2.heap.size ≠ w1.heap.size by omega) (.int .i64 ta13)).far (p := ⟨w1.heap.size, 3, none⟩) (show w2.heap.size ≠ w1.heap.size by omega) (.int .i64 tx13)).far (p := ⟨w1.heap.size, 4, none⟩) (show w2.heap.size ≠ w1.heap.size by omega) (.int .i64 ty13)).far (p := ⟨w1.heap.size, 5, none⟩) (show w2.heap.size ≠ w1.heap.size by omega) (.int .i64 tz13)).far (p := ⟨w1.heap.size, 6, none⟩) (show w2.heap.size ≠ w1.heap.size by omega) (.int .i64 lou)).far (p := ⟨w1.heap.size, 7, none⟩) (show w2.heap.size ≠ w1.heap.size by omega) (.int .i64 hiu)).far (p := ⟨w1.heap.size, 8, none⟩) (show w2.heap.size ≠ w1.heap.size by omega) (.slice fp43 fl43 fc43))
  replace U42 := ((((((((((U42.alloc (.cells #[.string nu, .int .i64 ku, .int .i64 ta13, .int .i64 tx13, .int .i64 ty13, .int .i64 tz13, .int .i64 lou, .int .i64 hiu, .slice fp43 fl43 fc43] 28 (0, 0))).far (p := ⟨w1.heap.size, 0, none⟩) (show w1.heap.size < (w3.heap.size) by omega) (.string nu)).far (p := ⟨w1.heap.size, 1, none⟩) (show w1.heap.size < (w3.heap.size) by omega) (.int .i64 ku)).far (p := ⟨w1.heap.size, 2, none⟩) (show w1.heap.size < (w3.heap.size) by omega) (.int .i64 ta13)).far (p := ⟨w1.heap.size, 3, none⟩) (show w1.heap.size < (w3.heap.size) by omega) (.int .i64 tx13)).far (p := ⟨w1.heap.size, 4, none⟩) (show w1.heap.size < (w3.heap.size) by omega) (.int .i64 ty13)).far (p := ⟨w1.heap.size, 5, none⟩) (show w1.heap.size < (w3.heap.size) by omega) (.int .i64 tz13)).far (p := ⟨w1.heap.size, 6, none⟩) (show w1.heap.size < (w3.heap.size) by omega) (.int .i64 lou)).far (p := ⟨w1.heap.size, 7, none⟩) (show w1.heap.size < (w3.heap.size) by omega) (.int .i64 hiu)).far (p := ⟨w1.heap.size, 8, none⟩) (show w1.heap.size < (w3.heap.size) by omega) (.slice fp43 fl43 fc43))
  replace b5 := ((((((((((b5.alloc (.cells #[.string nu, .int .i64 ku, .int .i64 ta13, .int .i64 tx13, .int .i64 ty13, .int .i64 tz13, .int .i64 lou, .int .i64 hiu, .slice fp43 fl43 fc43] 28 (0, 0))).far (p := ⟨w1.heap.size, 0, none⟩) (show w4.heap.size ≠ w1.heap.size by omega) (.string nu)).far (p := ⟨w1.heap.size, 1, none⟩) (show w4.heap.size ≠ w1.heap.size by omega) (.int .i64 ku)).far (p := ⟨w1.heap.size, 2, none⟩) (show w4.heap.size ≠ w1.heap.size by omega) (.int .i64 ta13)).far (p := ⟨w1.heap.size, 3, none⟩) (show w4.heap.size ≠ w1.heap.size by omega) (.int .i64 tx13)).far (p := ⟨w1.heap.size, 4, none⟩) (show w4.heap.size ≠ w1.heap.size by omega) (.int .i64 ty13)).far (p := ⟨w1.heap.size, 5, none⟩) (show w4.heap.size ≠ w1.heap.size by omega) (.int .i64 tz13)).far (p := ⟨w1.heap.size, 6, none⟩) (show w4.heap.size ≠ w1.heap.size by omega) (.int .i64 lou)).far (p := ⟨w1.heap.size, 7, none⟩) (show w4.heap.size ≠ w1.heap.size by omega) (.int .i64 hiu)).far (p := ⟨w1.heap.size, 8, none⟩) (show w4.heap.size ≠ w1.heap.size by omega) (.slice fp43 fl43 fc43))
  replace U43 := ((((((((((U43.alloc (.cells #[.string nu, .int .i64 ku, .int .i64 ta13, .int .i64 tx13, .int .i64 ty13, .int .i64 tz13, .int .i64 lou, .int .i64 hiu, .slice fp43 fl43 fc43] 28 (0, 0))).far (p := ⟨w1.heap.size, 0, none⟩) (show w1.heap.size < (w5.heap.size) by omega) (.string nu)).far (p := ⟨w1.heap.size, 1, none⟩) (show w1.heap.size < (w5.heap.size) by omega) (.int .i64 ku)).far (p := ⟨w1.heap.size, 2, none⟩) (show w1.heap.size < (w5.heap.size) by omega) (.int .i64 ta13)).far (p := ⟨w1.heap.size, 3, none⟩) (show w1.heap.size < (w5.heap.size) by omega) (.int .i64 tx13)).far (p := ⟨w1.heap.size, 4, none⟩) (show w1.heap.size < (w5.heap.size) by omega) (.int .i64 ty13)).far (p := ⟨w1.heap.size, 5, none⟩) (show w1.heap.size < (w5.heap.size) by omega) (.int .i64 tz13)).far (p := ⟨w1.heap.size, 6, none⟩) (show w1.heap.size < (w5.heap.size) by omega) (.int .i64 lou)).far (p := ⟨w1.heap.size, 7, none⟩) (show w1.heap.size < (w5.heap.size) by omega) (.int .i64 hiu)).far (p := ⟨w1.heap.size, 8, none⟩) (show w1.heap.size < (w5.heap.size) by omega) (.slice fp43 fl43 fc43))
  have b6 := Is.made w6 #[.string nu, .int .i64 ku, .int .i64 ta13, .int .i64 tx13, .int .i64 ty13, .int .i64 tz13, .int .i64 lou, .int .i64 hiu, .slice fp43 fl43 fc43] 28
  replace b6 := (((((((((b6.far (p := ⟨w1.heap.size, 0, none⟩) (show w6.heap.size ≠ w1.heap.size by omega) (.string nu)).far (p := ⟨w1.heap.size, 1, none⟩) (show w6.heap.size ≠ w1.heap.size by omega) (.int .i64 ku)).far (p := ⟨w1.heap.size, 2, none⟩) (show w6.heap.size ≠ w1.heap.size by omega) (.int .i64 ta13)).far (p := ⟨w1.heap.size, 3, none⟩) (show w6.heap.size ≠ w1.heap.size by omega) (.int .i64 tx13)).far (p := ⟨w1.heap.size, 4, none⟩) (show w6.heap.size ≠ w1.heap.size by omega) (.int .i64 ty13)).far (p := ⟨w1.heap.size, 5, none⟩) (show w6.heap.size ≠ w1.heap.size by omega) (.int .i64 tz13)).far (p := ⟨w1.heap.size, 6, none⟩) (show w6.heap.size ≠ w1.heap.size by omega) (.int .i64 lou)).far (p := ⟨w1.heap.size, 7, none⟩) (show w6.heap.size ≠ w1.heap.size by omega) (.int .i64 hiu)).far (p := ⟨w1.heap.size, 8, none⟩) (show w6.heap.size ≠ w1.heap.size by omega) (.slice fp43 fl43 fc43))
  replace kx := (((((((((kx.alloc (.cells #[.string nu, .int .i64 ku, .int .i64 ta13, .int .i64 tx13, .int .i64 ty13, .int .i64 tz13, .int .i64 lou, .int .i64 hiu, .slice fp43 fl43 fc43] 28 (0, 0))).setCell (p := ⟨w1.heap.size, 0, none⟩) (show w.heap.size ≤ w1.heap.size by omega) (.string nu)).setCell (p := ⟨w1.heap.size, 1, none⟩) (show w.heap.size ≤ w1.heap.size by omega) (.int .i64 ku)).setCell (p := ⟨w1.heap.size, 2, none⟩) (show w.heap.size ≤ w1.heap.size by omega) (.int .i64 ta13)).setCell (p := ⟨w1.heap.size, 3, none⟩) (show w.heap.size ≤ w1.heap.size by omega) (.int .i64 tx13)).setCell (p := ⟨w1.heap.size, 4, none⟩) (show w.heap.size ≤ w1.heap.size by omega) (.int .i64 ty13)).setCell (p := ⟨w1.heap.size, 5, none⟩) (show w.heap.size ≤ w1.heap.size by omega) (.int .i64 tz13)).setCell (p := ⟨w1.heap.size, 6, none⟩) (show w.heap.size ≤ w1.heap.size by omega) (.int .i64 lou)).setCell (p := ⟨w1.heap.size, 7, none⟩) (show w.heap.size ≤ w1.heap.size by omega) (.int .i64 hiu)).setCell (p := ⟨w1.heap.size, 8, none⟩) (show w.heap.size ≤ w1.heap.size by omega) (.slice fp43 fl43 fc43)
  clear j108 j118
  replace da := da0.out.kb kx
  replace gl := gl0.out.kb kx
  have s7 : w6.heap.size + 1 ≤ ((((((((((w6.alloc (.cells #[.string nu, .int .i64 ku, .int .i64 ta13, .int .i64 tx13, .int .i64 ty13, .int .i64 tz13, .int .i64 lou, .int .i64 hiu, .slice fp43 fl43 fc43] 28 (0, 0))).setCell ⟨w1.heap.size, 0, none⟩ (.string nu)).setCell ⟨w1.heap.size, 1, none⟩ (.int .i64 ku)).setCell ⟨w1.heap.size, 2, none⟩ (.int .i64 ta13)).setCell ⟨w1.heap.size, 3, none⟩ (.int .i64 tx13)).setCell ⟨w1.heap.size, 4, none⟩ (.int .i64 ty13)).setCell ⟨w1.heap.size, 5, none⟩ (.int .i64 tz13)).setCell ⟨w1.heap.size, 6, none⟩ (.int .i64 lou)).setCell ⟨w1.heap.size, 7, none⟩ (.int .i64 hiu)).setCell ⟨w1.heap.size, 8, none⟩ (.slice fp43 fl43 fc43)).heap.size := by simp only [World.size_alloc, World.size_setCell]; exact Nat.le_refl _
  generalize ((((((((((w6.alloc (.cells #[.string nu, .int .i64 ku, .int .i64 ta13, .int .i64 tx13, .int .i64 ty13, .int .i64 tz13, .int .i64 lou, .int .i64 hiu, .slice fp43 fl43 fc43] 28 (0, 0))).setCell ⟨w1.heap.size, 0, none⟩ (.string nu)).setCell ⟨w1.heap.size, 1, none⟩ (.int .i64 ku)).setCell ⟨w1.heap.size, 2, none⟩ (.int .i64 ta13)).setCell ⟨w1.heap.size, 3, none⟩ (.int .i64 tx13)).setCell ⟨w1.heap.size, 4, none⟩ (.int .i64 ty13)).setCell ⟨w1.heap.size, 5, none⟩ (.int .i64 tz13)).setCell ⟨w1.heap.size, 6, none⟩ (.int .i64 lou)).setCell ⟨w1.heap.size, 7, none⟩ (.int .i64 hiu)).setCell ⟨w1.heap.size, 8, none⟩ (.slice fp43 fl43 fc43)) = w7 at *
  rw [rounds_succ]
  have f137 := b3.c (i := 0) rfl
  have f138 := b3.c (i := 1) rfl
  have f139 := b3.c (i := 2) rfl
  have f140 := b3.c (i := 3) rfl
  have f141 := b3.c (i := 4) rfl
  have f142 := b3.c (i := 5) rfl
  have f143 := b3.c (i := 6) rfl
  have f144 := b3.c (i := 7) rfl
  have f145 := b3.c (i := 8) rfl
  go_wp2_with fail
  clear f137 f138 f139 f140 f141 f142 f143 f144 f145
  (with_reducible refine (qT3.out _ _ _ _ U43.frs).mono ?_)
  rintro r w8 ⟨fp44, fl44, fc44, rfl, U44, k8⟩
  replace da := da.kb k8
  replace gl := gl.kb k8
  replace b1 := b1.kb k8
  replace b2 := b2.kb k8
  replace b3 := b3.kb k8
  replace U41 := U41.kb k8
  replace b4 := b4.kb k8
  replace U42 := U42.kb k8
  replace b5 := b5.kb k8
  replace U43 := U43.kb k8
  replace b6 := b6.kb k8
  replace kx := kx.trans k8
  have s8 := k8.size
  skip
  clear k8
  try simp only [World.size_alloc, World.size_setCell] at U44
  have j146 := (Is.made w8 #[.string nu, .int .i64 ku, .int .i64 au, .int .i64 xu, .int .i64 yu, .int .i64 zu, .int .i64 lou, .int .i64 hiu, .slice fp44 fl44 fc44] 28)
  have f147 := j146.c (i := 0) rfl
  have f148 := j146.c (i := 1) rfl
  have f149 := j146.c (i := 2) rfl
  have f150 := j146.c (i := 3) rfl
  have f151 := j146.c (i := 4) rfl
  have f152 := j146.c (i := 5) rfl
  have f153 := j146.c (i := 6) rfl
  have f154 := j146.c (i := 7) rfl
  have f155 := j146.c (i := 8) rfl
  have j156 := (b3.alloc (.cells #[.string nu, .int .i64 ku, .int .i64 au, .int .i64 xu, .int .i64 yu, .int .i64 zu, .int .i64 lou, .int .i64 hiu, .slice fp44 fl44 fc44] 28 (0, 0)))
  have f157 := j156.c (i := 0) rfl
  have f158 := j156.f 0
  have f159 := j156.c (i := 1) rfl
  have f160 := j156.f 1
  have f161 := j156.c (i := 2) rfl
  have f162 := j156.f 2
  have f163 := j156.c (i := 3) rfl
  have f164 := j156.f 3
  have f165 := j156.c (i := 4) rfl
  have f166 := j156.f 4
  have f167 := j156.c (i := 5) rfl
  have f168 := j156.f 5
  have f169 := j156.c (i := 6) rfl
  have f170 := j156.f 6
  have f171 := j156.c (i := 7) rfl
  have f172 := j156.f 7
  have f173 := j156.c (i := 8) rfl
  have f174 := j156.f 8
  go_wp2_with fail
  clear f147 f148 f149 f150 f151 f152 f153 f154 f155 f157 f158 f159 f160 f161 f162 f163 f164 f165 f166 f167 f168 f169 f170 f171 f172 f173 f174
  replace b1 := ((((((((((b1.alloc (.cells #[.string nu, .int .i64 ku, .int .i64 au, .int .i64 xu, .int .i64 yu, .int .i64 zu, .int .i64 lou, .int .i64 hiu, .slice fp44 fl44 fc44] 28 (0, 0))).far (p := ⟨w1.heap.size, 0, none⟩) (show w.heap.size ≠ w1.heap.size by omega) (.string nu)).far (p := ⟨w1.heap.size, 1, none⟩) (show w.heap.size ≠ w1.heap.size by omega) (.int .i64 ku)).far (p := ⟨w1.heap.size, 2, none⟩) (show w.heap.size ≠ w1.heap.size by omega) (.int .i64 au)).far (p := ⟨w1.heap.size, 3, none⟩) (show w.heap.size ≠ w1.heap.size by omega) (.int .i64 xu)).far (p := ⟨w1.heap.size, 4, none⟩) (show w.heap.size ≠ w1.heap.size by omega) (.int .i64 yu)).far (p := ⟨w1.heap.size, 5, none⟩) (show w.heap.size ≠ w1.heap.size by omega) (.int .i64 zu)).far (p := ⟨w1.heap.size, 6, none⟩) (show w.heap.size ≠ w1.heap.size by omega) (.int .i64 lou)).far (p := ⟨w1.heap.size, 7, none⟩) (show w.heap.size ≠ w1.heap.size by omega) (.int .i64 hiu)).far (p := ⟨w1.heap.size, 8, none⟩) (show w.heap.size ≠ w1.heap.size by omega) (.slice fp44 fl44 fc44))
  replace b2 := ((((((((((b2.alloc (.cells #[.string nu, .int .i64 ku, .int .i64 au, .int .i64 xu, .int .i64 yu, .int .i64 zu, .int .i64 lou, .int .i64 hiu, .slice fp44 fl44 fc44] 28 (0, 0))).far (p := ⟨w1.heap.size, 0, none⟩) (show w.heap.size + 1 ≠ w1.heap.size by omega) (.string nu)).far (p := ⟨w1.heap.size, 1, none⟩) (show w.heap.size + 1 ≠ w1.heap.size by omega) (.int .i64 ku)).far (p := ⟨w1.heap.size, 2, none⟩) (show w.heap.size + 1 ≠ w1.heap.size by omega) (.int .i64 au)).far (p := ⟨w1.heap.size, 3, none⟩) (show w.heap.size + 1 ≠ w1.heap.size by omega) (.int .i64 xu)).far (p := ⟨w1.heap.size, 4, none⟩) (show w.heap.size + 1 ≠ w1.heap.size by omega) (.int .i64 yu)).far (p := ⟨w1.heap.size, 5, none⟩) (show w.heap.size + 1 ≠ w1.heap.size by omega) (.int .i64 zu)).far (p := ⟨w1.heap.size, 6, none⟩) (show w.heap.size + 1 ≠ w1.heap.size by omega) (.int .i64 lou)).far (p := ⟨w1.heap.size, 7, none⟩) (show w.heap.size + 1 ≠ w1.heap.size by omega) (.int .i64 hiu)).far (p := ⟨w1.heap.size, 8, none⟩) (show w.heap.size + 1 ≠ w1.heap.size by omega) (.slice fp44 fl44 fc44))
  replace b3 := (b3.alloc (.cells #[.string nu, .int .i64 ku, .int .i64 au, .int .i64 xu, .int .i64 yu, .int .i64 zu, .int .i64 lou, .int .i64 hiu, .slice fp44 fl44 fc44] 28 (0, 0)))
  replace b3 : Is _ _ #[.string nu, .int .i64 ku, .int .i64 ta13, .int .i64 tx13, .int .i64 ty13, .int .i64 tz13, .int .i64 lou, .int .i64 hiu, .slice fp43 fl43 fc43] _ := b3.set 0 (.string nu)
  replace b3 : Is _ _ #[.string nu, .int .i64 ku, .int .i64 ta13, .int .i64 tx13, .int .i64 ty13, .int .i64 tz13, .int .i64 lou, .int .i64 hiu, .slice fp43 fl43 fc43] _ := b3.set 1 (.int .i64 ku)
  replace b3 : Is _ _ #[.string nu, .int .i64 ku, .int .i64 au, .int .i64 tx13, .int .i64 ty13, .int .i64 tz13, .int .i64 lou, .int .i64 hiu, .slice fp43 fl43 fc43] _ := b3.set 2 (.int .i64 au)
  replace b3 : Is _ _ #[.string nu, .int .i64 ku, .int .i64 au, .int .i64 xu, .int .i64 ty13, .int .i64 tz13, .int .i64 lou, .int .i64 hiu, .slice fp43 fl43 fc43] _ := b3.set 3 (.int .i64 xu)
  replace b3 : Is _ _ #[.string nu, .int .i64 ku, .int .i64 au, .int .i64 xu, .int .i64 yu, .int .i64 tz13, .int .i64 lou, .int .i64 hiu, .slice fp43 fl43 fc43] _ := b3.set 4 (.int .i64 yu)
  replace b3 : Is _ _ #[.string nu, .int .i64 ku, .int .i64 au, .int .i64 xu, .int .i64 yu, .int .i64 zu, .int .i64 lou, .int .i64 hiu, .slice fp43 fl43 fc43] _ := b3.set 5 (.int .i64 zu)
  replace b3 : Is _ _ #[.string nu, .int .i64 ku, .int .i64 au, .int .i64 xu, .int .i64 yu, .int .i64 zu, .int .i64 lou, .int .i64 hiu, .slice fp43 fl43 fc43] _ := b3.set 6 (.int .i64 lou)
  replace b3 : Is _ _ #[.string nu, .int .i64 ku, .int .i64 au, .int .i64 xu, .int .i64 yu, .int .i64 zu, .int .i64 lou, .int .i64 hiu, .slice fp43 fl43 fc43] _ := b3.set 7 (.int .i64 hiu)
  replace b3 : Is _ _ #[.string nu, .int .i64 ku, .int .i64 au, .int .i64 xu, .int .i64 yu, .int .i64 zu, .int .i64 lou, .int .i64 hiu, .slice fp44 fl44 fc44] _ := b3.set 8 (.slice fp44 fl44 fc44)
  replace U41 := ((((((((((U41.alloc (.cells #[.string nu, .int .i64 ku, .int .i64 au, .int .i64 xu, .int .i64 yu, .int .i64 zu, .int .i64 lou, .int .i64 hiu, .slice fp44 fl44 fc44] 28 (0, 0))).far (p := ⟨w1.heap.size, 0, none⟩) (show w1.heap.size < (w1.heap.size + 1) by omega) (.string nu)).far (p := ⟨w1.heap.size, 1, none⟩) (show w1.heap.size < (w1.heap.size + 1) by omega) (.int .i64 ku)).far (p := ⟨w1.heap.size, 2, none⟩) (show w1.heap.size < (w1.heap.size + 1) by omega) (.int .i64 au)).far (p := ⟨w1.heap.size, 3, none⟩) (show w1.heap.size < (w1.heap.size + 1) by omega) (.int .i64 xu)).far (p := ⟨w1.heap.size, 4, none⟩) (show w1.heap.size < (w1.heap.size + 1) by omega) (.int .i64 yu)).far (p := ⟨w1.heap.size, 5, none⟩) (show w1.heap.size < (w1.heap.size + 1) by omega) (.int .i64 zu)).far (p := ⟨w1.heap.size, 6, none⟩) (show w1.heap.size < (w1.heap.size + 1) by omega) (.int .i64 lou)).far (p := ⟨w1.heap.size, 7, none⟩) (show w1.heap.size < (w1.heap.size + 1) by omega) (.int .i64 hiu)).far (p := ⟨w1.heap.size, 8, none⟩) (show w1.heap.size < (w1.heap.size + 1) by omega) (.slice fp44 fl44 fc44))
  replace b4 := ((((((((((b4.alloc (.cells #[.string nu, .int .i64 ku, .int .i64 au, .int .i64 xu, .int .i64 yu, .int .i64 zu, .int .i64 lou, .int .i64 hiu, .slice fp44 fl44 fc44] 28 (0, 0))).far (p := ⟨w1.heap.size, 0, none⟩) (show w2.heap.size ≠ w1.heap.size by omega) (.string nu)).far (p := ⟨w1.heap.size, 1, none⟩) (show w2.heap.size ≠ w1.heap.size by omega) (.int .i64 ku)).far (p := ⟨w1.heap.size, 2, none⟩) (show w2.heap.size ≠ w1.heap.size by omega) (.int .i64 au)).far (p := ⟨w1.heap.size, 3, none⟩) (show w2.heap.size ≠ w1.heap.size by omega) (.int .i64 xu)).far (p := ⟨w1.heap.size, 4, none⟩) (show w2.heap.size ≠ w1.heap.size by omega) (.int .i64 yu)).far (p := ⟨w1.heap.size, 5, none⟩) (show w2.heap.size ≠ w1.heap.size by omega) (.int .i64 zu)).far (p := ⟨w1.heap.size, 6, none⟩) (show w2.heap.size ≠ w1.heap.size by omega) (.int .i64 lou)).far (p := ⟨w1.heap.size, 7, none⟩) (show w2.heap.size ≠ w1.heap.size by omega) (.int .i64 hiu)).far (p := ⟨w1.heap.size, 8, none⟩) (show w2.heap.size ≠ w1.heap.size by omega) (.slice fp44 fl44 fc44))
  replace U42 := ((((((((((U42.alloc (.cells #[.string nu, .int .i64 ku, .int .i64 au, .int .i64 xu, .int .i64 yu, .int .i64 zu, .int .i64 lou, .int .i64 hiu, .slice fp44 fl44 fc44] 28 (0, 0))).far (p := ⟨w1.heap.size, 0, none⟩) (show w1.heap.size < (w3.heap.size) by omega) (.string nu)).far (p := ⟨w1.heap.size, 1, none⟩) (show w1.heap.size < (w3.heap.size) by omega) (.int .i64 ku)).far (p := ⟨w1.heap.size, 2, none⟩) (show w1.heap.size < (w3.heap.size) by omega) (.int .i64 au)).far (p := ⟨w1.heap.size, 3, none⟩) (show w1.heap.size < (w3.heap.size) by omega) (.int .i64 xu)).far (p := ⟨w1.heap.size, 4, none⟩) (show w1.heap.size < (w3.heap.size) by omega) (.int .i64 yu)).far (p := ⟨w1.heap.size, 5, none⟩) (show w1.heap.size < (w3.heap.size) by omega) (.int .i64 zu)).far (p := ⟨w1.heap.size, 6, none⟩) (show w1.heap.size < (w3.heap.size) by omega) (.int .i64 lou)).far (p := ⟨w1.heap.size, 7, none⟩) (show w1.heap.size < (w3.heap.size) by omega) (.int .i64 hiu)).far (p := ⟨w1.heap.size, 8, none⟩) (show w1.heap.size < (w3.heap.size) by omega) (.slice fp44 fl44 fc44))
  replace b5 := ((((((((((b5.alloc (.cells #[.string nu, .int .i64 ku, .int .i64 au, .int .i64 xu, .int .i64 yu, .int .i64 zu, .int .i64 lou, .int .i64 hiu, .slice fp44 fl44 fc44] 28 (0, 0))).far (p := ⟨w1.heap.size, 0, none⟩) (show w4.heap.size ≠ w1.heap.size by omega) (.string nu)).far (p := ⟨w1.heap.size, 1, none⟩) (show w4.heap.size ≠ w1.heap.size by omega) (.int .i64 ku)).far (p := ⟨w1.heap.size, 2, none⟩) (show w4.heap.size ≠ w1.heap.size by omega) (.int .i64 au)).far (p := ⟨w1.heap.size, 3, none⟩) (show w4.heap.size ≠ w1.heap.size by omega) (.int .i64 xu)).far (p := ⟨w1.heap.size, 4, none⟩) (show w4.heap.size ≠ w1.heap.size by omega) (.int .i64 yu)).far (p := ⟨w1.heap.size, 5, none⟩) (show w4.heap.size ≠ w1.heap.size by omega) (.int .i64 zu)).far (p := ⟨w1.heap.size, 6, none⟩) (show w4.heap.size ≠ w1.heap.size by omega) (.int .i64 lou)).far (p := ⟨w1.heap.size, 7, none⟩) (show w4.heap.size ≠ w1.heap.size by omega) (.int .i64 hiu)).far (p := ⟨w1.heap.size, 8, none⟩) (show w4.heap.size ≠ w1.heap.size by omega) (.slice fp44 fl44 fc44))
  replace U43 := ((((((((((U43.alloc (.cells #[.string nu, .int .i64 ku, .int .i64 au, .int .i64 xu, .int .i64 yu, .int .i64 zu, .int .i64 lou, .int .i64 hiu, .slice fp44 fl44 fc44] 28 (0, 0))).far (p := ⟨w1.heap.size, 0, none⟩) (show w1.heap.size < (w5.heap.size) by omega) (.string nu)).far (p := ⟨w1.heap.size, 1, none⟩) (show w1.heap.size < (w5.heap.size) by omega) (.int .i64 ku)).far (p := ⟨w1.heap.size, 2, none⟩) (show w1.heap.size < (w5.heap.size) by omega) (.int .i64 au)).far (p := ⟨w1.heap.size, 3, none⟩) (show w1.heap.size < (w5.heap.size) by omega) (.int .i64 xu)).far (p := ⟨w1.heap.size, 4, none⟩) (show w1.heap.size < (w5.heap.size) by omega) (.int .i64 yu)).far (p := ⟨w1.heap.size, 5, none⟩) (show w1.heap.size < (w5.heap.size) by omega) (.int .i64 zu)).far (p := ⟨w1.heap.size, 6, none⟩) (show w1.heap.size < (w5.heap.size) by omega) (.int .i64 lou)).far (p := ⟨w1.heap.size, 7, none⟩) (show w1.heap.size < (w5.heap.size) by omega) (.int .i64 hiu)).far (p := ⟨w1.heap.size, 8, none⟩) (show w1.heap.size < (w5.heap.size) by omega) (.slice fp44 fl44 fc44))
  replace b6 := ((((((((((b6.alloc (.cells #[.string nu, .int .i64 ku, .int .i64 au, .int .i64 xu, .int .i64 yu, .int .i64 zu, .int .i64 lou, .int .i64 hiu, .slice fp44 fl44 fc44] 28 (0, 0))).far (p := ⟨w1.heap.size, 0, none⟩) (show w6.heap.size ≠ w1.heap.size by omega) (.string nu)).far (p := ⟨w1.heap.size, 1, none⟩) (show w6.heap.size ≠ w1.heap.size by omega) (.int .i64 ku)).far (p := ⟨w1.heap.size, 2, none⟩) (show w6.heap.size ≠ w1.heap.size by omega) (.int .i64 au)).far (p := ⟨w1.heap.size, 3, none⟩) (show w6.heap.size ≠ w1.heap.size by omega) (.int .i64 xu)).far (p := ⟨w1.heap.size, 4, none⟩) (show w6.heap.size ≠ w1.heap.size by omega) (.int .i64 yu)).far (p := ⟨w1.heap.size, 5, none⟩) (show w6.heap.size ≠ w1.heap.size by omega) (.int .i64 zu)).far (p := ⟨w1.heap.size, 6, none⟩) (show w6.heap.size ≠ w1.heap.size by omega) (.int .i64 lou)).far (p := ⟨w1.heap.size, 7, none⟩) (show w6.heap.size ≠ w1.heap.size by omega) (.int .i64 hiu)).far (p := ⟨w1.heap.size, 8, none⟩) (show w6.heap.size ≠ w1.heap.size by omega) (.slice fp44 fl44 fc44))
  replace U44 := ((((((((((U44.alloc (.cells #[.string nu, .int .i64 ku, .int .i64 au, .int .i64 xu, .int .i64 yu, .int .i64 zu, .int .i64 lou, .int .i64 hiu, .slice fp44 fl44 fc44] 28 (0, 0))).far (p := ⟨w1.heap.size, 0, none⟩) (show w1.heap.size < (w7.heap.size) by omega) (.string nu)).far (p := ⟨w1.heap.size, 1, none⟩) (show w1.heap.size < (w7.heap.size) by omega) (.int .i64 ku)).far (p := ⟨w1.heap.size, 2, none⟩) (show w1.heap.size < (w7.heap.size) by omega) (.int .i64 au)).far (p := ⟨w1.heap.size, 3, none⟩) (show w1.heap.size < (w7.heap.size) by omega) (.int .i64 xu)).far (p := ⟨w1.heap.size, 4, none⟩) (show w1.heap.size < (w7.heap.size) by omega) (.int .i64 yu)).far (p := ⟨w1.heap.size, 5, none⟩) (show w1.heap.size < (w7.heap.size) by omega) (.int .i64 zu)).far (p := ⟨w1.heap.size, 6, none⟩) (show w1.heap.size < (w7.heap.size) by omega) (.int .i64 lou)).far (p := ⟨w1.heap.size, 7, none⟩) (show w1.heap.size < (w7.heap.size) by omega) (.int .i64 hiu)).far (p := ⟨w1.heap.size, 8, none⟩) (show w1.heap.size < (w7.heap.size) by omega) (.slice fp44 fl44 fc44))
  have b7 := Is.made w8 #[.string nu, .int .i64 ku, .int .i64 au, .int .i64 xu, .int .i64 yu, .int .i64 zu, .int .i64 lou, .int .i64 hiu, .slice fp44 fl44 fc44] 28
  replace b7 := (((((((((b7.far (p := ⟨w1.heap.size, 0, none⟩) (show w8.heap.size ≠ w1.heap.size by omega) (.string nu)).far (p := ⟨w1.heap.size, 1, none⟩) (show w8.heap.size ≠ w1.heap.size by omega) (.int .i64 ku)).far (p := ⟨w1.heap.size, 2, none⟩) (show w8.heap.size ≠ w1.heap.size by omega) (.int .i64 au)).far (p := ⟨w1.heap.size, 3, none⟩) (show w8.heap.size ≠ w1.heap.size by omega) (.int .i64 xu)).far (p := ⟨w1.heap.size, 4, none⟩) (show w8.heap.size ≠ w1.heap.size by omega) (.int .i64 yu)).far (p := ⟨w1.heap.size, 5, none⟩) (show w8.heap.size ≠ w1.heap.size by omega) (.int .i64 zu)).far (p := ⟨w1.heap.size, 6, none⟩) (show w8.heap.size ≠ w1.heap.size by omega) (.int .i64 lou)).far (p := ⟨w1.heap.size, 7, none⟩) (show w8.heap.size ≠ w1.heap.size by omega) (.int .i64 hiu)).far (p := ⟨w1.heap.size, 8, none⟩) (show w8.heap.size ≠ w1.heap.size by omega) (.slice fp44 fl44 fc44))
  replace kx := (((((((((kx.alloc (.cells #[.string nu, .int .i64 ku, .int .i64 au, .int .i64 xu, .int .i64 yu, .int .i64 zu, .int .i64 lou, .int .i64 hiu, .slice fp44 fl44 fc44] 28 (0, 0))).setCell (p := ⟨w1.heap.size, 0, none⟩) (show w.heap.size ≤ w1.heap.size by omega) (.string nu)).setCell (p := ⟨w1.heap.size, 1, none⟩) (show w.heap.size ≤ w1.heap.size by omega) (.int .i64 ku)).setCell (p := ⟨w1.heap.size, 2, none⟩) (show w.heap.size ≤ w1.heap.size by omega) (.int .i64 au)).setCell (p := ⟨w1.heap.size, 3, none⟩) (show w.heap.size ≤ w1.heap.size by omega) (.int .i64 xu)).setCell (p := ⟨w1.heap.size, 4, none⟩) (show w.heap.size ≤ w1.heap.size by omega) (.int .i64 yu)).setCell (p := ⟨w1.heap.size, 5, none⟩) (show w.heap.size ≤ w1.heap.size by omega) (.int .i64 zu)).setCell (p := ⟨w1.heap.size, 6, none⟩) (show w.heap.size ≤ w1.heap.size by omega) (.int .i64 lou)).setCell (p := ⟨w1.heap.size, 7, none⟩) (show w.heap.size ≤ w1.heap.size by omega) (.int .i64 hiu)).setCell (p := ⟨w1.heap.size, 8, none⟩) (show w.heap.size ≤ w1.heap.size by omega) (.slice fp44 fl44 fc44)
  clear j146 j156
  replace da := da0.out.kb kx
  replace gl := gl0.out.kb kx
  have s9 : w8.heap.size + 1 ≤ ((((((((((w8.alloc (.cells #[.string nu, .int .i64 ku, .int .i64 au, .int .i64 xu, .int .i64 yu, .int .i64 zu, .int .i64 lou, .int .i64 hiu, .slice fp44 fl44 fc44] 28 (0, 0))).setCell ⟨w1.heap.size, 0, none⟩ (.string nu)).setCell ⟨w1.heap.size, 1, none⟩ (.int .i64 ku)).setCell ⟨w1.heap.size, 2, none⟩ (.int .i64 au)).setCell ⟨w1.heap.size, 3, none⟩ (.int .i64 xu)).setCell ⟨w1.heap.size, 4, none⟩ (.int .i64 yu)).setCell ⟨w1.heap.size, 5, none⟩ (.int .i64 zu)).setCell ⟨w1.heap.size, 6, none⟩ (.int .i64 lou)).setCell ⟨w1.heap.size, 7, none⟩ (.int .i64 hiu)).setCell ⟨w1.heap.size, 8, none⟩ (.slice fp44 fl44 fc44)).heap.size := by simp only [World.size_alloc, World.size_setCell]; exact Nat.le_refl _
  generalize ((((((((((w8.alloc (.cells #[.string nu, .int .i64 ku, .int .i64 au, .int .i64 xu, .int .i64 yu, .int .i64 zu, .int .i64 lou, .int .i64 hiu, .slice fp44 fl44 fc44] 28 (0, 0))).setCell ⟨w1.heap.size, 0, none⟩ (.string nu)).setCell ⟨w1.heap.size, 1, none⟩ (.int .i64 ku)).setCell ⟨w1.heap.size, 2, none⟩ (.int .i64 au)).setCell ⟨w1.heap.size, 3, none⟩ (.int .i64 xu)).setCell ⟨w1.heap.size, 4, none⟩ (.int .i64 yu)).setCell ⟨w1.heap.size, 5, none⟩ (.int .i64 zu)).setCell ⟨w1.heap.size, 6, none⟩ (.int .i64 lou)).setCell ⟨w1.heap.size, 7, none⟩ (.int .i64 hiu)).setCell ⟨w1.heap.size, 8, none⟩ (.slice fp44 fl44 fc44)) = w9 at *
  rw [rounds_succ]
  have f175 := b1.c (i := 0) rfl
  have f176 := b1.c (i := 1) rfl
  have f177 := b1.c (i := 2) rfl
  have f178 := b1.c (i := 3) rfl
  have f179 := b1.c (i := 4) rfl
  have f180 := b1.c (i := 5) rfl
  have f181 := b1.c (i := 6) rfl
  have f182 := b1.c (i := 7) rfl
  have f183 := b1.c (i := 8) rfl
  go_wp2_with fail
  clear f175 f176 f177 f178 f179 f180 f181 f182 f183
  (with_reducible refine (qM1.out _ _ _ _ da).mono ?_)
  rintro r w10 ⟨fp45, fl45, fc45, rfl, U45, k10⟩
  replace da := da.kb k10
  replace gl := gl.kb k10
  replace b1 := b1.kb k10
  replace b2 := b2.kb k10
  replace b3 := b3.kb k10
  replace U41 := U41.kb k10
  replace b4 := b4.kb k10
  replace U42 := U42.kb k10
  replace b5 := b5.kb k10
  replace U43 := U43.kb k10
  replace b6 := b6.kb k10
  replace U44 := U44.kb k10
  replace b7 := b7.kb k10
  replace kx := kx.trans k10
  have s10 := k10.size
  skip
  clear k10
  try simp only [World.size_alloc, World.size_setCell] at U45
  have j184 := (Is.made w10 #[.string nu, .int .i64 ku, .int .i64 au, .int .i64 tx21, .int .i64 ty21, .int .i64 tz21, .int .i64 lou, .int .i64 hiu, .slice fp45 fl45 fc45] 28)
  have f185 := j184.c (i := 0) rfl
  have f186 := j184.c (i := 1) rfl
  have f187 := j184.c (i := 2) rfl
  have f188 := j184.c (i := 3) rfl
  have f189 := j184.c (i := 4) rfl
  have f190 := j184.c (i := 5) rfl
  have f191 := j184.c (i := 6) rfl
  have f192 := j184.c (i := 7) rfl
  have f193 := j184.c (i := 8) rfl
  go_wp2_with fail
  clear f185 f186 f187 f188 f189 f190 f191 f192 f193
  replace b1 := (b1.alloc (.cells #[.string nu, .int .i64 ku, .int .i64 au, .int .i64 tx21, .int .i64 ty21, .int .i64 tz21, .int .i64 lou, .int .i64 hiu, .slice fp45 fl45 fc45] 28 (0, 0)))
  replace b2 := (b2.alloc (.cells #[.string nu, .int .i64 ku, .int .i64 au, .int .i64 tx21, .int .i64 ty21, .int .i64 tz21, .int .i64 lou, .int .i64 hiu, .slice fp45 fl45 fc45] 28 (0, 0)))
  replace b3 := (b3.alloc (.cells #[.string nu, .int .i64 ku, .int .i64 au, .int .i64 tx21, .int .i64 ty21, .int .i64 tz21, .int .i64 lou, .int .i64 hiu, .slice fp45 fl45 fc45] 28 (0, 0)))
  replace U41 := (U41.alloc (.cells #[.string nu, .int .i64 ku, .int .i64 au, .int .i64 tx21, .int .i64 ty21, .int .i64 tz21, .int .i64 lou, .int .i64 hiu, .slice fp45 fl45 fc45] 28 (0, 0)))
  replace b4 := (b4.alloc (.cells #[.string nu, .int .i64 ku, .int .i64 au, .int .i64 tx21, .int .i64 ty21, .int .i64 tz21, .int .i64 lou, .int .i64 hiu, .slice fp45 fl45 fc45] 28 (0, 0)))
  replace U42 := (U42.alloc (.cells #[.string nu, .int .i64 ku, .int .i64 au, .int .i64 tx21, .int .i64 ty21, .int .i64 tz21, .int .i64 lou, .int .i64 hiu, .slice fp45 fl45 fc45] 28 (0, 0)))
  replace b5 := (b5.alloc (.cells #[.string nu, .int .i64 ku, .int .i64 au, .int .i64 tx21, .int .i64 ty21, .int .i64 tz21, .int .i64 lou, .int .i64 hiu, .slice fp45 fl45 fc45] 28 (0, 0)))
  replace U43 := (U43.alloc (.cells #[.string nu, .int .i64 ku, .int .i64 au, .int .i64 tx21, .int .i64 ty21, .int .i64 tz21, .int .i64 lou, .int .i64 hiu, .slice fp45 fl45 fc45] 28 (0, 0)))
  replace b6 := (b6.alloc (.cells #[.string nu, .int .i64 ku, .int .i64 au, .int .i64 tx21, .int .i64 ty21, .int .i64 tz21, .int .i64 lou, .int .i64 hiu, .slice fp45 fl45 fc45] 28 (0, 0)))
  replace U44 := (U44.alloc (.cells #[.string nu, .int .i64 ku, .int .i64 au, .int .i64 tx21, .int .i64 ty21, .int .i64 tz21, .int .i64 lou, .int .i64 hiu, .slice fp45 fl45 fc45] 28 (0, 0)))
  replace b7 := (b7.alloc (.cells #[.string nu, .int .i64 ku, .int .i64 au, .int .i64 tx21, .int .i64 ty21, .int .i64 tz21, .int .i64 lou, .int .i64 hiu, .slice fp45 fl45 fc45] 28 (0, 0)))
  replace U45 := (U45.alloc (.cells #[.string nu, .int .i64 ku, .int .i64 au, .int .i64 tx21, .int .i64 ty21, .int .i64 tz21, .int .i64 lou, .int .i64 hiu, .slice fp45 fl45 fc45] 28 (0, 0)))
  have b8 := j184
  replace kx := kx.alloc (.cells #[.string nu, .int .i64 ku, .int .i64 au, .int .i64 tx21, .int .i64 ty21, .int .i64 tz21, .int .i64 lou, .int .i64 hiu, .slice fp45 fl45 fc45] 28 (0, 0))
  clear j184
  replace da := da0.out.kb kx
  replace gl := gl0.out.kb kx
  (with_reducible refine (qM2.out _ _ _ _ U45.frs).mono ?_)
  rintro r w11 ⟨fp46, fl46, fc46, rfl, U46, k11⟩
  replace da := da.kb k11
  replace gl := gl.kb k11
  replace b1 := b1.kb k11
  replace b2 := b2.kb k11
  replace b3 := b3.kb k11
  replace U41 := U41.kb k11
  replace b4 := b4.kb k11
  replace U42 := U42.kb k11
  replace b5 := b5.kb k11
  replace U43 := U43.kb k11
  replace b6 := b6.kb k11
  replace U44 := U44.kb k11
  replace b7 := b7.kb k11
  replace U45 := U45.kb k11
  replace b8 := b8.kb k11
  replace kx := kx.trans k11
  have s11 := k11.size
  simp only [World.size_alloc] at s11
  clear k11
  try simp only [World.size_alloc, World.size_setCell] at U46
  have j194 := (b3.alloc (.cells #[.string nu, .int .i64 ku, .int .i64 au, .int .i64 xu, .int .i64 yu, .int .i64 zu, .int .i64 lou, .int .i64 hiu, .slice fp46 fl46 fc46] 28 (0, 0)))
  have f195 := j194.c (i := 0) rfl
  have f196 := j194.c (i := 1) rfl
  have f197 := j194.c (i := 2) rfl
  have f198 := j194.c (i := 3) rfl
  have f199 := j194.c (i := 4) rfl
  have f200 := j194.c (i := 5) rfl
  have f201 := j194.c (i := 6) rfl
  have f202 := j194.c (i := 7) rfl
  have f203 := j194.c (i := 8) rfl
  have j204 := (b1.alloc (.cells #[.string nu, .int .i64 ku, .int .i64 au, .int .i64 xu, .int .i64 yu, .int .i64 zu, .int .i64 lou, .int .i64 hiu, .slice fp46 fl46 fc46] 28 (0, 0)))
  have f205 := j204.c (i := 0) rfl
  have f206 := j204.c (i := 1) rfl
  have f207 := j204.c (i := 2) rfl
  have f208 := j204.c (i := 3) rfl
  have f209 := j204.c (i := 4) rfl
  have f210 := j204.c (i := 5) rfl
  have f211 := j204.c (i := 6) rfl
  have f212 := j204.c (i := 7) rfl
  have f213 := j204.c (i := 8) rfl
  go_wp2_with fail
  clear f195 f196 f197 f198 f199 f200 f201 f202 f203 f205 f206 f207 f208 f209 f210 f211 f212 f213
  replace b1 := j204
  replace b2 := (b2.alloc (.cells #[.string nu, .int .i64 ku, .int .i64 au, .int .i64 xu, .int .i64 yu, .int .i64 zu, .int .i64 lou, .int .i64 hiu, .slice fp46 fl46 fc46] 28 (0, 0)))
  replace b3 := j194
  replace U41 := (U41.alloc (.cells #[.string nu, .int .i64 ku, .int .i64 au, .int .i64 xu, .int .i64 yu, .int .i64 zu, .int .i64 lou, .int .i64 hiu, .slice fp46 fl46 fc46] 28 (0, 0)))
  replace b4 := (b4.alloc (.cells #[.string nu, .int .i64 ku, .int .i64 au, .int .i64 xu, .int .i64 yu, .int .i64 zu, .int .i64 lou, .int .i64 hiu, .slice fp46 fl46 fc46] 28 (0, 0)))
  replace U42 := (U42.alloc (.cells #[.string nu, .int .i64 ku, .int .i64 au, .int .i64 xu, .int .i64 yu, .int .i64 zu, .int .i64 lou, .int .i64 hiu, .slice fp46 fl46 fc46] 28 (0, 0)))
  replace b5 := (b5.alloc (.cells #[.string nu, .int .i64 ku, .int .i64 au, .int .i64 xu, .int .i64 yu, .int .i64 zu, .int .i64 lou, .int .i64 hiu, .slice fp46 fl46 fc46] 28 (0, 0)))
  replace U43 := (U43.alloc (.cells #[.string nu, .int .i64 ku, .int .i64 au, .int .i64 xu, .int .i64 yu, .int .i64 zu, .int .i64 lou, .int .i64 hiu, .slice fp46 fl46 fc46] 28 (0, 0)))
  replace b6 := (b6.alloc (.cells #[.string nu, .int .i64 ku, .int .i64 au, .int .i64 xu, .int .i64 yu, .int .i64 zu, .int .i64 lou, .int .i64 hiu, .slice fp46 fl46 fc46] 28 (0, 0)))
  replace U44 := (U44.alloc (.cells #[.string nu, .int .i64 ku, .int .i64 au, .int .i64 xu, .int .i64 yu, .int .i64 zu, .int .i64 lou, .int .i64 hiu, .slice fp46 fl46 fc46] 28 (0, 0)))
  replace b7 := (b7.alloc (.cells #[.string nu, .int .i64 ku, .int .i64 au, .int .i64 xu, .int .i64 yu, .int .i64 zu, .int .i64 lou, .int .i64 hiu, .slice fp46 fl46 fc46] 28 (0, 0)))
  replace U45 := (U45.alloc (.cells #[.string nu, .int .i64 ku, .int .i64 au, .int .i64 xu, .int .i64 yu, .int .i64 zu, .int .i64 lou, .int .i64 hiu, .slice fp46 fl46 fc46] 28 (0, 0)))
  replace b8 := (b8.alloc (.cells #[.string nu, .int .i64 ku, .int .i64 au, .int .i64 xu, .int .i64 yu, .int .i64 zu, .int .i64 lou, .int .i64 hiu, .slice fp46 fl46 fc46] 28 (0, 0)))
  replace U46 := (U46.alloc (.cells #[.string nu, .int .i64 ku, .int .i64 au, .int .i64 xu, .int .i64 yu, .int .i64 zu, .int .i64 lou, .int .i64 hiu, .slice fp46 fl46 fc46] 28 (0, 0)))
  have b9 := Is.made w11 #[.string nu, .int .i64 ku, .int .i64 au, .int .i64 xu, .int .i64 yu, .int .i64 zu, .int .i64 lou, .int .i64 hiu, .slice fp46 fl46 fc46] 28
  replace kx := kx.alloc (.cells #[.string nu, .int .i64 ku, .int .i64 au, .int .i64 xu, .int .i64 yu, .int .i64 zu, .int .i64 lou, .int .i64 hiu, .slice fp46 fl46 fc46] 28 (0, 0))
  clear j194 j204
  replace da := da0.out.kb kx
  replace gl := gl0.out.kb kx
  (with_reducible refine (rSelf nu ku au xu yu zu lou hiu _ _ _ _ _ _ fs sS _ U44.frs da).mono ?_)
  rintro r w12 ⟨rfl, k12⟩
  replace da := da.kb k12
  replace gl := gl.kb k12
  replace b1 := b1.kb k12
  replace b2 := b2.kb k12
  replace b3 := b3.kb k12
  replace U41 := U41.kb k12
  replace b4 := b4.kb k12
  replace U42 := U42.kb k12
  replace b5 := b5.kb k12
  replace U43 := U43.kb k12
  replace b6 := b6.kb k12
  replace U44 := U44.kb k12
  replace b7 := b7.kb k12
  replace U45 := U45.kb k12
  replace b8 := b8.kb k12
  replace U46 := U46.kb k12
  replace b9 := b9.kb k12
  replace kx := kx.trans k12
  have s12 := k12.size
  simp only [World.size_alloc] at s12
  clear k12
  have f214 := b9.c (i := 0) rfl
  have f215 := b9.c (i := 1) rfl
  have f216 := b9.c (i := 2) rfl
  have f217 := b9.c (i := 3) rfl
  have f218 := b9.c (i := 4) rfl
  have f219 := b9.c (i := 5) rfl
  have f220 := b9.c (i := 6) rfl
  have f221 := b9.c (i := 7) rfl
  have f222 := b9.c (i := 8) rfl
  have f223 := b1.c (i := 0) rfl
  have f224 := b1.c (i := 1) rfl
  have f225 := b1.c (i := 2) rfl
  have f226 := b1.c (i := 3) rfl
  have f227 := b1.c (i := 4) rfl
  have f228 := b1.c (i := 5) rfl
  have f229 := b1.c (i := 6) rfl
  have f230 := b1.c (i := 7) rfl
  have f231 := b1.c (i := 8) rfl
  go_wp2_with fail
  clear f214 f215 f216 f217 f218 f219 f220 f221 f222 f223 f224 f225 f226 f227 f228 f229 f230 f231
  (with_reducible refine (rSelf nu ku au xu yu zu lou hiu _ _ _ _ _ _ fs sS _ U46.frs da).mono ?_)
  rintro r w13 ⟨rfl, k13⟩
  replace da := da.kb k13
  replace gl := gl.kb k13
  replace b1 := b1.kb k13
  replace b2 := b2.kb k13
  replace b3 := b3.kb k13
  replace U41 := U41.kb k13
  replace b4 := b4.kb k13
  replace U42 := U42.kb k13
  replace b5 := b5.kb k13
  replace U43 := U43.kb k13
  replace b6 := b6.kb k13
  replace U44 := U44.kb k13
  replace b7 := b7.kb k13
  replace U45 := U45.kb k13
  replace b8 := b8.kb k13
  replace U46 := U46.kb k13
  replace b9 := b9.kb k13
  replace kx := kx.trans k13
  have s13 := k13.size
  skip
  clear k13
  have f232 := b1.c (i := 0) rfl
  have f233 := b1.c (i := 1) rfl
  have f234 := b1.c (i := 2) rfl
  have f235 := b1.c (i := 3) rfl
  have f236 := b1.c (i := 4) rfl
  have f237 := b1.c (i := 5) rfl
  have f238 := b1.c (i := 6) rfl
  have f239 := b1.c (i := 7) rfl
  have f240 := b1.c (i := 8) rfl
  have f241 := b2.c (i := 0) rfl
  have f242 := b2.c (i := 1) rfl
  have f243 := b2.c (i := 2) rfl
  go_wp2_with fail
  clear f232 f233 f234 f235 f236 f237 f238 f239 f240 f241 f242 f243
  (with_reducible refine (qVE.out _ da).mono ?_)
  rintro r w14 ⟨rfl, k14⟩
  replace da := da.kb k14
  replace gl := gl.kb k14
  replace b1 := b1.kb k14
  replace b2 := b2.kb k14
  replace b3 := b3.kb k14
  replace U41 := U41.kb k14
  replace b4 := b4.kb k14
  replace U42 := U42.kb k14
  replace b5 := b5.kb k14
  replace U43 := U43.kb k14
  replace b6 := b6.kb k14
  replace U44 := U44.kb k14
  replace b7 := b7.kb k14
  replace U45 := U45.kb k14
  replace b8 := b8.kb k14
  replace U46 := U46.kb k14
  replace b9 := b9.kb k14
  replace kx := kx.trans k14
  have s14 := k14.size
  skip
  clear k14
  go_wp2_with fail
  replace b1 := (b1.alloc (.cells #[.string ⟨#[]⟩, .int .i64 0, .int .i64 0, .int .i64 0, .int .i64 0, .int .i64 0, .int .i64 0, .int .i64 0, .slice none 0 0] 28 (0, 0)))
  replace b2 := (b2.alloc (.cells #[.string ⟨#[]⟩, .int .i64 0, .int .i64 0, .int .i64 0, .int .i64 0, .int .i64 0, .int .i64 0, .int .i64 0, .slice none 0 0] 28 (0, 0)))
  replace b3 := (b3.alloc (.cells #[.string ⟨#[]⟩, .int .i64 0, .int .i64 0, .int .i64 0, .int .i64 0, .int .i64 0, .int .i64 0, .int .i64 0, .slice none 0 0] 28 (0, 0)))
  replace U41 := (U41.alloc (.cells #[.string ⟨#[]⟩, .int .i64 0, .int .i64 0, .int .i64 0, .int .i64 0, .int .i64 0, .int .i64 0, .int .i64 0, .slice none 0 0] 28 (0, 0)))
  replace b4 := (b4.alloc (.cells #[.string ⟨#[]⟩, .int .i64 0, .int .i64 0, .int .i64 0, .int .i64 0, .int .i64 0, .int .i64 0, .int .i64 0, .slice none 0 0] 28 (0, 0)))
  replace U42 := (U42.alloc (.cells #[.string ⟨#[]⟩, .int .i64 0, .int .i64 0, .int .i64 0, .int .i64 0, .int .i64 0, .int .i64 0, .int .i64 0, .slice none 0 0] 28 (0, 0)))
  replace b5 := (b5.alloc (.cells #[.string ⟨#[]⟩, .int .i64 0, .int .i64 0, .int .i64 0, .int .i64 0, .int .i64 0, .int .i64 0, .int .i64 0, .slice none 0 0] 28 (0, 0)))
  replace U43 := (U43.alloc (.cells #[.string ⟨#[]⟩, .int .i64 0, .int .i64 0, .int .i64 0, .int .i64 0, .int .i64 0, .int .i64 0, .int .i64 0, .slice none 0 0] 28 (0, 0)))
  replace b6 := (b6.alloc (.cells #[.string ⟨#[]⟩, .int .i64 0, .int .i64 0, .int .i64 0, .int .i64 0, .int .i64 0, .int .i64 0, .int .i64 0, .slice none 0 0] 28 (0, 0)))
  replace U44 := (U44.alloc (.cells #[.string ⟨#[]⟩, .int .i64 0, .int .i64 0, .int .i64 0, .int .i64 0, .int .i64 0, .int .i64 0, .int .i64 0, .slice none 0 0] 28 (0, 0)))
  replace b7 := (b7.alloc (.cells #[.string ⟨#[]⟩, .int .i64 0, .int .i64 0, .int .i64 0, .int .i64 0, .int .i64 0, .int .i64 0, .int .i64 0, .slice none 0 0] 28 (0, 0)))
  replace U45 := (U45.alloc (.cells #[.string ⟨#[]⟩, .int .i64 0, .int .i64 0, .int .i64 0, .int .i64 0, .int .i64 0, .int .i64 0, .int .i64 0, .slice none 0 0] 28 (0, 0)))
  replace b8 := (b8.alloc (.cells #[.string ⟨#[]⟩, .int .i64 0, .int .i64 0, .int .i64 0, .int .i64 0, .int .i64 0, .int .i64 0, .int .i64 0, .slice none 0 0] 28 (0, 0)))
  replace U46 := (U46.alloc (.cells #[.string ⟨#[]⟩, .int .i64 0, .int .i64 0, .int .i64 0, .int .i64 0, .int .i64 0, .int .i64 0, .int .i64 0, .slice none 0 0] 28 (0, 0)))
  replace b9 := (b9.alloc (.cells #[.string ⟨#[]⟩, .int .i64 0, .int .i64 0, .int .i64 0, .int .i64 0, .int .i64 0, .int .i64 0, .int .i64 0, .slice none 0 0] 28 (0, 0)))
  have b10 := Is.made w14 #[.string ⟨#[]⟩, .int .i64 0, .int .i64 0, .int .i64 0, .int .i64 0, .int .i64 0, .int .i64 0, .int .i64 0, .slice none 0 0] 28
  replace kx := kx.alloc (.cells #[.string ⟨#[]⟩, .int .i64 0, .int .i64 0, .int .i64 0, .int .i64 0, .int .i64 0, .int .i64 0, .int .i64 0, .slice none 0 0] 28 (0, 0))
  replace da := da0.out.kb kx
  replace gl := gl0.out.kb kx
  (with_reducible refine ((Cg.out awake_any _ gl)).mono ?_)
  rintro r w15 ⟨rfl, k15⟩
  replace da := da.kb k15
  replace gl := gl.kb k15
  replace b1 := b1.kb k15
  replace b2 := b2.kb k15
  replace b3 := b3.kb k15
  replace U41 := U41.kb k15
  replace b4 := b4.kb k15
  replace U42 := U42.kb k15
  replace b5 := b5.kb k15
  replace U43 := U43.kb k15
  replace b6 := b6.kb k15
  replace U44 := U44.kb k15
  replace b7 := b7.kb k15
  replace U45 := U45.kb k15
  replace b8 := b8.kb k15
  replace U46 := U46.kb k15
  replace b9 := b9.kb k15
  replace b10 := b10.kb k15
  replace kx := kx.trans k15
  have s15 := k15.size
  simp only [World.size_alloc] at s15
  clear k15
  go_wp2
  go_ret
  exact ⟨rfl, kx⟩
set_option maxRecDepth 100000 in
set_option maxHeartbeats 4000000 in
theorem rtK_1 (nu : ByteArray) (ku : Int) (au : Int) (xu : Int) (yu : Int) (zu : Int) (lou : Int) (hiu : Int) (fpu : Option Addr) (flu : Nat) (fcu : Nat) (fs : List FrT) (c : Int) (k : Int) (ta11 : Int) (tx11 : Int) (ty11 : Int) (tz11 : Int) (ta12 : Int) (tx12 : Int) (ty12 : Int) (tz12 : Int) (ta13 : Int) (tx13 : Int) (ty13 : Int) (tz13 : Int) (tx21 : Int) (ty21 : Int) (tz21 : Int) (tx31 : Int) (ty31 : Int) (tz31 : Int) (du : Int) (dv : Int) (dw : Int) (ndu : Int) (ndv : Int) (ndw : Int)     (qr : Hid (∀ W : World, FrS W (.slice fpu flu fcu) fs → Calls Tryd.prog 32 #[.agg #[.string nu, .int .i64 ku, .int .i64 au, .int .i64 xu, .int .i64 yu, .int .i64 zu, .int .i64 lou, .int .i64 hiu, .slice fpu flu fcu]] W fun r w' => r = .returned (.bool true) ∧ Kb W w')) (qT0 : Hid (∀ (W : World) (p : Option Addr) (l c : Nat), FrS W (.slice p l c) fs → Calls Tryd.prog 28 #[.agg #[.string nu, .int .i64 ku, .int .i64 au, .int .i64 xu, .int .i64 yu, .int .i64 zu, .int .i64 lou, .int .i64 hiu, .slice p l c], .int .i64 k] W fun r W' => ∃ q' l' c', r = .returned (.tuple #[.agg #[.string nu, .int .i64 ku, .int .i64 ta11, .int .i64 tx11, .int .i64 ty11, .int .i64 tz11, .int .i64 lou, .int .i64 hiu, .slice q' l' c'], .int .i64 0]) ∧ FrU W.heap.size W' (.slice q' l' c') fs ∧ Kb W W')) (qT1 : Hid (∀ (W : World) (p : Option Addr) (l c : Nat), FrS W (.slice p l c) fs → Calls Tryd.prog 28 #[.agg #[.string nu, .int .i64 ku, .int .i64 ta11, .int .i64 tx11, .int .i64 ty11, .int .i64 tz11, .int .i64 lou, .int .i64 hiu, .slice p l c], .int .i64 k] W fun r W' => ∃ q' l' c', r = .returned (.tuple #[.agg #[.string nu, .int .i64 ku, .int .i64 ta12, .int .i64 tx12, .int .i64 ty12, .int .i64 tz12, .int .i64 lou, .int .i64 hiu, .slice q' l' c'], .int .i64 0]) ∧ FrU W.heap.size W' (.slice q' l' c') fs ∧ Kb W W')) (qT2 : Hid (∀ (W : World) (p : Option Addr) (l c : Nat), FrS W (.slice p l c) fs → Calls Tryd.prog 28 #[.agg #[.string nu, .int .i64 ku, .int .i64 ta12, .int .i64 tx12, .int .i64 ty12, .int .i64 tz12, .int .i64 lou, .int .i64 hiu, .slice p l c], .int .i64 k] W fun r W' => ∃ q' l' c', r = .returned (.tuple #[.agg #[.string nu, .int .i64 ku, .int .i64 ta13, .int .i64 tx13, .int .i64 ty13, .int .i64 tz13, .int .i64 lou, .int .i64 hiu, .slice q' l' c'], .int .i64 0]) ∧ FrU W.heap.size W' (.slice q' l' c') fs ∧ Kb W W')) (qT3 : Hid (∀ (W : World) (p : Option Addr) (l c : Nat), FrS W (.slice p l c) fs → Calls Tryd.prog 28 #[.agg #[.string nu, .int .i64 ku, .int .i64 ta13, .int .i64 tx13, .int .i64 ty13, .int .i64 tz13, .int .i64 lou, .int .i64 hiu, .slice p l c], .int .i64 k] W fun r W' => ∃ q' l' c', r = .returned (.tuple #[.agg #[.string nu, .int .i64 ku, .int .i64 au, .int .i64 xu, .int .i64 yu, .int .i64 zu, .int .i64 lou, .int .i64 hiu, .slice q' l' c'], .int .i64 0]) ∧ FrU W.heap.size W' (.slice q' l' c') fs ∧ Kb W W')) (qM1 : Hid (∀ (W : World) (p : Option Addr) (l c : Nat), FrS W (.slice p l c) fs → Calls Tryd.prog 26 #[.agg #[.string nu, .int .i64 ku, .int .i64 au, .int .i64 xu, .int .i64 yu, .int .i64 zu, .int .i64 lou, .int .i64 hiu, .slice p l c], .int .i64 k] W fun r W' => ∃ q' l' c', r = .returned (.tuple #[.agg #[.string nu, .int .i64 ku, .int .i64 au, .int .i64 tx21, .int .i64 ty21, .int .i64 tz21, .int .i64 lou, .int .i64 hiu, .slice q' l' c'], .int .i64 0]) ∧ FrU W.heap.size W' (.slice q' l' c') fs ∧ Kb W W')) (qM2 : Hid (∀ (W : World) (p : Option Addr) (l c : Nat), FrS W (.slice p l c) fs → Calls Tryd.prog 26 #[.agg #[.string nu, .int .i64 ku, .int .i64 au, .int .i64 tx21, .int .i64 ty21, .int .i64 tz21, .int .i64 lou, .int .i64 hiu, .slice p l c], .int .i64 k] W fun r W' => ∃ q' l' c', r = .returned (.tuple #[.agg #[.string nu, .int .i64 ku, .int .i64 au, .int .i64 xu, .int .i64 yu, .int .i64 zu, .int .i64 lou, .int .i64 hiu, .slice q' l' c'], .int .i64 0]) ∧ FrU W.heap.size W' (.slice q' l' c') fs ∧ Kb W W')) (qV1 : Hid (∀ (W : World) (p : Option Addr) (l c : Nat), FrS W (.slice p l c) fs → Calls Tryd.prog 24 #[.agg #[.string nu, .int .i64 ku, .int .i64 au, .int .i64 xu, .int .i64 yu, .int .i64 zu, .int .i64 lou, .int .i64 hiu, .slice p l c], .agg #[.int .i64 du, .int .i64 dv, .int .i64 dw]] W fun r W' => ∃ q' l' c', r = .returned (.tuple #[.agg #[.string nu, .int .i64 ku, .int .i64 au, .int .i64 tx31, .int .i64 ty31, .int .i64 tz31, .int .i64 lou, .int .i64 hiu, .slice q' l' c'], .int .i64 0]) ∧ FrU W.heap.size W' (.slice q' l' c') fs ∧ Kb W W')) (qV2 : Hid (∀ (W : World) (p : Option Addr) (l c : Nat), FrS W (.slice p l c) fs → Calls Tryd.prog 24 #[.agg #[.string nu, .int .i64 ku, .int .i64 au, .int .i64 tx31, .int .i64 ty31, .int .i64 tz31, .int .i64 lou, .int .i64 hiu, .slice p l c], .agg #[.int .i64 ndu, .int .i64 ndv, .int .i64 ndw]] W fun r W' => ∃ q' l' c', r = .returned (.tuple #[.agg #[.string nu, .int .i64 ku, .int .i64 au, .int .i64 xu, .int .i64 yu, .int .i64 zu, .int .i64 lou, .int .i64 hiu, .slice q' l' c'], .int .i64 0]) ∧ FrU W.heap.size W' (.slice q' l' c') fs ∧ Kb W W')) (sS : Hid (fs.length ≤ 12 ∧ ∀ f ∈ fs, f.ds.length ≤ 1000000)) (c0 : 0 ≤ c) (c1 : c ≤ 255) (ek : c.tmod 3 = k) (k0 : 0 ≤ k) (k2 : k ≤ 2) (e1 : wrap64 (-du) = ndu) (e2 : wrap64 (-dv) = ndv) (e3 : wrap64 (-dw) = ndw) (w : World) (gl : Gl w) (da : FrS w (.slice fpu flu fcu) fs)  : Calls Tryd.prog 8 #[.agg #[.string nu, .int .i64 ku, .int .i64 au, .int .i64 xu, .int .i64 yu, .int .i64 zu, .int .i64 lou, .int .i64 hiu, .slice fpu flu fcu], .agg #[.int .i64 du, .int .i64 dv, .int .i64 dw], .int .u8 c] w fun r W' => r = .returned (.bool true) ∧ Kb w W' := by
  have kx := Kb.refl w
  have da0 := Lib.hid da
  have gl0 := Lib.hid gl
  have j1 := ((Is.made w #[.string nu, .int .i64 ku, .int .i64 au, .int .i64 xu, .int .i64 yu, .int .i64 zu, .int .i64 lou, .int .i64 hiu, .slice fpu flu fcu] 28).alloc (.cells #[.int .i64 du, .int .i64 dv, .int .i64 dw] 23 (0, 0)))
  have f2 := j1.c (i := 0) rfl
  have f3 := j1.c (i := 1) rfl
  have f4 := j1.c (i := 2) rfl
  have f5 := j1.c (i := 3) rfl
  have f6 := j1.c (i := 4) rfl
  have f7 := j1.c (i := 5) rfl
  have f8 := j1.c (i := 6) rfl
  have f9 := j1.c (i := 7) rfl
  have f10 := j1.c (i := 8) rfl
  go_enter Tryd.func8, Tryd.ntmps8
  go_wp2_with fail
  clear f2 f3 f4 f5 f6 f7 f8 f9 f10
  have b1 := j1
  have b2 := Is.made (w.alloc (.cells #[.string nu, .int .i64 ku, .int .i64 au, .int .i64 xu, .int .i64 yu, .int .i64 zu, .int .i64 lou, .int .i64 hiu, .slice fpu flu fcu] 28 (0, 0))) #[.int .i64 du, .int .i64 dv, .int .i64 dw] 23
  simp only [World.size_alloc] at b2
  replace kx := (kx.alloc (.cells #[.string nu, .int .i64 ku, .int .i64 au, .int .i64 xu, .int .i64 yu, .int .i64 zu, .int .i64 lou, .int .i64 hiu, .slice fpu flu fcu] 28 (0, 0))).alloc (.cells #[.int .i64 du, .int .i64 dv, .int .i64 dw] 23 (0, 0))
  clear j1
  replace da := da0.out.kb kx
  replace gl := gl0.out.kb kx
  (with_reducible refine (qr.out _ da).mono ?_)
  rintro r w1 ⟨rfl, k1⟩
  replace da := da.kb k1
  replace gl := gl.kb k1
  replace b1 := b1.kb k1
  replace b2 := b2.kb k1
  replace kx := kx.trans k1
  have s1 := k1.size
  simp only [World.size_alloc] at s1
  clear k1
  have y11 : c.tmod 3 = k := ek
  have y12 : wrap64 k = k := Go.IntWalk.wrap64_in _ (by omega)
  have y12' : IntKind.i64.wrap k = k := (Go.IntWalk.i64_left _).trans y12
  have f13 := b1.c (i := 0) rfl
  have f14 := b1.c (i := 1) rfl
  have f15 := b1.c (i := 2) rfl
  have f16 := b1.c (i := 3) rfl
  have f17 := b1.c (i := 4) rfl
  have f18 := b1.c (i := 5) rfl
  have f19 := b1.c (i := 6) rfl
  have f20 := b1.c (i := 7) rfl
  have f21 := b1.c (i := 8) rfl
  go_wp2_with fail
  refine wp_loop_rounds 5 ?_
  rw [rounds_succ]
  have j22 := (Is.made w1 #[.string nu, .int .i64 ku, .int .i64 au, .int .i64 xu, .int .i64 yu, .int .i64 zu, .int .i64 lou, .int .i64 hiu, .slice fpu flu fcu] 28)
  have f23 := j22.c (i := 0) rfl
  have f24 := j22.c (i := 1) rfl
  have f25 := j22.c (i := 2) rfl
  have f26 := j22.c (i := 3) rfl
  have f27 := j22.c (i := 4) rfl
  have f28 := j22.c (i := 5) rfl
  have f29 := j22.c (i := 6) rfl
  have f30 := j22.c (i := 7) rfl
  have f31 := j22.c (i := 8) rfl
  go_wp2_with fail
  clear f13 f14 f15 f16 f17 f18 f19 f20 f21 f23 f24 f25 f26 f27 f28 f29 f30 f31
  replace b1 := (b1.alloc (.cells #[.string nu, .int .i64 ku, .int .i64 au, .int .i64 xu, .int .i64 yu, .int .i64 zu, .int .i64 lou, .int .i64 hiu, .slice fpu flu fcu] 28 (0, 0)))
  replace b2 := (b2.alloc (.cells #[.string nu, .int .i64 ku, .int .i64 au, .int .i64 xu, .int .i64 yu, .int .i64 zu, .int .i64 lou, .int .i64 hiu, .slice fpu flu fcu] 28 (0, 0)))
  have b3 := j22
  replace kx := kx.alloc (.cells #[.string nu, .int .i64 ku, .int .i64 au, .int .i64 xu, .int .i64 yu, .int .i64 zu, .int .i64 lou, .int .i64 hiu, .slice fpu flu fcu] 28 (0, 0))
  clear j22
  replace da := da0.out.kb kx
  replace gl := gl0.out.kb kx
  (with_reducible refine (qT0.out _ _ _ _ da).mono ?_)
  rintro r w2 ⟨fp41, fl41, fc41, rfl, U41, k2⟩
  replace da := da.kb k2
  replace gl := gl.kb k2
  replace b1 := b1.kb k2
  replace b2 := b2.kb k2
  replace b3 := b3.kb k2
  replace kx := kx.trans k2
  have s2 := k2.size
  simp only [World.size_alloc] at s2
  clear k2
  try simp only [World.size_alloc, World.size_setCell] at U41
  have j32 := (Is.made w2 #[.string nu, .int .i64 ku, .int .i64 ta11, .int .i64 tx11, .int .i64 ty11, .int .i64 tz11, .int .i64 lou, .int .i64 hiu, .slice fp41 fl41 fc41] 28)
  have f33 := j32.c (i := 0) rfl
  have f34 := j32.c (i := 1) rfl
  have f35 := j32.c (i := 2) rfl
  have f36 := j32.c (i := 3) rfl
  have f37 := j32.c (i := 4) rfl
  have f38 := j32.c (i := 5) rfl
  have f39 := j32.c (i := 6) rfl
  have f40 := j32.c (i := 7) rfl
  have f41 := j32.c (i := 8) rfl
  have j42 := (b3.alloc (.cells #[.string nu, .int .i64 ku, .int .i64 ta11, .int .i64 tx11, .int .i64 ty11, .int .i64 tz11, .int .i64 lou, .int .i64 hiu, .slice fp41 fl41 fc41] 28 (0, 0)))
  have f43 := j42.c (i := 0) rfl
  have f44 := j42.f 0
  have f45 := j42.c (i := 1) rfl
  have f46 := j42.f 1
  have f47 := j42.c (i := 2) rfl
  have f48 := j42.f 2
  have f49 := j42.c (i := 3) rfl
  have f50 := j42.f 3
  have f51 := j42.c (i := 4) rfl
  have f52 := j42.f 4
  have f53 := j42.c (i := 5) rfl
  have f54 := j42.f 5
  have f55 := j42.c (i := 6) rfl
  have f56 := j42.f 6
  have f57 := j42.c (i := 7) rfl
  have f58 := j42.f 7
  have f59 := j42.c (i := 8) rfl
  have f60 := j42.f 8
  go_wp2_with fail
  clear f33 f34 f35 f36 f37 f38 f39 f40 f41 f43 f44 f45 f46 f47 f48 f49 f50 f51 f52 f53 f54 f55 f56 f57 f58 f59 f60
  replace b1 := ((((((((((b1.alloc (.cells #[.string nu, .int .i64 ku, .int .i64 ta11, .int .i64 tx11, .int .i64 ty11, .int .i64 tz11, .int .i64 lou, .int .i64 hiu, .slice fp41 fl41 fc41] 28 (0, 0))).far (p := ⟨w1.heap.size, 0, none⟩) (show w.heap.size ≠ w1.heap.size by omega) (.string nu)).far (p := ⟨w1.heap.size, 1, none⟩) (show w.heap.size ≠ w1.heap.size by omega) (.int .i64 ku)).far (p := ⟨w1.heap.size, 2, none⟩) (show w.heap.size ≠ w1.heap.size by omega) (.int .i64 ta11)).far (p := ⟨w1.heap.size, 3, none⟩) (show w.heap.size ≠ w1.heap.size by omega) (.int .i64 tx11)).far (p := ⟨w1.heap.size, 4, none⟩) (show w.heap.size ≠ w1.heap.size by omega) (.int .i64 ty11)).far (p := ⟨w1.heap.size, 5, none⟩) (show w.heap.size ≠ w1.heap.size by omega) (.int .i64 tz11)).far (p := ⟨w1.heap.size, 6, none⟩) (show w.heap.size ≠ w1.heap.size by omega) (.int .i64 lou)).far (p := ⟨w1.heap.size, 7, none⟩) (show w.heap.size ≠ w1.heap.size by omega) (.int .i64 hiu)).far (p := ⟨w1.heap.size, 8, none⟩) (show w.heap.size ≠ w1.heap.size by omega) (.slice fp41 fl41 fc41))
  replace b2 := ((((((((((b2.alloc (.cells #[.string nu, .int .i64 ku, .int .i64 ta11, .int .i64 tx11, .int .i64 ty11, .int .i64 tz11, .int .i64 lou, .int .i64 hiu, .slice fp41 fl41 fc41] 28 (0, 0))).far (p := ⟨w1.heap.size, 0, none⟩) (show w.heap.size + 1 ≠ w1.heap.size by omega) (.string nu)).far (p := ⟨w1.heap.size, 1, none⟩) (show w.heap.size + 1 ≠ w1.heap.size by omega) (.int .i64 ku)).far (p := ⟨w1.heap.size, 2, none⟩) (show w.heap.size + 1 ≠ w1.heap.size by omega) (.int .i64 ta11)).far (p := ⟨w1.heap.size, 3, none⟩) (show w.heap.size + 1 ≠ w1.heap.size by omega) (.int .i64 tx11)).far (p := ⟨w1.heap.size, 4, none⟩) (show w.heap.size + 1 ≠ w1.heap.size by omega) (.int .i64 ty11)).far (p := ⟨w1.heap.size, 5, none⟩) (show w.heap.size + 1 ≠ w1.heap.size by omega) (.int .i64 tz11)).far (p := ⟨w1.heap.size, 6, none⟩) (show w.heap.size + 1 ≠ w1.heap.size by omega) (.int .i64 lou)).far (p := ⟨w1.heap.size, 7, none⟩) (show w.heap.size + 1 ≠ w1.heap.size by omega) (.int .i64 hiu)).far (p := ⟨w1.heap.size, 8, none⟩) (show w.heap.size + 1 ≠ w1.heap.size by omega) (.slice fp41 fl41 fc41))
  replace b3 := (b3.alloc (.cells #[.string nu, .int .i64 ku, .int .i64 ta11, .int .i64 tx11, .int .i64 ty11, .int .i64 tz11, .int .i64 lou, .int .i64 hiu, .slice fp41 fl41 fc41] 28 (0, 0)))
  replace b3 : Is _ _ #[.string nu, .int .i64 ku, .int .i64 au, .int .i64 xu, .int .i64 yu, .int .i64 zu, .int .i64 lou, .int .i64 hiu, .slice fpu flu fcu] _ := b3.set 0 (.string nu)
  replace b3 : Is _ _ #[.string nu, .int .i64 ku, .int .i64 au, .int .i64 xu, .int .i64 yu, .int .i64 zu, .int .i64 lou, .int .i64 hiu, .slice fpu flu fcu] _ := b3.set 1 (.int .i64 ku)
  replace b3 : Is _ _ #[.string nu, .int .i64 ku, .int .i64 ta11, .int .i64 xu, .int .i64 yu, .int .i64 zu, .int .i64 lou, .int .i64 hiu, .slice fpu flu fcu] _ := b3.set 2 (.int .i64 ta11)
  replace b3 : Is _ _ #[.string nu, .int .i64 ku, .int .i64 ta11, .int .i64 tx11, .int .i64 yu, .int .i64 zu, .int .i64 lou, .int .i64 hiu, .slice fpu flu fcu] _ := b3.set 3 (.int .i64 tx11)
  replace b3 : Is _ _ #[.string nu, .int .i64 ku, .int .i64 ta11, .int .i64 tx11, .int .i64 ty11, .int .i64 zu, .int .i64 lou, .int .i64 hiu, .slice fpu flu fcu] _ := b3.set 4 (.int .i64 ty11)
  replace b3 : Is _ _ #[.string nu, .int .i64 ku, .int .i64 ta11, .int .i64 tx11, .int .i64 ty11, .int .i64 tz11, .int .i64 lou, .int .i64 hiu, .slice fpu flu fcu] _ := b3.set 5 (.int .i64 tz11)
  replace b3 : Is _ _ #[.string nu, .int .i64 ku, .int .i64 ta11, .int .i64 tx11, .int .i64 ty11, .int .i64 tz11, .int .i64 lou, .int .i64 hiu, .slice fpu flu fcu] _ := b3.set 6 (.int .i64 lou)
  replace b3 : Is _ _ #[.string nu, .int .i64 ku, .int .i64 ta11, .int .i64 tx11, .int .i64 ty11, .int .i64 tz11, .int .i64 lou, .int .i64 hiu, .slice fpu flu fcu] _ := b3.set 7 (.int .i64 hiu)
  replace b3 : Is _ _ #[.string nu, .int .i64 ku, .int .i64 ta11, .int .i64 tx11, .int .i64 ty11, .int .i64 tz11, .int .i64 lou, .int .i64 hiu, .slice fp41 fl41 fc41] _ := b3.set 8 (.slice fp41 fl41 fc41)
  replace U41 := ((((((((((U41.alloc (.cells #[.string nu, .int .i64 ku, .int .i64 ta11, .int .i64 tx11, .int .i64 ty11, .int .i64 tz11, .int .i64 lou, .int .i64 hiu, .slice fp41 fl41 fc41] 28 (0, 0))).far (p := ⟨w1.heap.size, 0, none⟩) (show w1.heap.size < (w1.heap.size + 1) by omega) (.string nu)).far (p := ⟨w1.heap.size, 1, none⟩) (show w1.heap.size < (w1.heap.size + 1) by omega) (.int .i64 ku)).far (p := ⟨w1.heap.size, 2, none⟩) (show w1.heap.size < (w1.heap.size + 1) by omega) (.int .i64 ta11)).far (p := ⟨w1.heap.size, 3, none⟩) (show w1.heap.size < (w1.heap.size + 1) by omega) (.int .i64 tx11)).far (p := ⟨w1.heap.size, 4, none⟩) (show w1.heap.size < (w1.heap.size + 1) by omega) (.int .i64 ty11)).far (p := ⟨w1.heap.size, 5, none⟩) (show w1.heap.size < (w1.heap.size + 1) by omega) (.int .i64 tz11)).far (p := ⟨w1.heap.size, 6, none⟩) (show w1.heap.size < (w1.heap.size + 1) by omega) (.int .i64 lou)).far (p := ⟨w1.heap.size, 7, none⟩) (show w1.heap.size < (w1.heap.size + 1) by omega) (.int .i64 hiu)).far (p := ⟨w1.heap.size, 8, none⟩) (show w1.heap.size < (w1.heap.size + 1) by omega) (.slice fp41 fl41 fc41))
  have b4 := Is.made w2 #[.string nu, .int .i64 ku, .int .i64 ta11, .int .i64 tx11, .int .i64 ty11, .int .i64 tz11, .int .i64 lou, .int .i64 hiu, .slice fp41 fl41 fc41] 28
  replace b4 := (((((((((b4.far (p := ⟨w1.heap.size, 0, none⟩) (show w2.heap.size ≠ w1.heap.size by omega) (.string nu)).far (p := ⟨w1.heap.size, 1, none⟩) (show w2.heap.size ≠ w1.heap.size by omega) (.int .i64 ku)).far (p := ⟨w1.heap.size, 2, none⟩) (show w2.heap.size ≠ w1.heap.size by omega) (.int .i64 ta11)).far (p := ⟨w1.heap.size, 3, none⟩) (show w2.heap.size ≠ w1.heap.size by omega) (.int .i64 tx11)).far (p := ⟨w1.heap.size, 4, none⟩) (show w2.heap.size ≠ w1.heap.size by omega) (.int .i64 ty11)).far (p := ⟨w1.heap.size, 5, none⟩) (show w2.heap.size ≠ w1.heap.size by omega) (.int .i64 tz11)).far (p := ⟨w1.heap.size, 6, none⟩) (show w2.heap.size ≠ w1.heap.size by omega) (.int .i64 lou)).far (p := ⟨w1.heap.size, 7, none⟩) (show w2.heap.size ≠ w1.heap.size by omega) (.int .i64 hiu)).far (p := ⟨w1.heap.size, 8, none⟩) (show w2.heap.size ≠ w1.heap.size by omega) (.slice fp41 fl41 fc41))
  replace kx := (((((((((kx.alloc (.cells #[.string nu, .int .i64 ku, .int .i64 ta11, .int .i64 tx11, .int .i64 ty11, .int .i64 tz11, .int .i64 lou, .int .i64 hiu, .slice fp41 fl41 fc41] 28 (0, 0))).setCell (p := ⟨w1.heap.size, 0, none⟩) (show w.heap.size ≤ w1.heap.size by omega) (.string nu)).setCell (p := ⟨w1.heap.size, 1, none⟩) (show w.heap.size ≤ w1.heap.size by omega) (.int .i64 ku)).setCell (p := ⟨w1.heap.size, 2, none⟩) (show w.heap.size ≤ w1.heap.size by omega) (.int .i64 ta11)).setCell (p := ⟨w1.heap.size, 3, none⟩) (show w.heap.size ≤ w1.heap.size by omega) (.int .i64 tx11)).setCell (p := ⟨w1.heap.size, 4, none⟩) (show w.heap.size ≤ w1.heap.size by omega) (.int .i64 ty11)).setCell (p := ⟨w1.heap.size, 5, none⟩) (show w.heap.size ≤ w1.heap.size by omega) (.int .i64 tz11)).setCell (p := ⟨w1.heap.size, 6, none⟩) (show w.heap.size ≤ w1.heap.size by omega) (.int .i64 lou)).setCell (p := ⟨w1.heap.size, 7, none⟩) (show w.heap.size ≤ w1.heap.size by omega) (.int .i64 hiu)).setCell (p := ⟨w1.heap.size, 8, none⟩) (show w.heap.size ≤ w1.heap.size by omega) (.slice fp41 fl41 fc41)
  clear j32 j42
  replace da := da0.out.kb kx
  replace gl := gl0.out.kb kx
  have s3 : w2.heap.size + 1 ≤ ((((((((((w2.alloc (.cells #[.string nu, .int .i64 ku, .int .i64 ta11, .int .i64 tx11, .int .i64 ty11, .int .i64 tz11, .int .i64 lou, .int .i64 hiu, .slice fp41 fl41 fc41] 28 (0, 0))).setCell ⟨w1.heap.size, 0, none⟩ (.string nu)).setCell ⟨w1.heap.size, 1, none⟩ (.int .i64 ku)).setCell ⟨w1.heap.size, 2, none⟩ (.int .i64 ta11)).setCell ⟨w1.heap.size, 3, none⟩ (.int .i64 tx11)).setCell ⟨w1.heap.size, 4, none⟩ (.int .i64 ty11)).setCell ⟨w1.heap.size, 5, none⟩ (.int .i64 tz11)).setCell ⟨w1.heap.size, 6, none⟩ (.int .i64 lou)).setCell ⟨w1.heap.size, 7, none⟩ (.int .i64 hiu)).setCell ⟨w1.heap.size, 8, none⟩ (.slice fp41 fl41 fc41)).heap.size := by simp only [World.size_alloc, World.size_setCell]; exact Nat.le_refl _
  generalize ((((((((((w2.alloc (.cells #[.string nu, .int .i64 ku, .int .i64 ta11, .int .i64 tx11, .int .i64 ty11, .int .i64 tz11, .int .i64 lou, .int .i64 hiu, .slice fp41 fl41 fc41] 28 (0, 0))).setCell ⟨w1.heap.size, 0, none⟩ (.string nu)).setCell ⟨w1.heap.size, 1, none⟩ (.int .i64 ku)).setCell ⟨w1.heap.size, 2, none⟩ (.int .i64 ta11)).setCell ⟨w1.heap.size, 3, none⟩ (.int .i64 tx11)).setCell ⟨w1.heap.size, 4, none⟩ (.int .i64 ty11)).setCell ⟨w1.heap.size, 5, none⟩ (.int .i64 tz11)).setCell ⟨w1.heap.size, 6, none⟩ (.int .i64 lou)).setCell ⟨w1.heap.size, 7, none⟩ (.int .i64 hiu)).setCell ⟨w1.heap.size, 8, none⟩ (.slice fp41 fl41 fc41)) = w3 at *
  rw [rounds_succ]
  have f61 := b3.c (i := 0) rfl
  have f62 := b3.c (i := 1) rfl
  have f63 := b3.c (i := 2) rfl
  have f64 := b3.c (i := 3) rfl
  have f65 := b3.c (i := 4) rfl
  have f66 := b3.c (i := 5) rfl
  have f67 := b3.c (i := 6) rfl
  have f68 := b3.c (i := 7) rfl
  have f69 := b3.c (i := 8) rfl
  go_wp2_with fail
  clear f61 f62 f63 f64 f65 f66 f67 f68 f69
  (with_reducible refine (qT1.out _ _ _ _ U41.frs).mono ?_)
  rintro r w4 ⟨fp42, fl42, fc42, rfl, U42, k4⟩
  replace da := da.kb k4
  replace gl := gl.kb k4
  replace b1 := b1.kb k4
  replace b2 := b2.kb k4
  replace b3 := b3.kb k4
  replace U41 := U41.kb k4
  replace b4 := b4.kb k4
  replace kx := kx.trans k4
  have s4 := k4.size
  skip
  clear k4
  try simp only [World.size_alloc, World.size_setCell] at U42
  have j70 := (Is.made w4 #[.string nu, .int .i64 ku, .int .i64 ta12, .int .i64 tx12, .int .i64 ty12, .int .i64 tz12, .int .i64 lou, .int .i64 hiu, .slice fp42 fl42 fc42] 28)
  have f71 := j70.c (i := 0) rfl
  have f72 := j70.c (i := 1) rfl
  have f73 := j70.c (i := 2) rfl
  have f74 := j70.c (i := 3) rfl
  have f75 := j70.c (i := 4) rfl
  have f76 := j70.c (i := 5) rfl
  have f77 := j70.c (i := 6) rfl
  have f78 := j70.c (i := 7) rfl
  have f79 := j70.c (i := 8) rfl
  have j80 := (b3.alloc (.cells #[.string nu, .int .i64 ku, .int .i64 ta12, .int .i64 tx12, .int .i64 ty12, .int .i64 tz12, .int .i64 lou, .int .i64 hiu, .slice fp42 fl42 fc42] 28 (0, 0)))
  have f81 := j80.c (i := 0) rfl
  have f82 := j80.f 0
  have f83 := j80.c (i := 1) rfl
  have f84 := j80.f 1
  have f85 := j80.c (i := 2) rfl
  have f86 := j80.f 2
  have f87 := j80.c (i := 3) rfl
  have f88 := j80.f 3
  have f89 := j80.c (i := 4) rfl
  have f90 := j80.f 4
  have f91 := j80.c (i := 5) rfl
  have f92 := j80.f 5
  have f93 := j80.c (i := 6) rfl
  have f94 := j80.f 6
  have f95 := j80.c (i := 7) rfl
  have f96 := j80.f 7
  have f97 := j80.c (i := 8) rfl
  have f98 := j80.f 8
  go_wp2_with fail
  clear f71 f72 f73 f74 f75 f76 f77 f78 f79 f81 f82 f83 f84 f85 f86 f87 f88 f89 f90 f91 f92 f93 f94 f95 f96 f97 f98
  replace b1 := ((((((((((b1.alloc (.cells #[.string nu, .int .i64 ku, .int .i64 ta12, .int .i64 tx12, .int .i64 ty12, .int .i64 tz12, .int .i64 lou, .int .i64 hiu, .slice fp42 fl42 fc42] 28 (0, 0))).far (p := ⟨w1.heap.size, 0, none⟩) (show w.heap.size ≠ w1.heap.size by omega) (.string nu)).far (p := ⟨w1.heap.size, 1, none⟩) (show w.heap.size ≠ w1.heap.size by omega) (.int .i64 ku)).far (p := ⟨w1.heap.size, 2, none⟩) (show w.heap.size ≠ w1.heap.size by omega) (.int .i64 ta12)).far (p := ⟨w1.heap.size, 3, none⟩) (show w.heap.size ≠ w1.heap.size by omega) (.int .i64 tx12)).far (p := ⟨w1.heap.size, 4, none⟩) (show w.heap.size ≠ w1.heap.size by omega) (.int .i64 ty12)).far (p := ⟨w1.heap.size, 5, none⟩) (show w.heap.size ≠ w1.heap.size by omega) (.int .i64 tz12)).far (p := ⟨w1.heap.size, 6, none⟩) (show w.heap.size ≠ w1.heap.size by omega) (.int .i64 lou)).far (p := ⟨w1.heap.size, 7, none⟩) (show w.heap.size ≠ w1.heap.size by omega) (.int .i64 hiu)).far (p := ⟨w1.heap.size, 8, none⟩) (show w.heap.size ≠ w1.heap.size by omega) (.slice fp42 fl42 fc42))
  replace b2 := ((((((((((b2.alloc (.cells #[.string nu, .int .i64 ku, .int .i64 ta12, .int .i64 tx12, .int .i64 ty12, .int .i64 tz12, .int .i64 lou, .int .i64 hiu, .slice fp42 fl42 fc42] 28 (0, 0))).far (p := ⟨w1.heap.size, 0, none⟩) (show w.heap.size + 1 ≠ w1.heap.size by omega) (.string nu)).far (p := ⟨w1.heap.size, 1, none⟩) (show w.heap.size + 1 ≠ w1.heap.size by omega) (.int .i64 ku)).far (p := ⟨w1.heap.size, 2, none⟩) (show w.heap.size + 1 ≠ w1.heap.size by omega) (.int .i64 ta12)).far (p := ⟨w1.heap.size, 3, none⟩) (show w.heap.size + 1 ≠ w1.heap.size by omega) (.int .i64 tx12)).far (p := ⟨w1.heap.size, 4, none⟩) (show w.heap.size + 1 ≠ w1.heap.size by omega) (.int .i64 ty12)).far (p := ⟨w1.heap.size, 5, none⟩) (show w.heap.size + 1 ≠ w1.heap.size by omega) (.int .i64 tz12)).far (p := ⟨w1.heap.size, 6, none⟩) (show w.heap.size + 1 ≠ w1.heap.size by omega) (.int .i64 lou)).far (p := ⟨w1.heap.size, 7, none⟩) (show w.heap.size + 1 ≠ w1.heap.size by omega) (.int .i64 hiu)).far (p := ⟨w1.heap.size, 8, none⟩) (show w.heap.size + 1 ≠ w1.heap.size by omega) (.slice fp42 fl42 fc42))
  replace b3 := (b3.alloc (.cells #[.string nu, .int .i64 ku, .int .i64 ta12, .int .i64 tx12, .int .i64 ty12, .int .i64 tz12, .int .i64 lou, .int .i64 hiu, .slice fp42 fl42 fc42] 28 (0, 0)))
  replace b3 : Is _ _ #[.string nu, .int .i64 ku, .int .i64 ta11, .int .i64 tx11, .int .i64 ty11, .int .i64 tz11, .int .i64 lou, .int .i64 hiu, .slice fp41 fl41 fc41] _ := b3.set 0 (.string nu)
  replace b3 : Is _ _ #[.string nu, .int .i64 ku, .int .i64 ta11, .int .i64 tx11, .int .i64 ty11, .int .i64 tz11, .int .i64 lou, .int .i64 hiu, .slice fp41 fl41 fc41] _ := b3.set 1 (.int .i64 ku)
  replace b3 : Is _ _ #[.string nu, .int .i64 ku, .int .i64 ta12, .int .i64 tx11, .int .i64 ty11, .int .i64 tz11, .int .i64 lou, .int .i64 hiu, .slice fp41 fl41 fc41] _ := b3.set 2 (.int .i64 ta12)
  replace b3 : Is _ _ #[.string nu, .int .i64 ku, .int .i64 ta12, .int .i64 tx12, .int .i64 ty11, .int .i64 tz11, .int .i64 lou, .int .i64 hiu, .slice fp41 fl41 fc41] _ := b3.set 3 (.int .i64 tx12)
  replace b3 : Is _ _ #[.string nu, .int .i64 ku, .int .i64 ta12, .int .i64 tx12, .int .i64 ty12, .int .i64 tz11, .int .i64 lou, .int .i64 hiu, .slice fp41 fl41 fc41] _ := b3.set 4 (.int .i64 ty12)
  replace b3 : Is _ _ #[.string nu, .int .i64 ku, .int .i64 ta12, .int .i64 tx12, .int .i64 ty12, .int .i64 tz12, .int .i64 lou, .int .i64 hiu, .slice fp41 fl41 fc41] _ := b3.set 5 (.int .i64 tz12)
  replace b3 : Is _ _ #[.string nu, .int .i64 ku, .int .i64 ta12, .int .i64 tx12, .int .i64 ty12, .int .i64 tz12, .int .i64 lou, .int .i64 hiu, .slice fp41 fl41 fc41] _ := b3.set 6 (.int .i64 lou)
  replace b3 : Is _ _ #[.string nu, .int .i64 ku, .int .i64 ta12, .int .i64 tx12, .int .i64 ty12, .int .i64 tz12, .int .i64 lou, .int .i64 hiu, .slice fp41 fl41 fc41] _ := b3.set 7 (.int .i64 hiu)
  replace b3 : Is _ _ #[.string nu, .int .i64 ku, .int .i64 ta12, .int .i64 tx12, .int .i64 ty12, .int .i64 tz12, .int .i64 lou, .int .i64 hiu, .slice fp42 fl42 fc42] _ := b3.set 8 (.slice fp42 fl42 fc42)
  replace U41 := ((((((((((U41.alloc (.cells #[.string nu, .int .i64 ku, .int .i64 ta12, .int .i64 tx12, .int .i64 ty12, .int .i64 tz12, .int .i64 lou, .int .i64 hiu, .slice fp42 fl42 fc42] 28 (0, 0))).far (p := ⟨w1.heap.size, 0, none⟩) (show w1.heap.size < (w1.heap.size + 1) by omega) (.string nu)).far (p := ⟨w1.heap.size, 1, none⟩) (show w1.heap.size < (w1.heap.size + 1) by omega) (.int .i64 ku)).far (p := ⟨w1.heap.size, 2, none⟩) (show w1.heap.size < (w1.heap.size + 1) by omega) (.int .i64 ta12)).far (p := ⟨w1.heap.size, 3, none⟩) (show w1.heap.size < (w1.heap.size + 1) by omega) (.int .i64 tx12)).far (p := ⟨w1.heap.size, 4, none⟩) (show w1.heap.size < (w1.heap.size + 1) by omega) (.int .i64 ty12)).far (p := ⟨w1.heap.size, 5, none⟩) (show w1.heap.size < (w1.heap.size + 1) by omega) (.int .i64 tz12)).far (p := ⟨w1.heap.size, 6, none⟩) (show w1.heap.size < (w1.heap.size + 1) by omega) (.int .i64 lou)).far (p := ⟨w1.heap.size, 7, none⟩) (show w1.heap.size < (w1.heap.size + 1) by omega) (.int .i64 hiu)).far (p := ⟨w1.heap.size, 8, none⟩) (show w1.heap.size < (w1.heap.size + 1) by omega) (.slice fp42 fl42 fc42))
  replace b4 := ((((((((((b4.alloc (.cells #[.string nu, .int .i64 ku, .int .i64 ta12, .int .i64 tx12, .int .i64 ty12, .int .i64 tz12, .int .i64 lou, .int .i64 hiu, .slice fp42 fl42 fc42] 28 (0, 0))).far (p := ⟨w1.heap.size, 0, none⟩) (show w2.heap.size ≠ w1.heap.size by omega) (.string nu)).far (p := ⟨w1.heap.size, 1, none⟩) (show w2.heap.size ≠ w1.heap.size by omega) (.int .i64 ku)).far (p := ⟨w1.heap.size, 2, none⟩) (show w2.heap.size ≠ w1.heap.size by omega) (.int .i64 ta12)).far (p := ⟨w1.heap.size, 3, none⟩) (show w2.heap.size ≠ w1.heap.size by omega) (.int .i64 tx12)).far (p := ⟨w1.heap.size, 4, none⟩) (show w2.heap.size ≠ w1.heap.size by omega) (.int .i64 ty12)).far (p := ⟨w1.heap.size, 5, none⟩) (show w2.heap.size ≠ w1.heap.size by omega) (.int .i64 tz12)).far (p := ⟨w1.heap.size, 6, none⟩) (show w2.heap.size ≠ w1.heap.size by omega) (.int .i64 lou)).far (p := ⟨w1.heap.size, 7, none⟩) (show w2.heap.size ≠ w1.heap.size by omega) (.int .i64 hiu)).far (p := ⟨w1.heap.size, 8, none⟩) (show w2.heap.size ≠ w1.heap.size by omega) (.slice fp42 fl42 fc42))
  replace U42 := ((((((((((U42.alloc (.cells #[.string nu, .int .i64 ku, .int .i64 ta12, .int .i64 tx12, .int .i64 ty12, .int .i64 tz12, .int .i64 lou, .int .i64 hiu, .slice fp42 fl42 fc42] 28 (0, 0))).far (p := ⟨w1.heap.size, 0, none⟩) (show w1.heap.size < (w3.heap.size) by omega) (.string nu)).far (p := ⟨w1.heap.size, 1, none⟩) (show w1.heap.size < (w3.heap.size) by omega) (.int .i64 ku)).far (p := ⟨w1.heap.size, 2, none⟩) (show w1.heap.size < (w3.heap.size) by omega) (.int .i64 ta12)).far (p := ⟨w1.heap.size, 3, none⟩) (show w1.heap.size < (w3.heap.size) by omega) (.int .i64 tx12)).far (p := ⟨w1.heap.size, 4, none⟩) (show w1.heap.size < (w3.heap.size) by omega) (.int .i64 ty12)).far (p := ⟨w1.heap.size, 5, none⟩) (show w1.heap.size < (w3.heap.size) by omega) (.int .i64 tz12)).far (p := ⟨w1.heap.size, 6, none⟩) (show w1.heap.size < (w3.heap.size) by omega) (.int .i64 lou)).far (p := ⟨w1.heap.size, 7, none⟩) (show w1.heap.size < (w3.heap.size) by omega) (.int .i64 hiu)).far (p := ⟨w1.heap.size, 8, none⟩) (show w1.heap.size < (w3.heap.size) by omega) (.slice fp42 fl42 fc42))
  have b5 := Is.made w4 #[.string nu, .int .i64 ku, .int .i64 ta12, .int .i64 tx12, .int .i64 ty12, .int .i64 tz12, .int .i64 lou, .int .i64 hiu, .slice fp42 fl42 fc42] 28
  replace b5 := (((((((((b5.far (p := ⟨w1.heap.size, 0, none⟩) (show w4.heap.size ≠ w1.heap.size by omega) (.string nu)).far (p := ⟨w1.heap.size, 1, none⟩) (show w4.heap.size ≠ w1.heap.size by omega) (.int .i64 ku)).far (p := ⟨w1.heap.size, 2, none⟩) (show w4.heap.size ≠ w1.heap.size by omega) (.int .i64 ta12)).far (p := ⟨w1.heap.size, 3, none⟩) (show w4.heap.size ≠ w1.heap.size by omega) (.int .i64 tx12)).far (p := ⟨w1.heap.size, 4, none⟩) (show w4.heap.size ≠ w1.heap.size by omega) (.int .i64 ty12)).far (p := ⟨w1.heap.size, 5, none⟩) (show w4.heap.size ≠ w1.heap.size by omega) (.int .i64 tz12)).far (p := ⟨w1.heap.size, 6, none⟩) (show w4.heap.size ≠ w1.heap.size by omega) (.int .i64 lou)).far (p := ⟨w1.heap.size, 7, none⟩) (show w4.heap.size ≠ w1.heap.size by omega) (.int .i64 hiu)).far (p := ⟨w1.heap.size, 8, none⟩) (show w4.heap.size ≠ w1.heap.size by omega) (.slice fp42 fl42 fc42))
  replace kx := (((((((((kx.alloc (.cells #[.string nu, .int .i64 ku, .int .i64 ta12, .int .i64 tx12, .int .i64 ty12, .int .i64 tz12, .int .i64 lou, .int .i64 hiu, .slice fp42 fl42 fc42] 28 (0, 0))).setCell (p := ⟨w1.heap.size, 0, none⟩) (show w.heap.size ≤ w1.heap.size by omega) (.string nu)).setCell (p := ⟨w1.heap.size, 1, none⟩) (show w.heap.size ≤ w1.heap.size by omega) (.int .i64 ku)).setCell (p := ⟨w1.heap.size, 2, none⟩) (show w.heap.size ≤ w1.heap.size by omega) (.int .i64 ta12)).setCell (p := ⟨w1.heap.size, 3, none⟩) (show w.heap.size ≤ w1.heap.size by omega) (.int .i64 tx12)).setCell (p := ⟨w1.heap.size, 4, none⟩) (show w.heap.size ≤ w1.heap.size by omega) (.int .i64 ty12)).setCell (p := ⟨w1.heap.size, 5, none⟩) (show w.heap.size ≤ w1.heap.size by omega) (.int .i64 tz12)).setCell (p := ⟨w1.heap.size, 6, none⟩) (show w.heap.size ≤ w1.heap.size by omega) (.int .i64 lou)).setCell (p := ⟨w1.heap.size, 7, none⟩) (show w.heap.size ≤ w1.heap.size by omega) (.int .i64 hiu)).setCell (p := ⟨w1.heap.size, 8, none⟩) (show w.heap.size ≤ w1.heap.size by omega) (.slice fp42 fl42 fc42)
  clear j70 j80
  replace da := da0.out.kb kx
  replace gl := gl0.out.kb kx
  have s5 : w4.heap.size + 1 ≤ ((((((((((w4.alloc (.cells #[.string nu, .int .i64 ku, .int .i64 ta12, .int .i64 tx12, .int .i64 ty12, .int .i64 tz12, .int .i64 lou, .int .i64 hiu, .slice fp42 fl42 fc42] 28 (0, 0))).setCell ⟨w1.heap.size, 0, none⟩ (.string nu)).setCell ⟨w1.heap.size, 1, none⟩ (.int .i64 ku)).setCell ⟨w1.heap.size, 2, none⟩ (.int .i64 ta12)).setCell ⟨w1.heap.size, 3, none⟩ (.int .i64 tx12)).setCell ⟨w1.heap.size, 4, none⟩ (.int .i64 ty12)).setCell ⟨w1.heap.size, 5, none⟩ (.int .i64 tz12)).setCell ⟨w1.heap.size, 6, none⟩ (.int .i64 lou)).setCell ⟨w1.heap.size, 7, none⟩ (.int .i64 hiu)).setCell ⟨w1.heap.size, 8, none⟩ (.slice fp42 fl42 fc42)).heap.size := by simp only [World.size_alloc, World.size_setCell]; exact Nat.le_refl _
  generalize ((((((((((w4.alloc (.cells #[.string nu, .int .i64 ku, .int .i64 ta12, .int .i64 tx12, .int .i64 ty12, .int .i64 tz12, .int .i64 lou, .int .i64 hiu, .slice fp42 fl42 fc42] 28 (0, 0))).setCell ⟨w1.heap.size, 0, none⟩ (.string nu)).setCell ⟨w1.heap.size, 1, none⟩ (.int .i64 ku)).setCell ⟨w1.heap.size, 2, none⟩ (.int .i64 ta12)).setCell ⟨w1.heap.size, 3, none⟩ (.int .i64 tx12)).setCell ⟨w1.heap.size, 4, none⟩ (.int .i64 ty12)).setCell ⟨w1.heap.size, 5, none⟩ (.int .i64 tz12)).setCell ⟨w1.heap.size, 6, none⟩ (.int .i64 lou)).setCell ⟨w1.heap.size, 7, none⟩ (.int .i64 hiu)).setCell ⟨w1.heap.size, 8, none⟩ (.slice fp42 fl42 fc42)) = w5 at *
  rw [rounds_succ]
  have f99 := b3.c (i := 0) rfl
  have f100 := b3.c (i := 1) rfl
  have f101 := b3.c (i := 2) rfl
  have f102 := b3.c (i := 3) rfl
  have f103 := b3.c (i := 4) rfl
  have f104 := b3.c (i := 5) rfl
  have f105 := b3.c (i := 6) rfl
  have f106 := b3.c (i := 7) rfl
  have f107 := b3.c (i := 8) rfl
  go_wp2_with fail
  clear f99 f100 f101 f102 f103 f104 f105 f106 f107
  (with_reducible refine (qT2.out _ _ _ _ U42.frs).mono ?_)
  rintro r w6 ⟨fp43, fl43, fc43, rfl, U43, k6⟩
  replace da := da.kb k6
  replace gl := gl.kb k6
  replace b1 := b1.kb k6
  replace b2 := b2.kb k6
  replace b3 := b3.kb k6
  replace U41 := U41.kb k6
  replace b4 := b4.kb k6
  replace U42 := U42.kb k6
  replace b5 := b5.kb k6
  replace kx := kx.trans k6
  have s6 := k6.size
  skip
  clear k6
  try simp only [World.size_alloc, World.size_setCell] at U43
  have j108 := (Is.made w6 #[.string nu, .int .i64 ku, .int .i64 ta13, .int .i64 tx13, .int .i64 ty13, .int .i64 tz13, .int .i64 lou, .int .i64 hiu, .slice fp43 fl43 fc43] 28)
  have f109 := j108.c (i := 0) rfl
  have f110 := j108.c (i := 1) rfl
  have f111 := j108.c (i := 2) rfl
  have f112 := j108.c (i := 3) rfl
  have f113 := j108.c (i := 4) rfl
  have f114 := j108.c (i := 5) rfl
  have f115 := j108.c (i := 6) rfl
  have f116 := j108.c (i := 7) rfl
  have f117 := j108.c (i := 8) rfl
  have j118 := (b3.alloc (.cells #[.string nu, .int .i64 ku, .int .i64 ta13, .int .i64 tx13, .int .i64 ty13, .int .i64 tz13, .int .i64 lou, .int .i64 hiu, .slice fp43 fl43 fc43] 28 (0, 0)))
  have f119 := j118.c (i := 0) rfl
  have f120 := j118.f 0
  have f121 := j118.c (i := 1) rfl
  have f122 := j118.f 1
  have f123 := j118.c (i := 2) rfl
  have f124 := j118.f 2
  have f125 := j118.c (i := 3) rfl
  have f126 := j118.f 3
  have f127 := j118.c (i := 4) rfl
  have f128 := j118.f 4
  have f129 := j118.c (i := 5) rfl
  have f130 := j118.f 5
  have f131 := j118.c (i := 6) rfl
  have f132 := j118.f 6
  have f133 := j118.c (i := 7) rfl
  have f134 := j118.f 7
  have f135 := j118.c (i := 8) rfl
  have f136 := j118.f 8
  go_wp2_with fail
  clear f109 f110 f111 f112 f113 f114 f115 f116 f117 f119 f120 f121 f122 f123 f124 f125 f126 f127 f128 f129 f130 f131 f132 f133 f134 f135 f136
  replace b1 := ((((((((((b1.alloc (.cells #[.string nu, .int .i64 ku, .int .i64 ta13, .int .i64 tx13, .int .i64 ty13, .int .i64 tz13, .int .i64 lou, .int .i64 hiu, .slice fp43 fl43 fc43] 28 (0, 0))).far (p := ⟨w1.heap.size, 0, none⟩) (show w.heap.size ≠ w1.heap.size by omega) (.string nu)).far (p := ⟨w1.heap.size, 1, none⟩) (show w.heap.size ≠ w1.heap.size by omega) (.int .i64 ku)).far (p := ⟨w1.heap.size, 2, none⟩) (show w.heap.size ≠ w1.heap.size by omega) (.int .i64 ta13)).far (p := ⟨w1.heap.size, 3, none⟩) (show w.heap.size ≠ w1.heap.size by omega) (.int .i64 tx13)).far (p := ⟨w1.heap.size, 4, none⟩) (show w.heap.size ≠ w1.heap.size by omega) (.int .i64 ty13)).far (p := ⟨w1.heap.size, 5, none⟩) (show w.heap.size ≠ w1.heap.size by omega) (.int .i64 tz13)).far (p := ⟨w1.heap.size, 6, none⟩) (show w.heap.size ≠ w1.heap.size by omega) (.int .i64 lou)).far (p := ⟨w1.heap.size, 7, none⟩) (show w.heap.size ≠ w1.heap.size by omega) (.int .i64 hiu)).far (p := ⟨w1.heap.size, 8, none⟩) (show w.heap.size ≠ w1.heap.size by omega) (.slice fp43 fl43 fc43))
  replace b2 := ((((((((((b2.alloc (.cells #[.string nu, .int .i64 ku, .int .i64 ta13, .int .i64 tx13, .int .i64 ty13, .int .i64 tz13, .int .i64 lou, .int .i64 hiu, .slice fp43 fl43 fc43] 28 (0, 0))).far (p := ⟨w1.heap.size, 0, none⟩) (show w.heap.size + 1 ≠ w1.heap.size by omega) (.string nu)).far (p := ⟨w1.heap.size, 1, none⟩) (show w.heap.size + 1 ≠ w1.heap.size by omega) (.int .i64 ku)).far (p := ⟨w1.heap.size, 2, none⟩) (show w.heap.size + 1 ≠ w1.heap.size by omega) (.int .i64 ta13)).far (p := ⟨w1.heap.size, 3, none⟩) (show w.heap.size + 1 ≠ w1.heap.size by omega) (.int .i64 tx13)).far (p := ⟨w1.heap.size, 4, none⟩) (show w.heap.size + 1 ≠ w1.heap.size by omega) (.int .i64 ty13)).far (p := ⟨w1.heap.size, 5, none⟩) (show w.heap.size + 1 ≠ w1.heap.size by omega) (.int .i64 tz13)).far (p := ⟨w1.heap.size, 6, none⟩) (show w.heap.size + 1 ≠ w1.heap.size by omega) (.int .i64 lou)).far (p := ⟨w1.heap.size, 7, none⟩) (show w.heap.size + 1 ≠ w1.heap.size by omega) (.int .i64 hiu)).far (p := ⟨w1.heap.size, 8, none⟩) (show w.heap.size + 1 ≠ w1.heap.size by omega) (.slice fp43 fl43 fc43))
  replace b3 := (b3.alloc (.cells #[.string nu, .int .i64 ku, .int .i64 ta13, .int .i64 tx13, .int .i64 ty13, .int .i64 tz13, .int .i64 lou, .int .i64 hiu, .slice fp43 fl43 fc43] 28 (0, 0)))
  replace b3 : Is _ _ #[.string nu, .int .i64 ku, .int .i64 ta12, .int .i64 tx12, .int .i64 ty12, .int .i64 tz12, .int .i64 lou, .int .i64 hiu, .slice fp42 fl42 fc42] _ := b3.set 0 (.string nu)
  replace b3 : Is _ _ #[.string nu, .int .i64 ku, .int .i64 ta12, .int .i64 tx12, .int .i64 ty12, .int .i64 tz12, .int .i64 lou, .int .i64 hiu, .slice fp42 fl42 fc42] _ := b3.set 1 (.int .i64 ku)
  replace b3 : Is _ _ #[.string nu, .int .i64 ku, .int .i64 ta13, .int .i64 tx12, .int .i64 ty12, .int .i64 tz12, .int .i64 lou, .int .i64 hiu, .slice fp42 fl42 fc42] _ := b3.set 2 (.int .i64 ta13)
  replace b3 : Is _ _ #[.string nu, .int .i64 ku, .int .i64 ta13, .int .i64 tx13, .int .i64 ty12, .int .i64 tz12, .int .i64 lou, .int .i64 hiu, .slice fp42 fl42 fc42] _ := b3.set 3 (.int .i64 tx13)
  replace b3 : Is _ _ #[.string nu, .int .i64 ku, .int .i64 ta13, .int .i64 tx13, .int .i64 ty13, .int .i64 tz12, .int .i64 lou, .int .i64 hiu, .slice fp42 fl42 fc42] _ := b3.set 4 (.int .i64 ty13)
  replace b3 : Is _ _ #[.string nu, .int .i64 ku, .int .i64 ta13, .int .i64 tx13, .int .i64 ty13, .int .i64 tz13, .int .i64 lou, .int .i64 hiu, .slice fp42 fl42 fc42] _ := b3.set 5 (.int .i64 tz13)
  replace b3 : Is _ _ #[.string nu, .int .i64 ku, .int .i64 ta13, .int .i64 tx13, .int .i64 ty13, .int .i64 tz13, .int .i64 lou, .int .i64 hiu, .slice fp42 fl42 fc42] _ := b3.set 6 (.int .i64 lou)
  replace b3 : Is _ _ #[.string nu, .int .i64 ku, .int .i64 ta13, .int .i64 tx13, .int .i64 ty13, .int .i64 tz13, .int .i64 lou, .int .i64 hiu, .slice fp42 fl42 fc42] _ := b3.set 7 (.int .i64 hiu)
  replace b3 : Is _ _ #[.string nu, .int .i64 ku, .int .i64 ta13, .int .i64 tx13, .int .i64 ty13, .int .i64 tz13, .int .i64 lou, .int .i64 hiu, .slice fp43 fl43 fc43] _ := b3.set 8 (.slice fp43 fl43 fc43)
  replace U41 := ((((((((((U41.alloc (.cells #[.string nu, .int .i64 ku, .int .i64 ta13, .int .i64 tx13, .int .i64 ty13, .int .i64 tz13, .int .i64 lou, .int .i64 hiu, .slice fp43 fl43 fc43] 28 (0, 0))).far (p := ⟨w1.heap.size, 0, none⟩) (show w1.heap.size < (w1.heap.size + 1) by omega) (.string nu)).far (p := ⟨w1.heap.size, 1, none⟩) (show w1.heap.size < (w1.heap.size + 1) by omega) (.int .i64 ku)).far (p := ⟨w1.heap.size, 2, none⟩) (show w1.heap.size < (w1.heap.size + 1) by omega) (.int .i64 ta13)).far (p := ⟨w1.heap.size, 3, none⟩) (show w1.heap.size < (w1.heap.size + 1) by omega) (.int .i64 tx13)).far (p := ⟨w1.heap.size, 4, none⟩) (show w1.heap.size < (w1.heap.size + 1) by omega) (.int .i64 ty13)).far (p := ⟨w1.heap.size, 5, none⟩) (show w1.heap.size < (w1.heap.size + 1) by omega) (.int .i64 tz13)).far (p := ⟨w1.heap.size, 6, none⟩) (show w1.heap.size < (w1.heap.size + 1) by omega) (.int .i64 lou)).far (p := ⟨w1.heap.size, 7, none⟩) (show w1.heap.size < (w1.heap.size + 1) by omega) (.int .i64 hiu)).far (p := ⟨w1.heap.size, 8, none⟩) (show w1.heap.size < (w1.heap.size + 1) by omega) (.slice fp43 fl43 fc43))
  replace b4 := ((((((((((b4.alloc (.cells #[.string nu, .int .i64 ku, .int .i64 ta13, .int .i64 tx13, .int .i64 ty13, .int .i64 tz13, .int .i64 lou, .int .i64 hiu, .slice fp43 fl43 fc43] 28 (0, 0))).far (p := ⟨w1.heap.size, 0, none⟩) (show w2.heap.size ≠ w1.heap.size by omega) (.string nu)).far (p := ⟨w1.heap.size, 1, none⟩) (show w2.heap.size ≠ w1.heap.size by omega) (.int .i64 ku)).far (p := ⟨w1.heap.size, 2, none⟩) (show w2.heap.size ≠ w1.heap.size by omega) (.int .i64 ta13)).far (p := ⟨w1.heap.size, 3, none⟩) (show w2.heap.size ≠ w1.heap.size by omega) (.int .i64 tx13)).far (p := ⟨w1.heap.size, 4, none⟩) (show w2.heap.size ≠ w1.heap.size by omega) (.int .i64 ty13)).far (p := ⟨w1.heap.size, 5, none⟩) (show w2.heap.size ≠ w1.heap.size by omega) (.int .i64 tz13)).far (p := ⟨w1.heap.size, 6, none⟩) (show w2.heap.size ≠ w1.heap.size by omega) (.int .i64 lou)).far (p := ⟨w1.heap.size, 7, none⟩) (show w2.heap.size ≠ w1.heap.size by omega) (.int .i64 hiu)).far (p := ⟨w1.heap.size, 8, none⟩) (show w2.heap.size ≠ w1.heap.size by omega) (.slice fp43 fl43 fc43))
  replace U42 := ((((((((((U42.alloc (.cells #[.string nu, .int .i64 ku, .int .i64 ta13, .int .i64 tx13, .int .i64 ty13, .int .i64 tz13, .int .i64 lou, .int .i64 hiu, .slice fp43 fl43 fc43] 28 (0, 0))).far (p := ⟨w1.heap.size, 0, none⟩) (show w1.heap.size < (w3.heap.size) by omega) (.string nu)).far (p := ⟨w1.heap.size, 1, none⟩) (show w1.heap.size < (w3.heap.size) by omega) (.int .i64 ku)).far (p := ⟨w1.heap.size, 2, none⟩) (show w1.heap.size < (w3.heap.size) by omega) (.int .i64 ta13)).far (p := ⟨w1.heap.size, 3, none⟩) (show w1.heap.size < (w3.heap.size) by omega) (.int .i64 tx13)).far (p := ⟨w1.heap.size, 4, none⟩) (show w1.heap.size < (w3.heap.size) by omega) (.int .i64 ty13)).far (p := ⟨w1.heap.size, 5, none⟩) (show w1.heap.size < (w3.heap.size) by omega) (.int .i64 tz13)).far (p := ⟨w1.heap.size, 6, none⟩) (show w1.heap.size < (w3.heap.size) by omega) (.int .i64 lou)).far (p := ⟨w1.heap.size, 7, none⟩) (show w1.heap.size < (w3.heap.size) by omega) (.int .i64 hiu)).far (p := ⟨w1.heap.size, 8, none⟩) (show w1.heap.size < (w3.heap.size) by omega) (.slice fp43 fl43 fc43))
  replace b5 := ((((((((((b5.alloc (.cells #[.string nu, .int .i64 ku, .int .i64 ta13, .int .i64 tx13, .int .i64 ty13, .int .i64 tz13, .int .i64 lou, .int .i64 hiu, .slice fp43 fl43 fc43] 28 (0, 0))).far (p := ⟨w1.heap.size, 0, none⟩) (show w4.heap.size ≠ w1.heap.size by omega) (.string nu)).far (p := ⟨w1.heap.size, 1, none⟩) (show w4.heap.size ≠ w1.heap.size by omega) (.int .i64 ku)).far (p := ⟨w1.heap.size, 2, none⟩) (show w4.heap.size ≠ w1.heap.size by omega) (.int .i64 ta13)).far (p := ⟨w1.heap.size, 3, none⟩) (show w4.heap.size ≠ w1.heap.size by omega) (.int .i64 tx13)).far (p := ⟨w1.heap.size, 4, none⟩) (show w4.heap.size ≠ w1.heap.size by omega) (.int .i64 ty13)).far (p := ⟨w1.heap.size, 5, none⟩) (show w4.heap.size ≠ w1.heap.size by omega) (.int .i64 tz13)).far (p := ⟨w1.heap.size, 6, none⟩) (show w4.heap.size ≠ w1.heap.size by omega) (.int .i64 lou)).far (p := ⟨w1.heap.size, 7, none⟩) (show w4.heap.size ≠ w1.heap.size by omega) (.int .i64 hiu)).far (p := ⟨w1.heap.size, 8, none⟩) (show w4.heap.size ≠ w1.heap.size by omega) (.slice fp43 fl43 fc43))
  replace U43 := ((((((((((U43.alloc (.cells #[.string nu, .int .i64 ku, .int .i64 ta13, .int .i64 tx13, .int .i64 ty13, .int .i64 tz13, .int .i64 lou, .int .i64 hiu, .slice fp43 fl43 fc43] 28 (0, 0))).far (p := ⟨w1.heap.size, 0, none⟩) (show w1.heap.size < (w5.heap.size) by omega) (.string nu)).far (p := ⟨w1.heap.size, 1, none⟩) (show w1.heap.size < (w5.heap.size) by omega) (.int .i64 ku)).far (p := ⟨w1.heap.size, 2, none⟩) (show w1.heap.size < (w5.heap.size) by omega) (.int .i64 ta13)).far (p := ⟨w1.heap.size, 3, none⟩) (show w1.heap.size < (w5.heap.size) by omega) (.int .i64 tx13)).far (p := ⟨w1.heap.size, 4, none⟩) (show w1.heap.size < (w5.heap.size) by omega) (.int .i64 ty13)).far (p := ⟨w1.heap.size, 5, none⟩) (show w1.heap.size < (w5.heap.size) by omega) (.int .i64 tz13)).far (p := ⟨w1.heap.size, 6, none⟩) (show w1.heap.size < (w5.heap.size) by omega) (.int .i64 lou)).far (p := ⟨w1.heap.size, 7, none⟩) (show w1.heap.size < (w5.heap.size) by omega) (.int .i64 hiu)).far (p := ⟨w1.heap.size, 8, none⟩) (show w1.heap.size < (w5.heap.size) by omega) (.slice fp43 fl43 fc43))
  have b6 := Is.made w6 #[.string nu, .int .i64 ku, .int .i64 ta13, .int .i64 tx13, .int .i64 ty13, .int .i64 tz13, .int .i64 lou, .int .i64 hiu, .slice fp43 fl43 fc43] 28
  replace b6 := (((((((((b6.far (p := ⟨w1.heap.size, 0, none⟩) (show w6.heap.size ≠ w1.heap.size by omega) (.string nu)).far (p := ⟨w1.heap.size, 1, none⟩) (show w6.heap.size ≠ w1.heap.size by omega) (.int .i64 ku)).far (p := ⟨w1.heap.size, 2, none⟩) (show w6.heap.size ≠ w1.heap.size by omega) (.int .i64 ta13)).far (p := ⟨w1.heap.size, 3, none⟩) (show w6.heap.size ≠ w1.heap.size by omega) (.int .i64 tx13)).far (p := ⟨w1.heap.size, 4, none⟩) (show w6.heap.size ≠ w1.heap.size by omega) (.int .i64 ty13)).far (p := ⟨w1.heap.size, 5, none⟩) (show w6.heap.size ≠ w1.heap.size by omega) (.int .i64 tz13)).far (p := ⟨w1.heap.size, 6, none⟩) (show w6.heap.size ≠ w1.heap.size by omega) (.int .i64 lou)).far (p := ⟨w1.heap.size, 7, none⟩) (show w6.heap.size ≠ w1.heap.size by omega) (.int .i64 hiu)).far (p := ⟨w1.heap.size, 8, none⟩) (show w6.heap.size ≠ w1.heap.size by omega) (.slice fp43 fl43 fc43))
  replace kx := (((((((((kx.alloc (.cells #[.string nu, .int .i64 ku, .int .i64 ta13, .int .i64 tx13, .int .i64 ty13, .int .i64 tz13, .int .i64 lou, .int .i64 hiu, .slice fp43 fl43 fc43] 28 (0, 0))).setCell (p := ⟨w1.heap.size, 0, none⟩) (show w.heap.size ≤ w1.heap.size by omega) (.string nu)).setCell (p := ⟨w1.heap.size, 1, none⟩) (show w.heap.size ≤ w1.heap.size by omega) (.int .i64 ku)).setCell (p := ⟨w1.heap.size, 2, none⟩) (show w.heap.size ≤ w1.heap.size by omega) (.int .i64 ta13)).setCell (p := ⟨w1.heap.size, 3, none⟩) (show w.heap.size ≤ w1.heap.size by omega) (.int .i64 tx13)).setCell (p := ⟨w1.heap.size, 4, none⟩) (show w.heap.size ≤ w1.heap.size by omega) (.int .i64 ty13)).setCell (p := ⟨w1.heap.size, 5, none⟩) (show w.heap.size ≤ w1.heap.size by omega) (.int .i64 tz13)).setCell (p := ⟨w1.heap.size, 6, none⟩) (show w.heap.size ≤ w1.heap.size by omega) (.int .i64 lou)).setCell (p := ⟨w1.heap.size, 7, none⟩) (show w.heap.size ≤ w1.heap.size by omega) (.int .i64 hiu)).setCell (p := ⟨w1.heap.size, 8, none⟩) (show w.heap.size ≤ w1.heap.size by omega) (.slice fp43 fl43 fc43)
  clear j108 j118
  replace da := da0.out.kb kx
  replace gl := gl0.out.kb kx
  have s7 : w6.heap.size + 1 ≤ ((((((((((w6.alloc (.cells #[.string nu, .int .i64 ku, .int .i64 ta13, .int .i64 tx13, .int .i64 ty13, .int .i64 tz13, .int .i64 lou, .int .i64 hiu, .slice fp43 fl43 fc43] 28 (0, 0))).setCell ⟨w1.heap.size, 0, none⟩ (.string nu)).setCell ⟨w1.heap.size, 1, none⟩ (.int .i64 ku)).setCell ⟨w1.heap.size, 2, none⟩ (.int .i64 ta13)).setCell ⟨w1.heap.size, 3, none⟩ (.int .i64 tx13)).setCell ⟨w1.heap.size, 4, none⟩ (.int .i64 ty13)).setCell ⟨w1.heap.size, 5, none⟩ (.int .i64 tz13)).setCell ⟨w1.heap.size, 6, none⟩ (.int .i64 lou)).setCell ⟨w1.heap.size, 7, none⟩ (.int .i64 hiu)).setCell ⟨w1.heap.size, 8, none⟩ (.slice fp43 fl43 fc43)).heap.size := by simp only [World.size_alloc, World.size_setCell]; exact Nat.le_refl _
  generalize ((((((((((w6.alloc (.cells #[.string nu, .int .i64 ku, .int .i64 ta13, .int .i64 tx13, .int .i64 ty13, .int .i64 tz13, .int .i64 lou, .int .i64 hiu, .slice fp43 fl43 fc43] 28 (0, 0))).setCell ⟨w1.heap.size, 0, none⟩ (.string nu)).setCell ⟨w1.heap.size, 1, none⟩ (.int .i64 ku)).setCell ⟨w1.heap.size, 2, none⟩ (.int .i64 ta13)).setCell ⟨w1.heap.size, 3, none⟩ (.int .i64 tx13)).setCell ⟨w1.heap.size, 4, none⟩ (.int .i64 ty13)).setCell ⟨w1.heap.size, 5, none⟩ (.int .i64 tz13)).setCell ⟨w1.heap.size, 6, none⟩ (.int .i64 lou)).setCell ⟨w1.heap.size, 7, none⟩ (.int .i64 hiu)).setCell ⟨w1.heap.size, 8, none⟩ (.slice fp43 fl43 fc43)) = w7 at *
  rw [rounds_succ]
  have f137 := b3.c (i := 0) rfl
  have f138 := b3.c (i := 1) rfl
  have f139 := b3.c (i := 2) rfl
  have f140 := b3.c (i := 3) rfl
  have f141 := b3.c (i := 4) rfl
  have f142 := b3.c (i := 5) rfl
  have f143 := b3.c (i := 6) rfl
  have f144 := b3.c (i := 7) rfl
  have f145 := b3.c (i := 8) rfl
  go_wp2_with fail
  clear f137 f138 f139 f140 f141 f142 f143 f144 f145
  (with_reducible refine (qT3.out _ _ _ _ U43.frs).mono ?_)
  rintro r w8 ⟨fp44, fl44, fc44, rfl, U44, k8⟩
  replace da := da.kb k8
  replace gl := gl.kb k8
  replace b1 := b1.kb k8
  replace b2 := b2.kb k8
  replace b3 := b3.kb k8
  replace U41 := U41.kb k8
  replace b4 := b4.kb k8
  replace U42 := U42.kb k8
  replace b5 := b5.kb k8
  replace U43 := U43.kb k8
  replace b6 := b6.kb k8
  replace kx := kx.trans k8
  have s8 := k8.size
  skip
  clear k8
  try simp only [World.size_alloc, World.size_setCell] at U44
  have j146 := (Is.made w8 #[.string nu, .int .i64 ku, .int .i64 au, .int .i64 xu, .int .i64 yu, .int .i64 zu, .int .i64 lou, .int .i64 hiu, .slice fp44 fl44 fc44] 28)
  have f147 := j146.c (i := 0) rfl
  have f148 := j146.c (i := 1) rfl
  have f149 := j146.c (i := 2) rfl
  have f150 := j146.c (i := 3) rfl
  have f151 := j146.c (i := 4) rfl
  have f152 := j146.c (i := 5) rfl
  have f153 := j146.c (i := 6) rfl
  have f154 := j146.c (i := 7) rfl
  have f155 := j146.c (i := 8) rfl
  have j156 := (b3.alloc (.cells #[.string nu, .int .i64 ku, .int .i64 au, .int .i64 xu, .int .i64 yu, .int .i64 zu, .int .i64 lou, .int .i64 hiu, .slice fp44 fl44 fc44] 28 (0, 0)))
  have f157 := j156.c (i := 0) rfl
  have f158 := j156.f 0
  have f159 := j156.c (i := 1) rfl
  have f160 := j156.f 1
  have f161 := j156.c (i := 2) rfl
  have f162 := j156.f 2
  have f163 := j156.c (i := 3) rfl
  have f164 := j156.f 3
  have f165 := j156.c (i := 4) rfl
  have f166 := j156.f 4
  have f167 := j156.c (i := 5) rfl
  have f168 := j156.f 5
  have f169 := j156.c (i := 6) rfl
  have f170 := j156.f 6
  have f171 := j156.c (i := 7) rfl
  have f172 := j156.f 7
  have f173 := j156.c (i := 8) rfl
  have f174 := j156.f 8
  go_wp2_with fail
  clear f147 f148 f149 f150 f151 f152 f153 f154 f155 f157 f158 f159 f160 f161 f162 f163 f164 f165 f166 f167 f168 f169 f170 f171 f172 f173 f174
  replace b1 := ((((((((((b1.alloc (.cells #[.string nu, .int .i64 ku, .int .i64 au, .int .i64 xu, .int .i64 yu, .int .i64 zu, .int .i64 lou, .int .i64 hiu, .slice fp44 fl44 fc44] 28 (0, 0))).far (p := ⟨w1.heap.size, 0, none⟩) (show w.heap.size ≠ w1.heap.size by omega) (.string nu)).far (p := ⟨w1.heap.size, 1, none⟩) (show w.heap.size ≠ w1.heap.size by omega) (.int .i64 ku)).far (p := ⟨w1.heap.size, 2, none⟩) (show w.heap.size ≠ w1.heap.size by omega) (.int .i64 au)).far (p := ⟨w1.heap.size, 3, none⟩) (show w.heap.size ≠ w1.heap.size by omega) (.int .i64 xu)).far (p := ⟨w1.heap.size, 4, none⟩) (show w.heap.size ≠ w1.heap.size by omega) (.int .i64 yu)).far (p := ⟨w1.heap.size, 5, none⟩) (show w.heap.size ≠ w1.heap.size by omega) (.int .i64 zu)).far (p := ⟨w1.heap.size, 6, none⟩) (show w.heap.size ≠ w1.heap.size by omega) (.int .i64 lou)).far (p := ⟨w1.heap.size, 7, none⟩) (show w.heap.size ≠ w1.heap.size by omega) (.int .i64 hiu)).far (p := ⟨w1.heap.size, 8, none⟩) (show w.heap.size ≠ w1.heap.size by omega) (.slice fp44 fl44 fc44))
  replace b2 := ((((((((((b2.alloc (.cells #[.string nu, .int .i64 ku, .int .i64 au, .int .i64 xu, .int .i64 yu, .int .i64 zu, .int .i64 lou, .int .i64 hiu, .slice fp44 fl44 fc44] 28 (0, 0))).far (p := ⟨w1.heap.size, 0, none⟩) (show w.heap.size + 1 ≠ w1.heap.size by omega) (.string nu)).far (p := ⟨w1.heap.size, 1, none⟩) (show w.heap.size + 1 ≠ w1.heap.size by omega) (.int .i64 ku)).far (p := ⟨w1.heap.size, 2, none⟩) (show w.heap.size + 1 ≠ w1.heap.size by omega) (.int .i64 au)).far (p := ⟨w1.heap.size, 3, none⟩) (show w.heap.size + 1 ≠ w1.heap.size by omega) (.int .i64 xu)).far (p := ⟨w1.heap.size, 4, none⟩) (show w.heap.size + 1 ≠ w1.heap.size by omega) (.int .i64 yu)).far (p := ⟨w1.heap.size, 5, none⟩) (show w.heap.size + 1 ≠ w1.heap.size by omega) (.int .i64 zu)).far (p := ⟨w1.heap.size, 6, none⟩) (show w.heap.size + 1 ≠ w1.heap.size by omega) (.int .i64 lou)).far (p := ⟨w1.heap.size, 7, none⟩) (show w.heap.size + 1 ≠ w1.heap.size by omega) (.int .i64 hiu)).far (p := ⟨w1.heap.size, 8, none⟩) (show w.heap.size + 1 ≠ w1.heap.size by omega) (.slice fp44 fl44 fc44))
  replace b3 := (b3.alloc (.cells #[.string nu, .int .i64 ku, .int .i64 au, .int .i64 xu, .int .i64 yu, .int .i64 zu, .int .i64 lou, .int .i64 hiu, .slice fp44 fl44 fc44] 28 (0, 0)))
  replace b3 : Is _ _ #[.string nu, .int .i64 ku, .int .i64 ta13, .int .i64 tx13, .int .i64 ty13, .int .i64 tz13, .int .i64 lou, .int .i64 hiu, .slice fp43 fl43 fc43] _ := b3.set 0 (.string nu)
  replace b3 : Is _ _ #[.string nu, .int .i64 ku, .int .i64 ta13, .int .i64 tx13, .int .i64 ty13, .int .i64 tz13, .int .i64 lou, .int .i64 hiu, .slice fp43 fl43 fc43] _ := b3.set 1 (.int .i64 ku)
  replace b3 : Is _ _ #[.string nu, .int .i64 ku, .int .i64 au, .int .i64 tx13, .int .i64 ty13, .int .i64 tz13, .int .i64 lou, .int .i64 hiu, .slice fp43 fl43 fc43] _ := b3.set 2 (.int .i64 au)
  replace b3 : Is _ _ #[.string nu, .int .i64 ku, .int .i64 au, .int .i64 xu, .int .i64 ty13, .int .i64 tz13, .int .i64 lou, .int .i64 hiu, .slice fp43 fl43 fc43] _ := b3.set 3 (.int .i64 xu)
  replace b3 : Is _ _ #[.string nu, .int .i64 ku, .int .i64 au, .int .i64 xu, .int .i64 yu, .int .i64 tz13, .int .i64 lou, .int .i64 hiu, .slice fp43 fl43 fc43] _ := b3.set 4 (.int .i64 yu)
  replace b3 : Is _ _ #[.string nu, .int .i64 ku, .int .i64 au, .int .i64 xu, .int .i64 yu, .int .i64 zu, .int .i64 lou, .int .i64 hiu, .slice fp43 fl43 fc43] _ := b3.set 5 (.int .i64 zu)
  replace b3 : Is _ _ #[.string nu, .int .i64 ku, .int .i64 au, .int .i64 xu, .int .i64 yu, .int .i64 zu, .int .i64 lou, .int .i64 hiu, .slice fp43 fl43 fc43] _ := b3.set 6 (.int .i64 lou)
  replace b3 : Is _ _ #[.string nu, .int .i64 ku, .int .i64 au, .int .i64 xu, .int .i64 yu, .int .i64 zu, .int .i64 lou, .int .i64 hiu, .slice fp43 fl43 fc43] _ := b3.set 7 (.int .i64 hiu)
  replace b3 : Is _ _ #[.string nu, .int .i64 ku, .int .i64 au, .int .i64 xu, .int .i64 yu, .int .i64 zu, .int .i64 lou, .int .i64 hiu, .slice fp44 fl44 fc44] _ := b3.set 8 (.slice fp44 fl44 fc44)
  replace U41 := ((((((((((U41.alloc (.cells #[.string nu, .int .i64 ku, .int .i64 au, .int .i64 xu, .int .i64 yu, .int .i64 zu, .int .i64 lou, .int .i64 hiu, .slice fp44 fl44 fc44] 28 (0, 0))).far (p := ⟨w1.heap.size, 0, none⟩) (show w1.heap.size < (w1.heap.size + 1) by omega) (.string nu)).far (p := ⟨w1.heap.size, 1, none⟩) (show w1.heap.size < (w1.heap.size + 1) by omega) (.int .i64 ku)).far (p := ⟨w1.heap.size, 2, none⟩) (show w1.heap.size < (w1.heap.size + 1) by omega) (.int .i64 au)).far (p := ⟨w1.heap.size, 3, none⟩) (show w1.heap.size < (w1.heap.size + 1) by omega) (.int .i64 xu)).far (p := ⟨w1.heap.size, 4, none⟩) (show w1.heap.size < (w1.heap.size + 1) by omega) (.int .i64 yu)).far (p := ⟨w1.heap.size, 5, none⟩) (show w1.heap.size < (w1.heap.size + 1) by omega) (.int .i64 zu)).far (p := ⟨w1.heap.size, 6, none⟩) (show w1.heap.size < (w1.heap.size + 1) by omega) (.int .i64 lou)).far (p := ⟨w1.heap.size, 7, none⟩) (show w1.heap.size < (w1.heap.size + 1) by omega) (.int .i64 hiu)).far (p := ⟨w1.heap.size, 8, none⟩) (show w1.heap.size < (w1.heap.size + 1) by omega) (.slice fp44 fl44 fc44))
  replace b4 := ((((((((((b4.alloc (.cells #[.string nu, .int .i64 ku, .int .i64 au, .int .i64 xu, .int .i64 yu, .int .i64 zu, .int .i64 lou, .int .i64 hiu, .slice fp44 fl44 fc44] 28 (0, 0))).far (p := ⟨w1.heap.size, 0, none⟩) (show w2.heap.size ≠ w1.heap.size by omega) (.string nu)).far (p := ⟨w1.heap.size, 1, none⟩) (show w2.heap.size ≠ w1.heap.size by omega) (.int .i64 ku)).far (p := ⟨w1.heap.size, 2, none⟩) (show w2.heap.size ≠ w1.heap.size by omega) (.int .i64 au)).far (p := ⟨w1.heap.size, 3, none⟩) (show w2.heap.size ≠ w1.heap.size by omega) (.int .i64 xu)).far (p := ⟨w1.heap.size, 4, none⟩) (show w2.heap.size ≠ w1.heap.size by omega) (.int .i64 yu)).far (p := ⟨w1.heap.size, 5, none⟩) (show w2.heap.size ≠ w1.heap.size by omega) (.int .i64 zu)).far (p := ⟨w1.heap.size, 6, none⟩) (show w2.heap.size ≠ w1.heap.size by omega) (.int .i64 lou)).far (p := ⟨w1.heap.size, 7, none⟩) (show w2.heap.size ≠ w1.heap.size by omega) (.int .i64 hiu)).far (p := ⟨w1.heap.size, 8, none⟩) (show w2.heap.size ≠ w1.heap.size by omega) (.slice fp44 fl44 fc44))
  replace U42 := ((((((((((U42.alloc (.cells #[.string nu, .int .i64 ku, .int .i64 au, .int .i64 xu, .int .i64 yu, .int .i64 zu, .int .i64 lou, .int .i64 hiu, .slice fp44 fl44 fc44] 28 (0, 0))).far (p := ⟨w1.heap.size, 0, none⟩) (show w1.heap.size < (w3.heap.size) by omega) (.string nu)).far (p := ⟨w1.heap.size, 1, none⟩) (show w1.heap.size < (w3.heap.size) by omega) (.int .i64 ku)).far (p := ⟨w1.heap.size, 2, none⟩) (show w1.heap.size < (w3.heap.size) by omega) (.int .i64 au)).far (p := ⟨w1.heap.size, 3, none⟩) (show w1.heap.size < (w3.heap.size) by omega) (.int .i64 xu)).far (p := ⟨w1.heap.size, 4, none⟩) (show w1.heap.size < (w3.heap.size) by omega) (.int .i64 yu)).far (p := ⟨w1.heap.size, 5, none⟩) (show w1.heap.size < (w3.heap.size) by omega) (.int .i64 zu)).far (p := ⟨w1.heap.size, 6, none⟩) (show w1.heap.size < (w3.heap.size) by omega) (.int .i64 lou)).far (p := ⟨w1.heap.size, 7, none⟩) (show w1.heap.size < (w3.heap.size) by omega) (.int .i64 hiu)).far (p := ⟨w1.heap.size, 8, none⟩) (show w1.heap.size < (w3.heap.size) by omega) (.slice fp44 fl44 fc44))
  replace b5 := ((((((((((b5.alloc (.cells #[.string nu, .int .i64 ku, .int .i64 au, .int .i64 xu, .int .i64 yu, .int .i64 zu, .int .i64 lou, .int .i64 hiu, .slice fp44 fl44 fc44] 28 (0, 0))).far (p := ⟨w1.heap.size, 0, none⟩) (show w4.heap.size ≠ w1.heap.size by omega) (.string nu)).far (p := ⟨w1.heap.size, 1, none⟩) (show w4.heap.size ≠ w1.heap.size by omega) (.int .i64 ku)).far (p := ⟨w1.heap.size, 2, none⟩) (show w4.heap.size ≠ w1.heap.size by omega) (.int .i64 au)).far (p := ⟨w1.heap.size, 3, none⟩) (show w4.heap.size ≠ w1.heap.size by omega) (.int .i64 xu)).far (p := ⟨w1.heap.size, 4, none⟩) (show w4.heap.size ≠ w1.heap.size by omega) (.int .i64 yu)).far (p := ⟨w1.heap.size, 5, none⟩) (show w4.heap.size ≠ w1.heap.size by omega) (.int .i64 zu)).far (p := ⟨w1.heap.size, 6, none⟩) (show w4.heap.size ≠ w1.heap.size by omega) (.int .i64 lou)).far (p := ⟨w1.heap.size, 7, none⟩) (show w4.heap.size ≠ w1.heap.size by omega) (.int .i64 hiu)).far (p := ⟨w1.heap.size, 8, none⟩) (show w4.heap.size ≠ w1.heap.size by omega) (.slice fp44 fl44 fc44))
  replace U43 := ((((((((((U43.alloc (.cells #[.string nu, .int .i64 ku, .int .i64 au, .int .i64 xu, .int .i64 yu, .int .i64 zu, .int .i64 lou, .int .i64 hiu, .slice fp44 fl44 fc44] 28 (0, 0))).far (p := ⟨w1.heap.size, 0, none⟩) (show w1.heap.size < (w5.heap.size) by omega) (.string nu)).far (p := ⟨w1.heap.size, 1, none⟩) (show w1.heap.size < (w5.heap.size) by omega) (.int .i64 ku)).far (p := ⟨w1.heap.size, 2, none⟩) (show w1.heap.size < (w5.heap.size) by omega) (.int .i64 au)).far (p := ⟨w1.heap.size, 3, none⟩) (show w1.heap.size < (w5.heap.size) by omega) (.int .i64 xu)).far (p := ⟨w1.heap.size, 4, none⟩) (show w1.heap.size < (w5.heap.size) by omega) (.int .i64 yu)).far (p := ⟨w1.heap.size, 5, none⟩) (show w1.heap.size < (w5.heap.size) by omega) (.int .i64 zu)).far (p := ⟨w1.heap.size, 6, none⟩) (show w1.heap.size < (w5.heap.size) by omega) (.int .i64 lou)).far (p := ⟨w1.heap.size, 7, none⟩) (show w1.heap.size < (w5.heap.size) by omega) (.int .i64 hiu)).far (p := ⟨w1.heap.size, 8, none⟩) (show w1.heap.size < (w5.heap.size) by omega) (.slice fp44 fl44 fc44))
  replace b6 := ((((((((((b6.alloc (.cells #[.string nu, .int .i64 ku, .int .i64 au, .int .i64 xu, .int .i64 yu, .int .i64 zu, .int .i64 lou, .int .i64 hiu, .slice fp44 fl44 fc44] 28 (0, 0))).far (p := ⟨w1.heap.size, 0, none⟩) (show w6.heap.size ≠ w1.heap.size by omega) (.string nu)).far (p := ⟨w1.heap.size, 1, none⟩) (show w6.heap.size ≠ w1.heap.size by omega) (.int .i64 ku)).far (p := ⟨w1.heap.size, 2, none⟩) (show w6.heap.size ≠ w1.heap.size by omega) (.int .i64 au)).far (p := ⟨w1.heap.size, 3, none⟩) (show w6.heap.size ≠ w1.heap.size by omega) (.int .i64 xu)).far (p := ⟨w1.heap.size, 4, none⟩) (show w6.heap.size ≠ w1.heap.size by omega) (.int .i64 yu)).far (p := ⟨w1.heap.size, 5, none⟩) (show w6.heap.size ≠ w1.heap.size by omega) (.int .i64 zu)).far (p := ⟨w1.heap.size, 6, none⟩) (show w6.heap.size ≠ w1.heap.size by omega) (.int .i64 lou)).far (p := ⟨w1.heap.size, 7, none⟩) (show w6.heap.size ≠ w1.heap.size by omega) (.int .i64 hiu)).far (p := ⟨w1.heap.size, 8, none⟩) (show w6.heap.size ≠ w1.heap.size by omega) (.slice fp44 fl44 fc44))
  replace U44 := ((((((((((U44.alloc (.cells #[.string nu, .int .i64 ku, .int .i64 au, .int .i64 xu, .int .i64 yu, .int .i64 zu, .int .i64 lou, .int .i64 hiu, .slice fp44 fl44 fc44] 28 (0, 0))).far (p := ⟨w1.heap.size, 0, none⟩) (show w1.heap.size < (w7.heap.size) by omega) (.string nu)).far (p := ⟨w1.heap.size, 1, none⟩) (show w1.heap.size < (w7.heap.size) by omega) (.int .i64 ku)).far (p := ⟨w1.heap.size, 2, none⟩) (show w1.heap.size < (w7.heap.size) by omega) (.int .i64 au)).far (p := ⟨w1.heap.size, 3, none⟩) (show w1.heap.size < (w7.heap.size) by omega) (.int .i64 xu)).far (p := ⟨w1.heap.size, 4, none⟩) (show w1.heap.size < (w7.heap.size) by omega) (.int .i64 yu)).far (p := ⟨w1.heap.size, 5, none⟩) (show w1.heap.size < (w7.heap.size) by omega) (.int .i64 zu)).far (p := ⟨w1.heap.size, 6, none⟩) (show w1.heap.size < (w7.heap.size) by omega) (.int .i64 lou)).far (p := ⟨w1.heap.size, 7, none⟩) (show w1.heap.size < (w7.heap.size) by omega) (.int .i64 hiu)).far (p := ⟨w1.heap.size, 8, none⟩) (show w1.heap.size < (w7.heap.size) by omega) (.slice fp44 fl44 fc44))
  have b7 := Is.made w8 #[.string nu, .int .i64 ku, .int .i64 au, .int .i64 xu, .int .i64 yu, .int .i64 zu, .int .i64 lou, .int .i64 hiu, .slice fp44 fl44 fc44] 28
  replace b7 := (((((((((b7.far (p := ⟨w1.heap.size, 0, none⟩) (show w8.heap.size ≠ w1.heap.size by omega) (.string nu)).far (p := ⟨w1.heap.size, 1, none⟩) (show w8.heap.size ≠ w1.heap.size by omega) (.int .i64 ku)).far (p := ⟨w1.heap.size, 2, none⟩) (show w8.heap.size ≠ w1.heap.size by omega) (.int .i64 au)).far (p := ⟨w1.heap.size, 3, none⟩) (show w8.heap.size ≠ w1.heap.size by omega) (.int .i64 xu)).far (p := ⟨w1.heap.size, 4, none⟩) (show w8.heap.size ≠ w1.heap.size by omega) (.int .i64 yu)).far (p := ⟨w1.heap.size, 5, none⟩) (show w8.heap.size ≠ w1.heap.size by omega) (.int .i64 zu)).far (p := ⟨w1.heap.size, 6, none⟩) (show w8.heap.size ≠ w1.heap.size by omega) (.int .i64 lou)).far (p := ⟨w1.heap.size, 7, none⟩) (show w8.heap.size ≠ w1.heap.size by omega) (.int .i64 hiu)).far (p := ⟨w1.heap.size, 8, none⟩) (show w8.heap.size ≠ w1.heap.size by omega) (.slice fp44 fl44 fc44))
  replace kx := (((((((((kx.alloc (.cells #[.string nu, .int .i64 ku, .int .i64 au, .int .i64 xu, .int .i64 yu, .int .i64 zu, .int .i64 lou, .int .i64 hiu, .slice fp44 fl44 fc44] 28 (0, 0))).setCell (p := ⟨w1.heap.size, 0, none⟩) (show w.heap.size ≤ w1.heap.size by omega) (.string nu)).setCell (p := ⟨w1.heap.size, 1, none⟩) (show w.heap.size ≤ w1.heap.size by omega) (.int .i64 ku)).setCell (p := ⟨w1.heap.size, 2, none⟩) (show w.heap.size ≤ w1.heap.size by omega) (.int .i64 au)).setCell (p := ⟨w1.heap.size, 3, none⟩) (show w.heap.size ≤ w1.heap.size by omega) (.int .i64 xu)).setCell (p := ⟨w1.heap.size, 4, none⟩) (show w.heap.size ≤ w1.heap.size by omega) (.int .i64 yu)).setCell (p := ⟨w1.heap.size, 5, none⟩) (show w.heap.size ≤ w1.heap.size by omega) (.int .i64 zu)).setCell (p := ⟨w1.heap.size, 6, none⟩) (show w.heap.size ≤ w1.heap.size by omega) (.int .i64 lou)).setCell (p := ⟨w1.heap.size, 7, none⟩) (show w.heap.size ≤ w1.heap.size by omega) (.int .i64 hiu)).setCell (p := ⟨w1.heap.size, 8, none⟩) (show w.heap.size ≤ w1.heap.size by omega) (.slice fp44 fl44 fc44)
  clear j146 j156
  replace da := da0.out.kb kx
  replace gl := gl0.out.kb kx
  have s9 : w8.heap.size + 1 ≤ ((((((((((w8.alloc (.cells #[.string nu, .int .i64 ku, .int .i64 au, .int .i64 xu, .int .i64 yu, .int .i64 zu, .int .i64 lou, .int .i64 hiu, .slice fp44 fl44 fc44] 28 (0, 0))).setCell ⟨w1.heap.size, 0, none⟩ (.string nu)).setCell ⟨w1.heap.size, 1, none⟩ (.int .i64 ku)).setCell ⟨w1.heap.size, 2, none⟩ (.int .i64 au)).setCell ⟨w1.heap.size, 3, none⟩ (.int .i64 xu)).setCell ⟨w1.heap.size, 4, none⟩ (.int .i64 yu)).setCell ⟨w1.heap.size, 5, none⟩ (.int .i64 zu)).setCell ⟨w1.heap.size, 6, none⟩ (.int .i64 lou)).setCell ⟨w1.heap.size, 7, none⟩ (.int .i64 hiu)).setCell ⟨w1.heap.size, 8, none⟩ (.slice fp44 fl44 fc44)).heap.size := by simp only [World.size_alloc, World.size_setCell]; exact Nat.le_refl _
  generalize ((((((((((w8.alloc (.cells #[.string nu, .int .i64 ku, .int .i64 au, .int .i64 xu, .int .i64 yu, .int .i64 zu, .int .i64 lou, .int .i64 hiu, .slice fp44 fl44 fc44] 28 (0, 0))).setCell ⟨w1.heap.size, 0, none⟩ (.string nu)).setCell ⟨w1.heap.size, 1, none⟩ (.int .i64 ku)).setCell ⟨w1.heap.size, 2, none⟩ (.int .i64 au)).setCell ⟨w1.heap.size, 3, none⟩ (.int .i64 xu)).setCell ⟨w1.heap.size, 4, none⟩ (.int .i64 yu)).setCell ⟨w1.heap.size, 5, none⟩ (.int .i64 zu)).setCell ⟨w1.heap.size, 6, none⟩ (.int .i64 lou)).setCell ⟨w1.heap.size, 7, none⟩ (.int .i64 hiu)).setCell ⟨w1.heap.size, 8, none⟩ (.slice fp44 fl44 fc44)) = w9 at *
  rw [rounds_succ]
  have f175 := b1.c (i := 0) rfl
  have f176 := b1.c (i := 1) rfl
  have f177 := b1.c (i := 2) rfl
  have f178 := b1.c (i := 3) rfl
  have f179 := b1.c (i := 4) rfl
  have f180 := b1.c (i := 5) rfl
  have f181 := b1.c (i := 6) rfl
  have f182 := b1.c (i := 7) rfl
  have f183 := b1.c (i := 8) rfl
  go_wp2_with fail
  clear f175 f176 f177 f178 f179 f180 f181 f182 f183
  (with_reducible refine (qM1.out _ _ _ _ da).mono ?_)
  rintro r w10 ⟨fp45, fl45, fc45, rfl, U45, k10⟩
  replace da := da.kb k10
  replace gl := gl.kb k10
  replace b1 := b1.kb k10
  replace b2 := b2.kb k10
  replace b3 := b3.kb k10
  replace U41 := U41.kb k10
  replace b4 := b4.kb k10
  replace U42 := U42.kb k10
  replace b5 := b5.kb k10
  replace U43 := U43.kb k10
  replace b6 := b6.kb k10
  replace U44 := U44.kb k10
  replace b7 := b7.kb k10
  replace kx := kx.trans k10
  have s10 := k10.size
  skip
  clear k10
  try simp only [World.size_alloc, World.size_setCell] at U45
  have j184 := (Is.made w10 #[.string nu, .int .i64 ku, .int .i64 au, .int .i64 tx21, .int .i64 ty21, .int .i64 tz21, .int .i64 lou, .int .i64 hiu, .slice fp45 fl45 fc45] 28)
  have f185 := j184.c (i := 0) rfl
  have f186 := j184.c (i := 1) rfl
  have f187 := j184.c (i := 2) rfl
  have f188 := j184.c (i := 3) rfl
  have f189 := j184.c (i := 4) rfl
  have f190 := j184.c (i := 5) rfl
  have f191 := j184.c (i := 6) rfl
  have f192 := j184.c (i := 7) rfl
  have f193 := j184.c (i := 8) rfl
  go_wp2_with fail
  clear f185 f186 f187 f188 f189 f190 f191 f192 f193
  replace b1 := (b1.alloc (.cells #[.string nu, .int .i64 ku, .int .i64 au, .int .i64 tx21, .int .i64 ty21, .int .i64 tz21, .int .i64 lou, .int .i64 hiu, .slice fp45 fl45 fc45] 28 (0, 0)))
  replace b2 := (b2.alloc (.cells #[.string nu, .int .i64 ku, .int .i64 au, .int .i64 tx21, .int .i64 ty21, .int .i64 tz21, .int .i64 lou, .int .i64 hiu, .slice fp45 fl45 fc45] 28 (0, 0)))
  replace b3 := (b3.alloc (.cells #[.string nu, .int .i64 ku, .int .i64 au, .int .i64 tx21, .int .i64 ty21, .int .i64 tz21, .int .i64 lou, .int .i64 hiu, .slice fp45 fl45 fc45] 28 (0, 0)))
  replace U41 := (U41.alloc (.cells #[.string nu, .int .i64 ku, .int .i64 au, .int .i64 tx21, .int .i64 ty21, .int .i64 tz21, .int .i64 lou, .int .i64 hiu, .slice fp45 fl45 fc45] 28 (0, 0)))
  replace b4 := (b4.alloc (.cells #[.string nu, .int .i64 ku, .int .i64 au, .int .i64 tx21, .int .i64 ty21, .int .i64 tz21, .int .i64 lou, .int .i64 hiu, .slice fp45 fl45 fc45] 28 (0, 0)))
  replace U42 := (U42.alloc (.cells #[.string nu, .int .i64 ku, .int .i64 au, .int .i64 tx21, .int .i64 ty21, .int .i64 tz21, .int .i64 lou, .int .i64 hiu, .slice fp45 fl45 fc45] 28 (0, 0)))
  replace b5 := (b5.alloc (.cells #[.string nu, .int .i64 ku, .int .i64 au, .int .i64 tx21, .int .i64 ty21, .int .i64 tz21, .int .i64 lou, .int .i64 hiu, .slice fp45 fl45 fc45] 28 (0, 0)))
  replace U43 := (U43.alloc (.cells #[.string nu, .int .i64 ku, .int .i64 au, .int .i64 tx21, .int .i64 ty21, .int .i64 tz21, .int .i64 lou, .int .i64 hiu, .slice fp45 fl45 fc45] 28 (0, 0)))
  replace b6 := (b6.alloc (.cells #[.string nu, .int .i64 ku, .int .i64 au, .int .i64 tx21, .int .i64 ty21, .int .i64 tz21, .int .i64 lou, .int .i64 hiu, .slice fp45 fl45 fc45] 28 (0, 0)))
  replace U44 := (U44.alloc (.cells #[.string nu, .int .i64 ku, .int .i64 au, .int .i64 tx21, .int .i64 ty21, .int .i64 tz21, .int .i64 lou, .int .i64 hiu, .slice fp45 fl45 fc45] 28 (0, 0)))
  replace b7 := (b7.alloc (.cells #[.string nu, .int .i64 ku, .int .i64 au, .int .i64 tx21, .int .i64 ty21, .int .i64 tz21, .int .i64 lou, .int .i64 hiu, .slice fp45 fl45 fc45] 28 (0, 0)))
  replace U45 := (U45.alloc (.cells #[.string nu, .int .i64 ku, .int .i64 au, .int .i64 tx21, .int .i64 ty21, .int .i64 tz21, .int .i64 lou, .int .i64 hiu, .slice fp45 fl45 fc45] 28 (0, 0)))
  have b8 := j184
  replace kx := kx.alloc (.cells #[.string nu, .int .i64 ku, .int .i64 au, .int .i64 tx21, .int .i64 ty21, .int .i64 tz21, .int .i64 lou, .int .i64 hiu, .slice fp45 fl45 fc45] 28 (0, 0))
  clear j184
  replace da := da0.out.kb kx
  replace gl := gl0.out.kb kx
  (with_reducible refine (qM2.out _ _ _ _ U45.frs).mono ?_)
  rintro r w11 ⟨fp46, fl46, fc46, rfl, U46, k11⟩
  replace da := da.kb k11
  replace gl := gl.kb k11
  replace b1 := b1.kb k11
  replace b2 := b2.kb k11
  replace b3 := b3.kb k11
  replace U41 := U41.kb k11
  replace b4 := b4.kb k11
  replace U42 := U42.kb k11
  replace b5 := b5.kb k11
  replace U43 := U43.kb k11
  replace b6 := b6.kb k11
  replace U44 := U44.kb k11
  replace b7 := b7.kb k11
  replace U45 := U45.kb k11
  replace b8 := b8.kb k11
  replace kx := kx.trans k11
  have s11 := k11.size
  simp only [World.size_alloc] at s11
  clear k11
  try simp only [World.size_alloc, World.size_setCell] at U46
  have j194 := (b3.alloc (.cells #[.string nu, .int .i64 ku, .int .i64 au, .int .i64 xu, .int .i64 yu, .int .i64 zu, .int .i64 lou, .int .i64 hiu, .slice fp46 fl46 fc46] 28 (0, 0)))
  have f195 := j194.c (i := 0) rfl
  have f196 := j194.c (i := 1) rfl
  have f197 := j194.c (i := 2) rfl
  have f198 := j194.c (i := 3) rfl
  have f199 := j194.c (i := 4) rfl
  have f200 := j194.c (i := 5) rfl
  have f201 := j194.c (i := 6) rfl
  have f202 := j194.c (i := 7) rfl
  have f203 := j194.c (i := 8) rfl
  have j204 := (b1.alloc (.cells #[.string nu, .int .i64 ku, .int .i64 au, .int .i64 xu, .int .i64 yu, .int .i64 zu, .int .i64 lou, .int .i64 hiu, .slice fp46 fl46 fc46] 28 (0, 0)))
  have f205 := j204.c (i := 0) rfl
  have f206 := j204.c (i := 1) rfl
  have f207 := j204.c (i := 2) rfl
  have f208 := j204.c (i := 3) rfl
  have f209 := j204.c (i := 4) rfl
  have f210 := j204.c (i := 5) rfl
  have f211 := j204.c (i := 6) rfl
  have f212 := j204.c (i := 7) rfl
  have f213 := j204.c (i := 8) rfl
  go_wp2_with fail
  clear f195 f196 f197 f198 f199 f200 f201 f202 f203 f205 f206 f207 f208 f209 f210 f211 f212 f213
  replace b1 := j204
  replace b2 := (b2.alloc (.cells #[.string nu, .int .i64 ku, .int .i64 au, .int .i64 xu, .int .i64 yu, .int .i64 zu, .int .i64 lou, .int .i64 hiu, .slice fp46 fl46 fc46] 28 (0, 0)))
  replace b3 := j194
  replace U41 := (U41.alloc (.cells #[.string nu, .int .i64 ku, .int .i64 au, .int .i64 xu, .int .i64 yu, .int .i64 zu, .int .i64 lou, .int .i64 hiu, .slice fp46 fl46 fc46] 28 (0, 0)))
  replace b4 := (b4.alloc (.cells #[.string nu, .int .i64 ku, .int .i64 au, .int .i64 xu, .int .i64 yu, .int .i64 zu, .int .i64 lou, .int .i64 hiu, .slice fp46 fl46 fc46] 28 (0, 0)))
  replace U42 := (U42.alloc (.cells #[.string nu, .int .i64 ku, .int .i64 au, .int .i64 xu, .int .i64 yu, .int .i64 zu, .int .i64 lou, .int .i64 hiu, .slice fp46 fl46 fc46] 28 (0, 0)))
  replace b5 := (b5.alloc (.cells #[.string nu, .int .i64 ku, .int .i64 au, .int .i64 xu, .int .i64 yu, .int .i64 zu, .int .i64 lou, .int .i64 hiu, .slice fp46 fl46 fc46] 28 (0, 0)))
  replace U43 := (U43.alloc (.cells #[.string nu, .int .i64 ku, .int .i64 au, .int .i64 xu, .int .i64 yu, .int .i64 zu, .int .i64 lou, .int .i64 hiu, .slice fp46 fl46 fc46] 28 (0, 0)))
  replace b6 := (b6.alloc (.cells #[.string nu, .int .i64 ku, .int .i64 au, .int .i64 xu, .int .i64 yu, .int .i64 zu, .int .i64 lou, .int .i64 hiu, .slice fp46 fl46 fc46] 28 (0, 0)))
  replace U44 := (U44.alloc (.cells #[.string nu, .int .i64 ku, .int .i64 au, .int .i64 xu, .int .i64 yu, .int .i64 zu, .int .i64 lou, .int .i64 hiu, .slice fp46 fl46 fc46] 28 (0, 0)))
  replace b7 := (b7.alloc (.cells #[.string nu, .int .i64 ku, .int .i64 au, .int .i64 xu, .int .i64 yu, .int .i64 zu, .int .i64 lou, .int .i64 hiu, .slice fp46 fl46 fc46] 28 (0, 0)))
  replace U45 := (U45.alloc (.cells #[.string nu, .int .i64 ku, .int .i64 au, .int .i64 xu, .int .i64 yu, .int .i64 zu, .int .i64 lou, .int .i64 hiu, .slice fp46 fl46 fc46] 28 (0, 0)))
  replace b8 := (b8.alloc (.cells #[.string nu, .int .i64 ku, .int .i64 au, .int .i64 xu, .int .i64 yu, .int .i64 zu, .int .i64 lou, .int .i64 hiu, .slice fp46 fl46 fc46] 28 (0, 0)))
  replace U46 := (U46.alloc (.cells #[.string nu, .int .i64 ku, .int .i64 au, .int .i64 xu, .int .i64 yu, .int .i64 zu, .int .i64 lou, .int .i64 hiu, .slice fp46 fl46 fc46] 28 (0, 0)))
  have b9 := Is.made w11 #[.string nu, .int .i64 ku, .int .i64 au, .int .i64 xu, .int .i64 yu, .int .i64 zu, .int .i64 lou, .int .i64 hiu, .slice fp46 fl46 fc46] 28
  replace kx := kx.alloc (.cells #[.string nu, .int .i64 ku, .int .i64 au, .int .i64 xu, .int .i64 yu, .int .i64 zu, .int .i64 lou, .int .i64 hiu, .slice fp46 fl46 fc46] 28 (0, 0))
  clear j194 j204
  replace da := da0.out.kb kx
  replace gl := gl0.out.kb kx
  (with_reducible refine (rSelf nu ku au xu yu zu lou hiu _ _ _ _ _ _ fs sS _ U44.frs da).mono ?_)
  rintro r w12 ⟨rfl, k12⟩
  replace da := da.kb k12
  replace gl := gl.kb k12
  replace b1 := b1.kb k12
  replace b2 := b2.kb k12
  replace b3 := b3.kb k12
  replace U41 := U41.kb k12
  replace b4 := b4.kb k12
  replace U42 := U42.kb k12
  replace b5 := b5.kb k12
  replace U43 := U43.kb k12
  replace b6 := b6.kb k12
  replace U44 := U44.kb k12
  replace b7 := b7.kb k12
  replace U45 := U45.kb k12
  replace b8 := b8.kb k12
  replace U46 := U46.kb k12
  replace b9 := b9.kb k12
  replace kx := kx.trans k12
  have s12 := k12.size
  simp only [World.size_alloc] at s12
  clear k12
  have f214 := b9.c (i := 0) rfl
  have f215 := b9.c (i := 1) rfl
  have f216 := b9.c (i := 2) rfl
  have f217 := b9.c (i := 3) rfl
  have f218 := b9.c (i := 4) rfl
  have f219 := b9.c (i := 5) rfl
  have f220 := b9.c (i := 6) rfl
  have f221 := b9.c (i := 7) rfl
  have f222 := b9.c (i := 8) rfl
  have f223 := b1.c (i := 0) rfl
  have f224 := b1.c (i := 1) rfl
  have f225 := b1.c (i := 2) rfl
  have f226 := b1.c (i := 3) rfl
  have f227 := b1.c (i := 4) rfl
  have f228 := b1.c (i := 5) rfl
  have f229 := b1.c (i := 6) rfl
  have f230 := b1.c (i := 7) rfl
  have f231 := b1.c (i := 8) rfl
  go_wp2_with fail
  clear f214 f215 f216 f217 f218 f219 f220 f221 f222 f223 f224 f225 f226 f227 f228 f229 f230 f231
  (with_reducible refine (rSelf nu ku au xu yu zu lou hiu _ _ _ _ _ _ fs sS _ U46.frs da).mono ?_)
  rintro r w13 ⟨rfl, k13⟩
  replace da := da.kb k13
  replace gl := gl.kb k13
  replace b1 := b1.kb k13
  replace b2 := b2.kb k13
  replace b3 := b3.kb k13
  replace U41 := U41.kb k13
  replace b4 := b4.kb k13
  replace U42 := U42.kb k13
  replace b5 := b5.kb k13
  replace U43 := U43.kb k13
  replace b6 := b6.kb k13
  replace U44 := U44.kb k13
  replace b7 := b7.kb k13
  replace U45 := U45.kb k13
  replace b8 := b8.kb k13
  replace U46 := U46.kb k13
  replace b9 := b9.kb k13
  replace kx := kx.trans k13
  have s13 := k13.size
  skip
  clear k13
  have f232 := b1.c (i := 0) rfl
  have f233 := b1.c (i := 1) rfl
  have f234 := b1.c (i := 2) rfl
  have f235 := b1.c (i := 3) rfl
  have f236 := b1.c (i := 4) rfl
  have f237 := b1.c (i := 5) rfl
  have f238 := b1.c (i := 6) rfl
  have f239 := b1.c (i := 7) rfl
  have f240 := b1.c (i := 8) rfl
  have f241 := b2.c (i := 0) rfl
  have f242 := b2.c (i := 1) rfl
  have f243 := b2.c (i := 2) rfl
  go_wp2_with fail
  clear f232 f233 f234 f235 f236 f237 f238 f239 f240 f241 f242 f243
  (with_reducible refine (qV1.out _ _ _ _ da).mono ?_)
  rintro r w14 ⟨fp47, fl47, fc47, rfl, U47, k14⟩
  replace da := da.kb k14
  replace gl := gl.kb k14
  replace b1 := b1.kb k14
  replace b2 := b2.kb k14
  replace b3 := b3.kb k14
  replace U41 := U41.kb k14
  replace b4 := b4.kb k14
  replace U42 := U42.kb k14
  replace b5 := b5.kb k14
  replace U43 := U43.kb k14
  replace b6 := b6.kb k14
  replace U44 := U44.kb k14
  replace b7 := b7.kb k14
  replace U45 := U45.kb k14
  replace b8 := b8.kb k14
  replace U46 := U46.kb k14
  replace b9 := b9.kb k14
  replace kx := kx.trans k14
  have s14 := k14.size
  skip
  clear k14
  try simp only [World.size_alloc, World.size_setCell] at U47
  have y256 : wrap64 (-du) = ndu := e1
  have y256' : IntKind.i64.wrap (-du) = ndu := (Go.IntWalk.i64_left _).trans y256
  have y258 : wrap64 (-dv) = ndv := e2
  have y258' : IntKind.i64.wrap (-dv) = ndv := (Go.IntWalk.i64_left _).trans y258
  have y260 : wrap64 (-dw) = ndw := e3
  have y260' : IntKind.i64.wrap (-dw) = ndw := (Go.IntWalk.i64_left _).trans y260
  have j244 := (Is.made w14 #[.string nu, .int .i64 ku, .int .i64 au, .int .i64 tx31, .int .i64 ty31, .int .i64 tz31, .int .i64 lou, .int .i64 hiu, .slice fp47 fl47 fc47] 28)
  have f245 := j244.c (i := 0) rfl
  have f246 := j244.c (i := 1) rfl
  have f247 := j244.c (i := 2) rfl
  have f248 := j244.c (i := 3) rfl
  have f249 := j244.c (i := 4) rfl
  have f250 := j244.c (i := 5) rfl
  have f251 := j244.c (i := 6) rfl
  have f252 := j244.c (i := 7) rfl
  have f253 := j244.c (i := 8) rfl
  have j254 := (b2.alloc (.cells #[.string nu, .int .i64 ku, .int .i64 au, .int .i64 tx31, .int .i64 ty31, .int .i64 tz31, .int .i64 lou, .int .i64 hiu, .slice fp47 fl47 fc47] 28 (0, 0)))
  have f255 := j254.c (i := 0) rfl
  have f257 := j254.c (i := 1) rfl
  have f259 := j254.c (i := 2) rfl
  go_wp2_with fail
  clear f245 f246 f247 f248 f249 f250 f251 f252 f253 f255 f257 f259
  replace b1 := (b1.alloc (.cells #[.string nu, .int .i64 ku, .int .i64 au, .int .i64 tx31, .int .i64 ty31, .int .i64 tz31, .int .i64 lou, .int .i64 hiu, .slice fp47 fl47 fc47] 28 (0, 0)))
  replace b2 := j254
  replace b3 := (b3.alloc (.cells #[.string nu, .int .i64 ku, .int .i64 au, .int .i64 tx31, .int .i64 ty31, .int .i64 tz31, .int .i64 lou, .int .i64 hiu, .slice fp47 fl47 fc47] 28 (0, 0)))
  replace U41 := (U41.alloc (.cells #[.string nu, .int .i64 ku, .int .i64 au, .int .i64 tx31, .int .i64 ty31, .int .i64 tz31, .int .i64 lou, .int .i64 hiu, .slice fp47 fl47 fc47] 28 (0, 0)))
  replace b4 := (b4.alloc (.cells #[.string nu, .int .i64 ku, .int .i64 au, .int .i64 tx31, .int .i64 ty31, .int .i64 tz31, .int .i64 lou, .int .i64 hiu, .slice fp47 fl47 fc47] 28 (0, 0)))
  replace U42 := (U42.alloc (.cells #[.string nu, .int .i64 ku, .int .i64 au, .int .i64 tx31, .int .i64 ty31, .int .i64 tz31, .int .i64 lou, .int .i64 hiu, .slice fp47 fl47 fc47] 28 (0, 0)))
  replace b5 := (b5.alloc (.cells #[.string nu, .int .i64 ku, .int .i64 au, .int .i64 tx31, .int .i64 ty31, .int .i64 tz31, .int .i64 lou, .int .i64 hiu, .slice fp47 fl47 fc47] 28 (0, 0)))
  replace U43 := (U43.alloc (.cells #[.string nu, .int .i64 ku, .int .i64 au, .int .i64 tx31, .int .i64 ty31, .int .i64 tz31, .int .i64 lou, .int .i64 hiu, .slice fp47 fl47 fc47] 28 (0, 0)))
  replace b6 := (b6.alloc (.cells #[.string nu, .int .i64 ku, .int .i64 au, .int .i64 tx31, .int .i64 ty31, .int .i64 tz31, .int .i64 lou, .int .i64 hiu, .slice fp47 fl47 fc47] 28 (0, 0)))
  replace U44 := (U44.alloc (.cells #[.string nu, .int .i64 ku, .int .i64 au, .int .i64 tx31, .int .i64 ty31, .int .i64 tz31, .int .i64 lou, .int .i64 hiu, .slice fp47 fl47 fc47] 28 (0, 0)))
  replace b7 := (b7.alloc (.cells #[.string nu, .int .i64 ku, .int .i64 au, .int .i64 tx31, .int .i64 ty31, .int .i64 tz31, .int .i64 lou, .int .i64 hiu, .slice fp47 fl47 fc47] 28 (0, 0)))
  replace U45 := (U45.alloc (.cells #[.string nu, .int .i64 ku, .int .i64 au, .int .i64 tx31, .int .i64 ty31, .int .i64 tz31, .int .i64 lou, .int .i64 hiu, .slice fp47 fl47 fc47] 28 (0, 0)))
  replace b8 := (b8.alloc (.cells #[.string nu, .int .i64 ku, .int .i64 au, .int .i64 tx31, .int .i64 ty31, .int .i64 tz31, .int .i64 lou, .int .i64 hiu, .slice fp47 fl47 fc47] 28 (0, 0)))
  replace U46 := (U46.alloc (.cells #[.string nu, .int .i64 ku, .int .i64 au, .int .i64 tx31, .int .i64 ty31, .int .i64 tz31, .int .i64 lou, .int .i64 hiu, .slice fp47 fl47 fc47] 28 (0, 0)))
  replace b9 := (b9.alloc (.cells #[.string nu, .int .i64 ku, .int .i64 au, .int .i64 tx31, .int .i64 ty31, .int .i64 tz31, .int .i64 lou, .int .i64 hiu, .slice fp47 fl47 fc47] 28 (0, 0)))
  replace U47 := (U47.alloc (.cells #[.string nu, .int .i64 ku, .int .i64 au, .int .i64 tx31, .int .i64 ty31, .int .i64 tz31, .int .i64 lou, .int .i64 hiu, .slice fp47 fl47 fc47] 28 (0, 0)))
  have b10 := j244
  replace kx := kx.alloc (.cells #[.string nu, .int .i64 ku, .int .i64 au, .int .i64 tx31, .int .i64 ty31, .int .i64 tz31, .int .i64 lou, .int .i64 hiu, .slice fp47 fl47 fc47] 28 (0, 0))
  clear j244 j254
  replace da := da0.out.kb kx
  replace gl := gl0.out.kb kx
  (with_reducible refine (qV2.out _ _ _ _ U47.frs).mono ?_)
  rintro r w15 ⟨fp48, fl48, fc48, rfl, U48, k15⟩
  replace da := da.kb k15
  replace gl := gl.kb k15
  replace b1 := b1.kb k15
  replace b2 := b2.kb k15
  replace b3 := b3.kb k15
  replace U41 := U41.kb k15
  replace b4 := b4.kb k15
  replace U42 := U42.kb k15
  replace b5 := b5.kb k15
  replace U43 := U43.kb k15
  replace b6 := b6.kb k15
  replace U44 := U44.kb k15
  replace b7 := b7.kb k15
  replace U45 := U45.kb k15
  replace b8 := b8.kb k15
  replace U46 := U46.kb k15
  replace b9 := b9.kb k15
  replace U47 := U47.kb k15
  replace b10 := b10.kb k15
  replace kx := kx.trans k15
  have s15 := k15.size
  simp only [World.size_alloc] at s15
  clear k15
  try simp only [World.size_alloc, World.size_setCell] at U48
  have j261 := (Is.made w15 #[.string nu, .int .i64 ku, .int .i64 au, .int .i64 xu, .int .i64 yu, .int .i64 zu, .int .i64 lou, .int .i64 hiu, .slice fp48 fl48 fc48] 28)
  have f262 := j261.c (i := 0) rfl
  have f263 := j261.c (i := 1) rfl
  have f264 := j261.c (i := 2) rfl
  have f265 := j261.c (i := 3) rfl
  have f266 := j261.c (i := 4) rfl
  have f267 := j261.c (i := 5) rfl
  have f268 := j261.c (i := 6) rfl
  have f269 := j261.c (i := 7) rfl
  have f270 := j261.c (i := 8) rfl
  have j271 := (b1.alloc (.cells #[.string nu, .int .i64 ku, .int .i64 au, .int .i64 xu, .int .i64 yu, .int .i64 zu, .int .i64 lou, .int .i64 hiu, .slice fp48 fl48 fc48] 28 (0, 0)))
  have f272 := j271.c (i := 0) rfl
  have f273 := j271.c (i := 1) rfl
  have f274 := j271.c (i := 2) rfl
  have f275 := j271.c (i := 3) rfl
  have f276 := j271.c (i := 4) rfl
  have f277 := j271.c (i := 5) rfl
  have f278 := j271.c (i := 6) rfl
  have f279 := j271.c (i := 7) rfl
  have f280 := j271.c (i := 8) rfl
  go_wp2_with fail
  clear f262 f263 f264 f265 f266 f267 f268 f269 f270 f272 f273 f274 f275 f276 f277 f278 f279 f280
  replace b1 := j271
  replace b2 := (b2.alloc (.cells #[.string nu, .int .i64 ku, .int .i64 au, .int .i64 xu, .int .i64 yu, .int .i64 zu, .int .i64 lou, .int .i64 hiu, .slice fp48 fl48 fc48] 28 (0, 0)))
  replace b3 := (b3.alloc (.cells #[.string nu, .int .i64 ku, .int .i64 au, .int .i64 xu, .int .i64 yu, .int .i64 zu, .int .i64 lou, .int .i64 hiu, .slice fp48 fl48 fc48] 28 (0, 0)))
  replace U41 := (U41.alloc (.cells #[.string nu, .int .i64 ku, .int .i64 au, .int .i64 xu, .int .i64 yu, .int .i64 zu, .int .i64 lou, .int .i64 hiu, .slice fp48 fl48 fc48] 28 (0, 0)))
  replace b4 := (b4.alloc (.cells #[.string nu, .int .i64 ku, .int .i64 au, .int .i64 xu, .int .i64 yu, .int .i64 zu, .int .i64 lou, .int .i64 hiu, .slice fp48 fl48 fc48] 28 (0, 0)))
  replace U42 := (U42.alloc (.cells #[.string nu, .int .i64 ku, .int .i64 au, .int .i64 xu, .int .i64 yu, .int .i64 zu, .int .i64 lou, .int .i64 hiu, .slice fp48 fl48 fc48] 28 (0, 0)))
  replace b5 := (b5.alloc (.cells #[.string nu, .int .i64 ku, .int .i64 au, .int .i64 xu, .int .i64 yu, .int .i64 zu, .int .i64 lou, .int .i64 hiu, .slice fp48 fl48 fc48] 28 (0, 0)))
  replace U43 := (U43.alloc (.cells #[.string nu, .int .i64 ku, .int .i64 au, .int .i64 xu, .int .i64 yu, .int .i64 zu, .int .i64 lou, .int .i64 hiu, .slice fp48 fl48 fc48] 28 (0, 0)))
  replace b6 := (b6.alloc (.cells #[.string nu, .int .i64 ku, .int .i64 au, .int .i64 xu, .int .i64 yu, .int .i64 zu, .int .i64 lou, .int .i64 hiu, .slice fp48 fl48 fc48] 28 (0, 0)))
  replace U44 := (U44.alloc (.cells #[.string nu, .int .i64 ku, .int .i64 au, .int .i64 xu, .int .i64 yu, .int .i64 zu, .int .i64 lou, .int .i64 hiu, .slice fp48 fl48 fc48] 28 (0, 0)))
  replace b7 := (b7.alloc (.cells #[.string nu, .int .i64 ku, .int .i64 au, .int .i64 xu, .int .i64 yu, .int .i64 zu, .int .i64 lou, .int .i64 hiu, .slice fp48 fl48 fc48] 28 (0, 0)))
  replace U45 := (U45.alloc (.cells #[.string nu, .int .i64 ku, .int .i64 au, .int .i64 xu, .int .i64 yu, .int .i64 zu, .int .i64 lou, .int .i64 hiu, .slice fp48 fl48 fc48] 28 (0, 0)))
  replace b8 := (b8.alloc (.cells #[.string nu, .int .i64 ku, .int .i64 au, .int .i64 xu, .int .i64 yu, .int .i64 zu, .int .i64 lou, .int .i64 hiu, .slice fp48 fl48 fc48] 28 (0, 0)))
  replace U46 := (U46.alloc (.cells #[.string nu, .int .i64 ku, .int .i64 au, .int .i64 xu, .int .i64 yu, .int .i64 zu, .int .i64 lou, .int .i64 hiu, .slice fp48 fl48 fc48] 28 (0, 0)))
  replace b9 := (b9.alloc (.cells #[.string nu, .int .i64 ku, .int .i64 au, .int .i64 xu, .int .i64 yu, .int .i64 zu, .int .i64 lou, .int .i64 hiu, .slice fp48 fl48 fc48] 28 (0, 0)))
  replace U47 := (U47.alloc (.cells #[.string nu, .int .i64 ku, .int .i64 au, .int .i64 xu, .int .i64 yu, .int .i64 zu, .int .i64 lou, .int .i64 hiu, .slice fp48 fl48 fc48] 28 (0, 0)))
  replace b10 := (b10.alloc (.cells #[.string nu, .int .i64 ku, .int .i64 au, .int .i64 xu, .int .i64 yu, .int .i64 zu, .int .i64 lou, .int .i64 hiu, .slice fp48 fl48 fc48] 28 (0, 0)))
  replace U48 := (U48.alloc (.cells #[.string nu, .int .i64 ku, .int .i64 au, .int .i64 xu, .int .i64 yu, .int .i64 zu, .int .i64 lou, .int .i64 hiu, .slice fp48 fl48 fc48] 28 (0, 0)))
  have b11 := j261
  replace kx := kx.alloc (.cells #[.string nu, .int .i64 ku, .int .i64 au, .int .i64 xu, .int .i64 yu, .int .i64 zu, .int .i64 lou, .int .i64 hiu, .slice fp48 fl48 fc48] 28 (0, 0))
  clear j261 j271
  replace da := da0.out.kb kx
  replace gl := gl0.out.kb kx
  (with_reducible refine (rSelf nu ku au xu yu zu lou hiu _ _ _ _ _ _ fs sS _ U48.frs da).mono ?_)
  rintro r w16 ⟨rfl, k16⟩
  replace da := da.kb k16
  replace gl := gl.kb k16
  replace b1 := b1.kb k16
  replace b2 := b2.kb k16
  replace b3 := b3.kb k16
  replace U41 := U41.kb k16
  replace b4 := b4.kb k16
  replace U42 := U42.kb k16
  replace b5 := b5.kb k16
  replace U43 := U43.kb k16
  replace b6 := b6.kb k16
  replace U44 := U44.kb k16
  replace b7 := b7.kb k16
  replace U45 := U45.kb k16
  replace b8 := b8.kb k16
  replace U46 := U46.kb k16
  replace b9 := b9.kb k16
  replace U47 := U47.kb k16
  replace b10 := b10.kb k16
  replace U48 := U48.kb k16
  replace b11 := b11.kb k16
  replace kx := kx.trans k16
  have s16 := k16.size
  simp only [World.size_alloc] at s16
  clear k16
  go_wp2_with fail
  (with_reducible refine ((Cg.out awake_any _ gl)).mono ?_)
  rintro r w17 ⟨rfl, k17⟩
  replace da := da.kb k17
  replace gl := gl.kb k17
  replace b1 := b1.kb k17
  replace b2 := b2.kb k17
  replace b3 := b3.kb k17
  replace U41 := U41.kb k17
  replace b4 := b4.kb k17
  replace U42 := U42.kb k17
  replace b5 := b5.kb k17
  replace U43 := U43.kb k17
  replace b6 := b6.kb k17
  replace U44 := U44.kb k17
  replace b7 := b7.kb k17
  replace U45 := U45.kb k17
  replace b8 := b8.kb k17
  replace U46 := U46.kb k17
  replace b9 := b9.kb k17
  replace U47 := U47.kb k17
  replace b10 := b10.kb k17
  replace U48 := U48.kb k17
  replace b11 := b11.kb k17
  replace kx := kx.trans k17
  have s17 := k17.size
  skip
  clear k17
  go_wp2
  go_ret
  exact ⟨rfl, kx⟩
end Go.Proofs.YtdmfkgopalelgaaDoor
