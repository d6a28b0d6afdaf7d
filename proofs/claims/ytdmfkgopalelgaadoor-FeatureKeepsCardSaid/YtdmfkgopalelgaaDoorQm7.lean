/- Features: walks of the law Keeps. -/
import Derived.Test.YtdmfkgopalelgaaDoorM86
import Derived.Test.YtdmfkgopalelgaaDoorQg9
import Derived.Test.YtdmfkgopalelgaaDoorQi3
namespace Go.Proofs.YtdmfkgopalelgaaDoor
open Go.RowKit

set_option maxRecDepth 100000 in
set_option maxHeartbeats 4000000 in
theorem kpA_1 (nu : ByteArray) (ku : Int) (au : Int) (xu : Int) (yu : Int) (zu : Int) (lou : Int) (hiu : Int) (fpu : Option Addr) (flu : Nat) (fcu : Nat) (nv : ByteArray) (kv : Int) (av : Int) (xv : Int) (yv : Int) (zv : Int) (lov : Int) (hiv : Int) (fpv : Option Addr) (flv : Nat) (fcv : Nat) (fsu : List FrT) (fsv : List FrT) (c : Int) (k : Int) (ap : Bool) (ru : Int) (rv : Int) (re : Int) (ta1u : Int) (tx1u : Int) (ty1u : Int) (tz1u : Int) (ta1v : Int) (tx1v : Int) (ty1v : Int) (tz1v : Int) (tx2u : Int) (ty2u : Int) (tz2u : Int) (tx2v : Int) (ty2v : Int) (tz2v : Int)     (qru : Hid (∀ W : World, FrS W (.slice fpu flu fcu) fsu → Calls Tryd.prog 32 #[.agg #[.string nu, .int .i64 ku, .int .i64 au, .int .i64 xu, .int .i64 yu, .int .i64 zu, .int .i64 lou, .int .i64 hiu, .slice fpu flu fcu]] W fun r w' => r = .returned (.bool false) ∧ Kb W w')) (w : World) (gl : Gl w) (du : FrS w (.slice fpu flu fcu) fsu) (dv : FrS w (.slice fpv flv fcv) fsv)  : Calls Tryd.prog 9 #[.agg #[.string nu, .int .i64 ku, .int .i64 au, .int .i64 xu, .int .i64 yu, .int .i64 zu, .int .i64 lou, .int .i64 hiu, .slice fpu flu fcu], .agg #[.string nv, .int .i64 kv, .int .i64 av, .int .i64 xv, .int .i64 yv, .int .i64 zv, .int .i64 lov, .int .i64 hiv, .slice fpv flv fcv], .int .u8 c] w fun r W' => r = .returned (.bool true) ∧ Kb w W' := by
  have kx := Kb.refl w
  have du0 := Lib.hid du
  have dv0 := Lib.hid dv
  have gl0 := Lib.hid gl
  have j1 := ((Is.made w #[.string nu, .int .i64 ku, .int .i64 au, .int .i64 xu, .int .i64 yu, .int .i64 zu, .int .i64 lou, .int .i64 hiu, .slice fpu flu fcu] 28).alloc (.cells #[.string nv, .int .i64 kv, .int .i64 av, .int .i64 xv, .int .i64 yv, .int .i64 zv, .int .i64 lov, .int .i64 hiv, .slice fpv flv fcv] 28 (0, 0)))
  have f2 := j1.c (i := 0) rfl
  have f3 := j1.c (i := 1) rfl
  have f4 := j1.c (i := 2) rfl
  have f5 := j1.c (i := 3) rfl
  have f6 := j1.c (i := 4) rfl
  have f7 := j1.c (i := 5) rfl
  have f8 := j1.c (i := 6) rfl
  have f9 := j1.c (i := 7) rfl
  have f10 := j1.c (i := 8) rfl
  go_enter Tryd.func9, Tryd.ntmps9
  go_wp2_with fail
  clear f2 f3 f4 f5 f6 f7 f8 f9 f10
  have b1 := j1
  have b2 := Is.made (w.alloc (.cells #[.string nu, .int .i64 ku, .int .i64 au, .int .i64 xu, .int .i64 yu, .int .i64 zu, .int .i64 lou, .int .i64 hiu, .slice fpu flu fcu] 28 (0, 0))) #[.string nv, .int .i64 kv, .int .i64 av, .int .i64 xv, .int .i64 yv, .int .i64 zv, .int .i64 lov, .int .i64 hiv, .slice fpv flv fcv] 28
  simp only [World.size_alloc] at b2
  replace kx := (kx.alloc (.cells #[.string nu, .int .i64 ku, .int .i64 au, .int .i64 xu, .int .i64 yu, .int .i64 zu, .int .i64 lou, .int .i64 hiu, .slice fpu flu fcu] 28 (0, 0))).alloc (.cells #[.string nv, .int .i64 kv, .int .i64 av, .int .i64 xv, .int .i64 yv, .int .i64 zv, .int .i64 lov, .int .i64 hiv, .slice fpv flv fcv] 28 (0, 0))
  clear j1
  replace du := du0.out.kb kx
  replace dv := dv0.out.kb kx
  replace gl := gl0.out.kb kx
  (with_reducible refine (qru.out _ du).mono ?_)
  rintro r w1 ⟨rfl, k1⟩
  replace du := du.kb k1
  replace dv := dv.kb k1
  replace gl := gl.kb k1
  replace b1 := b1.kb k1
  replace b2 := b2.kb k1
  replace kx := kx.trans k1
  have s1 := k1.size
  simp only [World.size_alloc] at s1
  clear k1
  go_wp2_with fail
  (with_reducible refine ((Cg.out awake_any _ gl)).mono ?_)
  rintro r w2 ⟨rfl, k2⟩
  replace du := du.kb k2
  replace dv := dv.kb k2
  replace gl := gl.kb k2
  replace b1 := b1.kb k2
  replace b2 := b2.kb k2
  replace kx := kx.trans k2
  have s2 := k2.size
  skip
  clear k2
  go_wp2
  go_ret
  exact ⟨rfl, kx⟩
set_option maxRecDepth 100000 in
set_option maxHeartbeats 4000000 in
theorem kpB_1 (nu : ByteArray) (ku : Int) (au : Int) (xu : Int) (yu : Int) (zu : Int) (lou : Int) (hiu : Int) (fpu : Option Addr) (flu : Nat) (fcu : Nat) (nv : ByteArray) (kv : Int) (av : Int) (xv : Int) (yv : Int) (zv : Int) (lov : Int) (hiv : Int) (fpv : Option Addr) (flv : Nat) (fcv : Nat) (fsu : List FrT) (fsv : List FrT) (c : Int) (k : Int) (ap : Bool) (ru : Int) (rv : Int) (re : Int) (ta1u : Int) (tx1u : Int) (ty1u : Int) (tz1u : Int) (ta1v : Int) (tx1v : Int) (ty1v : Int) (tz1v : Int) (tx2u : Int) (ty2u : Int) (tz2u : Int) (tx2v : Int) (ty2v : Int) (tz2v : Int)     (qru : Hid (∀ W : World, FrS W (.slice fpu flu fcu) fsu → Calls Tryd.prog 32 #[.agg #[.string nu, .int .i64 ku, .int .i64 au, .int .i64 xu, .int .i64 yu, .int .i64 zu, .int .i64 lou, .int .i64 hiu, .slice fpu flu fcu]] W fun r w' => r = .returned (.bool true) ∧ Kb W w')) (qrv : Hid (∀ W : World, FrS W (.slice fpv flv fcv) fsv → Calls Tryd.prog 32 #[.agg #[.string nv, .int .i64 kv, .int .i64 av, .int .i64 xv, .int .i64 yv, .int .i64 zv, .int .i64 lov, .int .i64 hiv, .slice fpv flv fcv]] W fun r w' => r = .returned (.bool false) ∧ Kb W w')) (w : World) (gl : Gl w) (du : FrS w (.slice fpu flu fcu) fsu) (dv : FrS w (.slice fpv flv fcv) fsv)  : Calls Tryd.prog 9 #[.agg #[.string nu, .int .i64 ku, .int .i64 au, .int .i64 xu, .int .i64 yu, .int .i64 zu, .int .i64 lou, .int .i64 hiu, .slice fpu flu fcu], .agg #[.string nv, .int .i64 kv, .int .i64 av, .int .i64 xv, .int .i64 yv, .int .i64 zv, .int .i64 lov, .int .i64 hiv, .slice fpv flv fcv], .int .u8 c] w fun r W' => r = .returned (.bool true) ∧ Kb w W' := by
  have kx := Kb.refl w
  have du0 := Lib.hid du
  have dv0 := Lib.hid dv
  have gl0 := Lib.hid gl
  have j1 := ((Is.made w #[.string nu, .int .i64 ku, .int .i64 au, .int .i64 xu, .int .i64 yu, .int .i64 zu, .int .i64 lou, .int .i64 hiu, .slice fpu flu fcu] 28).alloc (.cells #[.string nv, .int .i64 kv, .int .i64 av, .int .i64 xv, .int .i64 yv, .int .i64 zv, .int .i64 lov, .int .i64 hiv, .slice fpv flv fcv] 28 (0, 0)))
  have f2 := j1.c (i := 0) rfl
  have f3 := j1.c (i := 1) rfl
  have f4 := j1.c (i := 2) rfl
  have f5 := j1.c (i := 3) rfl
  have f6 := j1.c (i := 4) rfl
  have f7 := j1.c (i := 5) rfl
  have f8 := j1.c (i := 6) rfl
  have f9 := j1.c (i := 7) rfl
  have f10 := j1.c (i := 8) rfl
  go_enter Tryd.func9, Tryd.ntmps9
  go_wp2_with fail
  clear f2 f3 f4 f5 f6 f7 f8 f9 f10
  have b1 := j1
  have b2 := Is.made (w.alloc (.cells #[.string nu, .int .i64 ku, .int .i64 au, .int .i64 xu, .int .i64 yu, .int .i64 zu, .int .i64 lou, .int .i64 hiu, .slice fpu flu fcu] 28 (0, 0))) #[.string nv, .int .i64 kv, .int .i64 av, .int .i64 xv, .int .i64 yv, .int .i64 zv, .int .i64 lov, .int .i64 hiv, .slice fpv flv fcv] 28
  simp only [World.size_alloc] at b2
  replace kx := (kx.alloc (.cells #[.string nu, .int .i64 ku, .int .i64 au, .int .i64 xu, .int .i64 yu, .int .i64 zu, .int .i64 lou, .int .i64 hiu, .slice fpu flu fcu] 28 (0, 0))).alloc (.cells #[.string nv, .int .i64 kv, .int .i64 av, .int .i64 xv, .int .i64 yv, .int .i64 zv, .int .i64 lov, .int .i64 hiv, .slice fpv flv fcv] 28 (0, 0))
  clear j1
  replace du := du0.out.kb kx
  replace dv := dv0.out.kb kx
  replace gl := gl0.out.kb kx
  (with_reducible refine (qru.out _ du).mono ?_)
  rintro r w1 ⟨rfl, k1⟩
  replace du := du.kb k1
  replace dv := dv.kb k1
  replace gl := gl.kb k1
  replace b1 := b1.kb k1
  replace b2 := b2.kb k1
  replace kx := kx.trans k1
  have s1 := k1.size
  simp only [World.size_alloc] at s1
  clear k1
  have f11 := b2.c (i := 0) rfl
  have f12 := b2.c (i := 1) rfl
  have f13 := b2.c (i := 2) rfl
  have f14 := b2.c (i := 3) rfl
  have f15 := b2.c (i := 4) rfl
  have f16 := b2.c (i := 5) rfl
  have f17 := b2.c (i := 6) rfl
  have f18 := b2.c (i := 7) rfl
  have f19 := b2.c (i := 8) rfl
  go_wp2_with fail
  clear f11 f12 f13 f14 f15 f16 f17 f18 f19
  (with_reducible refine (qrv.out _ dv).mono ?_)
  rintro r w2 ⟨rfl, k2⟩
  replace du := du.kb k2
  replace dv := dv.kb k2
  replace gl := gl.kb k2
  replace b1 := b1.kb k2
  replace b2 := b2.kb k2
  replace kx := kx.trans k2
  have s2 := k2.size
  skip
  clear k2
  go_wp2_with fail
  (with_reducible refine ((Cg.out awake_any _ gl)).mono ?_)
  rintro r w3 ⟨rfl, k3⟩
  replace du := du.kb k3
  replace dv := dv.kb k3
  replace gl := gl.kb k3
  replace b1 := b1.kb k3
  replace b2 := b2.kb k3
  replace kx := kx.trans k3
  have s3 := k3.size
  skip
  clear k3
  go_wp2
  go_ret
  exact ⟨rfl, kx⟩
set_option maxRecDepth 100000 in
set_option maxHeartbeats 4000000 in
theorem kpC_1 (nu : ByteArray) (ku : Int) (au : Int) (xu : Int) (yu : Int) (zu : Int) (lou : Int) (hiu : Int) (fpu : Option Addr) (flu : Nat) (fcu : Nat) (nv : ByteArray) (kv : Int) (av : Int) (xv : Int) (yv : Int) (zv : Int) (lov : Int) (hiv : Int) (fpv : Option Addr) (flv : Nat) (fcv : Nat) (fsu : List FrT) (fsv : List FrT) (c : Int) (k : Int) (ap : Bool) (ru : Int) (rv : Int) (re : Int) (ta1u : Int) (tx1u : Int) (ty1u : Int) (tz1u : Int) (ta1v : Int) (tx1v : Int) (ty1v : Int) (tz1v : Int) (tx2u : Int) (ty2u : Int) (tz2u : Int) (tx2v : Int) (ty2v : Int) (tz2v : Int)     (qru : Hid (∀ W : World, FrS W (.slice fpu flu fcu) fsu → Calls Tryd.prog 32 #[.agg #[.string nu, .int .i64 ku, .int .i64 au, .int .i64 xu, .int .i64 yu, .int .i64 zu, .int .i64 lou, .int .i64 hiu, .slice fpu flu fcu]] W fun r w' => r = .returned (.bool true) ∧ Kb W w')) (qrv : Hid (∀ W : World, FrS W (.slice fpv flv fcv) fsv → Calls Tryd.prog 32 #[.agg #[.string nv, .int .i64 kv, .int .i64 av, .int .i64 xv, .int .i64 yv, .int .i64 zv, .int .i64 lov, .int .i64 hiv, .slice fpv flv fcv]] W fun r w' => r = .returned (.bool true) ∧ Kb W w')) (qTu : Hid (∀ (W : World) (p : Option Addr) (l c : Nat), FrS W (.slice p l c) fsu → Calls Tryd.prog 28 #[.agg #[.string nu, .int .i64 ku, .int .i64 au, .int .i64 xu, .int .i64 yu, .int .i64 zu, .int .i64 lou, .int .i64 hiu, .slice p l c], .int .i64 k] W fun r W' => ∃ q' l' c', r = .returned (.tuple #[.agg #[.string nu, .int .i64 ku, .int .i64 ta1u, .int .i64 tx1u, .int .i64 ty1u, .int .i64 tz1u, .int .i64 lou, .int .i64 hiu, .slice q' l' c'], .int .i64 0]) ∧ FrU W.heap.size W' (.slice q' l' c') fsu ∧ Kb W W')) (qTv : Hid (∀ (W : World) (p : Option Addr) (l c : Nat), FrS W (.slice p l c) fsv → Calls Tryd.prog 28 #[.agg #[.string nv, .int .i64 kv, .int .i64 av, .int .i64 xv, .int .i64 yv, .int .i64 zv, .int .i64 lov, .int .i64 hiv, .slice p l c], .int .i64 k] W fun r W' => ∃ q' l' c', r = .returned (.tuple #[.agg #[.string nv, .int .i64 kv, .int .i64 ta1v, .int .i64 tx1v, .int .i64 ty1v, .int .i64 tz1v, .int .i64 lov, .int .i64 hiv, .slice q' l' c'], .int .i64 0]) ∧ FrU W.heap.size W' (.slice q' l' c') fsv ∧ Kb W W')) (qMu : Hid (∀ (W : World) (p : Option Addr) (l c : Nat), FrS W (.slice p l c) fsu → Calls Tryd.prog 26 #[.agg #[.string nu, .int .i64 ku, .int .i64 au, .int .i64 xu, .int .i64 yu, .int .i64 zu, .int .i64 lou, .int .i64 hiu, .slice p l c], .int .i64 k] W fun r W' => ∃ q' l' c', r = .returned (.tuple #[.agg #[.string nu, .int .i64 ku, .int .i64 au, .int .i64 tx2u, .int .i64 ty2u, .int .i64 tz2u, .int .i64 lou, .int .i64 hiu, .slice q' l' c'], .int .i64 0]) ∧ FrU W.heap.size W' (.slice q' l' c') fsu ∧ Kb W W')) (qMv : Hid (∀ (W : World) (p : Option Addr) (l c : Nat), FrS W (.slice p l c) fsv → Calls Tryd.prog 26 #[.agg #[.string nv, .int .i64 kv, .int .i64 av, .int .i64 xv, .int .i64 yv, .int .i64 zv, .int .i64 lov, .int .i64 hiv, .slice p l c], .int .i64 k] W fun r W' => ∃ q' l' c', r = .returned (.tuple #[.agg #[.string nv, .int .i64 kv, .int .i64 av, .int .i64 tx2v, .int .i64 ty2v, .int .i64 tz2v, .int .i64 lov, .int .i64 hiv, .slice q' l' c'], .int .i64 0]) ∧ FrU W.heap.size W' (.slice q' l' c') fsv ∧ Kb W W')) (qS0 : ∀ (p : Option Addr) (l c : Nat) (p2 : Option Addr) (l2 c2 : Nat), Cg 22 #[.agg #[.string nu, .int .i64 ku, .int .i64 au, .int .i64 xu, .int .i64 yu, .int .i64 zu, .int .i64 lou, .int .i64 hiu, .slice p l c], .agg #[.string nv, .int .i64 kv, .int .i64 av, .int .i64 xv, .int .i64 yv, .int .i64 zv, .int .i64 lov, .int .i64 hiv, .slice p2 l2 c2]] (.tuple #[.bool ap, .int .i64 0])) (qS1 : ∀ (p : Option Addr) (l c : Nat) (p2 : Option Addr) (l2 c2 : Nat), Cg 22 #[.agg #[.string nu, .int .i64 ku, .int .i64 ta1u, .int .i64 tx1u, .int .i64 ty1u, .int .i64 tz1u, .int .i64 lou, .int .i64 hiu, .slice p l c], .agg #[.string nv, .int .i64 kv, .int .i64 ta1v, .int .i64 tx1v, .int .i64 ty1v, .int .i64 tz1v, .int .i64 lov, .int .i64 hiv, .slice p2 l2 c2]] (.tuple #[.bool ap, .int .i64 0])) (qS2 : ∀ (p : Option Addr) (l c : Nat) (p2 : Option Addr) (l2 c2 : Nat), Cg 22 #[.agg #[.string nu, .int .i64 ku, .int .i64 au, .int .i64 tx2u, .int .i64 ty2u, .int .i64 tz2u, .int .i64 lou, .int .i64 hiu, .slice p l c], .agg #[.string nv, .int .i64 kv, .int .i64 av, .int .i64 tx2v, .int .i64 ty2v, .int .i64 tz2v, .int .i64 lov, .int .i64 hiv, .slice p2 l2 c2]] (.tuple #[.bool ap, .int .i64 0])) (qR0 : ∀ (p : Option Addr) (l c : Nat), Cg 20 #[.agg #[.string nu, .int .i64 ku, .int .i64 au, .int .i64 xu, .int .i64 yu, .int .i64 zu, .int .i64 lou, .int .i64 hiu, .slice p l c], .int .i64 k] (.tuple #[.agg #[.int .i64 ru, .int .i64 rv], .int .i64 re])) (qR1 : ∀ (p : Option Addr) (l c : Nat), Cg 20 #[.agg #[.string nu, .int .i64 ku, .int .i64 ta1u, .int .i64 tx1u, .int .i64 ty1u, .int .i64 tz1u, .int .i64 lou, .int .i64 hiu, .slice p l c], .int .i64 k] (.tuple #[.agg #[.int .i64 ru, .int .i64 rv], .int .i64 re])) (c0 : 0 ≤ c) (c1 : c ≤ 255) (ek : c.tmod 3 = k) (k0 : 0 ≤ k) (k2 : k ≤ 2) (w : World) (gl : Gl w) (du : FrS w (.slice fpu flu fcu) fsu) (dv : FrS w (.slice fpv flv fcv) fsv)  : Calls Tryd.prog 9 #[.agg #[.string nu, .int .i64 ku, .int .i64 au, .int .i64 xu, .int .i64 yu, .int .i64 zu, .int .i64 lou, .int .i64 hiu, .slice fpu flu fcu], .agg #[.string nv, .int .i64 kv, .int .i64 av, .int .i64 xv, .int .i64 yv, .int .i64 zv, .int .i64 lov, .int .i64 hiv, .slice fpv flv fcv], .int .u8 c] w fun r W' => r = .returned (.bool true) ∧ Kb w W' := by
  have kx := Kb.refl w
  have du0 := Lib.hid du
  have dv0 := Lib.hid dv
  have gl0 := Lib.hid gl
  have j1 := ((Is.made w #[.string nu, .int .i64 ku, .int .i64 au, .int .i64 xu, .int .i64 yu, .int .i64 zu, .int .i64 lou, .int .i64 hiu, .slice fpu flu fcu] 28).alloc (.cells #[.string nv, .int .i64 kv, .int .i64 av, .int .i64 xv, .int .i64 yv, .int .i64 zv, .int .i64 lov, .int .i64 hiv, .slice fpv flv fcv] 28 (0, 0)))
  have f2 := j1.c (i := 0) rfl
  have f3 := j1.c (i := 1) rfl
  have f4 := j1.c (i := 2) rfl
  have f5 := j1.c (i := 3) rfl
  have f6 := j1.c (i := 4) rfl
  have f7 := j1.c (i := 5) rfl
  have f8 := j1.c (i := 6) rfl
  have f9 := j1.c (i := 7) rfl
  have f10 := j1.c (i := 8) rfl
  go_enter Tryd.func9, Tryd.ntmps9
  go_wp2_with fail
  clear f2 f3 f4 f5 f6 f7 f8 f9 f10
  have b1 := j1
  have b2 := Is.made (w.alloc (.cells #[.string nu, .int .i64 ku, .int .i64 au, .int .i64 xu, .int .i64 yu, .int .i64 zu, .int .i64 lou, .int .i64 hiu, .slice fpu flu fcu] 28 (0, 0))) #[.string nv, .int .i64 kv, .int .i64 av, .int .i64 xv, .int .i64 yv, .int .i64 zv, .int .i64 lov, .int .i64 hiv, .slice fpv flv fcv] 28
  simp only [World.size_alloc] at b2
  replace kx := (kx.alloc (.cells #[.string nu, .int .i64 ku, .int .i64 au, .int .i64 xu, .int .i64 yu, .int .i64 zu, .int .i64 lou, .int .i64 hiu, .slice fpu flu fcu] 28 (0, 0))).alloc (.cells #[.string nv, .int .i64 kv, .int .i64 av, .int .i64 xv, .int .i64 yv, .int .i64 zv, .int .i64 lov, .int .i64 hiv, .slice fpv flv fcv] 28 (0, 0))
  clear j1
  replace du := du0.out.kb kx
  replace dv := dv0.out.kb kx
  replace gl := gl0.out.kb kx
  (with_reducible refine (qru.out _ du).mono ?_)
  rintro r w1 ⟨rfl, k1⟩
  replace du := du.kb k1
  replace dv := dv.kb k1
  replace gl := gl.kb k1
  replace b1 := b1.kb k1
  replace b2 := b2.kb k1
  replace kx := kx.trans k1
  have s1 := k1.size
  simp only [World.size_alloc] at s1
  clear k1
  have f11 := b2.c (i := 0) rfl
  have f12 := b2.c (i := 1) rfl
  have f13 := b2.c (i := 2) rfl
  have f14 := b2.c (i := 3) rfl
  have f15 := b2.c (i := 4) rfl
  have f16 := b2.c (i := 5) rfl
  have f17 := b2.c (i := 6) rfl
  have f18 := b2.c (i := 7) rfl
  have f19 := b2.c (i := 8) rfl
  go_wp2_with fail
  clear f11 f12 f13 f14 f15 f16 f17 f18 f19
  (with_reducible refine (qrv.out _ dv).mono ?_)
  rintro r w2 ⟨rfl, k2⟩
  replace du := du.kb k2
  replace dv := dv.kb k2
  replace gl := gl.kb k2
  replace b1 := b1.kb k2
  replace b2 := b2.kb k2
  replace kx := kx.trans k2
  have s2 := k2.size
  skip
  clear k2
  have y20 : c.tmod 3 = k := ek
  have y21 : wrap64 k = k := Go.IntWalk.wrap64_in _ (by omega)
  have y21' : IntKind.i64.wrap k = k := (Go.IntWalk.i64_left _).trans y21
  have f22 := b1.c (i := 0) rfl
  have f23 := b1.c (i := 1) rfl
  have f24 := b1.c (i := 2) rfl
  have f25 := b1.c (i := 3) rfl
  have f26 := b1.c (i := 4) rfl
  have f27 := b1.c (i := 5) rfl
  have f28 := b1.c (i := 6) rfl
  have f29 := b1.c (i := 7) rfl
  have f30 := b1.c (i := 8) rfl
  have f31 := b2.c (i := 0) rfl
  have f32 := b2.c (i := 1) rfl
  have f33 := b2.c (i := 2) rfl
  have f34 := b2.c (i := 3) rfl
  have f35 := b2.c (i := 4) rfl
  have f36 := b2.c (i := 5) rfl
  have f37 := b2.c (i := 6) rfl
  have f38 := b2.c (i := 7) rfl
  have f39 := b2.c (i := 8) rfl
  go_wp2_with fail
  clear f22 f23 f24 f25 f26 f27 f28 f29 f30 f31 f32 f33 f34 f35 f36 f37 f38 f39
  (with_reducible refine (Cg.out (qS0 _ _ _ _ _ _) _ gl).mono ?_)
  rintro r w3 ⟨rfl, k3⟩
  replace du := du.kb k3
  replace dv := dv.kb k3
  replace gl := gl.kb k3
  replace b1 := b1.kb k3
  replace b2 := b2.kb k3
  replace kx := kx.trans k3
  have s3 := k3.size
  skip
  clear k3
  have f40 := b1.c (i := 0) rfl
  have f41 := b1.c (i := 1) rfl
  have f42 := b1.c (i := 2) rfl
  have f43 := b1.c (i := 3) rfl
  have f44 := b1.c (i := 4) rfl
  have f45 := b1.c (i := 5) rfl
  have f46 := b1.c (i := 6) rfl
  have f47 := b1.c (i := 7) rfl
  have f48 := b1.c (i := 8) rfl
  go_wp2_with fail
  clear f40 f41 f42 f43 f44 f45 f46 f47 f48
  (with_reducible refine (qTu.out _ _ _ _ du).mono ?_)
  rintro r w4 ⟨fp41, fl41, fc41, rfl, U41, k4⟩
  replace du := du.kb k4
  replace dv := dv.kb k4
  replace gl := gl.kb k4
  replace b1 := b1.kb k4
  replace b2 := b2.kb k4
  replace kx := kx.trans k4
  have s4 := k4.size
  skip
  clear k4
  try simp only [World.size_alloc, World.size_setCell] at U41
  have j49 := (b2.alloc (.cells #[.string nu, .int .i64 ku, .int .i64 ta1u, .int .i64 tx1u, .int .i64 ty1u, .int .i64 tz1u, .int .i64 lou, .int .i64 hiu, .slice fp41 fl41 fc41] 28 (0, 0)))
  have f50 := j49.c (i := 0) rfl
  have f51 := j49.c (i := 1) rfl
  have f52 := j49.c (i := 2) rfl
  have f53 := j49.c (i := 3) rfl
  have f54 := j49.c (i := 4) rfl
  have f55 := j49.c (i := 5) rfl
  have f56 := j49.c (i := 6) rfl
  have f57 := j49.c (i := 7) rfl
  have f58 := j49.c (i := 8) rfl
  go_wp2_with fail
  clear f50 f51 f52 f53 f54 f55 f56 f57 f58
  replace b1 := (b1.alloc (.cells #[.string nu, .int .i64 ku, .int .i64 ta1u, .int .i64 tx1u, .int .i64 ty1u, .int .i64 tz1u, .int .i64 lou, .int .i64 hiu, .slice fp41 fl41 fc41] 28 (0, 0)))
  replace b2 := j49
  replace U41 := (U41.alloc (.cells #[.string nu, .int .i64 ku, .int .i64 ta1u, .int .i64 tx1u, .int .i64 ty1u, .int .i64 tz1u, .int .i64 lou, .int .i64 hiu, .slice fp41 fl41 fc41] 28 (0, 0)))
  have b3 := Is.made w4 #[.string nu, .int .i64 ku, .int .i64 ta1u, .int .i64 tx1u, .int .i64 ty1u, .int .i64 tz1u, .int .i64 lou, .int .i64 hiu, .slice fp41 fl41 fc41] 28
  replace kx := kx.alloc (.cells #[.string nu, .int .i64 ku, .int .i64 ta1u, .int .i64 tx1u, .int .i64 ty1u, .int .i64 tz1u, .int .i64 lou, .int .i64 hiu, .slice fp41 fl41 fc41] 28 (0, 0))
  clear j49
  replace du := du0.out.kb kx
  replace dv := dv0.out.kb kx
  replace gl := gl0.out.kb kx
  (with_reducible refine (qTv.out _ _ _ _ dv).mono ?_)
  rintro r w5 ⟨fp42, fl42, fc42, rfl, U42, k5⟩
  replace du := du.kb k5
  replace dv := dv.kb k5
  replace gl := gl.kb k5
  replace b1 := b1.kb k5
  replace b2 := b2.kb k5
  replace U41 := U41.kb k5
  replace b3 := b3.kb k5
  replace kx := kx.trans k5
  have s5 := k5.size
  simp only [World.size_alloc] at s5
  clear k5
  try simp only [World.size_alloc, World.size_setCell] at U42
  have j59 := (b3.alloc (.cells #[.string nv, .int .i64 kv, .int .i64 ta1v, .int .i64 tx1v, .int .i64 ty1v, .int .i64 tz1v, .int .i64 lov, .int .i64 hiv, .slice fp42 fl42 fc42] 28 (0, 0)))
  have f60 := j59.c (i := 0) rfl
  have f61 := j59.c (i := 1) rfl
  have f62 := j59.c (i := 2) rfl
  have f63 := j59.c (i := 3) rfl
  have f64 := j59.c (i := 4) rfl
  have f65 := j59.c (i := 5) rfl
  have f66 := j59.c (i := 6) rfl
  have f67 := j59.c (i := 7) rfl
  have f68 := j59.c (i := 8) rfl
  have j69 := (Is.made w5 #[.string nv, .int .i64 kv, .int .i64 ta1v, .int .i64 tx1v, .int .i64 ty1v, .int .i64 tz1v, .int .i64 lov, .int .i64 hiv, .slice fp42 fl42 fc42] 28)
  have f70 := j69.c (i := 0) rfl
  have f71 := j69.c (i := 1) rfl
  have f72 := j69.c (i := 2) rfl
  have f73 := j69.c (i := 3) rfl
  have f74 := j69.c (i := 4) rfl
  have f75 := j69.c (i := 5) rfl
  have f76 := j69.c (i := 6) rfl
  have f77 := j69.c (i := 7) rfl
  have f78 := j69.c (i := 8) rfl
  go_wp2_with fail
  clear f60 f61 f62 f63 f64 f65 f66 f67 f68 f70 f71 f72 f73 f74 f75 f76 f77 f78
  replace b1 := (b1.alloc (.cells #[.string nv, .int .i64 kv, .int .i64 ta1v, .int .i64 tx1v, .int .i64 ty1v, .int .i64 tz1v, .int .i64 lov, .int .i64 hiv, .slice fp42 fl42 fc42] 28 (0, 0)))
  replace b2 := (b2.alloc (.cells #[.string nv, .int .i64 kv, .int .i64 ta1v, .int .i64 tx1v, .int .i64 ty1v, .int .i64 tz1v, .int .i64 lov, .int .i64 hiv, .slice fp42 fl42 fc42] 28 (0, 0)))
  replace U41 := (U41.alloc (.cells #[.string nv, .int .i64 kv, .int .i64 ta1v, .int .i64 tx1v, .int .i64 ty1v, .int .i64 tz1v, .int .i64 lov, .int .i64 hiv, .slice fp42 fl42 fc42] 28 (0, 0)))
  replace b3 := j59
  replace U42 := (U42.alloc (.cells #[.string nv, .int .i64 kv, .int .i64 ta1v, .int .i64 tx1v, .int .i64 ty1v, .int .i64 tz1v, .int .i64 lov, .int .i64 hiv, .slice fp42 fl42 fc42] 28 (0, 0)))
  have b4 := j69
  replace kx := kx.alloc (.cells #[.string nv, .int .i64 kv, .int .i64 ta1v, .int .i64 tx1v, .int .i64 ty1v, .int .i64 tz1v, .int .i64 lov, .int .i64 hiv, .slice fp42 fl42 fc42] 28 (0, 0))
  clear j59 j69
  replace du := du0.out.kb kx
  replace dv := dv0.out.kb kx
  replace gl := gl0.out.kb kx
  (with_reducible refine (Cg.out (qS1 _ _ _ _ _ _) _ gl).mono ?_)
  rintro r w6 ⟨rfl, k6⟩
  replace du := du.kb k6
  replace dv := dv.kb k6
  replace gl := gl.kb k6
  replace b1 := b1.kb k6
  replace b2 := b2.kb k6
  replace U41 := U41.kb k6
  replace b3 := b3.kb k6
  replace U42 := U42.kb k6
  replace b4 := b4.kb k6
  replace kx := kx.trans k6
  have s6 := k6.size
  simp only [World.size_alloc] at s6
  clear k6
  have f79 := b1.c (i := 0) rfl
  have f80 := b1.c (i := 1) rfl
  have f81 := b1.c (i := 2) rfl
  have f82 := b1.c (i := 3) rfl
  have f83 := b1.c (i := 4) rfl
  have f84 := b1.c (i := 5) rfl
  have f85 := b1.c (i := 6) rfl
  have f86 := b1.c (i := 7) rfl
  have f87 := b1.c (i := 8) rfl
  go_wp2_with fail
  clear f79 f80 f81 f82 f83 f84 f85 f86 f87
  (with_reducible refine (qMu.out _ _ _ _ du).mono ?_)
  rintro r w7 ⟨fp43, fl43, fc43, rfl, U43, k7⟩
  replace du := du.kb k7
  replace dv := dv.kb k7
  replace gl := gl.kb k7
  replace b1 := b1.kb k7
  replace b2 := b2.kb k7
  replace U41 := U41.kb k7
  replace b3 := b3.kb k7
  replace U42 := U42.kb k7
  replace b4 := b4.kb k7
  replace kx := kx.trans k7
  have s7 := k7.size
  skip
  clear k7
  try simp only [World.size_alloc, World.size_setCell] at U43
  have j88 := (b2.alloc (.cells #[.string nu, .int .i64 ku, .int .i64 au, .int .i64 tx2u, .int .i64 ty2u, .int .i64 tz2u, .int .i64 lou, .int .i64 hiu, .slice fp43 fl43 fc43] 28 (0, 0)))
  have f89 := j88.c (i := 0) rfl
  have f90 := j88.c (i := 1) rfl
  have f91 := j88.c (i := 2) rfl
  have f92 := j88.c (i := 3) rfl
  have f93 := j88.c (i := 4) rfl
  have f94 := j88.c (i := 5) rfl
  have f95 := j88.c (i := 6) rfl
  have f96 := j88.c (i := 7) rfl
  have f97 := j88.c (i := 8) rfl
  go_wp2_with fail
  clear f89 f90 f91 f92 f93 f94 f95 f96 f97
  replace b1 := (b1.alloc (.cells #[.string nu, .int .i64 ku, .int .i64 au, .int .i64 tx2u, .int .i64 ty2u, .int .i64 tz2u, .int .i64 lou, .int .i64 hiu, .slice fp43 fl43 fc43] 28 (0, 0)))
  replace b2 := j88
  replace U41 := (U41.alloc (.cells #[.string nu, .int .i64 ku, .int .i64 au, .int .i64 tx2u, .int .i64 ty2u, .int .i64 tz2u, .int .i64 lou, .int .i64 hiu, .slice fp43 fl43 fc43] 28 (0, 0)))
  replace b3 := (b3.alloc (.cells #[.string nu, .int .i64 ku, .int .i64 au, .int .i64 tx2u, .int .i64 ty2u, .int .i64 tz2u, .int .i64 lou, .int .i64 hiu, .slice fp43 fl43 fc43] 28 (0, 0)))
  replace U42 := (U42.alloc (.cells #[.string nu, .int .i64 ku, .int .i64 au, .int .i64 tx2u, .int .i64 ty2u, .int .i64 tz2u, .int .i64 lou, .int .i64 hiu, .slice fp43 fl43 fc43] 28 (0, 0)))
  replace b4 := (b4.alloc (.cells #[.string nu, .int .i64 ku, .int .i64 au, .int .i64 tx2u, .int .i64 ty2u, .int .i64 tz2u, .int .i64 lou, .int .i64 hiu, .slice fp43 fl43 fc43] 28 (0, 0)))
  replace U43 := (U43.alloc (.cells #[.string nu, .int .i64 ku, .int .i64 au, .int .i64 tx2u, .int .i64 ty2u, .int .i64 tz2u, .int .i64 lou, .int .i64 hiu, .slice fp43 fl43 fc43] 28 (0, 0)))
  have b5 := Is.made w7 #[.string nu, .int .i64 ku, .int .i64 au, .int .i64 tx2u, .int .i64 ty2u, .int .i64 tz2u, .int .i64 lou, .int .i64 hiu, .slice fp43 fl43 fc43] 28
  replace kx := kx.alloc (.cells #[.string nu, .int .i64 ku, .int .i64 au, .int .i64 tx2u, .int .i64 ty2u, .int .i64 tz2u, .int .i64 lou, .int .i64 hiu, .slice fp43 fl43 fc43] 28 (0, 0))
  clear j88
  replace du := du0.out.kb kx
  replace dv := dv0.out.kb kx
  replace gl := gl0.out.kb kx
  (with_reducible refine (qMv.out _ _ _ _ dv).mono ?_)
  rintro r w8 ⟨fp44, fl44, fc44, rfl, U44, k8⟩
  replace du := du.kb k8
  replace dv := dv.kb k8
  replace gl := gl.kb k8
  replace b1 := b1.kb k8
  replace b2 := b2.kb k8
  replace U41 := U41.kb k8
  replace b3 := b3.kb k8
  replace U42 := U42.kb k8
  replace b4 := b4.kb k8
  replace U43 := U43.kb k8
  replace b5 := b5.kb k8
  replace kx := kx.trans k8
  have s8 := k8.size
  simp only [World.size_alloc] at s8
  clear k8
  try simp only [World.size_alloc, World.size_setCell] at U44
  have j98 := (b5.alloc (.cells #[.string nv, .int .i64 kv, .int .i64 av, .int .i64 tx2v, .int .i64 ty2v, .int .i64 tz2v, .int .i64 lov, .int .i64 hiv, .slice fp44 fl44 fc44] 28 (0, 0)))
  have f99 := j98.c (i := 0) rfl
  have f100 := j98.c (i := 1) rfl
  have f101 := j98.c (i := 2) rfl
  have f102 := j98.c (i := 3) rfl
  have f103 := j98.c (i := 4) rfl
  have f104 := j98.c (i := 5) rfl
  have f105 := j98.c (i := 6) rfl
  have f106 := j98.c (i := 7) rfl
  have f107 := j98.c (i := 8) rfl
  have j108 := (Is.made w8 #[.string nv, .int .i64 kv, .int .i64 av, .int .i64 tx2v, .int .i64 ty2v, .int .i64 tz2v, .int .i64 lov, .int .i64 hiv, .slice fp44 fl44 fc44] 28)
  have f109 := j108.c (i := 0) rfl
  have f110 := j108.c (i := 1) rfl
  have f111 := j108.c (i := 2) rfl
  have f112 := j108.c (i := 3) rfl
  have f113 := j108.c (i := 4) rfl
  have f114 := j108.c (i := 5) rfl
  have f115 := j108.c (i := 6) rfl
  have f116 := j108.c (i := 7) rfl
  have f117 := j108.c (i := 8) rfl
  go_wp2_with fail
  clear f99 f100 f101 f102 f103 f104 f105 f106 f107 f109 f110 f111 f112 f113 f114 f115 f116 f117
  replace b1 := (b1.alloc (.cells #[.string nv, .int .i64 kv, .int .i64 av, .int .i64 tx2v, .int .i64 ty2v, .int .i64 tz2v, .int .i64 lov, .int .i64 hiv, .slice fp44 fl44 fc44] 28 (0, 0)))
  replace b2 := (b2.alloc (.cells #[.string nv, .int .i64 kv, .int .i64 av, .int .i64 tx2v, .int .i64 ty2v, .int .i64 tz2v, .int .i64 lov, .int .i64 hiv, .slice fp44 fl44 fc44] 28 (0, 0)))
  replace U41 := (U41.alloc (.cells #[.string nv, .int .i64 kv, .int .i64 av, .int .i64 tx2v, .int .i64 ty2v, .int .i64 tz2v, .int .i64 lov, .int .i64 hiv, .slice fp44 fl44 fc44] 28 (0, 0)))
  replace b3 := (b3.alloc (.cells #[.string nv, .int .i64 kv, .int .i64 av, .int .i64 tx2v, .int .i64 ty2v, .int .i64 tz2v, .int .i64 lov, .int .i64 hiv, .slice fp44 fl44 fc44] 28 (0, 0)))
  replace U42 := (U42.alloc (.cells #[.string nv, .int .i64 kv, .int .i64 av, .int .i64 tx2v, .int .i64 ty2v, .int .i64 tz2v, .int .i64 lov, .int .i64 hiv, .slice fp44 fl44 fc44] 28 (0, 0)))
  replace b4 := (b4.alloc (.cells #[.string nv, .int .i64 kv, .int .i64 av, .int .i64 tx2v, .int .i64 ty2v, .int .i64 tz2v, .int .i64 lov, .int .i64 hiv, .slice fp44 fl44 fc44] 28 (0, 0)))
  replace U43 := (U43.alloc (.cells #[.string nv, .int .i64 kv, .int .i64 av, .int .i64 tx2v, .int .i64 ty2v, .int .i64 tz2v, .int .i64 lov, .int .i64 hiv, .slice fp44 fl44 fc44] 28 (0, 0)))
  replace b5 := j98
  replace U44 := (U44.alloc (.cells #[.string nv, .int .i64 kv, .int .i64 av, .int .i64 tx2v, .int .i64 ty2v, .int .i64 tz2v, .int .i64 lov, .int .i64 hiv, .slice fp44 fl44 fc44] 28 (0, 0)))
  have b6 := j108
  replace kx := kx.alloc (.cells #[.string nv, .int .i64 kv, .int .i64 av, .int .i64 tx2v, .int .i64 ty2v, .int .i64 tz2v, .int .i64 lov, .int .i64 hiv, .slice fp44 fl44 fc44] 28 (0, 0))
  clear j98 j108
  replace du := du0.out.kb kx
  replace dv := dv0.out.kb kx
  replace gl := gl0.out.kb kx
  (with_reducible refine (Cg.out (qS2 _ _ _ _ _ _) _ gl).mono ?_)
  rintro r w9 ⟨rfl, k9⟩
  replace du := du.kb k9
  replace dv := dv.kb k9
  replace gl := gl.kb k9
  replace b1 := b1.kb k9
  replace b2 := b2.kb k9
  replace U41 := U41.kb k9
  replace b3 := b3.kb k9
  replace U42 := U42.kb k9
  replace b4 := b4.kb k9
  replace U43 := U43.kb k9
  replace b5 := b5.kb k9
  replace U44 := U44.kb k9
  replace b6 := b6.kb k9
  replace kx := kx.trans k9
  have s9 := k9.size
  simp only [World.size_alloc] at s9
  clear k9
  have f118 := b1.c (i := 0) rfl
  have f119 := b1.c (i := 1) rfl
  have f120 := b1.c (i := 2) rfl
  have f121 := b1.c (i := 3) rfl
  have f122 := b1.c (i := 4) rfl
  have f123 := b1.c (i := 5) rfl
  have f124 := b1.c (i := 6) rfl
  have f125 := b1.c (i := 7) rfl
  have f126 := b1.c (i := 8) rfl
  go_wp2_with fail
  clear f118 f119 f120 f121 f122 f123 f124 f125 f126
  (with_reducible refine (Cg.out (qR0 _ _ _) _ gl).mono ?_)
  rintro r w10 ⟨rfl, k10⟩
  replace du := du.kb k10
  replace dv := dv.kb k10
  replace gl := gl.kb k10
  replace b1 := b1.kb k10
  replace b2 := b2.kb k10
  replace U41 := U41.kb k10
  replace b3 := b3.kb k10
  replace U42 := U42.kb k10
  replace b4 := b4.kb k10
  replace U43 := U43.kb k10
  replace b5 := b5.kb k10
  replace U44 := U44.kb k10
  replace b6 := b6.kb k10
  replace kx := kx.trans k10
  have s10 := k10.size
  skip
  clear k10
  have j127 := (b3.alloc (.cells #[.int .i64 ru, .int .i64 rv] 25 (0, 0)))
  have f128 := j127.c (i := 0) rfl
  have f129 := j127.c (i := 1) rfl
  have f130 := j127.c (i := 2) rfl
  have f131 := j127.c (i := 3) rfl
  have f132 := j127.c (i := 4) rfl
  have f133 := j127.c (i := 5) rfl
  have f134 := j127.c (i := 6) rfl
  have f135 := j127.c (i := 7) rfl
  have f136 := j127.c (i := 8) rfl
  go_wp2_with fail
  clear f128 f129 f130 f131 f132 f133 f134 f135 f136
  replace b1 := (b1.alloc (.cells #[.int .i64 ru, .int .i64 rv] 25 (0, 0)))
  replace b2 := (b2.alloc (.cells #[.int .i64 ru, .int .i64 rv] 25 (0, 0)))
  replace U41 := (U41.alloc (.cells #[.int .i64 ru, .int .i64 rv] 25 (0, 0)))
  replace b3 := j127
  replace U42 := (U42.alloc (.cells #[.int .i64 ru, .int .i64 rv] 25 (0, 0)))
  replace b4 := (b4.alloc (.cells #[.int .i64 ru, .int .i64 rv] 25 (0, 0)))
  replace U43 := (U43.alloc (.cells #[.int .i64 ru, .int .i64 rv] 25 (0, 0)))
  replace b5 := (b5.alloc (.cells #[.int .i64 ru, .int .i64 rv] 25 (0, 0)))
  replace U44 := (U44.alloc (.cells #[.int .i64 ru, .int .i64 rv] 25 (0, 0)))
  replace b6 := (b6.alloc (.cells #[.int .i64 ru, .int .i64 rv] 25 (0, 0)))
  have b7 := Is.made w10 #[.int .i64 ru, .int .i64 rv] 25
  replace kx := kx.alloc (.cells #[.int .i64 ru, .int .i64 rv] 25 (0, 0))
  clear j127
  replace du := du0.out.kb kx
  replace dv := dv0.out.kb kx
  replace gl := gl0.out.kb kx
  (with_reducible refine (Cg.out (qR1 _ _ _) _ gl).mono ?_)
  rintro r w11 ⟨rfl, k11⟩
  replace du := du.kb k11
  replace dv := dv.kb k11
  replace gl := gl.kb k11
  replace b1 := b1.kb k11
  replace b2 := b2.kb k11
  replace U41 := U41.kb k11
  replace b3 := b3.kb k11
  replace U42 := U42.kb k11
  replace b4 := b4.kb k11
  replace U43 := U43.kb k11
  replace b5 := b5.kb k11
  replace U44 := U44.kb k11
  replace b6 := b6.kb k11
  replace b7 := b7.kb k11
  replace kx := kx.trans k11
  have s11 := k11.size
  simp only [World.size_alloc] at s11
  clear k11
  have j137 := (b7.alloc (.cells #[.int .i64 ru, .int .i64 rv] 25 (0, 0)))
  have f138 := j137.c (i := 0) rfl
  have f139 := j137.c (i := 1) rfl
  have j140 := (Is.made w11 #[.int .i64 ru, .int .i64 rv] 25)
  have f141 := j140.c (i := 0) rfl
  have f142 := j140.c (i := 1) rfl
  go_wp2_with fail
  clear f138 f139 f141 f142
  replace b1 := (b1.alloc (.cells #[.int .i64 ru, .int .i64 rv] 25 (0, 0)))
  replace b2 := (b2.alloc (.cells #[.int .i64 ru, .int .i64 rv] 25 (0, 0)))
  replace U41 := (U41.alloc (.cells #[.int .i64 ru, .int .i64 rv] 25 (0, 0)))
  replace b3 := (b3.alloc (.cells #[.int .i64 ru, .int .i64 rv] 25 (0, 0)))
  replace U42 := (U42.alloc (.cells #[.int .i64 ru, .int .i64 rv] 25 (0, 0)))
  replace b4 := (b4.alloc (.cells #[.int .i64 ru, .int .i64 rv] 25 (0, 0)))
  replace U43 := (U43.alloc (.cells #[.int .i64 ru, .int .i64 rv] 25 (0, 0)))
  replace b5 := (b5.alloc (.cells #[.int .i64 ru, .int .i64 rv] 25 (0, 0)))
  replace U44 := (U44.alloc (.cells #[.int .i64 ru, .int .i64 rv] 25 (0, 0)))
  replace b6 := (b6.alloc (.cells #[.int .i64 ru, .int .i64 rv] 25 (0, 0)))
  replace b7 := j137
  have b8 := j140
  replace kx := kx.alloc (.cells #[.int .i64 ru, .int .i64 rv] 25 (0, 0))
  clear j137 j140
  replace du := du0.out.kb kx
  replace dv := dv0.out.kb kx
  replace gl := gl0.out.kb kx
  (with_reducible refine ((Cg.out awake_any _ gl)).mono ?_)
  rintro r w12 ⟨rfl, k12⟩
  replace du := du.kb k12
  replace dv := dv.kb k12
  replace gl := gl.kb k12
  replace b1 := b1.kb k12
  replace b2 := b2.kb k12
  replace U41 := U41.kb k12
  replace b3 := b3.kb k12
  replace U42 := U42.kb k12
  replace b4 := b4.kb k12
  replace U43 := U43.kb k12
  replace b5 := b5.kb k12
  replace U44 := U44.kb k12
  replace b6 := b6.kb k12
  replace b7 := b7.kb k12
  replace b8 := b8.kb k12
  replace kx := kx.trans k12
  have s12 := k12.size
  simp only [World.size_alloc] at s12
  clear k12
  go_wp2
  go_ret
  exact ⟨rfl, kx⟩
end Go.Proofs.YtdmfkgopalelgaaDoor
