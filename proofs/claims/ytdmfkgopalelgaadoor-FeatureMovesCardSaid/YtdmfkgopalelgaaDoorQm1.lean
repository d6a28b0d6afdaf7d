/- Features: walks of the law Moves. -/
import Derived.Test.YtdmfkgopalelgaaDoorQj5
import Derived.Test.YtdmfkgopalelgaaDoorQg9
namespace Go.Proofs.YtdmfkgopalelgaaDoor
open Go.RowKit

theorem rSelf (n : ByteArray) (k a x y z lo hi : Int) (p1 : Option Addr) (l1 c1 : Nat) (p2 : Option Addr) (l2 c2 : Nat) (g : List FrT) (h : Hid (g.length ≤ 12 ∧ ∀ f ∈ g, f.ds.length ≤ 1000000)) (w : World) (da : FrS w (.slice p1 l1 c1) g) (db : FrS w (.slice p2 l2 c2) g) : Calls Tryd.prog 30 #[.agg #[.string n, .int .i64 k, .int .i64 a, .int .i64 x, .int .i64 y, .int .i64 z, .int .i64 lo, .int .i64 hi, .slice p1 l1 c1], .agg #[.string n, .int .i64 k, .int .i64 a, .int .i64 x, .int .i64 y, .int .i64 z, .int .i64 lo, .int .i64 hi, .slice p2 l2 c2]] w fun r W' => r = .returned (.bool true) ∧ Kb w W' := by
  have q := rSame n k a x y z lo hi p1 l1 c1 n k a x y z lo hi p2 l2 c2 g g (by have := da.len; have := h.out.1; omega) (Lib.hid h.out.2) w da db
  rw [plB_refl, eqL_refl frB_refl] at q
  exact q
set_option maxRecDepth 100000 in
set_option maxHeartbeats 4000000 in
theorem lwMoves_1 (nu : ByteArray) (ku : Int) (au : Int) (xu : Int) (yu : Int) (zu : Int) (lou : Int) (hiu : Int) (fpu : Option Addr) (flu : Nat) (fcu : Nat) (fs : List FrT) (du : Int) (dv : Int) (dw : Int) (c : Int) (np : ByteArray) (kp : Int) (ap : Int) (xp : Int) (yp : Int) (zp : Int) (lop : Int) (hip : Int) (eep : Int) (gp : List FrT) (p2p : Option Addr) (l2p : Nat) (c2p : Nat) (nq : ByteArray) (kq : Int) (aq : Int) (xq : Int) (yq : Int) (zq : Int) (loq : Int) (hiq : Int) (eeq : Int) (gq : List FrT) (p2q : Option Addr) (l2q : Nat) (c2q : Nat) (nr : ByteArray) (kr : Int) (ar : Int) (xr : Int) (yr : Int) (zr : Int) (lor : Int) (hir : Int) (eer : Int) (gr : List FrT) (p2r : Option Addr) (l2r : Nat) (c2r : Nat)     (qpP : Hid (∀ W : World, FrS W (.slice fpu flu fcu) fs → Calls Tryd.prog 24 #[.agg #[.string nu, .int .i64 ku, .int .i64 au, .int .i64 xu, .int .i64 yu, .int .i64 zu, .int .i64 lou, .int .i64 hiu, .slice fpu flu fcu], .agg #[.int .i64 du, .int .i64 dv, .int .i64 dw]] W fun r W' => ∃ q' l' c', r = .returned (.tuple #[.agg #[.string np, .int .i64 kp, .int .i64 ap, .int .i64 xp, .int .i64 yp, .int .i64 zp, .int .i64 lop, .int .i64 hip, .slice q' l' c'], .int .i64 eep]) ∧ FrS W' (.slice q' l' c') gp ∧ Kb W W')) (qqP : Hid (∀ W : World, FrS W (.slice fpu flu fcu) fs → Calls Tryd.prog 26 #[.agg #[.string nu, .int .i64 ku, .int .i64 au, .int .i64 xu, .int .i64 yu, .int .i64 zu, .int .i64 lou, .int .i64 hiu, .slice fpu flu fcu], .int .i64 c] W fun r W' => ∃ q' l' c', r = .returned (.tuple #[.agg #[.string nq, .int .i64 kq, .int .i64 aq, .int .i64 xq, .int .i64 yq, .int .i64 zq, .int .i64 loq, .int .i64 hiq, .slice q' l' c'], .int .i64 eeq]) ∧ FrS W' (.slice q' l' c') gq ∧ Kb W W')) (qrP : Hid (∀ W : World, FrS W (.slice fpu flu fcu) fs → Calls Tryd.prog 28 #[.agg #[.string nu, .int .i64 ku, .int .i64 au, .int .i64 xu, .int .i64 yu, .int .i64 zu, .int .i64 lou, .int .i64 hiu, .slice fpu flu fcu], .int .i64 c] W fun r W' => ∃ q' l' c', r = .returned (.tuple #[.agg #[.string nr, .int .i64 kr, .int .i64 ar, .int .i64 xr, .int .i64 yr, .int .i64 zr, .int .i64 lor, .int .i64 hir, .slice q' l' c'], .int .i64 eer]) ∧ FrS W' (.slice q' l' c') gr ∧ Kb W W')) (qpR : Ca 25 #[.agg #[.string nu, .int .i64 ku, .int .i64 au, .int .i64 xu, .int .i64 yu, .int .i64 zu, .int .i64 lou, .int .i64 hiu, .slice fpu flu fcu], .agg #[.int .i64 du, .int .i64 dv, .int .i64 dw]] (.tuple #[.agg #[.string np, .int .i64 kp, .int .i64 ap, .int .i64 xp, .int .i64 yp, .int .i64 zp, .int .i64 lop, .int .i64 hip, .slice p2p l2p c2p], .int .i64 eep])) (qqR : Ca 27 #[.agg #[.string nu, .int .i64 ku, .int .i64 au, .int .i64 xu, .int .i64 yu, .int .i64 zu, .int .i64 lou, .int .i64 hiu, .slice fpu flu fcu], .int .i64 c] (.tuple #[.agg #[.string nq, .int .i64 kq, .int .i64 aq, .int .i64 xq, .int .i64 yq, .int .i64 zq, .int .i64 loq, .int .i64 hiq, .slice p2q l2q c2q], .int .i64 eeq])) (qrR : Ca 29 #[.agg #[.string nu, .int .i64 ku, .int .i64 au, .int .i64 xu, .int .i64 yu, .int .i64 zu, .int .i64 lou, .int .i64 hiu, .slice fpu flu fcu], .int .i64 c] (.tuple #[.agg #[.string nr, .int .i64 kr, .int .i64 ar, .int .i64 xr, .int .i64 yr, .int .i64 zr, .int .i64 lor, .int .i64 hir, .slice p2r l2r c2r], .int .i64 eer])) (spS : Hid (gp.length ≤ 12 ∧ ∀ f ∈ gp, f.ds.length ≤ 1000000)) (sqS : Hid (gq.length ≤ 12 ∧ ∀ f ∈ gq, f.ds.length ≤ 1000000)) (srS : Hid (gr.length ≤ 12 ∧ ∀ f ∈ gr, f.ds.length ≤ 1000000))  (h1 : (fewB nu fs) = true) (w : World) (gl : Gl w) (da : FrS w (.slice fpu flu fcu) fs) (vp : FrS w (.slice p2p l2p c2p) gp) (vq : FrS w (.slice p2q l2q c2q) gq) (vr : FrS w (.slice p2r l2r c2r) gr)  : Calls Tryd.prog 5 #[.agg #[.string nu, .int .i64 ku, .int .i64 au, .int .i64 xu, .int .i64 yu, .int .i64 zu, .int .i64 lou, .int .i64 hiu, .slice fpu flu fcu], .agg #[.int .i64 du, .int .i64 dv, .int .i64 dw], .int .i64 c] w fun r W' => r = .returned (.bool true) ∧ Kb w W' := by
  have kx := Kb.refl w
  have da0 := Lib.hid da
  have vp0 := Lib.hid vp
  have vq0 := Lib.hid vq
  have vr0 := Lib.hid vr
  have gl0 := Lib.hid gl
  have j1 := ((Is.made w #[.string nu, .int .i64 ku, .int .i64 au, .int .i64 xu, .int .i64 yu, .int .i64 zu, .int .i64 lou, .int .i64 hiu, .slice fpu flu fcu] 28).alloc (.cells #[.int .i64 du, .int .i64 dv, .int .i64 dw] 23 (0, 0)))
  have f2 := j1.c (i := 0) rfl
  have f3 := j1.c (i := 1) rfl
  have f4 := j1.c (i := 2) rfl
  have f5 := j1.c (i := 3) rfl
  have f6 := j1.c (i := 4) rfl
  have f7 := j1.c (i := 5) rfl
  have f8 := j1.c (i := 6) rfl
  have f9 := j1.c (i := 7) rfl
  have f10 := j1.c (i := 8) rfl
  go_enter Tryd.func5, Tryd.ntmps5
  go_wp2_with fail
  clear f2 f3 f4 f5 f6 f7 f8 f9 f10
  have b1 := j1
  have b2 := Is.made (w.alloc (.cells #[.string nu, .int .i64 ku, .int .i64 au, .int .i64 xu, .int .i64 yu, .int .i64 zu, .int .i64 lou, .int .i64 hiu, .slice fpu flu fcu] 28 (0, 0))) #[.int .i64 du, .int .i64 dv, .int .i64 dw] 23
  simp only [World.size_alloc] at b2
  replace kx := (kx.alloc (.cells #[.string nu, .int .i64 ku, .int .i64 au, .int .i64 xu, .int .i64 yu, .int .i64 zu, .int .i64 lou, .int .i64 hiu, .slice fpu flu fcu] 28 (0, 0))).alloc (.cells #[.int .i64 du, .int .i64 dv, .int .i64 dw] 23 (0, 0))
  clear j1
  replace da := da0.out.kb kx
  replace vp := vp0.out.kb kx
  replace vq := vq0.out.kb kx
  replace vr := vr0.out.kb kx
  replace gl := gl0.out.kb kx
  (with_reducible refine (rFew nu ku au xu yu zu lou hiu fpu flu fcu fs _ da).mono ?_)
  rintro r w1 ⟨rfl, k1⟩
  replace da := da.kb k1
  replace vp := vp.kb k1
  replace vq := vq.kb k1
  replace vr := vr.kb k1
  replace gl := gl.kb k1
  replace b1 := b1.kb k1
  replace b2 := b2.kb k1
  replace kx := kx.trans k1
  have s1 := k1.size
  simp only [World.size_alloc] at s1
  clear k1
  have f11 := b1.c (i := 0) rfl
  have f12 := b1.c (i := 1) rfl
  have f13 := b1.c (i := 2) rfl
  have f14 := b1.c (i := 3) rfl
  have f15 := b1.c (i := 4) rfl
  have f16 := b1.c (i := 5) rfl
  have f17 := b1.c (i := 6) rfl
  have f18 := b1.c (i := 7) rfl
  have f19 := b1.c (i := 8) rfl
  have f20 := b2.c (i := 0) rfl
  have f21 := b2.c (i := 1) rfl
  have f22 := b2.c (i := 2) rfl
  go_wp2_with fail
  clear f11 f12 f13 f14 f15 f16 f17 f18 f19 f20 f21 f22
  (with_reducible refine (qpP.out _ da).mono ?_)
  rintro r w2 ⟨fpp, flp, fcp, rfl, Up, k2⟩
  replace da := da.kb k2
  replace vp := vp.kb k2
  replace vq := vq.kb k2
  replace vr := vr.kb k2
  replace gl := gl.kb k2
  replace b1 := b1.kb k2
  replace b2 := b2.kb k2
  replace kx := kx.trans k2
  have s2 := k2.size
  skip
  clear k2
  have j23 := (b1.alloc (.cells #[.string np, .int .i64 kp, .int .i64 ap, .int .i64 xp, .int .i64 yp, .int .i64 zp, .int .i64 lop, .int .i64 hip, .slice fpp flp fcp] 28 (0, 0)))
  have f24 := j23.c (i := 0) rfl
  have f25 := j23.c (i := 1) rfl
  have f26 := j23.c (i := 2) rfl
  have f27 := j23.c (i := 3) rfl
  have f28 := j23.c (i := 4) rfl
  have f29 := j23.c (i := 5) rfl
  have f30 := j23.c (i := 6) rfl
  have f31 := j23.c (i := 7) rfl
  have f32 := j23.c (i := 8) rfl
  have j33 := (b2.alloc (.cells #[.string np, .int .i64 kp, .int .i64 ap, .int .i64 xp, .int .i64 yp, .int .i64 zp, .int .i64 lop, .int .i64 hip, .slice fpp flp fcp] 28 (0, 0)))
  have f34 := j33.c (i := 0) rfl
  have f35 := j33.c (i := 1) rfl
  have f36 := j33.c (i := 2) rfl
  go_wp2_with fail
  clear f24 f25 f26 f27 f28 f29 f30 f31 f32 f34 f35 f36
  replace b1 := j23
  replace b2 := j33
  replace Up := (Up.alloc (.cells #[.string np, .int .i64 kp, .int .i64 ap, .int .i64 xp, .int .i64 yp, .int .i64 zp, .int .i64 lop, .int .i64 hip, .slice fpp flp fcp] 28 (0, 0)))
  have b3 := Is.made w2 #[.string np, .int .i64 kp, .int .i64 ap, .int .i64 xp, .int .i64 yp, .int .i64 zp, .int .i64 lop, .int .i64 hip, .slice fpp flp fcp] 28
  replace kx := kx.alloc (.cells #[.string np, .int .i64 kp, .int .i64 ap, .int .i64 xp, .int .i64 yp, .int .i64 zp, .int .i64 lop, .int .i64 hip, .slice fpp flp fcp] 28 (0, 0))
  clear j23 j33
  replace da := da0.out.kb kx
  replace vp := vp0.out.kb kx
  replace vq := vq0.out.kb kx
  replace vr := vr0.out.kb kx
  replace gl := gl0.out.kb kx
  (with_reducible refine (Ca.o qpR _).mono ?_)
  rintro r w3 ⟨rfl, k3⟩
  replace da := da.kb k3
  replace vp := vp.kb k3
  replace vq := vq.kb k3
  replace vr := vr.kb k3
  replace gl := gl.kb k3
  replace b1 := b1.kb k3
  replace b2 := b2.kb k3
  replace Up := Up.kb k3
  replace b3 := b3.kb k3
  replace kx := kx.trans k3
  have s3 := k3.size
  simp only [World.size_alloc] at s3
  clear k3
  have j37 := (b1.alloc (.cells #[.string np, .int .i64 kp, .int .i64 ap, .int .i64 xp, .int .i64 yp, .int .i64 zp, .int .i64 lop, .int .i64 hip, .slice p2p l2p c2p] 28 (0, 0)))
  have f38 := j37.c (i := 0) rfl
  have f39 := j37.c (i := 1) rfl
  have f40 := j37.c (i := 2) rfl
  have f41 := j37.c (i := 3) rfl
  have f42 := j37.c (i := 4) rfl
  have f43 := j37.c (i := 5) rfl
  have f44 := j37.c (i := 6) rfl
  have f45 := j37.c (i := 7) rfl
  have f46 := j37.c (i := 8) rfl
  go_wp2_with fail
  clear f38 f39 f40 f41 f42 f43 f44 f45 f46
  replace b1 := j37
  replace b2 := (b2.alloc (.cells #[.string np, .int .i64 kp, .int .i64 ap, .int .i64 xp, .int .i64 yp, .int .i64 zp, .int .i64 lop, .int .i64 hip, .slice p2p l2p c2p] 28 (0, 0)))
  replace Up := (Up.alloc (.cells #[.string np, .int .i64 kp, .int .i64 ap, .int .i64 xp, .int .i64 yp, .int .i64 zp, .int .i64 lop, .int .i64 hip, .slice p2p l2p c2p] 28 (0, 0)))
  replace b3 := (b3.alloc (.cells #[.string np, .int .i64 kp, .int .i64 ap, .int .i64 xp, .int .i64 yp, .int .i64 zp, .int .i64 lop, .int .i64 hip, .slice p2p l2p c2p] 28 (0, 0)))
  have b4 := Is.made w3 #[.string np, .int .i64 kp, .int .i64 ap, .int .i64 xp, .int .i64 yp, .int .i64 zp, .int .i64 lop, .int .i64 hip, .slice p2p l2p c2p] 28
  replace kx := kx.alloc (.cells #[.string np, .int .i64 kp, .int .i64 ap, .int .i64 xp, .int .i64 yp, .int .i64 zp, .int .i64 lop, .int .i64 hip, .slice p2p l2p c2p] 28 (0, 0))
  clear j37
  replace da := da0.out.kb kx
  replace vp := vp0.out.kb kx
  replace vq := vq0.out.kb kx
  replace vr := vr0.out.kb kx
  replace gl := gl0.out.kb kx
  (with_reducible refine (qqP.out _ da).mono ?_)
  rintro r w4 ⟨fpq, flq, fcq, rfl, Uq, k4⟩
  replace da := da.kb k4
  replace vp := vp.kb k4
  replace vq := vq.kb k4
  replace vr := vr.kb k4
  replace gl := gl.kb k4
  replace b1 := b1.kb k4
  replace b2 := b2.kb k4
  replace Up := Up.kb k4
  replace b3 := b3.kb k4
  replace b4 := b4.kb k4
  replace kx := kx.trans k4
  have s4 := k4.size
  simp only [World.size_alloc] at s4
  clear k4
  have j47 := (b1.alloc (.cells #[.string nq, .int .i64 kq, .int .i64 aq, .int .i64 xq, .int .i64 yq, .int .i64 zq, .int .i64 loq, .int .i64 hiq, .slice fpq flq fcq] 28 (0, 0)))
  have f48 := j47.c (i := 0) rfl
  have f49 := j47.c (i := 1) rfl
  have f50 := j47.c (i := 2) rfl
  have f51 := j47.c (i := 3) rfl
  have f52 := j47.c (i := 4) rfl
  have f53 := j47.c (i := 5) rfl
  have f54 := j47.c (i := 6) rfl
  have f55 := j47.c (i := 7) rfl
  have f56 := j47.c (i := 8) rfl
  go_wp2_with fail
  clear f48 f49 f50 f51 f52 f53 f54 f55 f56
  replace b1 := j47
  replace b2 := (b2.alloc (.cells #[.string nq, .int .i64 kq, .int .i64 aq, .int .i64 xq, .int .i64 yq, .int .i64 zq, .int .i64 loq, .int .i64 hiq, .slice fpq flq fcq] 28 (0, 0)))
  replace Up := (Up.alloc (.cells #[.string nq, .int .i64 kq, .int .i64 aq, .int .i64 xq, .int .i64 yq, .int .i64 zq, .int .i64 loq, .int .i64 hiq, .slice fpq flq fcq] 28 (0, 0)))
  replace b3 := (b3.alloc (.cells #[.string nq, .int .i64 kq, .int .i64 aq, .int .i64 xq, .int .i64 yq, .int .i64 zq, .int .i64 loq, .int .i64 hiq, .slice fpq flq fcq] 28 (0, 0)))
  replace b4 := (b4.alloc (.cells #[.string nq, .int .i64 kq, .int .i64 aq, .int .i64 xq, .int .i64 yq, .int .i64 zq, .int .i64 loq, .int .i64 hiq, .slice fpq flq fcq] 28 (0, 0)))
  replace Uq := (Uq.alloc (.cells #[.string nq, .int .i64 kq, .int .i64 aq, .int .i64 xq, .int .i64 yq, .int .i64 zq, .int .i64 loq, .int .i64 hiq, .slice fpq flq fcq] 28 (0, 0)))
  have b5 := Is.made w4 #[.string nq, .int .i64 kq, .int .i64 aq, .int .i64 xq, .int .i64 yq, .int .i64 zq, .int .i64 loq, .int .i64 hiq, .slice fpq flq fcq] 28
  replace kx := kx.alloc (.cells #[.string nq, .int .i64 kq, .int .i64 aq, .int .i64 xq, .int .i64 yq, .int .i64 zq, .int .i64 loq, .int .i64 hiq, .slice fpq flq fcq] 28 (0, 0))
  clear j47
  replace da := da0.out.kb kx
  replace vp := vp0.out.kb kx
  replace vq := vq0.out.kb kx
  replace vr := vr0.out.kb kx
  replace gl := gl0.out.kb kx
  (with_reducible refine (Ca.o qqR _).mono ?_)
  rintro r w5 ⟨rfl, k5⟩
  replace da := da.kb k5
  replace vp := vp.kb k5
  replace vq := vq.kb k5
  replace vr := vr.kb k5
  replace gl := gl.kb k5
  replace b1 := b1.kb k5
  replace b2 := b2.kb k5
  replace Up := Up.kb k5
  replace b3 := b3.kb k5
  replace b4 := b4.kb k5
  replace Uq := Uq.kb k5
  replace b5 := b5.kb k5
  replace kx := kx.trans k5
  have s5 := k5.size
  simp only [World.size_alloc] at s5
  clear k5
  have j57 := (b1.alloc (.cells #[.string nq, .int .i64 kq, .int .i64 aq, .int .i64 xq, .int .i64 yq, .int .i64 zq, .int .i64 loq, .int .i64 hiq, .slice p2q l2q c2q] 28 (0, 0)))
  have f58 := j57.c (i := 0) rfl
  have f59 := j57.c (i := 1) rfl
  have f60 := j57.c (i := 2) rfl
  have f61 := j57.c (i := 3) rfl
  have f62 := j57.c (i := 4) rfl
  have f63 := j57.c (i := 5) rfl
  have f64 := j57.c (i := 6) rfl
  have f65 := j57.c (i := 7) rfl
  have f66 := j57.c (i := 8) rfl
  go_wp2_with fail
  clear f58 f59 f60 f61 f62 f63 f64 f65 f66
  replace b1 := j57
  replace b2 := (b2.alloc (.cells #[.string nq, .int .i64 kq, .int .i64 aq, .int .i64 xq, .int .i64 yq, .int .i64 zq, .int .i64 loq, .int .i64 hiq, .slice p2q l2q c2q] 28 (0, 0)))
  replace Up := (Up.alloc (.cells #[.string nq, .int .i64 kq, .int .i64 aq, .int .i64 xq, .int .i64 yq, .int .i64 zq, .int .i64 loq, .int .i64 hiq, .slice p2q l2q c2q] 28 (0, 0)))
  replace b3 := (b3.alloc (.cells #[.string nq, .int .i64 kq, .int .i64 aq, .int .i64 xq, .int .i64 yq, .int .i64 zq, .int .i64 loq, .int .i64 hiq, .slice p2q l2q c2q] 28 (0, 0)))
  replace b4 := (b4.alloc (.cells #[.string nq, .int .i64 kq, .int .i64 aq, .int .i64 xq, .int .i64 yq, .int .i64 zq, .int .i64 loq, .int .i64 hiq, .slice p2q l2q c2q] 28 (0, 0)))
  replace Uq := (Uq.alloc (.cells #[.string nq, .int .i64 kq, .int .i64 aq, .int .i64 xq, .int .i64 yq, .int .i64 zq, .int .i64 loq, .int .i64 hiq, .slice p2q l2q c2q] 28 (0, 0)))
  replace b5 := (b5.alloc (.cells #[.string nq, .int .i64 kq, .int .i64 aq, .int .i64 xq, .int .i64 yq, .int .i64 zq, .int .i64 loq, .int .i64 hiq, .slice p2q l2q c2q] 28 (0, 0)))
  have b6 := Is.made w5 #[.string nq, .int .i64 kq, .int .i64 aq, .int .i64 xq, .int .i64 yq, .int .i64 zq, .int .i64 loq, .int .i64 hiq, .slice p2q l2q c2q] 28
  replace kx := kx.alloc (.cells #[.string nq, .int .i64 kq, .int .i64 aq, .int .i64 xq, .int .i64 yq, .int .i64 zq, .int .i64 loq, .int .i64 hiq, .slice p2q l2q c2q] 28 (0, 0))
  clear j57
  replace da := da0.out.kb kx
  replace vp := vp0.out.kb kx
  replace vq := vq0.out.kb kx
  replace vr := vr0.out.kb kx
  replace gl := gl0.out.kb kx
  (with_reducible refine (qrP.out _ da).mono ?_)
  rintro r w6 ⟨fpr, flr, fcr, rfl, Ur, k6⟩
  replace da := da.kb k6
  replace vp := vp.kb k6
  replace vq := vq.kb k6
  replace vr := vr.kb k6
  replace gl := gl.kb k6
  replace b1 := b1.kb k6
  replace b2 := b2.kb k6
  replace Up := Up.kb k6
  replace b3 := b3.kb k6
  replace b4 := b4.kb k6
  replace Uq := Uq.kb k6
  replace b5 := b5.kb k6
  replace b6 := b6.kb k6
  replace kx := kx.trans k6
  have s6 := k6.size
  simp only [World.size_alloc] at s6
  clear k6
  have j67 := (b1.alloc (.cells #[.string nr, .int .i64 kr, .int .i64 ar, .int .i64 xr, .int .i64 yr, .int .i64 zr, .int .i64 lor, .int .i64 hir, .slice fpr flr fcr] 28 (0, 0)))
  have f68 := j67.c (i := 0) rfl
  have f69 := j67.c (i := 1) rfl
  have f70 := j67.c (i := 2) rfl
  have f71 := j67.c (i := 3) rfl
  have f72 := j67.c (i := 4) rfl
  have f73 := j67.c (i := 5) rfl
  have f74 := j67.c (i := 6) rfl
  have f75 := j67.c (i := 7) rfl
  have f76 := j67.c (i := 8) rfl
  go_wp2_with fail
  clear f68 f69 f70 f71 f72 f73 f74 f75 f76
  replace b1 := j67
  replace b2 := (b2.alloc (.cells #[.string nr, .int .i64 kr, .int .i64 ar, .int .i64 xr, .int .i64 yr, .int .i64 zr, .int .i64 lor, .int .i64 hir, .slice fpr flr fcr] 28 (0, 0)))
  replace Up := (Up.alloc (.cells #[.string nr, .int .i64 kr, .int .i64 ar, .int .i64 xr, .int .i64 yr, .int .i64 zr, .int .i64 lor, .int .i64 hir, .slice fpr flr fcr] 28 (0, 0)))
  replace b3 := (b3.alloc (.cells #[.string nr, .int .i64 kr, .int .i64 ar, .int .i64 xr, .int .i64 yr, .int .i64 zr, .int .i64 lor, .int .i64 hir, .slice fpr flr fcr] 28 (0, 0)))
  replace b4 := (b4.alloc (.cells #[.string nr, .int .i64 kr, .int .i64 ar, .int .i64 xr, .int .i64 yr, .int .i64 zr, .int .i64 lor, .int .i64 hir, .slice fpr flr fcr] 28 (0, 0)))
  replace Uq := (Uq.alloc (.cells #[.string nr, .int .i64 kr, .int .i64 ar, .int .i64 xr, .int .i64 yr, .int .i64 zr, .int .i64 lor, .int .i64 hir, .slice fpr flr fcr] 28 (0, 0)))
  replace b5 := (b5.alloc (.cells #[.string nr, .int .i64 kr, .int .i64 ar, .int .i64 xr, .int .i64 yr, .int .i64 zr, .int .i64 lor, .int .i64 hir, .slice fpr flr fcr] 28 (0, 0)))
  replace b6 := (b6.alloc (.cells #[.string nr, .int .i64 kr, .int .i64 ar, .int .i64 xr, .int .i64 yr, .int .i64 zr, .int .i64 lor, .int .i64 hir, .slice fpr flr fcr] 28 (0, 0)))
  replace Ur := (Ur.alloc (.cells #[.string nr, .int .i64 kr, .int .i64 ar, .int .i64 xr, .int .i64 yr, .int .i64 zr, .int .i64 lor, .int .i64 hir, .slice fpr flr fcr] 28 (0, 0)))
  have b7 := Is.made w6 #[.string nr, .int .i64 kr, .int .i64 ar, .int .i64 xr, .int .i64 yr, .int .i64 zr, .int .i64 lor, .int .i64 hir, .slice fpr flr fcr] 28
  replace kx := kx.alloc (.cells #[.string nr, .int .i64 kr, .int .i64 ar, .int .i64 xr, .int .i64 yr, .int .i64 zr, .int .i64 lor, .int .i64 hir, .slice fpr flr fcr] 28 (0, 0))
  clear j67
  replace da := da0.out.kb kx
  replace vp := vp0.out.kb kx
  replace vq := vq0.out.kb kx
  replace vr := vr0.out.kb kx
  replace gl := gl0.out.kb kx
  (with_reducible refine (Ca.o qrR _).mono ?_)
  rintro r w7 ⟨rfl, k7⟩
  replace da := da.kb k7
  replace vp := vp.kb k7
  replace vq := vq.kb k7
  replace vr := vr.kb k7
  replace gl := gl.kb k7
  replace b1 := b1.kb k7
  replace b2 := b2.kb k7
  replace Up := Up.kb k7
  replace b3 := b3.kb k7
  replace b4 := b4.kb k7
  replace Uq := Uq.kb k7
  replace b5 := b5.kb k7
  replace b6 := b6.kb k7
  replace Ur := Ur.kb k7
  replace b7 := b7.kb k7
  replace kx := kx.trans k7
  have s7 := k7.size
  simp only [World.size_alloc] at s7
  clear k7
  go_wp2_with fail
  replace b1 := (b1.alloc (.cells #[.string nr, .int .i64 kr, .int .i64 ar, .int .i64 xr, .int .i64 yr, .int .i64 zr, .int .i64 lor, .int .i64 hir, .slice p2r l2r c2r] 28 (0, 0)))
  replace b2 := (b2.alloc (.cells #[.string nr, .int .i64 kr, .int .i64 ar, .int .i64 xr, .int .i64 yr, .int .i64 zr, .int .i64 lor, .int .i64 hir, .slice p2r l2r c2r] 28 (0, 0)))
  replace Up := (Up.alloc (.cells #[.string nr, .int .i64 kr, .int .i64 ar, .int .i64 xr, .int .i64 yr, .int .i64 zr, .int .i64 lor, .int .i64 hir, .slice p2r l2r c2r] 28 (0, 0)))
  replace b3 := (b3.alloc (.cells #[.string nr, .int .i64 kr, .int .i64 ar, .int .i64 xr, .int .i64 yr, .int .i64 zr, .int .i64 lor, .int .i64 hir, .slice p2r l2r c2r] 28 (0, 0)))
  replace b4 := (b4.alloc (.cells #[.string nr, .int .i64 kr, .int .i64 ar, .int .i64 xr, .int .i64 yr, .int .i64 zr, .int .i64 lor, .int .i64 hir, .slice p2r l2r c2r] 28 (0, 0)))
  replace Uq := (Uq.alloc (.cells #[.string nr, .int .i64 kr, .int .i64 ar, .int .i64 xr, .int .i64 yr, .int .i64 zr, .int .i64 lor, .int .i64 hir, .slice p2r l2r c2r] 28 (0, 0)))
  replace b5 := (b5.alloc (.cells #[.string nr, .int .i64 kr, .int .i64 ar, .int .i64 xr, .int .i64 yr, .int .i64 zr, .int .i64 lor, .int .i64 hir, .slice p2r l2r c2r] 28 (0, 0)))
  replace b6 := (b6.alloc (.cells #[.string nr, .int .i64 kr, .int .i64 ar, .int .i64 xr, .int .i64 yr, .int .i64 zr, .int .i64 lor, .int .i64 hir, .slice p2r l2r c2r] 28 (0, 0)))
  replace Ur := (Ur.alloc (.cells #[.string nr, .int .i64 kr, .int .i64 ar, .int .i64 xr, .int .i64 yr, .int .i64 zr, .int .i64 lor, .int .i64 hir, .slice p2r l2r c2r] 28 (0, 0)))
  replace b7 := (b7.alloc (.cells #[.string nr, .int .i64 kr, .int .i64 ar, .int .i64 xr, .int .i64 yr, .int .i64 zr, .int .i64 lor, .int .i64 hir, .slice p2r l2r c2r] 28 (0, 0)))
  have b8 := Is.made w7 #[.string nr, .int .i64 kr, .int .i64 ar, .int .i64 xr, .int .i64 yr, .int .i64 zr, .int .i64 lor, .int .i64 hir, .slice p2r l2r c2r] 28
  replace kx := kx.alloc (.cells #[.string nr, .int .i64 kr, .int .i64 ar, .int .i64 xr, .int .i64 yr, .int .i64 zr, .int .i64 lor, .int .i64 hir, .slice p2r l2r c2r] 28 (0, 0))
  replace da := da0.out.kb kx
  replace vp := vp0.out.kb kx
  replace vq := vq0.out.kb kx
  replace vr := vr0.out.kb kx
  replace gl := gl0.out.kb kx
  (with_reducible refine ((Cg.out awake_any _ gl)).mono ?_)
  rintro r w8 ⟨rfl, k8⟩
  replace da := da.kb k8
  replace vp := vp.kb k8
  replace vq := vq.kb k8
  replace vr := vr.kb k8
  replace gl := gl.kb k8
  replace b1 := b1.kb k8
  replace b2 := b2.kb k8
  replace Up := Up.kb k8
  replace b3 := b3.kb k8
  replace b4 := b4.kb k8
  replace Uq := Uq.kb k8
  replace b5 := b5.kb k8
  replace b6 := b6.kb k8
  replace Ur := Ur.kb k8
  replace b7 := b7.kb k8
  replace b8 := b8.kb k8
  replace kx := kx.trans k8
  have s8 := k8.size
  simp only [World.size_alloc] at s8
  clear k8
  have f77 := b3.c (i := 0) rfl
  have f78 := b3.c (i := 1) rfl
  have f79 := b3.c (i := 2) rfl
  have f80 := b3.c (i := 3) rfl
  have f81 := b3.c (i := 4) rfl
  have f82 := b3.c (i := 5) rfl
  have f83 := b3.c (i := 6) rfl
  have f84 := b3.c (i := 7) rfl
  have f85 := b3.c (i := 8) rfl
  have f86 := b4.c (i := 0) rfl
  have f87 := b4.c (i := 1) rfl
  have f88 := b4.c (i := 2) rfl
  have f89 := b4.c (i := 3) rfl
  have f90 := b4.c (i := 4) rfl
  have f91 := b4.c (i := 5) rfl
  have f92 := b4.c (i := 6) rfl
  have f93 := b4.c (i := 7) rfl
  have f94 := b4.c (i := 8) rfl
  go_wp2_with fail
  clear f77 f78 f79 f80 f81 f82 f83 f84 f85 f86 f87 f88 f89 f90 f91 f92 f93 f94
  (with_reducible refine (rSelf np kp ap xp yp zp lop hip _ _ _ _ _ _ gp spS _ Up vp).mono ?_)
  rintro r w9 ⟨rfl, k9⟩
  replace da := da.kb k9
  replace vp := vp.kb k9
  replace vq := vq.kb k9
  replace vr := vr.kb k9
  replace gl := gl.kb k9
  replace b1 := b1.kb k9
  replace b2 := b2.kb k9
  replace Up := Up.kb k9
  replace b3 := b3.kb k9
  replace b4 := b4.kb k9
  replace Uq := Uq.kb k9
  replace b5 := b5.kb k9
  replace b6 := b6.kb k9
  replace Ur := Ur.kb k9
  replace b7 := b7.kb k9
  replace b8 := b8.kb k9
  replace kx := kx.trans k9
  have s9 := k9.size
  skip
  clear k9
  have f95 := b5.c (i := 0) rfl
  have f96 := b5.c (i := 1) rfl
  have f97 := b5.c (i := 2) rfl
  have f98 := b5.c (i := 3) rfl
  have f99 := b5.c (i := 4) rfl
  have f100 := b5.c (i := 5) rfl
  have f101 := b5.c (i := 6) rfl
  have f102 := b5.c (i := 7) rfl
  have f103 := b5.c (i := 8) rfl
  have f104 := b6.c (i := 0) rfl
  have f105 := b6.c (i := 1) rfl
  have f106 := b6.c (i := 2) rfl
  have f107 := b6.c (i := 3) rfl
  have f108 := b6.c (i := 4) rfl
  have f109 := b6.c (i := 5) rfl
  have f110 := b6.c (i := 6) rfl
  have f111 := b6.c (i := 7) rfl
  have f112 := b6.c (i := 8) rfl
  go_wp2_with fail
  clear f95 f96 f97 f98 f99 f100 f101 f102 f103 f104 f105 f106 f107 f108 f109 f110 f111 f112
  (with_reducible refine (rSelf nq kq aq xq yq zq loq hiq _ _ _ _ _ _ gq sqS _ Uq vq).mono ?_)
  rintro r w10 ⟨rfl, k10⟩
  replace da := da.kb k10
  replace vp := vp.kb k10
  replace vq := vq.kb k10
  replace vr := vr.kb k10
  replace gl := gl.kb k10
  replace b1 := b1.kb k10
  replace b2 := b2.kb k10
  replace Up := Up.kb k10
  replace b3 := b3.kb k10
  replace b4 := b4.kb k10
  replace Uq := Uq.kb k10
  replace b5 := b5.kb k10
  replace b6 := b6.kb k10
  replace Ur := Ur.kb k10
  replace b7 := b7.kb k10
  replace b8 := b8.kb k10
  replace kx := kx.trans k10
  have s10 := k10.size
  skip
  clear k10
  have f113 := b7.c (i := 0) rfl
  have f114 := b7.c (i := 1) rfl
  have f115 := b7.c (i := 2) rfl
  have f116 := b7.c (i := 3) rfl
  have f117 := b7.c (i := 4) rfl
  have f118 := b7.c (i := 5) rfl
  have f119 := b7.c (i := 6) rfl
  have f120 := b7.c (i := 7) rfl
  have f121 := b7.c (i := 8) rfl
  have f122 := b8.c (i := 0) rfl
  have f123 := b8.c (i := 1) rfl
  have f124 := b8.c (i := 2) rfl
  have f125 := b8.c (i := 3) rfl
  have f126 := b8.c (i := 4) rfl
  have f127 := b8.c (i := 5) rfl
  have f128 := b8.c (i := 6) rfl
  have f129 := b8.c (i := 7) rfl
  have f130 := b8.c (i := 8) rfl
  go_wp2_with fail
  clear f113 f114 f115 f116 f117 f118 f119 f120 f121 f122 f123 f124 f125 f126 f127 f128 f129 f130
  (with_reducible refine (rSelf nr kr ar xr yr zr lor hir _ _ _ _ _ _ gr srS _ Ur vr).mono ?_)
  rintro r w11 ⟨rfl, k11⟩
  replace da := da.kb k11
  replace vp := vp.kb k11
  replace vq := vq.kb k11
  replace vr := vr.kb k11
  replace gl := gl.kb k11
  replace b1 := b1.kb k11
  replace b2 := b2.kb k11
  replace Up := Up.kb k11
  replace b3 := b3.kb k11
  replace b4 := b4.kb k11
  replace Uq := Uq.kb k11
  replace b5 := b5.kb k11
  replace b6 := b6.kb k11
  replace Ur := Ur.kb k11
  replace b7 := b7.kb k11
  replace b8 := b8.kb k11
  replace kx := kx.trans k11
  have s11 := k11.size
  skip
  clear k11
  go_wp2
  go_ret
  exact ⟨rfl, kx⟩
set_option maxRecDepth 100000 in
set_option maxHeartbeats 4000000 in
theorem lwMoves_2 (nu : ByteArray) (ku : Int) (au : Int) (xu : Int) (yu : Int) (zu : Int) (lou : Int) (hiu : Int) (fpu : Option Addr) (flu : Nat) (fcu : Nat) (fs : List FrT) (du : Int) (dv : Int) (dw : Int) (c : Int) (np : ByteArray) (kp : Int) (ap : Int) (xp : Int) (yp : Int) (zp : Int) (lop : Int) (hip : Int) (eep : Int) (gp : List FrT) (p2p : Option Addr) (l2p : Nat) (c2p : Nat) (nq : ByteArray) (kq : Int) (aq : Int) (xq : Int) (yq : Int) (zq : Int) (loq : Int) (hiq : Int) (eeq : Int) (gq : List FrT) (p2q : Option Addr) (l2q : Nat) (c2q : Nat) (nr : ByteArray) (kr : Int) (ar : Int) (xr : Int) (yr : Int) (zr : Int) (lor : Int) (hir : Int) (eer : Int) (gr : List FrT) (p2r : Option Addr) (l2r : Nat) (c2r : Nat)      (h1 : (fewB nu fs) = false) (w : World) (gl : Gl w) (da : FrS w (.slice fpu flu fcu) fs) (vp : FrS w (.slice p2p l2p c2p) gp) (vq : FrS w (.slice p2q l2q c2q) gq) (vr : FrS w (.slice p2r l2r c2r) gr)  : Calls Tryd.prog 5 #[.agg #[.string nu, .int .i64 ku, .int .i64 au, .int .i64 xu, .int .i64 yu, .int .i64 zu, .int .i64 lou, .int .i64 hiu, .slice fpu flu fcu], .agg #[.int .i64 du, .int .i64 dv, .int .i64 dw], .int .i64 c] w fun r W' => r = .returned (.bool true) ∧ Kb w W' := by
  have kx := Kb.refl w
  have da0 := Lib.hid da
  have vp0 := Lib.hid vp
  have vq0 := Lib.hid vq
  have vr0 := Lib.hid vr
  have gl0 := Lib.hid gl
  have j1 := ((Is.made w #[.string nu, .int .i64 ku, .int .i64 au, .int .i64 xu, .int .i64 yu, .int .i64 zu, .int .i64 lou, .int .i64 hiu, .slice fpu flu fcu] 28).alloc (.cells #[.int .i64 du, .int .i64 dv, .int .i64 dw] 23 (0, 0)))
  have f2 := j1.c (i := 0) rfl
  have f3 := j1.c (i := 1) rfl
  have f4 := j1.c (i := 2) rfl
  have f5 := j1.c (i := 3) rfl
  have f6 := j1.c (i := 4) rfl
  have f7 := j1.c (i := 5) rfl
  have f8 := j1.c (i := 6) rfl
  have f9 := j1.c (i := 7) rfl
  have f10 := j1.c (i := 8) rfl
  go_enter Tryd.func5, Tryd.ntmps5
  go_wp2_with fail
  clear f2 f3 f4 f5 f6 f7 f8 f9 f10
  have b1 := j1
  have b2 := Is.made (w.alloc (.cells #[.string nu, .int .i64 ku, .int .i64 au, .int .i64 xu, .int .i64 yu, .int .i64 zu, .int .i64 lou, .int .i64 hiu, .slice fpu flu fcu] 28 (0, 0))) #[.int .i64 du, .int .i64 dv, .int .i64 dw] 23
  simp only [World.size_alloc] at b2
  replace kx := (kx.alloc (.cells #[.string nu, .int .i64 ku, .int .i64 au, .int .i64 xu, .int .i64 yu, .int .i64 zu, .int .i64 lou, .int .i64 hiu, .slice fpu flu fcu] 28 (0, 0))).alloc (.cells #[.int .i64 du, .int .i64 dv, .int .i64 dw] 23 (0, 0))
  clear j1
  replace da := da0.out.kb kx
  replace vp := vp0.out.kb kx
  replace vq := vq0.out.kb kx
  replace vr := vr0.out.kb kx
  replace gl := gl0.out.kb kx
  (with_reducible refine (rFew nu ku au xu yu zu lou hiu fpu flu fcu fs _ da).mono ?_)
  rintro r w1 ⟨rfl, k1⟩
  replace da := da.kb k1
  replace vp := vp.kb k1
  replace vq := vq.kb k1
  replace vr := vr.kb k1
  replace gl := gl.kb k1
  replace b1 := b1.kb k1
  replace b2 := b2.kb k1
  replace kx := kx.trans k1
  have s1 := k1.size
  simp only [World.size_alloc] at s1
  clear k1
  go_wp2_with fail
  (with_reducible refine ((Cg.out awake_any _ gl)).mono ?_)
  rintro r w2 ⟨rfl, k2⟩
  replace da := da.kb k2
  replace vp := vp.kb k2
  replace vq := vq.kb k2
  replace vr := vr.kb k2
  replace gl := gl.kb k2
  replace b1 := b1.kb k2
  replace b2 := b2.kb k2
  replace kx := kx.trans k2
  have s2 := k2.size
  skip
  clear k2
  go_wp2
  go_ret
  exact ⟨rfl, kx⟩
end Go.Proofs.YtdmfkgopalelgaaDoor
