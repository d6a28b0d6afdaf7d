/- Features: the reference: equal features. -/
import Derived.Test.YtdmfkgopalelgaaDoorQj3
import Derived.Test.YtdmfkgopalelgaaDoorQj4
namespace Go.Proofs.YtdmfkgopalelgaaDoor
open Go.RowKit

set_option maxRecDepth 100000 in
set_option maxHeartbeats 2000000 in
theorem rSame_1 (nu : ByteArray) (ku : Int) (au : Int) (xu : Int) (yu : Int) (zu : Int) (lou : Int) (hiu : Int) (fpu : Option Addr) (flu : Nat) (fcu : Nat) (nv : ByteArray) (kv : Int) (av : Int) (xv : Int) (yv : Int) (zv : Int) (lov : Int) (hiv : Int) (fpv : Option Addr) (flv : Nat) (fcv : Nat) (us : List FrT) (vs : List FrT) (hbd : flu ≤ 1000000) (hall : Hid (∀ f ∈ us, f.ds.length ≤ 1000000))      (h1 : (nu.toList == nv.toList) = true) (h2 : (ku == kv) = true) (h3 : (au == av) = true) (h4 : (xu == xv) = true) (h5 : (yu == yv) = true) (h6 : (zu == zv) = true) (h7 : (lou == lov) = true) (h8 : (hiu == hiv) = true) (w : World) (da : FrS w (.slice fpu flu fcu) us) (db : FrS w (.slice fpv flv fcv) vs)  : Calls Tryd.prog 30 #[.agg #[.string nu, .int .i64 ku, .int .i64 au, .int .i64 xu, .int .i64 yu, .int .i64 zu, .int .i64 lou, .int .i64 hiu, .slice fpu flu fcu], .agg #[.string nv, .int .i64 kv, .int .i64 av, .int .i64 xv, .int .i64 yv, .int .i64 zv, .int .i64 lov, .int .i64 hiv, .slice fpv flv fcv]] w fun r W' => r = .returned (.bool (plB nu ku au xu yu zu lou hiu nv kv av xv yv zv lov hiv && eqL frB us vs)) ∧ Kb w W' := by
  have kx := Kb.refl w
  have j1 := ((Is.made w #[.string nu, .int .i64 ku, .int .i64 au, .int .i64 xu, .int .i64 yu, .int .i64 zu, .int .i64 lou, .int .i64 hiu, .slice fpu flu fcu] 28).alloc (.cells #[.string nv, .int .i64 kv, .int .i64 av, .int .i64 xv, .int .i64 yv, .int .i64 zv, .int .i64 lov, .int .i64 hiv, .slice fpv flv fcv] 28 (0, 0)))
  have f2 := j1.c (i := 0) rfl
  have j3 := (Is.made (w.alloc (.cells #[.string nu, .int .i64 ku, .int .i64 au, .int .i64 xu, .int .i64 yu, .int .i64 zu, .int .i64 lou, .int .i64 hiu, .slice fpu flu fcu] 28 (0, 0))) #[.string nv, .int .i64 kv, .int .i64 av, .int .i64 xv, .int .i64 yv, .int .i64 zv, .int .i64 lov, .int .i64 hiv, .slice fpv flv fcv] 28)
  simp only [World.size_alloc] at j3
  have f4 := j3.c (i := 0) rfl
  have f5 := j1.c (i := 1) rfl
  have f6 := j3.c (i := 1) rfl
  have f7 := j1.c (i := 2) rfl
  have f8 := j3.c (i := 2) rfl
  have f9 := j1.c (i := 3) rfl
  have f10 := j1.c (i := 4) rfl
  have f11 := j1.c (i := 5) rfl
  have f12 := j3.c (i := 3) rfl
  have f13 := j3.c (i := 4) rfl
  have f14 := j3.c (i := 5) rfl
  have f15 := j1.c (i := 6) rfl
  have f16 := j1.c (i := 7) rfl
  have f17 := j3.c (i := 6) rfl
  have f18 := j3.c (i := 7) rfl
  have f19 := j1.c (i := 8) rfl
  have f20 := j3.c (i := 8) rfl
  go_enter Tryd.func30, Tryd.ntmps30
  go_wp2_with fail
  clear f2 f4 f5 f6 f7 f8 f9 f10 f11 f12 f13 f14 f15 f16 f17 f18 f19 f20
  replace da := ((da.alloc (.cells #[.string nu, .int .i64 ku, .int .i64 au, .int .i64 xu, .int .i64 yu, .int .i64 zu, .int .i64 lou, .int .i64 hiu, .slice fpu flu fcu] 28 (0, 0))).alloc (.cells #[.string nv, .int .i64 kv, .int .i64 av, .int .i64 xv, .int .i64 yv, .int .i64 zv, .int .i64 lov, .int .i64 hiv, .slice fpv flv fcv] 28 (0, 0)))
  replace db := ((db.alloc (.cells #[.string nu, .int .i64 ku, .int .i64 au, .int .i64 xu, .int .i64 yu, .int .i64 zu, .int .i64 lou, .int .i64 hiu, .slice fpu flu fcu] 28 (0, 0))).alloc (.cells #[.string nv, .int .i64 kv, .int .i64 av, .int .i64 xv, .int .i64 yv, .int .i64 zv, .int .i64 lov, .int .i64 hiv, .slice fpv flv fcv] 28 (0, 0)))
  have b1 := j1
  have b2 := j3
  replace kx := (kx.alloc (.cells #[.string nu, .int .i64 ku, .int .i64 au, .int .i64 xu, .int .i64 yu, .int .i64 zu, .int .i64 lou, .int .i64 hiu, .slice fpu flu fcu] 28 (0, 0))).alloc (.cells #[.string nv, .int .i64 kv, .int .i64 av, .int .i64 xv, .int .i64 yv, .int .i64 zv, .int .i64 lov, .int .i64 hiv, .slice fpv flv fcv] 28 (0, 0))
  clear j1 j3
  (with_reducible refine (rSameFr _ _ _ _ _ _ us vs _ da db hbd hall).mono ?_)
  rintro r w1 ⟨rfl, k1⟩
  replace da := da.kb k1
  replace db := db.kb k1
  replace b1 := b1.kb k1
  replace b2 := b2.kb k1
  replace kx := kx.trans k1
  have s1 := k1.size
  simp only [World.size_alloc] at s1
  clear k1
  go_wp2
  go_ret
  exact ⟨show Ending.returned (.bool (eqL frB us vs)) = Ending.returned (.bool ((plB nu ku au xu yu zu lou hiu nv kv av xv yv zv lov hiv && eqL frB us vs))) by unfold plB; rw [h1, h2, h3, h4, h5, h6, h7, h8]; rfl, kx⟩
set_option maxRecDepth 100000 in
set_option maxHeartbeats 2000000 in
theorem rSame_2 (nu : ByteArray) (ku : Int) (au : Int) (xu : Int) (yu : Int) (zu : Int) (lou : Int) (hiu : Int) (fpu : Option Addr) (flu : Nat) (fcu : Nat) (nv : ByteArray) (kv : Int) (av : Int) (xv : Int) (yv : Int) (zv : Int) (lov : Int) (hiv : Int) (fpv : Option Addr) (flv : Nat) (fcv : Nat) (us : List FrT) (vs : List FrT) (hbd : flu ≤ 1000000) (hall : Hid (∀ f ∈ us, f.ds.length ≤ 1000000))      (h1 : (nu.toList == nv.toList) = true) (h2 : (ku == kv) = true) (h3 : (au == av) = true) (h4 : (xu == xv) = true) (h5 : (yu == yv) = true) (h6 : (zu == zv) = true) (h7 : (lou == lov) = true) (h8 : (hiu == hiv) = false) (w : World) (da : FrS w (.slice fpu flu fcu) us) (db : FrS w (.slice fpv flv fcv) vs)  : Calls Tryd.prog 30 #[.agg #[.string nu, .int .i64 ku, .int .i64 au, .int .i64 xu, .int .i64 yu, .int .i64 zu, .int .i64 lou, .int .i64 hiu, .slice fpu flu fcu], .agg #[.string nv, .int .i64 kv, .int .i64 av, .int .i64 xv, .int .i64 yv, .int .i64 zv, .int .i64 lov, .int .i64 hiv, .slice fpv flv fcv]] w fun r W' => r = .returned (.bool (plB nu ku au xu yu zu lou hiu nv kv av xv yv zv lov hiv && eqL frB us vs)) ∧ Kb w W' := by
  have kx := Kb.refl w
  have j1 := ((Is.made w #[.string nu, .int .i64 ku, .int .i64 au, .int .i64 xu, .int .i64 yu, .int .i64 zu, .int .i64 lou, .int .i64 hiu, .slice fpu flu fcu] 28).alloc (.cells #[.string nv, .int .i64 kv, .int .i64 av, .int .i64 xv, .int .i64 yv, .int .i64 zv, .int .i64 lov, .int .i64 hiv, .slice fpv flv fcv] 28 (0, 0)))
  have f2 := j1.c (i := 0) rfl
  have j3 := (Is.made (w.alloc (.cells #[.string nu, .int .i64 ku, .int .i64 au, .int .i64 xu, .int .i64 yu, .int .i64 zu, .int .i64 lou, .int .i64 hiu, .slice fpu flu fcu] 28 (0, 0))) #[.string nv, .int .i64 kv, .int .i64 av, .int .i64 xv, .int .i64 yv, .int .i64 zv, .int .i64 lov, .int .i64 hiv, .slice fpv flv fcv] 28)
  simp only [World.size_alloc] at j3
  have f4 := j3.c (i := 0) rfl
  have f5 := j1.c (i := 1) rfl
  have f6 := j3.c (i := 1) rfl
  have f7 := j1.c (i := 2) rfl
  have f8 := j3.c (i := 2) rfl
  have f9 := j1.c (i := 3) rfl
  have f10 := j1.c (i := 4) rfl
  have f11 := j1.c (i := 5) rfl
  have f12 := j3.c (i := 3) rfl
  have f13 := j3.c (i := 4) rfl
  have f14 := j3.c (i := 5) rfl
  have f15 := j1.c (i := 6) rfl
  have f16 := j1.c (i := 7) rfl
  have f17 := j3.c (i := 6) rfl
  have f18 := j3.c (i := 7) rfl
  go_enter Tryd.func30, Tryd.ntmps30
  go_wp2
  go_ret
  clear f2 f4 f5 f6 f7 f8 f9 f10 f11 f12 f13 f14 f15 f16 f17 f18
  replace kx := (kx.alloc (.cells #[.string nu, .int .i64 ku, .int .i64 au, .int .i64 xu, .int .i64 yu, .int .i64 zu, .int .i64 lou, .int .i64 hiu, .slice fpu flu fcu] 28 (0, 0))).alloc (.cells #[.string nv, .int .i64 kv, .int .i64 av, .int .i64 xv, .int .i64 yv, .int .i64 zv, .int .i64 lov, .int .i64 hiv, .slice fpv flv fcv] 28 (0, 0))
  exact ⟨show Ending.returned (.bool false) = Ending.returned (.bool ((plB nu ku au xu yu zu lou hiu nv kv av xv yv zv lov hiv && eqL frB us vs))) by unfold plB; rw [h1, h2, h3, h4, h5, h6, h7, h8]; rfl, kx⟩
set_option maxRecDepth 100000 in
set_option maxHeartbeats 2000000 in
theorem rSame_3 (nu : ByteArray) (ku : Int) (au : Int) (xu : Int) (yu : Int) (zu : Int) (lou : Int) (hiu : Int) (fpu : Option Addr) (flu : Nat) (fcu : Nat) (nv : ByteArray) (kv : Int) (av : Int) (xv : Int) (yv : Int) (zv : Int) (lov : Int) (hiv : Int) (fpv : Option Addr) (flv : Nat) (fcv : Nat) (us : List FrT) (vs : List FrT) (hbd : flu ≤ 1000000) (hall : Hid (∀ f ∈ us, f.ds.length ≤ 1000000))      (h1 : (nu.toList == nv.toList) = true) (h2 : (ku == kv) = true) (h3 : (au == av) = true) (h4 : (xu == xv) = true) (h5 : (yu == yv) = true) (h6 : (zu == zv) = true) (h7 : (lou == lov) = false) (w : World) (da : FrS w (.slice fpu flu fcu) us) (db : FrS w (.slice fpv flv fcv) vs)  : Calls Tryd.prog 30 #[.agg #[.string nu, .int .i64 ku, .int .i64 au, .int .i64 xu, .int .i64 yu, .int .i64 zu, .int .i64 lou, .int .i64 hiu, .slice fpu flu fcu], .agg #[.string nv, .int .i64 kv, .int .i64 av, .int .i64 xv, .int .i64 yv, .int .i64 zv, .int .i64 lov, .int .i64 hiv, .slice fpv flv fcv]] w fun r W' => r = .returned (.bool (plB nu ku au xu yu zu lou hiu nv kv av xv yv zv lov hiv && eqL frB us vs)) ∧ Kb w W' := by
  have kx := Kb.refl w
  have j1 := ((Is.made w #[.string nu, .int .i64 ku, .int .i64 au, .int .i64 xu, .int .i64 yu, .int .i64 zu, .int .i64 lou, .int .i64 hiu, .slice fpu flu fcu] 28).alloc (.cells #[.string nv, .int .i64 kv, .int .i64 av, .int .i64 xv, .int .i64 yv, .int .i64 zv, .int .i64 lov, .int .i64 hiv, .slice fpv flv fcv] 28 (0, 0)))
  have f2 := j1.c (i := 0) rfl
  have j3 := (Is.made (w.alloc (.cells #[.string nu, .int .i64 ku, .int .i64 au, .int .i64 xu, .int .i64 yu, .int .i64 zu, .int .i64 lou, .int .i64 hiu, .slice fpu flu fcu] 28 (0, 0))) #[.string nv, .int .i64 kv, .int .i64 av, .int .i64 xv, .int .i64 yv, .int .i64 zv, .int .i64 lov, .int .i64 hiv, .slice fpv flv fcv] 28)
  simp only [World.size_alloc] at j3
  have f4 := j3.c (i := 0) rfl
  have f5 := j1.c (i := 1) rfl
  have f6 := j3.c (i := 1) rfl
  have f7 := j1.c (i := 2) rfl
  have f8 := j3.c (i := 2) rfl
  have f9 := j1.c (i := 3) rfl
  have f10 := j1.c (i := 4) rfl
  have f11 := j1.c (i := 5) rfl
  have f12 := j3.c (i := 3) rfl
  have f13 := j3.c (i := 4) rfl
  have f14 := j3.c (i := 5) rfl
  have f15 := j1.c (i := 6) rfl
  have f16 := j1.c (i := 7) rfl
  have f17 := j3.c (i := 6) rfl
  have f18 := j3.c (i := 7) rfl
  go_enter Tryd.func30, Tryd.ntmps30
  go_wp2
  go_ret
  clear f2 f4 f5 f6 f7 f8 f9 f10 f11 f12 f13 f14 f15 f16 f17 f18
  replace kx := (kx.alloc (.cells #[.string nu, .int .i64 ku, .int .i64 au, .int .i64 xu, .int .i64 yu, .int .i64 zu, .int .i64 lou, .int .i64 hiu, .slice fpu flu fcu] 28 (0, 0))).alloc (.cells #[.string nv, .int .i64 kv, .int .i64 av, .int .i64 xv, .int .i64 yv, .int .i64 zv, .int .i64 lov, .int .i64 hiv, .slice fpv flv fcv] 28 (0, 0))
  exact ⟨show Ending.returned (.bool false) = Ending.returned (.bool ((plB nu ku au xu yu zu lou hiu nv kv av xv yv zv lov hiv && eqL frB us vs))) by unfold plB; rw [h1, h2, h3, h4, h5, h6, h7]; rfl, kx⟩
set_option maxRecDepth 100000 in
set_option maxHeartbeats 2000000 in
theorem rSame_4 (nu : ByteArray) (ku : Int) (au : Int) (xu : Int) (yu : Int) (zu : Int) (lou : Int) (hiu : Int) (fpu : Option Addr) (flu : Nat) (fcu : Nat) (nv : ByteArray) (kv : Int) (av : Int) (xv : Int) (yv : Int) (zv : Int) (lov : Int) (hiv : Int) (fpv : Option Addr) (flv : Nat) (fcv : Nat) (us : List FrT) (vs : List FrT) (hbd : flu ≤ 1000000) (hall : Hid (∀ f ∈ us, f.ds.length ≤ 1000000))      (h1 : (nu.toList == nv.toList) = true) (h2 : (ku == kv) = true) (h3 : (au == av) = true) (h4 : (xu == xv) = true) (h5 : (yu == yv) = true) (h6 : (zu == zv) = false) (w : World) (da : FrS w (.slice fpu flu fcu) us) (db : FrS w (.slice fpv flv fcv) vs)  : Calls Tryd.prog 30 #[.agg #[.string nu, .int .i64 ku, .int .i64 au, .int .i64 xu, .int .i64 yu, .int .i64 zu, .int .i64 lou, .int .i64 hiu, .slice fpu flu fcu], .agg #[.string nv, .int .i64 kv, .int .i64 av, .int .i64 xv, .int .i64 yv, .int .i64 zv, .int .i64 lov, .int .i64 hiv, .slice fpv flv fcv]] w fun r W' => r = .returned (.bool (plB nu ku au xu yu zu lou hiu nv kv av xv yv zv lov hiv && eqL frB us vs)) ∧ Kb w W' := by
  have kx := Kb.refl w
  have j1 := ((Is.made w #[.string nu, .int .i64 ku, .int .i64 au, .int .i64 xu, .int .i64 yu, .int .i64 zu, .int .i64 lou, .int .i64 hiu, .slice fpu flu fcu] 28).alloc (.cells #[.string nv, .int .i64 kv, .int .i64 av, .int .i64 xv, .int .i64 yv, .int .i64 zv, .int .i64 lov, .int .i64 hiv, .slice fpv flv fcv] 28 (0, 0)))
  have f2 := j1.c (i := 0) rfl
  have j3 := (Is.made (w.alloc (.cells #[.string nu, .int .i64 ku, .int .i64 au, .int .i64 xu, .int .i64 yu, .int .i64 zu, .int .i64 lou, .int .i64 hiu, .slice fpu flu fcu] 28 (0, 0))) #[.string nv, .int .i64 kv, .int .i64 av, .int .i64 xv, .int .i64 yv, .int .i64 zv, .int .i64 lov, .int .i64 hiv, .slice fpv flv fcv] 28)
  simp only [World.size_alloc] at j3
  have f4 := j3.c (i := 0) rfl
  have f5 := j1.c (i := 1) rfl
  have f6 := j3.c (i := 1) rfl
  have f7 := j1.c (i := 2) rfl
  have f8 := j3.c (i := 2) rfl
  have f9 := j1.c (i := 3) rfl
  have f10 := j1.c (i := 4) rfl
  have f11 := j1.c (i := 5) rfl
  have f12 := j3.c (i := 3) rfl
  have f13 := j3.c (i := 4) rfl
  have f14 := j3.c (i := 5) rfl
  go_enter Tryd.func30, Tryd.ntmps30
  go_wp2
  go_ret
  clear f2 f4 f5 f6 f7 f8 f9 f10 f11 f12 f13 f14
  replace kx := (kx.alloc (.cells #[.string nu, .int .i64 ku, .int .i64 au, .int .i64 xu, .int .i64 yu, .int .i64 zu, .int .i64 lou, .int .i64 hiu, .slice fpu flu fcu] 28 (0, 0))).alloc (.cells #[.string nv, .int .i64 kv, .int .i64 av, .int .i64 xv, .int .i64 yv, .int .i64 zv, .int .i64 lov, .int .i64 hiv, .slice fpv flv fcv] 28 (0, 0))
  exact ⟨show Ending.returned (.bool false) = Ending.returned (.bool ((plB nu ku au xu yu zu lou hiu nv kv av xv yv zv lov hiv && eqL frB us vs))) by unfold plB; rw [h1, h2, h3, h4, h5, h6]; rfl, kx⟩
set_option maxRecDepth 100000 in
set_option maxHeartbeats 2000000 in
theorem rSame_5 (nu : ByteArray) (ku : Int) (au : Int) (xu : Int) (yu : Int) (zu : Int) (lou : Int) (hiu : Int) (fpu : Option Addr) (flu : Nat) (fcu : Nat) (nv : ByteArray) (kv : Int) (av : Int) (xv : Int) (yv : Int) (zv : Int) (lov : Int) (hiv : Int) (fpv : Option Addr) (flv : Nat) (fcv : Nat) (us : List FrT) (vs : List FrT) (hbd : flu ≤ 1000000) (hall : Hid (∀ f ∈ us, f.ds.length ≤ 1000000))      (h1 : (nu.toList == nv.toList) = true) (h2 : (ku == kv) = true) (h3 : (au == av) = true) (h4 : (xu == xv) = true) (h5 : (yu == yv) = false) (w : World) (da : FrS w (.slice fpu flu fcu) us) (db : FrS w (.slice fpv flv fcv) vs)  : Calls Tryd.prog 30 #[.agg #[.string nu, .int .i64 ku, .int .i64 au, .int .i64 xu, .int .i64 yu, .int .i64 zu, .int .i64 lou, .int .i64 hiu, .slice fpu flu fcu], .agg #[.string nv, .int .i64 kv, .int .i64 av, .int .i64 xv, .int .i64 yv, .int .i64 zv, .int .i64 lov, .int .i64 hiv, .slice fpv flv fcv]] w fun r W' => r = .returned (.bool (plB nu ku au xu yu zu lou hiu nv kv av xv yv zv lov hiv && eqL frB us vs)) ∧ Kb w W' := by
  have kx := Kb.refl w
  have j1 := ((Is.made w #[.string nu, .int .i64 ku, .int .i64 au, .int .i64 xu, .int .i64 yu, .int .i64 zu, .int .i64 lou, .int .i64 hiu, .slice fpu flu fcu] 28).alloc (.cells #[.string nv, .int .i64 kv, .int .i64 av, .int .i64 xv, .int .i64 yv, .int .i64 zv, .int .i64 lov, .int .i64 hiv, .slice fpv flv fcv] 28 (0, 0)))
  have f2 := j1.c (i := 0) rfl
  have j3 := (Is.made (w.alloc (.cells #[.string nu, .int .i64 ku, .int .i64 au, .int .i64 xu, .int .i64 yu, .int .i64 zu, .int .i64 lou, .int .i64 hiu, .slice fpu flu fcu] 28 (0, 0))) #[.string nv, .int .i64 kv, .int .i64 av, .int .i64 xv, .int .i64 yv, .int .i64 zv, .int .i64 lov, .int .i64 hiv, .slice fpv flv fcv] 28)
  simp only [World.size_alloc] at j3
  have f4 := j3.c (i := 0) rfl
  have f5 := j1.c (i := 1) rfl
  have f6 := j3.c (i := 1) rfl
  have f7 := j1.c (i := 2) rfl
  have f8 := j3.c (i := 2) rfl
  have f9 := j1.c (i := 3) rfl
  have f10 := j1.c (i := 4) rfl
  have f11 := j1.c (i := 5) rfl
  have f12 := j3.c (i := 3) rfl
  have f13 := j3.c (i := 4) rfl
  have f14 := j3.c (i := 5) rfl
  go_enter Tryd.func30, Tryd.ntmps30
  go_wp2
  go_ret
  clear f2 f4 f5 f6 f7 f8 f9 f10 f11 f12 f13 f14
  replace kx := (kx.alloc (.cells #[.string nu, .int .i64 ku, .int .i64 au, .int .i64 xu, .int .i64 yu, .int .i64 zu, .int .i64 lou, .int .i64 hiu, .slice fpu flu fcu] 28 (0, 0))).alloc (.cells #[.string nv, .int .i64 kv, .int .i64 av, .int .i64 xv, .int .i64 yv, .int .i64 zv, .int .i64 lov, .int .i64 hiv, .slice fpv flv fcv] 28 (0, 0))
  exact ⟨show Ending.returned (.bool false) = Ending.returned (.bool ((plB nu ku au xu yu zu lou hiu nv kv av xv yv zv lov hiv && eqL frB us vs))) by unfold plB; rw [h1, h2, h3, h4, h5]; rfl, kx⟩
set_option maxRecDepth 100000 in
set_option maxHeartbeats 2000000 in
theorem rSame_6 (nu : ByteArray) (ku : Int) (au : Int) (xu : Int) (yu : Int) (zu : Int) (lou : Int) (hiu : Int) (fpu : Option Addr) (flu : Nat) (fcu : Nat) (nv : ByteArray) (kv : Int) (av : Int) (xv : Int) (yv : Int) (zv : Int) (lov : Int) (hiv : Int) (fpv : Option Addr) (flv : Nat) (fcv : Nat) (us : List FrT) (vs : List FrT) (hbd : flu ≤ 1000000) (hall : Hid (∀ f ∈ us, f.ds.length ≤ 1000000))      (h1 : (nu.toList == nv.toList) = true) (h2 : (ku == kv) = true) (h3 : (au == av) = true) (h4 : (xu == xv) = false) (w : World) (da : FrS w (.slice fpu flu fcu) us) (db : FrS w (.slice fpv flv fcv) vs)  : Calls Tryd.prog 30 #[.agg #[.string nu, .int .i64 ku, .int .i64 au, .int .i64 xu, .int .i64 yu, .int .i64 zu, .int .i64 lou, .int .i64 hiu, .slice fpu flu fcu], .agg #[.string nv, .int .i64 kv, .int .i64 av, .int .i64 xv, .int .i64 yv, .int .i64 zv, .int .i64 lov, .int .i64 hiv, .slice fpv flv fcv]] w fun r W' => r = .returned (.bool (plB nu ku au xu yu zu lou hiu nv kv av xv yv zv lov hiv && eqL frB us vs)) ∧ Kb w W' := by
  have kx := Kb.refl w
  have j1 := ((Is.made w #[.string nu, .int .i64 ku, .int .i64 au, .int .i64 xu, .int .i64 yu, .int .i64 zu, .int .i64 lou, .int .i64 hiu, .slice fpu flu fcu] 28).alloc (.cells #[.string nv, .int .i64 kv, .int .i64 av, .int .i64 xv, .int .i64 yv, .int .i64 zv, .int .i64 lov, .int .i64 hiv, .slice fpv flv fcv] 28 (0, 0)))
  have f2 := j1.c (i := 0) rfl
  have j3 := (Is.made (w.alloc (.cells #[.string nu, .int .i64 ku, .int .i64 au, .int .i64 xu, .int .i64 yu, .int .i64 zu, .int .i64 lou, .int .i64 hiu, .slice fpu flu fcu] 28 (0, 0))) #[.string nv, .int .i64 kv, .int .i64 av, .int .i64 xv, .int .i64 yv, .int .i64 zv, .int .i64 lov, .int .i64 hiv, .slice fpv flv fcv] 28)
  simp only [World.size_alloc] at j3
  have f4 := j3.c (i := 0) rfl
  have f5 := j1.c (i := 1) rfl
  have f6 := j3.c (i := 1) rfl
  have f7 := j1.c (i := 2) rfl
  have f8 := j3.c (i := 2) rfl
  have f9 := j1.c (i := 3) rfl
  have f10 := j1.c (i := 4) rfl
  have f11 := j1.c (i := 5) rfl
  have f12 := j3.c (i := 3) rfl
  have f13 := j3.c (i := 4) rfl
  have f14 := j3.c (i := 5) rfl
  go_enter Tryd.func30, Tryd.ntmps30
  go_wp2
  go_ret
  clear f2 f4 f5 f6 f7 f8 f9 f10 f11 f12 f13 f14
  replace kx := (kx.alloc (.cells #[.string nu, .int .i64 ku, .int .i64 au, .int .i64 xu, .int .i64 yu, .int .i64 zu, .int .i64 lou, .int .i64 hiu, .slice fpu flu fcu] 28 (0, 0))).alloc (.cells #[.string nv, .int .i64 kv, .int .i64 av, .int .i64 xv, .int .i64 yv, .int .i64 zv, .int .i64 lov, .int .i64 hiv, .slice fpv flv fcv] 28 (0, 0))
  exact ⟨show Ending.returned (.bool false) = Ending.returned (.bool ((plB nu ku au xu yu zu lou hiu nv kv av xv yv zv lov hiv && eqL frB us vs))) by unfold plB; rw [h1, h2, h3, h4]; rfl, kx⟩
set_option maxRecDepth 100000 in
set_option maxHeartbeats 2000000 in
theorem rSame_7 (nu : ByteArray) (ku : Int) (au : Int) (xu : Int) (yu : Int) (zu : Int) (lou : Int) (hiu : Int) (fpu : Option Addr) (flu : Nat) (fcu : Nat) (nv : ByteArray) (kv : Int) (av : Int) (xv : Int) (yv : Int) (zv : Int) (lov : Int) (hiv : Int) (fpv : Option Addr) (flv : Nat) (fcv : Nat) (us : List FrT) (vs : List FrT) (hbd : flu ≤ 1000000) (hall : Hid (∀ f ∈ us, f.ds.length ≤ 1000000))      (h1 : (nu.toList == nv.toList) = true) (h2 : (ku == kv) = true) (h3 : (au == av) = false) (w : World) (da : FrS w (.slice fpu flu fcu) us) (db : FrS w (.slice fpv flv fcv) vs)  : Calls Tryd.prog 30 #[.agg #[.string nu, .int .i64 ku, .int .i64 au, .int .i64 xu, .int .i64 yu, .int .i64 zu, .int .i64 lou, .int .i64 hiu, .slice fpu flu fcu], .agg #[.string nv, .int .i64 kv, .int .i64 av, .int .i64 xv, .int .i64 yv, .int .i64 zv, .int .i64 lov, .int .i64 hiv, .slice fpv flv fcv]] w fun r W' => r = .returned (.bool (plB nu ku au xu yu zu lou hiu nv kv av xv yv zv lov hiv && eqL frB us vs)) ∧ Kb w W' := by
  have kx := Kb.refl w
  have j1 := ((Is.made w #[.string nu, .int .i64 ku, .int .i64 au, .int .i64 xu, .int .i64 yu, .int .i64 zu, .int .i64 lou, .int .i64 hiu, .slice fpu flu fcu] 28).alloc (.cells #[.string nv, .int .i64 kv, .int .i64 av, .int .i64 xv, .int .i64 yv, .int .i64 zv, .int .i64 lov, .int .i64 hiv, .slice fpv flv fcv] 28 (0, 0)))
  have f2 := j1.c (i := 0) rfl
  have j3 := (Is.made (w.alloc (.cells #[.string nu, .int .i64 ku, .int .i64 au, .int .i64 xu, .int .i64 yu, .int .i64 zu, .int .i64 lou, .int .i64 hiu, .slice fpu flu fcu] 28 (0, 0))) #[.string nv, .int .i64 kv, .int .i64 av, .int .i64 xv, .int .i64 yv, .int .i64 zv, .int .i64 lov, .int .i64 hiv, .slice fpv flv fcv] 28)
  simp only [World.size_alloc] at j3
  have f4 := j3.c (i := 0) rfl
  have f5 := j1.c (i := 1) rfl
  have f6 := j3.c (i := 1) rfl
  have f7 := j1.c (i := 2) rfl
  have f8 := j3.c (i := 2) rfl
  go_enter Tryd.func30, Tryd.ntmps30
  go_wp2
  go_ret
  clear f2 f4 f5 f6 f7 f8
  replace kx := (kx.alloc (.cells #[.string nu, .int .i64 ku, .int .i64 au, .int .i64 xu, .int .i64 yu, .int .i64 zu, .int .i64 lou, .int .i64 hiu, .slice fpu flu fcu] 28 (0, 0))).alloc (.cells #[.string nv, .int .i64 kv, .int .i64 av, .int .i64 xv, .int .i64 yv, .int .i64 zv, .int .i64 lov, .int .i64 hiv, .slice fpv flv fcv] 28 (0, 0))
  exact ⟨show Ending.returned (.bool false) = Ending.returned (.bool ((plB nu ku au xu yu zu lou hiu nv kv av xv yv zv lov hiv && eqL frB us vs))) by unfold plB; rw [h1, h2, h3]; rfl, kx⟩
set_option maxRecDepth 100000 in
set_option maxHeartbeats 2000000 in
theorem rSame_8 (nu : ByteArray) (ku : Int) (au : Int) (xu : Int) (yu : Int) (zu : Int) (lou : Int) (hiu : Int) (fpu : Option Addr) (flu : Nat) (fcu : Nat) (nv : ByteArray) (kv : Int) (av : Int) (xv : Int) (yv : Int) (zv : Int) (lov : Int) (hiv : Int) (fpv : Option Addr) (flv : Nat) (fcv : Nat) (us : List FrT) (vs : List FrT) (hbd : flu ≤ 1000000) (hall : Hid (∀ f ∈ us, f.ds.length ≤ 1000000))      (h1 : (nu.toList == nv.toList) = true) (h2 : (ku == kv) = false) (w : World) (da : FrS w (.slice fpu flu fcu) us) (db : FrS w (.slice fpv flv fcv) vs)  : Calls Tryd.prog 30 #[.agg #[.string nu, .int .i64 ku, .int .i64 au, .int .i64 xu, .int .i64 yu, .int .i64 zu, .int .i64 lou, .int .i64 hiu, .slice fpu flu fcu], .agg #[.string nv, .int .i64 kv, .int .i64 av, .int .i64 xv, .int .i64 yv, .int .i64 zv, .int .i64 lov, .int .i64 hiv, .slice fpv flv fcv]] w fun r W' => r = .returned (.bool (plB nu ku au xu yu zu lou hiu nv kv av xv yv zv lov hiv && eqL frB us vs)) ∧ Kb w W' := by
  have kx := Kb.refl w
  have j1 := ((Is.made w #[.string nu, .int .i64 ku, .int .i64 au, .int .i64 xu, .int .i64 yu, .int .i64 zu, .int .i64 lou, .int .i64 hiu, .slice fpu flu fcu] 28).alloc (.cells #[.string nv, .int .i64 kv, .int .i64 av, .int .i64 xv, .int .i64 yv, .int .i64 zv, .int .i64 lov, .int .i64 hiv, .slice fpv flv fcv] 28 (0, 0)))
  have f2 := j1.c (i := 0) rfl
  have j3 := (Is.made (w.alloc (.cells #[.string nu, .int .i64 ku, .int .i64 au, .int .i64 xu, .int .i64 yu, .int .i64 zu, .int .i64 lou, .int .i64 hiu, .slice fpu flu fcu] 28 (0, 0))) #[.string nv, .int .i64 kv, .int .i64 av, .int .i64 xv, .int .i64 yv, .int .i64 zv, .int .i64 lov, .int .i64 hiv, .slice fpv flv fcv] 28)
  simp only [World.size_alloc] at j3
  have f4 := j3.c (i := 0) rfl
  have f5 := j1.c (i := 1) rfl
  have f6 := j3.c (i := 1) rfl
  go_enter Tryd.func30, Tryd.ntmps30
  go_wp2
  go_ret
  clear f2 f4 f5 f6
  replace kx := (kx.alloc (.cells #[.string nu, .int .i64 ku, .int .i64 au, .int .i64 xu, .int .i64 yu, .int .i64 zu, .int .i64 lou, .int .i64 hiu, .slice fpu flu fcu] 28 (0, 0))).alloc (.cells #[.string nv, .int .i64 kv, .int .i64 av, .int .i64 xv, .int .i64 yv, .int .i64 zv, .int .i64 lov, .int .i64 hiv, .slice fpv flv fcv] 28 (0, 0))
  exact ⟨show Ending.returned (.bool false) = Ending.returned (.bool ((plB nu ku au xu yu zu lou hiu nv kv av xv yv zv lov hiv && eqL frB us vs))) by unfold plB; rw [h1, h2]; rfl, kx⟩
set_option maxRecDepth 100000 in
set_option maxHeartbeats 2000000 in
theorem rSame_9 (nu : ByteArray) (ku : Int) (au : Int) (xu : Int) (yu : Int) (zu : Int) (lou : Int) (hiu : Int) (fpu : Option Addr) (flu : Nat) (fcu : Nat) (nv : ByteArray) (kv : Int) (av : Int) (xv : Int) (yv : Int) (zv : Int) (lov : Int) (hiv : Int) (fpv : Option Addr) (flv : Nat) (fcv : Nat) (us : List FrT) (vs : List FrT) (hbd : flu ≤ 1000000) (hall : Hid (∀ f ∈ us, f.ds.length ≤ 1000000))      (h1 : (nu.toList == nv.toList) = false) (w : World) (da : FrS w (.slice fpu flu fcu) us) (db : FrS w (.slice fpv flv fcv) vs)  : Calls Tryd.prog 30 #[.agg #[.string nu, .int .i64 ku, .int .i64 au, .int .i64 xu, .int .i64 yu, .int .i64 zu, .int .i64 lou, .int .i64 hiu, .slice fpu flu fcu], .agg #[.string nv, .int .i64 kv, .int .i64 av, .int .i64 xv, .int .i64 yv, .int .i64 zv, .int .i64 lov, .int .i64 hiv, .slice fpv flv fcv]] w fun r W' => r = .returned (.bool (plB nu ku au xu yu zu lou hiu nv kv av xv yv zv lov hiv && eqL frB us vs)) ∧ Kb w W' := by
  have kx := Kb.refl w
  have j1 := ((Is.made w #[.string nu, .int .i64 ku, .int .i64 au, .int .i64 xu, .int .i64 yu, .int .i64 zu, .int .i64 lou, .int .i64 hiu, .slice fpu flu fcu] 28).alloc (.cells #[.string nv, .int .i64 kv, .int .i64 av, .int .i64 xv, .int .i64 yv, .int .i64 zv, .int .i64 lov, .int .i64 hiv, .slice fpv flv fcv] 28 (0, 0)))
  have f2 := j1.c (i := 0) rfl
  have j3 := (Is.made (w.alloc (.cells #[.string nu, .int .i64 ku, .int .i64 au, .int .i64 xu, .int .i64 yu, .int .i64 zu, .int .i64 lou, .int .i64 hiu, .slice fpu flu fcu] 28 (0, 0))) #[.string nv, .int .i64 kv, .int .i64 av, .int .i64 xv, .int .i64 yv, .int .i64 zv, .int .i64 lov, .int .i64 hiv, .slice fpv flv fcv] 28)
  simp only [World.size_alloc] at j3
  have f4 := j3.c (i := 0) rfl
  go_enter Tryd.func30, Tryd.ntmps30
  go_wp2
  go_ret
  clear f2 f4
  replace kx := (kx.alloc (.cells #[.string nu, .int .i64 ku, .int .i64 au, .int .i64 xu, .int .i64 yu, .int .i64 zu, .int .i64 lou, .int .i64 hiu, .slice fpu flu fcu] 28 (0, 0))).alloc (.cells #[.string nv, .int .i64 kv, .int .i64 av, .int .i64 xv, .int .i64 yv, .int .i64 zv, .int .i64 lov, .int .i64 hiv, .slice fpv flv fcv] 28 (0, 0))
  exact ⟨show Ending.returned (.bool false) = Ending.returned (.bool ((plB nu ku au xu yu zu lou hiu nv kv av xv yv zv lov hiv && eqL frB us vs))) by unfold plB; rw [h1]; rfl, kx⟩
set_option maxRecDepth 100000 in
theorem rSame (nu : ByteArray) (ku : Int) (au : Int) (xu : Int) (yu : Int) (zu : Int) (lou : Int) (hiu : Int) (fpu : Option Addr) (flu : Nat) (fcu : Nat) (nv : ByteArray) (kv : Int) (av : Int) (xv : Int) (yv : Int) (zv : Int) (lov : Int) (hiv : Int) (fpv : Option Addr) (flv : Nat) (fcv : Nat) (us : List FrT) (vs : List FrT) (hbd : flu ≤ 1000000) (hall : Hid (∀ f ∈ us, f.ds.length ≤ 1000000))    (w : World) (da : FrS w (.slice fpu flu fcu) us) (db : FrS w (.slice fpv flv fcv) vs) : Calls Tryd.prog 30 #[.agg #[.string nu, .int .i64 ku, .int .i64 au, .int .i64 xu, .int .i64 yu, .int .i64 zu, .int .i64 lou, .int .i64 hiu, .slice fpu flu fcu], .agg #[.string nv, .int .i64 kv, .int .i64 av, .int .i64 xv, .int .i64 yv, .int .i64 zv, .int .i64 lov, .int .i64 hiv, .slice fpv flv fcv]] w fun r W' => r = .returned (.bool (plB nu ku au xu yu zu lou hiu nv kv av xv yv zv lov hiv && eqL frB us vs)) ∧ Kb w W' := by
  rcases Bool.eq_false_or_eq_true (nu.toList == nv.toList) with h1 | h1
  · rcases Bool.eq_false_or_eq_true (ku == kv) with h2 | h2
    · rcases Bool.eq_false_or_eq_true (au == av) with h3 | h3
      · rcases Bool.eq_false_or_eq_true (xu == xv) with h4 | h4
        · rcases Bool.eq_false_or_eq_true (yu == yv) with h5 | h5
          · rcases Bool.eq_false_or_eq_true (zu == zv) with h6 | h6
            · rcases Bool.eq_false_or_eq_true (lou == lov) with h7 | h7
              · rcases Bool.eq_false_or_eq_true (hiu == hiv) with h8 | h8
                · exact rSame_1 nu ku au xu yu zu lou hiu fpu flu fcu nv kv av xv yv zv lov hiv fpv flv fcv us vs hbd hall h1 h2 h3 h4 h5 h6 h7 h8 w da db
                · exact rSame_2 nu ku au xu yu zu lou hiu fpu flu fcu nv kv av xv yv zv lov hiv fpv flv fcv us vs hbd hall h1 h2 h3 h4 h5 h6 h7 h8 w da db
              · exact rSame_3 nu ku au xu yu zu lou hiu fpu flu fcu nv kv av xv yv zv lov hiv fpv flv fcv us vs hbd hall h1 h2 h3 h4 h5 h6 h7 w da db
            · exact rSame_4 nu ku au xu yu zu lou hiu fpu flu fcu nv kv av xv yv zv lov hiv fpv flv fcv us vs hbd hall h1 h2 h3 h4 h5 h6 w da db
          · exact rSame_5 nu ku au xu yu zu lou hiu fpu flu fcu nv kv av xv yv zv lov hiv fpv flv fcv us vs hbd hall h1 h2 h3 h4 h5 w da db
        · exact rSame_6 nu ku au xu yu zu lou hiu fpu flu fcu nv kv av xv yv zv lov hiv fpv flv fcv us vs hbd hall h1 h2 h3 h4 w da db
      · exact rSame_7 nu ku au xu yu zu lou hiu fpu flu fcu nv kv av xv yv zv lov hiv fpv flv fcv us vs hbd hall h1 h2 h3 w da db
    · exact rSame_8 nu ku au xu yu zu lou hiu fpu flu fcu nv kv av xv yv zv lov hiv fpv flv fcv us vs hbd hall h1 h2 w da db
  · exact rSame_9 nu ku au xu yu zu lou hiu fpu flu fcu nv kv av xv yv zv lov hiv fpv flv fcv us vs hbd hall h1 w da db
theorem eqL_refl {α : Type} {p : α → α → Bool} (h : ∀ x, p x x = true) : ∀ l, eqL p l l = true
  | [] => rfl
  | x :: xs => by unfold eqL; rw [h, eqL_refl h xs]; rfl
theorem datB_refl (d : DatT) : datB d d = true := by unfold datB; simp
theorem frB_refl (f : FrT) : frB f f = true := by unfold frB; rw [eqL_refl datB_refl]; simp
theorem plB_refl (n : ByteArray) (k a x y z lo hi : Int) : plB n k a x y z lo hi n k a x y z lo hi = true := by unfold plB; simp
end Go.Proofs.YtdmfkgopalelgaaDoor
