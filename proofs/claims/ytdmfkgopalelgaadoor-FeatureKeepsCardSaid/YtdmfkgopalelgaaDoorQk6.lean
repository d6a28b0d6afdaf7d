/- Features: clones of features; places. -/
import Derived.Test.YtdmfkgopalelgaaDoorM85
namespace Go.Proofs.YtdmfkgopalelgaaDoor
open Go.RowKit

set_option maxRecDepth 100000 in
set_option maxHeartbeats 1000000 in
theorem cFeature_1 (nu : ByteArray) (ku : Int) (au : Int) (xu : Int) (yu : Int) (zu : Int) (lou : Int) (hiu : Int) (fpu : Option Addr) (flu : Nat) (fcu : Nat) (fs : List FrT) (hfl : fs.length ≤ 1000) (hall : Hid (∀ f ∈ fs, f.ds.length ≤ 1000)) (w : World) (da : FrS w (.slice fpu flu fcu) fs)  : Calls Tryd.prog 82 #[.agg #[.string nu, .int .i64 ku, .int .i64 au, .int .i64 xu, .int .i64 yu, .int .i64 zu, .int .i64 lou, .int .i64 hiu, .slice fpu flu fcu]] w fun r W' => ∃ q' c', r = .returned (.agg #[.string nu, .int .i64 ku, .int .i64 au, .int .i64 xu, .int .i64 yu, .int .i64 zu, .int .i64 lou, .int .i64 hiu, .slice q' flu c']) ∧ FrU w.heap.size W' (.slice q' flu c') fs ∧ Kb w W' := by
  have kx := Kb.refl w
  have j1 := ((Is.made w #[.string nu, .int .i64 ku, .int .i64 au, .int .i64 xu, .int .i64 yu, .int .i64 zu, .int .i64 lou, .int .i64 hiu, .slice fpu flu fcu] 28).alloc (.cells #[.string ⟨#[]⟩, .int .i64 0, .int .i64 0, .int .i64 0, .int .i64 0, .int .i64 0, .int .i64 0, .int .i64 0, .slice none 0 0] 28 (0, 0)))
  have f2 := j1.c (i := 8) rfl
  go_enter Tryd.func82, Tryd.ntmps82
  go_wp2_with fail
  clear f2
  replace da := ((da.alloc (.cells #[.string nu, .int .i64 ku, .int .i64 au, .int .i64 xu, .int .i64 yu, .int .i64 zu, .int .i64 lou, .int .i64 hiu, .slice fpu flu fcu] 28 (0, 0))).alloc (.cells #[.string ⟨#[]⟩, .int .i64 0, .int .i64 0, .int .i64 0, .int .i64 0, .int .i64 0, .int .i64 0, .int .i64 0, .slice none 0 0] 28 (0, 0)))
  have b1 := j1
  have b2 := Is.made (w.alloc (.cells #[.string nu, .int .i64 ku, .int .i64 au, .int .i64 xu, .int .i64 yu, .int .i64 zu, .int .i64 lou, .int .i64 hiu, .slice fpu flu fcu] 28 (0, 0))) #[.string ⟨#[]⟩, .int .i64 0, .int .i64 0, .int .i64 0, .int .i64 0, .int .i64 0, .int .i64 0, .int .i64 0, .slice none 0 0] 28
  simp only [World.size_alloc] at b2
  replace kx := (kx.alloc (.cells #[.string nu, .int .i64 ku, .int .i64 au, .int .i64 xu, .int .i64 yu, .int .i64 zu, .int .i64 lou, .int .i64 hiu, .slice fpu flu fcu] 28 (0, 0))).alloc (.cells #[.string ⟨#[]⟩, .int .i64 0, .int .i64 0, .int .i64 0, .int .i64 0, .int .i64 0, .int .i64 0, .int .i64 0, .slice none 0 0] 28 (0, 0))
  clear j1
  (with_reducible refine (cEach _ _ _ fs _ da hfl hall).mono ?_)
  rintro r w1 ⟨qq, cc, rfl, U1, k1⟩
  replace da := da.kb k1
  replace b1 := b1.kb k1
  replace b2 := b2.kb k1
  replace kx := kx.trans k1
  have s1 := k1.size
  simp only [World.size_alloc] at s1
  clear k1
  simp only [World.size_alloc] at U1
  have f3 := b1.c (i := 8) rfl
  have f4 := b1.f 8
  have j5 := (b1.set 8 (.slice qq flu cc))
  have f6 := j5.c (i := 0) rfl
  have f7 := j5.c (i := 1) rfl
  have f8 := j5.c (i := 2) rfl
  have f9 := j5.c (i := 3) rfl
  have f10 := j5.c (i := 4) rfl
  have f11 := j5.c (i := 5) rfl
  have f12 := j5.c (i := 6) rfl
  have f13 := j5.c (i := 7) rfl
  have f14 := j5.c (i := 8) rfl
  have j15 := (b2.far (p := ⟨w.heap.size, 8, none⟩) (show w.heap.size + 1 ≠ w.heap.size by omega) (.slice qq flu cc))
  have f16 := j15.c (i := 0) rfl
  have f17 := j15.f 0
  have f18 := j15.c (i := 1) rfl
  have f19 := j15.f 1
  have f20 := j15.c (i := 2) rfl
  have f21 := j15.f 2
  have f22 := j15.c (i := 3) rfl
  have f23 := j15.f 3
  have f24 := j15.c (i := 4) rfl
  have f25 := j15.f 4
  have f26 := j15.c (i := 5) rfl
  have f27 := j15.f 5
  have f28 := j15.c (i := 6) rfl
  have f29 := j15.f 6
  have f30 := j15.c (i := 7) rfl
  have f31 := j15.f 7
  have f32 := j15.c (i := 8) rfl
  have f33 := j15.f 8
  go_wp2
  clear f3 f4 f6 f7 f8 f9 f10 f11 f12 f13 f14 f16 f17 f18 f19 f20 f21 f22 f23 f24 f25 f26 f27 f28 f29 f30 f31 f32 f33
  replace b2 := (b2.far (p := ⟨w.heap.size, 8, none⟩) (show w.heap.size + 1 ≠ w.heap.size by omega) (.slice qq flu cc))
  replace b2 : Is _ _ #[.string nu, .int .i64 0, .int .i64 0, .int .i64 0, .int .i64 0, .int .i64 0, .int .i64 0, .int .i64 0, .slice none 0 0] _ := b2.set 0 (.string nu)
  replace b2 : Is _ _ #[.string nu, .int .i64 ku, .int .i64 0, .int .i64 0, .int .i64 0, .int .i64 0, .int .i64 0, .int .i64 0, .slice none 0 0] _ := b2.set 1 (.int .i64 ku)
  replace b2 : Is _ _ #[.string nu, .int .i64 ku, .int .i64 au, .int .i64 0, .int .i64 0, .int .i64 0, .int .i64 0, .int .i64 0, .slice none 0 0] _ := b2.set 2 (.int .i64 au)
  replace b2 : Is _ _ #[.string nu, .int .i64 ku, .int .i64 au, .int .i64 xu, .int .i64 0, .int .i64 0, .int .i64 0, .int .i64 0, .slice none 0 0] _ := b2.set 3 (.int .i64 xu)
  replace b2 : Is _ _ #[.string nu, .int .i64 ku, .int .i64 au, .int .i64 xu, .int .i64 yu, .int .i64 0, .int .i64 0, .int .i64 0, .slice none 0 0] _ := b2.set 4 (.int .i64 yu)
  replace b2 : Is _ _ #[.string nu, .int .i64 ku, .int .i64 au, .int .i64 xu, .int .i64 yu, .int .i64 zu, .int .i64 0, .int .i64 0, .slice none 0 0] _ := b2.set 5 (.int .i64 zu)
  replace b2 : Is _ _ #[.string nu, .int .i64 ku, .int .i64 au, .int .i64 xu, .int .i64 yu, .int .i64 zu, .int .i64 lou, .int .i64 0, .slice none 0 0] _ := b2.set 6 (.int .i64 lou)
  replace b2 : Is _ _ #[.string nu, .int .i64 ku, .int .i64 au, .int .i64 xu, .int .i64 yu, .int .i64 zu, .int .i64 lou, .int .i64 hiu, .slice none 0 0] _ := b2.set 7 (.int .i64 hiu)
  replace b2 : Is _ _ #[.string nu, .int .i64 ku, .int .i64 au, .int .i64 xu, .int .i64 yu, .int .i64 zu, .int .i64 lou, .int .i64 hiu, .slice qq flu cc] _ := b2.set 8 (.slice qq flu cc)
  replace U1 := ((((((((((U1.far (p := ⟨w.heap.size, 8, none⟩) (show w.heap.size < (w.heap.size + 1 + 1) by omega) (.slice qq flu cc)).far (p := ⟨w.heap.size + 1, 0, none⟩) (show w.heap.size + 1 < (w.heap.size + 1 + 1) by omega) (.string nu)).far (p := ⟨w.heap.size + 1, 1, none⟩) (show w.heap.size + 1 < (w.heap.size + 1 + 1) by omega) (.int .i64 ku)).far (p := ⟨w.heap.size + 1, 2, none⟩) (show w.heap.size + 1 < (w.heap.size + 1 + 1) by omega) (.int .i64 au)).far (p := ⟨w.heap.size + 1, 3, none⟩) (show w.heap.size + 1 < (w.heap.size + 1 + 1) by omega) (.int .i64 xu)).far (p := ⟨w.heap.size + 1, 4, none⟩) (show w.heap.size + 1 < (w.heap.size + 1 + 1) by omega) (.int .i64 yu)).far (p := ⟨w.heap.size + 1, 5, none⟩) (show w.heap.size + 1 < (w.heap.size + 1 + 1) by omega) (.int .i64 zu)).far (p := ⟨w.heap.size + 1, 6, none⟩) (show w.heap.size + 1 < (w.heap.size + 1 + 1) by omega) (.int .i64 lou)).far (p := ⟨w.heap.size + 1, 7, none⟩) (show w.heap.size + 1 < (w.heap.size + 1 + 1) by omega) (.int .i64 hiu)).far (p := ⟨w.heap.size + 1, 8, none⟩) (show w.heap.size + 1 < (w.heap.size + 1 + 1) by omega) (.slice qq flu cc))
  replace kx := (((((((((kx.setCell (p := ⟨w.heap.size, 8, none⟩) (show w.heap.size ≤ w.heap.size by omega) (.slice qq flu cc)).setCell (p := ⟨w.heap.size + 1, 0, none⟩) (show w.heap.size ≤ w.heap.size + 1 by omega) (.string nu)).setCell (p := ⟨w.heap.size + 1, 1, none⟩) (show w.heap.size ≤ w.heap.size + 1 by omega) (.int .i64 ku)).setCell (p := ⟨w.heap.size + 1, 2, none⟩) (show w.heap.size ≤ w.heap.size + 1 by omega) (.int .i64 au)).setCell (p := ⟨w.heap.size + 1, 3, none⟩) (show w.heap.size ≤ w.heap.size + 1 by omega) (.int .i64 xu)).setCell (p := ⟨w.heap.size + 1, 4, none⟩) (show w.heap.size ≤ w.heap.size + 1 by omega) (.int .i64 yu)).setCell (p := ⟨w.heap.size + 1, 5, none⟩) (show w.heap.size ≤ w.heap.size + 1 by omega) (.int .i64 zu)).setCell (p := ⟨w.heap.size + 1, 6, none⟩) (show w.heap.size ≤ w.heap.size + 1 by omega) (.int .i64 lou)).setCell (p := ⟨w.heap.size + 1, 7, none⟩) (show w.heap.size ≤ w.heap.size + 1 by omega) (.int .i64 hiu)).setCell (p := ⟨w.heap.size + 1, 8, none⟩) (show w.heap.size ≤ w.heap.size + 1 by omega) (.slice qq flu cc)
  refine ret_row Tryd.results82 rfl rfl b2 Tryd.underlying28 rfl (by kernel_rfl) ?_
  exact ⟨_, _, rfl, U1.mono (by omega), kx⟩
set_option maxRecDepth 100000 in
set_option maxHeartbeats 1000000 in
theorem cplace_1 (nu : ByteArray) (ku : Int) (au : Int) (xu : Int) (yu : Int) (zu : Int) (lou : Int) (hiu : Int) (fpu : Option Addr) (flu : Nat) (fcu : Nat) (fs : List FrT) (hfl : fs.length ≤ 1000) (hall : Hid (∀ f ∈ fs, f.ds.length ≤ 1000)) (u1 : Int) (u2 : Int) (u3 : Int) (w : World) (da : FrS w (.slice fpu flu fcu) fs)  : Calls Tryd.prog 60 #[.agg #[.string nu, .int .i64 ku, .int .i64 au, .int .i64 xu, .int .i64 yu, .int .i64 zu, .int .i64 lou, .int .i64 hiu, .slice fpu flu fcu], .agg #[.int .i64 u1, .int .i64 u2, .int .i64 u3]] w fun r W' => ∃ q' c', r = .returned (.agg #[.string nu, .int .i64 ku, .int .i64 au, .int .i64 u1, .int .i64 u2, .int .i64 u3, .int .i64 lou, .int .i64 hiu, .slice q' flu c']) ∧ FrU w.heap.size W' (.slice q' flu c') fs ∧ Kb w W' := by
  have kx := Kb.refl w
  have j1 := ((Is.made (w.alloc (.cells #[.string nu, .int .i64 ku, .int .i64 au, .int .i64 xu, .int .i64 yu, .int .i64 zu, .int .i64 lou, .int .i64 hiu, .slice fpu flu fcu] 28 (0, 0))) #[.int .i64 u1, .int .i64 u2, .int .i64 u3] 23).alloc (.cells #[.string ⟨#[]⟩, .int .i64 0, .int .i64 0, .int .i64 0, .int .i64 0, .int .i64 0, .int .i64 0, .int .i64 0, .slice none 0 0] 28 (0, 0)))
  simp only [World.size_alloc] at j1
  have f2 := j1.c (i := 0) rfl
  have f3 := j1.c (i := 1) rfl
  have f4 := j1.c (i := 2) rfl
  have j5 := (((Is.made w #[.string nu, .int .i64 ku, .int .i64 au, .int .i64 u1, .int .i64 u2, .int .i64 u3, .int .i64 lou, .int .i64 hiu, .slice fpu flu fcu] 28).alloc (.cells #[.int .i64 u1, .int .i64 u2, .int .i64 u3] 23 (0, 0))).alloc (.cells #[.string ⟨#[]⟩, .int .i64 0, .int .i64 0, .int .i64 0, .int .i64 0, .int .i64 0, .int .i64 0, .int .i64 0, .slice none 0 0] 28 (0, 0)))
  have f6 := j5.c (i := 0) rfl
  have f7 := j5.c (i := 1) rfl
  have f8 := j5.c (i := 2) rfl
  have f9 := j5.c (i := 3) rfl
  have f10 := j5.c (i := 4) rfl
  have f11 := j5.c (i := 5) rfl
  have f12 := j5.c (i := 6) rfl
  have f13 := j5.c (i := 7) rfl
  have f14 := j5.c (i := 8) rfl
  go_enter Tryd.func60, Tryd.ntmps60
  go_wp2_with fail
  clear f2 f3 f4 f6 f7 f8 f9 f10 f11 f12 f13 f14
  replace da := (((da.alloc (.cells #[.string nu, .int .i64 ku, .int .i64 au, .int .i64 u1, .int .i64 u2, .int .i64 u3, .int .i64 lou, .int .i64 hiu, .slice fpu flu fcu] 28 (0, 0))).alloc (.cells #[.int .i64 u1, .int .i64 u2, .int .i64 u3] 23 (0, 0))).alloc (.cells #[.string ⟨#[]⟩, .int .i64 0, .int .i64 0, .int .i64 0, .int .i64 0, .int .i64 0, .int .i64 0, .int .i64 0, .slice none 0 0] 28 (0, 0)))
  have b1 := j5
  have b2 := Is.made (w.alloc (.cells #[.string nu, .int .i64 ku, .int .i64 au, .int .i64 u1, .int .i64 u2, .int .i64 u3, .int .i64 lou, .int .i64 hiu, .slice fpu flu fcu] 28 (0, 0))) #[.int .i64 u1, .int .i64 u2, .int .i64 u3] 23
  simp only [World.size_alloc] at b2
  replace b2 := (b2.alloc (.cells #[.string ⟨#[]⟩, .int .i64 0, .int .i64 0, .int .i64 0, .int .i64 0, .int .i64 0, .int .i64 0, .int .i64 0, .slice none 0 0] 28 (0, 0)))
  have b3 := Is.made ((w.alloc (.cells #[.string nu, .int .i64 ku, .int .i64 au, .int .i64 u1, .int .i64 u2, .int .i64 u3, .int .i64 lou, .int .i64 hiu, .slice fpu flu fcu] 28 (0, 0))).alloc (.cells #[.int .i64 u1, .int .i64 u2, .int .i64 u3] 23 (0, 0))) #[.string ⟨#[]⟩, .int .i64 0, .int .i64 0, .int .i64 0, .int .i64 0, .int .i64 0, .int .i64 0, .int .i64 0, .slice none 0 0] 28
  simp only [World.size_alloc] at b3
  replace kx := ((kx.alloc (.cells #[.string nu, .int .i64 ku, .int .i64 au, .int .i64 u1, .int .i64 u2, .int .i64 u3, .int .i64 lou, .int .i64 hiu, .slice fpu flu fcu] 28 (0, 0))).alloc (.cells #[.int .i64 u1, .int .i64 u2, .int .i64 u3] 23 (0, 0))).alloc (.cells #[.string ⟨#[]⟩, .int .i64 0, .int .i64 0, .int .i64 0, .int .i64 0, .int .i64 0, .int .i64 0, .int .i64 0, .slice none 0 0] 28 (0, 0))
  clear j1 j5
  (with_reducible refine (cFeature_1 nu ku au u1 u2 u3 lou hiu fpu flu fcu fs hfl hall _ da).mono ?_)
  rintro r w1 ⟨qq, cc, rfl, U1, k1⟩
  replace da := da.kb k1
  replace b1 := b1.kb k1
  replace b2 := b2.kb k1
  replace b3 := b3.kb k1
  replace kx := kx.trans k1
  have s1 := k1.size
  simp only [World.size_alloc] at s1
  clear k1
  simp only [World.size_alloc] at U1
  have f15 := b3.c (i := 0) rfl
  have f16 := b3.f 0
  have f17 := b3.c (i := 1) rfl
  have f18 := b3.f 1
  have f19 := b3.c (i := 2) rfl
  have f20 := b3.f 2
  have f21 := b3.c (i := 3) rfl
  have f22 := b3.f 3
  have f23 := b3.c (i := 4) rfl
  have f24 := b3.f 4
  have f25 := b3.c (i := 5) rfl
  have f26 := b3.f 5
  have f27 := b3.c (i := 6) rfl
  have f28 := b3.f 6
  have f29 := b3.c (i := 7) rfl
  have f30 := b3.f 7
  have f31 := b3.c (i := 8) rfl
  have f32 := b3.f 8
  go_wp2
  clear f15 f16 f17 f18 f19 f20 f21 f22 f23 f24 f25 f26 f27 f28 f29 f30 f31 f32
  replace b3 : Is _ _ #[.string nu, .int .i64 0, .int .i64 0, .int .i64 0, .int .i64 0, .int .i64 0, .int .i64 0, .int .i64 0, .slice none 0 0] _ := b3.set 0 (.string nu)
  replace b3 : Is _ _ #[.string nu, .int .i64 ku, .int .i64 0, .int .i64 0, .int .i64 0, .int .i64 0, .int .i64 0, .int .i64 0, .slice none 0 0] _ := b3.set 1 (.int .i64 ku)
  replace b3 : Is _ _ #[.string nu, .int .i64 ku, .int .i64 au, .int .i64 0, .int .i64 0, .int .i64 0, .int .i64 0, .int .i64 0, .slice none 0 0] _ := b3.set 2 (.int .i64 au)
  replace b3 : Is _ _ #[.string nu, .int .i64 ku, .int .i64 au, .int .i64 u1, .int .i64 0, .int .i64 0, .int .i64 0, .int .i64 0, .slice none 0 0] _ := b3.set 3 (.int .i64 u1)
  replace b3 : Is _ _ #[.string nu, .int .i64 ku, .int .i64 au, .int .i64 u1, .int .i64 u2, .int .i64 0, .int .i64 0, .int .i64 0, .slice none 0 0] _ := b3.set 4 (.int .i64 u2)
  replace b3 : Is _ _ #[.string nu, .int .i64 ku, .int .i64 au, .int .i64 u1, .int .i64 u2, .int .i64 u3, .int .i64 0, .int .i64 0, .slice none 0 0] _ := b3.set 5 (.int .i64 u3)
  replace b3 : Is _ _ #[.string nu, .int .i64 ku, .int .i64 au, .int .i64 u1, .int .i64 u2, .int .i64 u3, .int .i64 lou, .int .i64 0, .slice none 0 0] _ := b3.set 6 (.int .i64 lou)
  replace b3 : Is _ _ #[.string nu, .int .i64 ku, .int .i64 au, .int .i64 u1, .int .i64 u2, .int .i64 u3, .int .i64 lou, .int .i64 hiu, .slice none 0 0] _ := b3.set 7 (.int .i64 hiu)
  replace b3 : Is _ _ #[.string nu, .int .i64 ku, .int .i64 au, .int .i64 u1, .int .i64 u2, .int .i64 u3, .int .i64 lou, .int .i64 hiu, .slice qq flu cc] _ := b3.set 8 (.slice qq flu cc)
  replace U1 := (((((((((U1.far (p := ⟨w.heap.size + 1 + 1, 0, none⟩) (show w.heap.size + 1 + 1 < (w.heap.size + 1 + 1 + 1) by omega) (.string nu)).far (p := ⟨w.heap.size + 1 + 1, 1, none⟩) (show w.heap.size + 1 + 1 < (w.heap.size + 1 + 1 + 1) by omega) (.int .i64 ku)).far (p := ⟨w.heap.size + 1 + 1, 2, none⟩) (show w.heap.size + 1 + 1 < (w.heap.size + 1 + 1 + 1) by omega) (.int .i64 au)).far (p := ⟨w.heap.size + 1 + 1, 3, none⟩) (show w.heap.size + 1 + 1 < (w.heap.size + 1 + 1 + 1) by omega) (.int .i64 u1)).far (p := ⟨w.heap.size + 1 + 1, 4, none⟩) (show w.heap.size + 1 + 1 < (w.heap.size + 1 + 1 + 1) by omega) (.int .i64 u2)).far (p := ⟨w.heap.size + 1 + 1, 5, none⟩) (show w.heap.size + 1 + 1 < (w.heap.size + 1 + 1 + 1) by omega) (.int .i64 u3)).far (p := ⟨w.heap.size + 1 + 1, 6, none⟩) (show w.heap.size + 1 + 1 < (w.heap.size + 1 + 1 + 1) by omega) (.int .i64 lou)).far (p := ⟨w.heap.size + 1 + 1, 7, none⟩) (show w.heap.size + 1 + 1 < (w.heap.size + 1 + 1 + 1) by omega) (.int .i64 hiu)).far (p := ⟨w.heap.size + 1 + 1, 8, none⟩) (show w.heap.size + 1 + 1 < (w.heap.size + 1 + 1 + 1) by omega) (.slice qq flu cc))
  replace kx := ((((((((kx.setCell (p := ⟨w.heap.size + 1 + 1, 0, none⟩) (show w.heap.size ≤ w.heap.size + 1 + 1 by omega) (.string nu)).setCell (p := ⟨w.heap.size + 1 + 1, 1, none⟩) (show w.heap.size ≤ w.heap.size + 1 + 1 by omega) (.int .i64 ku)).setCell (p := ⟨w.heap.size + 1 + 1, 2, none⟩) (show w.heap.size ≤ w.heap.size + 1 + 1 by omega) (.int .i64 au)).setCell (p := ⟨w.heap.size + 1 + 1, 3, none⟩) (show w.heap.size ≤ w.heap.size + 1 + 1 by omega) (.int .i64 u1)).setCell (p := ⟨w.heap.size + 1 + 1, 4, none⟩) (show w.heap.size ≤ w.heap.size + 1 + 1 by omega) (.int .i64 u2)).setCell (p := ⟨w.heap.size + 1 + 1, 5, none⟩) (show w.heap.size ≤ w.heap.size + 1 + 1 by omega) (.int .i64 u3)).setCell (p := ⟨w.heap.size + 1 + 1, 6, none⟩) (show w.heap.size ≤ w.heap.size + 1 + 1 by omega) (.int .i64 lou)).setCell (p := ⟨w.heap.size + 1 + 1, 7, none⟩) (show w.heap.size ≤ w.heap.size + 1 + 1 by omega) (.int .i64 hiu)).setCell (p := ⟨w.heap.size + 1 + 1, 8, none⟩) (show w.heap.size ≤ w.heap.size + 1 + 1 by omega) (.slice qq flu cc)
  refine ret_row Tryd.results60 rfl rfl b3 Tryd.underlying28 rfl (by kernel_rfl) ?_
  exact ⟨_, _, rfl, U1.mono (by omega), kx⟩
end Go.Proofs.YtdmfkgopalelgaaDoor
