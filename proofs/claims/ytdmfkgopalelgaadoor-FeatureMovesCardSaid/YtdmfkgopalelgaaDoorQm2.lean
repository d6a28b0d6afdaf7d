/- Features: Mirror and Turn with an error. -/
import Derived.Test.YtdmfkgopalelgaaDoorQg3
import Derived.Test.YtdmfkgopalelgaaDoorQf5
namespace Go.Proofs.YtdmfkgopalelgaaDoor
open Go.RowKit

set_option maxRecDepth 100000 in
set_option maxHeartbeats 4000000 in
theorem cMirrorE_1 (nu : ByteArray) (ku : Int) (au : Int) (xu : Int) (yu : Int) (zu : Int) (lou : Int) (hiu : Int) (fpu : Option Addr) (flu : Nat) (fcu : Nat) (c : Int) (r1 : Int)   (q1 : Ca 50 #[.agg #[.string nu, .int .i64 ku, .int .i64 au, .int .i64 xu, .int .i64 yu, .int .i64 zu, .int .i64 lou, .int .i64 hiu, .slice fpu flu fcu], .int .i64 c] (.int .i64 r1)) (h1 : (r1 != 0) = true) (w : World)  : Calls Tryd.prog 26 #[.agg #[.string nu, .int .i64 ku, .int .i64 au, .int .i64 xu, .int .i64 yu, .int .i64 zu, .int .i64 lou, .int .i64 hiu, .slice fpu flu fcu], .int .i64 c] w fun r W' => r = .returned (.tuple #[.agg #[.string ⟨#[]⟩, .int .i64 0, .int .i64 0, .int .i64 0, .int .i64 0, .int .i64 0, .int .i64 0, .int .i64 0, .slice none 0 0], .int .i64 r1]) ∧ Kb w W' := by
  have kx := Kb.refl w
  unfold Ca at q1
  have j1 := ((Is.made w #[.string nu, .int .i64 ku, .int .i64 au, .int .i64 xu, .int .i64 yu, .int .i64 zu, .int .i64 lou, .int .i64 hiu, .slice fpu flu fcu] 28).alloc (.cells #[.string ⟨#[]⟩, .int .i64 0, .int .i64 0, .int .i64 0, .int .i64 0, .int .i64 0, .int .i64 0, .int .i64 0, .slice none 0 0] 28 (0, 0)))
  have f2 := j1.c (i := 0) rfl
  have f3 := j1.c (i := 1) rfl
  have f4 := j1.c (i := 2) rfl
  have f5 := j1.c (i := 3) rfl
  have f6 := j1.c (i := 4) rfl
  have f7 := j1.c (i := 5) rfl
  have f8 := j1.c (i := 6) rfl
  have f9 := j1.c (i := 7) rfl
  have f10 := j1.c (i := 8) rfl
  go_enter Tryd.func26, Tryd.ntmps26
  go_wp2_with fail
  clear f2 f3 f4 f5 f6 f7 f8 f9 f10
  have b1 := j1
  have b2 := Is.made (w.alloc (.cells #[.string nu, .int .i64 ku, .int .i64 au, .int .i64 xu, .int .i64 yu, .int .i64 zu, .int .i64 lou, .int .i64 hiu, .slice fpu flu fcu] 28 (0, 0))) #[.string ⟨#[]⟩, .int .i64 0, .int .i64 0, .int .i64 0, .int .i64 0, .int .i64 0, .int .i64 0, .int .i64 0, .slice none 0 0] 28
  simp only [World.size_alloc] at b2
  replace kx := (kx.alloc (.cells #[.string nu, .int .i64 ku, .int .i64 au, .int .i64 xu, .int .i64 yu, .int .i64 zu, .int .i64 lou, .int .i64 hiu, .slice fpu flu fcu] 28 (0, 0))).alloc (.cells #[.string ⟨#[]⟩, .int .i64 0, .int .i64 0, .int .i64 0, .int .i64 0, .int .i64 0, .int .i64 0, .int .i64 0, .slice none 0 0] 28 (0, 0))
  clear j1
  (with_reducible refine (((q1).out _)).mono ?_)
  rintro r w1 ⟨rfl, k1⟩
  replace b1 := b1.kb k1
  replace b2 := b2.kb k1
  replace kx := kx.trans k1
  have s1 := k1.size
  simp only [World.size_alloc] at s1
  clear k1
  have f11 := b2.c (i := 0) rfl
  have f12 := b2.f 0
  have f13 := b2.c (i := 1) rfl
  have f14 := b2.f 1
  have f15 := b2.c (i := 2) rfl
  have f16 := b2.f 2
  have f17 := b2.c (i := 3) rfl
  have f18 := b2.f 3
  have f19 := b2.c (i := 4) rfl
  have f20 := b2.f 4
  have f21 := b2.c (i := 5) rfl
  have f22 := b2.f 5
  have f23 := b2.c (i := 6) rfl
  have f24 := b2.f 6
  have f25 := b2.c (i := 7) rfl
  have f26 := b2.f 7
  have f27 := b2.c (i := 8) rfl
  have f28 := b2.f 8
  go_wp2
  clear f11 f12 f13 f14 f15 f16 f17 f18 f19 f20 f21 f22 f23 f24 f25 f26 f27 f28
  replace b2 : Is _ _ #[.string ⟨#[]⟩, .int .i64 0, .int .i64 0, .int .i64 0, .int .i64 0, .int .i64 0, .int .i64 0, .int .i64 0, .slice none 0 0] _ := b2.set 0 (.string ⟨#[]⟩)
  replace b2 : Is _ _ #[.string ⟨#[]⟩, .int .i64 0, .int .i64 0, .int .i64 0, .int .i64 0, .int .i64 0, .int .i64 0, .int .i64 0, .slice none 0 0] _ := b2.set 1 (.int .i64 0)
  replace b2 : Is _ _ #[.string ⟨#[]⟩, .int .i64 0, .int .i64 0, .int .i64 0, .int .i64 0, .int .i64 0, .int .i64 0, .int .i64 0, .slice none 0 0] _ := b2.set 2 (.int .i64 0)
  replace b2 : Is _ _ #[.string ⟨#[]⟩, .int .i64 0, .int .i64 0, .int .i64 0, .int .i64 0, .int .i64 0, .int .i64 0, .int .i64 0, .slice none 0 0] _ := b2.set 3 (.int .i64 0)
  replace b2 : Is _ _ #[.string ⟨#[]⟩, .int .i64 0, .int .i64 0, .int .i64 0, .int .i64 0, .int .i64 0, .int .i64 0, .int .i64 0, .slice none 0 0] _ := b2.set 4 (.int .i64 0)
  replace b2 : Is _ _ #[.string ⟨#[]⟩, .int .i64 0, .int .i64 0, .int .i64 0, .int .i64 0, .int .i64 0, .int .i64 0, .int .i64 0, .slice none 0 0] _ := b2.set 5 (.int .i64 0)
  replace b2 : Is _ _ #[.string ⟨#[]⟩, .int .i64 0, .int .i64 0, .int .i64 0, .int .i64 0, .int .i64 0, .int .i64 0, .int .i64 0, .slice none 0 0] _ := b2.set 6 (.int .i64 0)
  replace b2 : Is _ _ #[.string ⟨#[]⟩, .int .i64 0, .int .i64 0, .int .i64 0, .int .i64 0, .int .i64 0, .int .i64 0, .int .i64 0, .slice none 0 0] _ := b2.set 7 (.int .i64 0)
  replace b2 : Is _ _ #[.string ⟨#[]⟩, .int .i64 0, .int .i64 0, .int .i64 0, .int .i64 0, .int .i64 0, .int .i64 0, .int .i64 0, .slice none 0 0] _ := b2.set 8 (.slice none 0 0)
  replace kx := ((((((((kx.setCell (p := ⟨w.heap.size + 1, 0, none⟩) (show w.heap.size ≤ w.heap.size + 1 by omega) (.string ⟨#[]⟩)).setCell (p := ⟨w.heap.size + 1, 1, none⟩) (show w.heap.size ≤ w.heap.size + 1 by omega) (.int .i64 0)).setCell (p := ⟨w.heap.size + 1, 2, none⟩) (show w.heap.size ≤ w.heap.size + 1 by omega) (.int .i64 0)).setCell (p := ⟨w.heap.size + 1, 3, none⟩) (show w.heap.size ≤ w.heap.size + 1 by omega) (.int .i64 0)).setCell (p := ⟨w.heap.size + 1, 4, none⟩) (show w.heap.size ≤ w.heap.size + 1 by omega) (.int .i64 0)).setCell (p := ⟨w.heap.size + 1, 5, none⟩) (show w.heap.size ≤ w.heap.size + 1 by omega) (.int .i64 0)).setCell (p := ⟨w.heap.size + 1, 6, none⟩) (show w.heap.size ≤ w.heap.size + 1 by omega) (.int .i64 0)).setCell (p := ⟨w.heap.size + 1, 7, none⟩) (show w.heap.size ≤ w.heap.size + 1 by omega) (.int .i64 0)).setCell (p := ⟨w.heap.size + 1, 8, none⟩) (show w.heap.size ≤ w.heap.size + 1 by omega) (.slice none 0 0)
  refine ret_row2 Tryd.results26 rfl rfl rfl b2 Tryd.underlying28 rfl (by kernel_rfl) ?_
  exact ⟨rfl, kx⟩
set_option maxRecDepth 100000 in
theorem cMirrorE_any (nu : ByteArray) (ku : Int) (au : Int) (xu : Int) (yu : Int) (zu : Int) (lou : Int) (hiu : Int) (fpu : Option Addr) (flu : Nat) (fcu : Nat) (c : Int) (r1 : Int) (q1 : Ca 50 #[.agg #[.string nu, .int .i64 ku, .int .i64 au, .int .i64 xu, .int .i64 yu, .int .i64 zu, .int .i64 lou, .int .i64 hiu, .slice fpu flu fcu], .int .i64 c] (.int .i64 r1)) (h1 : (r1 != 0) = true)  : Ca 26 #[.agg #[.string nu, .int .i64 ku, .int .i64 au, .int .i64 xu, .int .i64 yu, .int .i64 zu, .int .i64 lou, .int .i64 hiu, .slice fpu flu fcu], .int .i64 c] (.tuple #[.agg #[.string ⟨#[]⟩, .int .i64 0, .int .i64 0, .int .i64 0, .int .i64 0, .int .i64 0, .int .i64 0, .int .i64 0, .slice none 0 0], .int .i64 r1]) := Lib.hid fun w => by
  exact cMirrorE_1 nu ku au xu yu zu lou hiu fpu flu fcu c r1 q1 h1 w
set_option maxRecDepth 100000 in
set_option maxHeartbeats 4000000 in
theorem cTurnE_1 (nu : ByteArray) (ku : Int) (au : Int) (xu : Int) (yu : Int) (zu : Int) (lou : Int) (hiu : Int) (fpu : Option Addr) (flu : Nat) (fcu : Nat) (c : Int) (r1 : Int)   (q1 : Ca 50 #[.agg #[.string nu, .int .i64 ku, .int .i64 au, .int .i64 xu, .int .i64 yu, .int .i64 zu, .int .i64 lou, .int .i64 hiu, .slice fpu flu fcu], .int .i64 c] (.int .i64 r1)) (h1 : (r1 != 0) = true) (w : World)  : Calls Tryd.prog 28 #[.agg #[.string nu, .int .i64 ku, .int .i64 au, .int .i64 xu, .int .i64 yu, .int .i64 zu, .int .i64 lou, .int .i64 hiu, .slice fpu flu fcu], .int .i64 c] w fun r W' => r = .returned (.tuple #[.agg #[.string ⟨#[]⟩, .int .i64 0, .int .i64 0, .int .i64 0, .int .i64 0, .int .i64 0, .int .i64 0, .int .i64 0, .slice none 0 0], .int .i64 r1]) ∧ Kb w W' := by
  have kx := Kb.refl w
  unfold Ca at q1
  have j1 := ((Is.made w #[.string nu, .int .i64 ku, .int .i64 au, .int .i64 xu, .int .i64 yu, .int .i64 zu, .int .i64 lou, .int .i64 hiu, .slice fpu flu fcu] 28).alloc (.cells #[.string ⟨#[]⟩, .int .i64 0, .int .i64 0, .int .i64 0, .int .i64 0, .int .i64 0, .int .i64 0, .int .i64 0, .slice none 0 0] 28 (0, 0)))
  have f2 := j1.c (i := 0) rfl
  have f3 := j1.c (i := 1) rfl
  have f4 := j1.c (i := 2) rfl
  have f5 := j1.c (i := 3) rfl
  have f6 := j1.c (i := 4) rfl
  have f7 := j1.c (i := 5) rfl
  have f8 := j1.c (i := 6) rfl
  have f9 := j1.c (i := 7) rfl
  have f10 := j1.c (i := 8) rfl
  go_enter Tryd.func28, Tryd.ntmps28
  go_wp2_with fail
  clear f2 f3 f4 f5 f6 f7 f8 f9 f10
  have b1 := j1
  have b2 := Is.made (w.alloc (.cells #[.string nu, .int .i64 ku, .int .i64 au, .int .i64 xu, .int .i64 yu, .int .i64 zu, .int .i64 lou, .int .i64 hiu, .slice fpu flu fcu] 28 (0, 0))) #[.string ⟨#[]⟩, .int .i64 0, .int .i64 0, .int .i64 0, .int .i64 0, .int .i64 0, .int .i64 0, .int .i64 0, .slice none 0 0] 28
  simp only [World.size_alloc] at b2
  replace kx := (kx.alloc (.cells #[.string nu, .int .i64 ku, .int .i64 au, .int .i64 xu, .int .i64 yu, .int .i64 zu, .int .i64 lou, .int .i64 hiu, .slice fpu flu fcu] 28 (0, 0))).alloc (.cells #[.string ⟨#[]⟩, .int .i64 0, .int .i64 0, .int .i64 0, .int .i64 0, .int .i64 0, .int .i64 0, .int .i64 0, .slice none 0 0] 28 (0, 0))
  clear j1
  (with_reducible refine (((q1).out _)).mono ?_)
  rintro r w1 ⟨rfl, k1⟩
  replace b1 := b1.kb k1
  replace b2 := b2.kb k1
  replace kx := kx.trans k1
  have s1 := k1.size
  simp only [World.size_alloc] at s1
  clear k1
  have f11 := b2.c (i := 0) rfl
  have f12 := b2.f 0
  have f13 := b2.c (i := 1) rfl
  have f14 := b2.f 1
  have f15 := b2.c (i := 2) rfl
  have f16 := b2.f 2
  have f17 := b2.c (i := 3) rfl
  have f18 := b2.f 3
  have f19 := b2.c (i := 4) rfl
  have f20 := b2.f 4
  have f21 := b2.c (i := 5) rfl
  have f22 := b2.f 5
  have f23 := b2.c (i := 6) rfl
  have f24 := b2.f 6
  have f25 := b2.c (i := 7) rfl
  have f26 := b2.f 7
  have f27 := b2.c (i := 8) rfl
  have f28 := b2.f 8
  go_wp2
  clear f11 f12 f13 f14 f15 f16 f17 f18 f19 f20 f21 f22 f23 f24 f25 f26 f27 f28
  replace b2 : Is _ _ #[.string ⟨#[]⟩, .int .i64 0, .int .i64 0, .int .i64 0, .int .i64 0, .int .i64 0, .int .i64 0, .int .i64 0, .slice none 0 0] _ := b2.set 0 (.string ⟨#[]⟩)
  replace b2 : Is _ _ #[.string ⟨#[]⟩, .int .i64 0, .int .i64 0, .int .i64 0, .int .i64 0, .int .i64 0, .int .i64 0, .int .i64 0, .slice none 0 0] _ := b2.set 1 (.int .i64 0)
  replace b2 : Is _ _ #[.string ⟨#[]⟩, .int .i64 0, .int .i64 0, .int .i64 0, .int .i64 0, .int .i64 0, .int .i64 0, .int .i64 0, .slice none 0 0] _ := b2.set 2 (.int .i64 0)
  replace b2 : Is _ _ #[.string ⟨#[]⟩, .int .i64 0, .int .i64 0, .int .i64 0, .int .i64 0, .int .i64 0, .int .i64 0, .int .i64 0, .slice none 0 0] _ := b2.set 3 (.int .i64 0)
  replace b2 : Is _ _ #[.string ⟨#[]⟩, .int .i64 0, .int .i64 0, .int .i64 0, .int .i64 0, .int .i64 0, .int .i64 0, .int .i64 0, .slice none 0 0] _ := b2.set 4 (.int .i64 0)
  replace b2 : Is _ _ #[.string ⟨#[]⟩, .int .i64 0, .int .i64 0, .int .i64 0, .int .i64 0, .int .i64 0, .int .i64 0, .int .i64 0, .slice none 0 0] _ := b2.set 5 (.int .i64 0)
  replace b2 : Is _ _ #[.string ⟨#[]⟩, .int .i64 0, .int .i64 0, .int .i64 0, .int .i64 0, .int .i64 0, .int .i64 0, .int .i64 0, .slice none 0 0] _ := b2.set 6 (.int .i64 0)
  replace b2 : Is _ _ #[.string ⟨#[]⟩, .int .i64 0, .int .i64 0, .int .i64 0, .int .i64 0, .int .i64 0, .int .i64 0, .int .i64 0, .slice none 0 0] _ := b2.set 7 (.int .i64 0)
  replace b2 : Is _ _ #[.string ⟨#[]⟩, .int .i64 0, .int .i64 0, .int .i64 0, .int .i64 0, .int .i64 0, .int .i64 0, .int .i64 0, .slice none 0 0] _ := b2.set 8 (.slice none 0 0)
  replace kx := ((((((((kx.setCell (p := ⟨w.heap.size + 1, 0, none⟩) (show w.heap.size ≤ w.heap.size + 1 by omega) (.string ⟨#[]⟩)).setCell (p := ⟨w.heap.size + 1, 1, none⟩) (show w.heap.size ≤ w.heap.size + 1 by omega) (.int .i64 0)).setCell (p := ⟨w.heap.size + 1, 2, none⟩) (show w.heap.size ≤ w.heap.size + 1 by omega) (.int .i64 0)).setCell (p := ⟨w.heap.size + 1, 3, none⟩) (show w.heap.size ≤ w.heap.size + 1 by omega) (.int .i64 0)).setCell (p := ⟨w.heap.size + 1, 4, none⟩) (show w.heap.size ≤ w.heap.size + 1 by omega) (.int .i64 0)).setCell (p := ⟨w.heap.size + 1, 5, none⟩) (show w.heap.size ≤ w.heap.size + 1 by omega) (.int .i64 0)).setCell (p := ⟨w.heap.size + 1, 6, none⟩) (show w.heap.size ≤ w.heap.size + 1 by omega) (.int .i64 0)).setCell (p := ⟨w.heap.size + 1, 7, none⟩) (show w.heap.size ≤ w.heap.size + 1 by omega) (.int .i64 0)).setCell (p := ⟨w.heap.size + 1, 8, none⟩) (show w.heap.size ≤ w.heap.size + 1 by omega) (.slice none 0 0)
  refine ret_row2 Tryd.results28 rfl rfl rfl b2 Tryd.underlying28 rfl (by kernel_rfl) ?_
  exact ⟨rfl, kx⟩
set_option maxRecDepth 100000 in
theorem cTurnE_any (nu : ByteArray) (ku : Int) (au : Int) (xu : Int) (yu : Int) (zu : Int) (lou : Int) (hiu : Int) (fpu : Option Addr) (flu : Nat) (fcu : Nat) (c : Int) (r1 : Int) (q1 : Ca 50 #[.agg #[.string nu, .int .i64 ku, .int .i64 au, .int .i64 xu, .int .i64 yu, .int .i64 zu, .int .i64 lou, .int .i64 hiu, .slice fpu flu fcu], .int .i64 c] (.int .i64 r1)) (h1 : (r1 != 0) = true)  : Ca 28 #[.agg #[.string nu, .int .i64 ku, .int .i64 au, .int .i64 xu, .int .i64 yu, .int .i64 zu, .int .i64 lou, .int .i64 hiu, .slice fpu flu fcu], .int .i64 c] (.tuple #[.agg #[.string ⟨#[]⟩, .int .i64 0, .int .i64 0, .int .i64 0, .int .i64 0, .int .i64 0, .int .i64 0, .int .i64 0, .slice none 0 0], .int .i64 r1]) := Lib.hid fun w => by
  exact cTurnE_1 nu ku au xu yu zu lou hiu fpu flu fcu c r1 q1 h1 w
set_option maxRecDepth 100000 in
set_option maxHeartbeats 4000000 in
theorem rMirrorE_1 (nu : ByteArray) (ku : Int) (au : Int) (xu : Int) (yu : Int) (zu : Int) (lou : Int) (hiu : Int) (fpu : Option Addr) (flu : Nat) (fcu : Nat) (c : Int) (r1 : Int)   (q1 : Ca 55 #[.agg #[.string nu, .int .i64 ku, .int .i64 au, .int .i64 xu, .int .i64 yu, .int .i64 zu, .int .i64 lou, .int .i64 hiu, .slice fpu flu fcu], .int .i64 c] (.int .i64 r1)) (h1 : (r1 != 0) = true) (w : World)  : Calls Tryd.prog 27 #[.agg #[.string nu, .int .i64 ku, .int .i64 au, .int .i64 xu, .int .i64 yu, .int .i64 zu, .int .i64 lou, .int .i64 hiu, .slice fpu flu fcu], .int .i64 c] w fun r W' => r = .returned (.tuple #[.agg #[.string ⟨#[]⟩, .int .i64 0, .int .i64 0, .int .i64 0, .int .i64 0, .int .i64 0, .int .i64 0, .int .i64 0, .slice none 0 0], .int .i64 r1]) ∧ Kb w W' := by
  have kx := Kb.refl w
  unfold Ca at q1
  have j1 := ((Is.made w #[.string nu, .int .i64 ku, .int .i64 au, .int .i64 xu, .int .i64 yu, .int .i64 zu, .int .i64 lou, .int .i64 hiu, .slice fpu flu fcu] 28).alloc (.cells #[.string ⟨#[]⟩, .int .i64 0, .int .i64 0, .int .i64 0, .int .i64 0, .int .i64 0, .int .i64 0, .int .i64 0, .slice none 0 0] 28 (0, 0)))
  have f2 := j1.c (i := 0) rfl
  have f3 := j1.c (i := 1) rfl
  have f4 := j1.c (i := 2) rfl
  have f5 := j1.c (i := 3) rfl
  have f6 := j1.c (i := 4) rfl
  have f7 := j1.c (i := 5) rfl
  have f8 := j1.c (i := 6) rfl
  have f9 := j1.c (i := 7) rfl
  have f10 := j1.c (i := 8) rfl
  go_enter Tryd.func27, Tryd.ntmps27
  go_wp2_with fail
  clear f2 f3 f4 f5 f6 f7 f8 f9 f10
  have b1 := j1
  have b2 := Is.made (w.alloc (.cells #[.string nu, .int .i64 ku, .int .i64 au, .int .i64 xu, .int .i64 yu, .int .i64 zu, .int .i64 lou, .int .i64 hiu, .slice fpu flu fcu] 28 (0, 0))) #[.string ⟨#[]⟩, .int .i64 0, .int .i64 0, .int .i64 0, .int .i64 0, .int .i64 0, .int .i64 0, .int .i64 0, .slice none 0 0] 28
  simp only [World.size_alloc] at b2
  replace kx := (kx.alloc (.cells #[.string nu, .int .i64 ku, .int .i64 au, .int .i64 xu, .int .i64 yu, .int .i64 zu, .int .i64 lou, .int .i64 hiu, .slice fpu flu fcu] 28 (0, 0))).alloc (.cells #[.string ⟨#[]⟩, .int .i64 0, .int .i64 0, .int .i64 0, .int .i64 0, .int .i64 0, .int .i64 0, .int .i64 0, .slice none 0 0] 28 (0, 0))
  clear j1
  (with_reducible refine (((q1).out _)).mono ?_)
  rintro r w1 ⟨rfl, k1⟩
  replace b1 := b1.kb k1
  replace b2 := b2.kb k1
  replace kx := kx.trans k1
  have s1 := k1.size
  simp only [World.size_alloc] at s1
  clear k1
  have f11 := b2.c (i := 0) rfl
  have f12 := b2.f 0
  have f13 := b2.c (i := 1) rfl
  have f14 := b2.f 1
  have f15 := b2.c (i := 2) rfl
  have f16 := b2.f 2
  have f17 := b2.c (i := 3) rfl
  have f18 := b2.f 3
  have f19 := b2.c (i := 4) rfl
  have f20 := b2.f 4
  have f21 := b2.c (i := 5) rfl
  have f22 := b2.f 5
  have f23 := b2.c (i := 6) rfl
  have f24 := b2.f 6
  have f25 := b2.c (i := 7) rfl
  have f26 := b2.f 7
  have f27 := b2.c (i := 8) rfl
  have f28 := b2.f 8
  go_wp2
  clear f11 f12 f13 f14 f15 f16 f17 f18 f19 f20 f21 f22 f23 f24 f25 f26 f27 f28
  replace b2 : Is _ _ #[.string ⟨#[]⟩, .int .i64 0, .int .i64 0, .int .i64 0, .int .i64 0, .int .i64 0, .int .i64 0, .int .i64 0, .slice none 0 0] _ := b2.set 0 (.string ⟨#[]⟩)
  replace b2 : Is _ _ #[.string ⟨#[]⟩, .int .i64 0, .int .i64 0, .int .i64 0, .int .i64 0, .int .i64 0, .int .i64 0, .int .i64 0, .slice none 0 0] _ := b2.set 1 (.int .i64 0)
  replace b2 : Is _ _ #[.string ⟨#[]⟩, .int .i64 0, .int .i64 0, .int .i64 0, .int .i64 0, .int .i64 0, .int .i64 0, .int .i64 0, .slice none 0 0] _ := b2.set 2 (.int .i64 0)
  replace b2 : Is _ _ #[.string ⟨#[]⟩, .int .i64 0, .int .i64 0, .int .i64 0, .int .i64 0, .int .i64 0, .int .i64 0, .int .i64 0, .slice none 0 0] _ := b2.set 3 (.int .i64 0)
  replace b2 : Is _ _ #[.string ⟨#[]⟩, .int .i64 0, .int .i64 0, .int .i64 0, .int .i64 0, .int .i64 0, .int .i64 0, .int .i64 0, .slice none 0 0] _ := b2.set 4 (.int .i64 0)
  replace b2 : Is _ _ #[.string ⟨#[]⟩, .int .i64 0, .int .i64 0, .int .i64 0, .int .i64 0, .int .i64 0, .int .i64 0, .int .i64 0, .slice none 0 0] _ := b2.set 5 (.int .i64 0)
  replace b2 : Is _ _ #[.string ⟨#[]⟩, .int .i64 0, .int .i64 0, .int .i64 0, .int .i64 0, .int .i64 0, .int .i64 0, .int .i64 0, .slice none 0 0] _ := b2.set 6 (.int .i64 0)
  replace b2 : Is _ _ #[.string ⟨#[]⟩, .int .i64 0, .int .i64 0, .int .i64 0, .int .i64 0, .int .i64 0, .int .i64 0, .int .i64 0, .slice none 0 0] _ := b2.set 7 (.int .i64 0)
  replace b2 : Is _ _ #[.string ⟨#[]⟩, .int .i64 0, .int .i64 0, .int .i64 0, .int .i64 0, .int .i64 0, .int .i64 0, .int .i64 0, .slice none 0 0] _ := b2.set 8 (.slice none 0 0)
  replace kx := ((((((((kx.setCell (p := ⟨w.heap.size + 1, 0, none⟩) (show w.heap.size ≤ w.heap.size + 1 by omega) (.string ⟨#[]⟩)).setCell (p := ⟨w.heap.size + 1, 1, none⟩) (show w.heap.size ≤ w.heap.size + 1 by omega) (.int .i64 0)).setCell (p := ⟨w.heap.size + 1, 2, none⟩) (show w.heap.size ≤ w.heap.size + 1 by omega) (.int .i64 0)).setCell (p := ⟨w.heap.size + 1, 3, none⟩) (show w.heap.size ≤ w.heap.size + 1 by omega) (.int .i64 0)).setCell (p := ⟨w.heap.size + 1, 4, none⟩) (show w.heap.size ≤ w.heap.size + 1 by omega) (.int .i64 0)).setCell (p := ⟨w.heap.size + 1, 5, none⟩) (show w.heap.size ≤ w.heap.size + 1 by omega) (.int .i64 0)).setCell (p := ⟨w.heap.size + 1, 6, none⟩) (show w.heap.size ≤ w.heap.size + 1 by omega) (.int .i64 0)).setCell (p := ⟨w.heap.size + 1, 7, none⟩) (show w.heap.size ≤ w.heap.size + 1 by omega) (.int .i64 0)).setCell (p := ⟨w.heap.size + 1, 8, none⟩) (show w.heap.size ≤ w.heap.size + 1 by omega) (.slice none 0 0)
  refine ret_row2 Tryd.results27 rfl rfl rfl b2 Tryd.underlying28 rfl (by kernel_rfl) ?_
  exact ⟨rfl, kx⟩
set_option maxRecDepth 100000 in
theorem rMirrorE_any (nu : ByteArray) (ku : Int) (au : Int) (xu : Int) (yu : Int) (zu : Int) (lou : Int) (hiu : Int) (fpu : Option Addr) (flu : Nat) (fcu : Nat) (c : Int) (r1 : Int) (q1 : Ca 55 #[.agg #[.string nu, .int .i64 ku, .int .i64 au, .int .i64 xu, .int .i64 yu, .int .i64 zu, .int .i64 lou, .int .i64 hiu, .slice fpu flu fcu], .int .i64 c] (.int .i64 r1)) (h1 : (r1 != 0) = true)  : Ca 27 #[.agg #[.string nu, .int .i64 ku, .int .i64 au, .int .i64 xu, .int .i64 yu, .int .i64 zu, .int .i64 lou, .int .i64 hiu, .slice fpu flu fcu], .int .i64 c] (.tuple #[.agg #[.string ⟨#[]⟩, .int .i64 0, .int .i64 0, .int .i64 0, .int .i64 0, .int .i64 0, .int .i64 0, .int .i64 0, .slice none 0 0], .int .i64 r1]) := Lib.hid fun w => by
  exact rMirrorE_1 nu ku au xu yu zu lou hiu fpu flu fcu c r1 q1 h1 w
set_option maxRecDepth 100000 in
set_option maxHeartbeats 4000000 in
theorem rTurnE_1 (nu : ByteArray) (ku : Int) (au : Int) (xu : Int) (yu : Int) (zu : Int) (lou : Int) (hiu : Int) (fpu : Option Addr) (flu : Nat) (fcu : Nat) (c : Int) (r1 : Int)   (q1 : Ca 55 #[.agg #[.string nu, .int .i64 ku, .int .i64 au, .int .i64 xu, .int .i64 yu, .int .i64 zu, .int .i64 lou, .int .i64 hiu, .slice fpu flu fcu], .int .i64 c] (.int .i64 r1)) (h1 : (r1 != 0) = true) (w : World)  : Calls Tryd.prog 29 #[.agg #[.string nu, .int .i64 ku, .int .i64 au, .int .i64 xu, .int .i64 yu, .int .i64 zu, .int .i64 lou, .int .i64 hiu, .slice fpu flu fcu], .int .i64 c] w fun r W' => r = .returned (.tuple #[.agg #[.string ⟨#[]⟩, .int .i64 0, .int .i64 0, .int .i64 0, .int .i64 0, .int .i64 0, .int .i64 0, .int .i64 0, .slice none 0 0], .int .i64 r1]) ∧ Kb w W' := by
  have kx := Kb.refl w
  unfold Ca at q1
  have j1 := ((Is.made w #[.string nu, .int .i64 ku, .int .i64 au, .int .i64 xu, .int .i64 yu, .int .i64 zu, .int .i64 lou, .int .i64 hiu, .slice fpu flu fcu] 28).alloc (.cells #[.string ⟨#[]⟩, .int .i64 0, .int .i64 0, .int .i64 0, .int .i64 0, .int .i64 0, .int .i64 0, .int .i64 0, .slice none 0 0] 28 (0, 0)))
  have f2 := j1.c (i := 0) rfl
  have f3 := j1.c (i := 1) rfl
  have f4 := j1.c (i := 2) rfl
  have f5 := j1.c (i := 3) rfl
  have f6 := j1.c (i := 4) rfl
  have f7 := j1.c (i := 5) rfl
  have f8 := j1.c (i := 6) rfl
  have f9 := j1.c (i := 7) rfl
  have f10 := j1.c (i := 8) rfl
  go_enter Tryd.func29, Tryd.ntmps29
  go_wp2_with fail
  clear f2 f3 f4 f5 f6 f7 f8 f9 f10
  have b1 := j1
  have b2 := Is.made (w.alloc (.cells #[.string nu, .int .i64 ku, .int .i64 au, .int .i64 xu, .int .i64 yu, .int .i64 zu, .int .i64 lou, .int .i64 hiu, .slice fpu flu fcu] 28 (0, 0))) #[.string ⟨#[]⟩, .int .i64 0, .int .i64 0, .int .i64 0, .int .i64 0, .int .i64 0, .int .i64 0, .int .i64 0, .slice none 0 0] 28
  simp only [World.size_alloc] at b2
  replace kx := (kx.alloc (.cells #[.string nu, .int .i64 ku, .int .i64 au, .int .i64 xu, .int .i64 yu, .int .i64 zu, .int .i64 lou, .int .i64 hiu, .slice fpu flu fcu] 28 (0, 0))).alloc (.cells #[.string ⟨#[]⟩, .int .i64 0, .int .i64 0, .int .i64 0, .int .i64 0, .int .i64 0, .int .i64 0, .int .i64 0, .slice none 0 0] 28 (0, 0))
  clear j1
  (with_reducible refine (((q1).out _)).mono ?_)
  rintro r w1 ⟨rfl, k1⟩
  replace b1 := b1.kb k1
  replace b2 := b2.kb k1
  replace kx := kx.trans k1
  have s1 := k1.size
  simp only [World.size_alloc] at s1
  clear k1
  have f11 := b2.c (i := 0) rfl
  have f12 := b2.f 0
  have f13 := b2.c (i := 1) rfl
  have f14 := b2.f 1
  have f15 := b2.c (i := 2) rfl
  have f16 := b2.f 2
  have f17 := b2.c (i := 3) rfl
  have f18 := b2.f 3
  have f19 := b2.c (i := 4) rfl
  have f20 := b2.f 4
  have f21 := b2.c (i := 5) rfl
  have f22 := b2.f 5
  have f23 := b2.c (i := 6) rfl
  have f24 := b2.f 6
  have f25 := b2.c (i := 7) rfl
  have f26 := b2.f 7
  have f27 := b2.c (i := 8) rfl
  have f28 := b2.f 8
  go_wp2
  clear f11 f12 f13 f14 f15 f16 f17 f18 f19 f20 f21 f22 f23 f24 f25 f26 f27 f28
  replace b2 : Is _ _ #[.string ⟨#[]⟩, .int .i64 0, .int .i64 0, .int .i64 0, .int .i64 0, .int .i64 0, .int .i64 0, .int .i64 0, .slice none 0 0] _ := b2.set 0 (.string ⟨#[]⟩)
  replace b2 : Is _ _ #[.string ⟨#[]⟩, .int .i64 0, .int .i64 0, .int .i64 0, .int .i64 0, .int .i64 0, .int .i64 0, .int .i64 0, .slice none 0 0] _ := b2.set 1 (.int .i64 0)
  replace b2 : Is _ _ #[.string ⟨#[]⟩, .int .i64 0, .int .i64 0, .int .i64 0, .int .i64 0, .int .i64 0, .int .i64 0, .int .i64 0, .slice none 0 0] _ := b2.set 2 (.int .i64 0)
  replace b2 : Is _ _ #[.string ⟨#[]⟩, .int .i64 0, .int .i64 0, .int .i64 0, .int .i64 0, .int .i64 0, .int .i64 0, .int .i64 0, .slice none 0 0] _ := b2.set 3 (.int .i64 0)
  replace b2 : Is _ _ #[.string ⟨#[]⟩, .int .i64 0, .int .i64 0, .int .i64 0, .int .i64 0, .int .i64 0, .int .i64 0, .int .i64 0, .slice none 0 0] _ := b2.set 4 (.int .i64 0)
  replace b2 : Is _ _ #[.string ⟨#[]⟩, .int .i64 0, .int .i64 0, .int .i64 0, .int .i64 0, .int .i64 0, .int .i64 0, .int .i64 0, .slice none 0 0] _ := b2.set 5 (.int .i64 0)
  replace b2 : Is _ _ #[.string ⟨#[]⟩, .int .i64 0, .int .i64 0, .int .i64 0, .int .i64 0, .int .i64 0, .int .i64 0, .int .i64 0, .slice none 0 0] _ := b2.set 6 (.int .i64 0)
  replace b2 : Is _ _ #[.string ⟨#[]⟩, .int .i64 0, .int .i64 0, .int .i64 0, .int .i64 0, .int .i64 0, .int .i64 0, .int .i64 0, .slice none 0 0] _ := b2.set 7 (.int .i64 0)
  replace b2 : Is _ _ #[.string ⟨#[]⟩, .int .i64 0, .int .i64 0, .int .i64 0, .int .i64 0, .int .i64 0, .int .i64 0, .int .i64 0, .slice none 0 0] _ := b2.set 8 (.slice none 0 0)
  replace kx := ((((((((kx.setCell (p := ⟨w.heap.size + 1, 0, none⟩) (show w.heap.size ≤ w.heap.size + 1 by omega) (.string ⟨#[]⟩)).setCell (p := ⟨w.heap.size + 1, 1, none⟩) (show w.heap.size ≤ w.heap.size + 1 by omega) (.int .i64 0)).setCell (p := ⟨w.heap.size + 1, 2, none⟩) (show w.heap.size ≤ w.heap.size + 1 by omega) (.int .i64 0)).setCell (p := ⟨w.heap.size + 1, 3, none⟩) (show w.heap.size ≤ w.heap.size + 1 by omega) (.int .i64 0)).setCell (p := ⟨w.heap.size + 1, 4, none⟩) (show w.heap.size ≤ w.heap.size + 1 by omega) (.int .i64 0)).setCell (p := ⟨w.heap.size + 1, 5, none⟩) (show w.heap.size ≤ w.heap.size + 1 by omega) (.int .i64 0)).setCell (p := ⟨w.heap.size + 1, 6, none⟩) (show w.heap.size ≤ w.heap.size + 1 by omega) (.int .i64 0)).setCell (p := ⟨w.heap.size + 1, 7, none⟩) (show w.heap.size ≤ w.heap.size + 1 by omega) (.int .i64 0)).setCell (p := ⟨w.heap.size + 1, 8, none⟩) (show w.heap.size ≤ w.heap.size + 1 by omega) (.slice none 0 0)
  refine ret_row2 Tryd.results29 rfl rfl rfl b2 Tryd.underlying28 rfl (by kernel_rfl) ?_
  exact ⟨rfl, kx⟩
set_option maxRecDepth 100000 in
theorem rTurnE_any (nu : ByteArray) (ku : Int) (au : Int) (xu : Int) (yu : Int) (zu : Int) (lou : Int) (hiu : Int) (fpu : Option Addr) (flu : Nat) (fcu : Nat) (c : Int) (r1 : Int) (q1 : Ca 55 #[.agg #[.string nu, .int .i64 ku, .int .i64 au, .int .i64 xu, .int .i64 yu, .int .i64 zu, .int .i64 lou, .int .i64 hiu, .slice fpu flu fcu], .int .i64 c] (.int .i64 r1)) (h1 : (r1 != 0) = true)  : Ca 29 #[.agg #[.string nu, .int .i64 ku, .int .i64 au, .int .i64 xu, .int .i64 yu, .int .i64 zu, .int .i64 lou, .int .i64 hiu, .slice fpu flu fcu], .int .i64 c] (.tuple #[.agg #[.string ⟨#[]⟩, .int .i64 0, .int .i64 0, .int .i64 0, .int .i64 0, .int .i64 0, .int .i64 0, .int .i64 0, .slice none 0 0], .int .i64 r1]) := Lib.hid fun w => by
  exact rTurnE_1 nu ku au xu yu zu lou hiu fpu flu fcu c r1 q1 h1 w
end Go.Proofs.YtdmfkgopalelgaaDoor
