/- Fits: walks of Limits, Clearance, Kind. -/
import Derived.Test.YtmjkiccoimhfkaaDoorFg1
import Derived.RegionTactic
import Derived.ChangeAlike
import Derived.BigRegion
namespace Go.Proofs.YtmjkiccoimhfkaaDoor
open Go.RowKit

set_option maxRecDepth 100000 in
set_option maxHeartbeats 4000000 in
theorem fLim_1 (z : Int) (k : Int) (gh : Int) (gs : Int) (hl : Int) (hh : Int) (sl : Int) (sh : Int)    (q1 : Cg 34 #[.agg #[.int .i64 z, .bool true, .int .i64 4, .int .i64 gh, .bool false, .int .i64 k, .int .i64 gs]] (.int .i64 0)) (q2 : Cg 35 #[.int .i64 z, .agg #[.bool true, .int .i64 4, .int .i64 gh]] (.tuple #[.agg #[.int .i64 hl, .int .i64 hh], .int .i64 0])) (q3 : Cg 35 #[.int .i64 z, .agg #[.bool false, .int .i64 k, .int .i64 gs]] (.tuple #[.agg #[.int .i64 sl, .int .i64 sh], .int .i64 0])) (w : World) (gl : Gl w)  : Calls Tryd.prog 17 #[.agg #[.int .i64 z, .bool true, .int .i64 4, .int .i64 gh, .bool false, .int .i64 k, .int .i64 gs]] w fun r W' => r = .returned (.tuple #[.agg #[.int .i64 hl, .int .i64 hh], .agg #[.int .i64 sl, .int .i64 sh], .int .i64 0]) ∧ Kb w W' := by
  have kx := Kb.refl w
  unfold Cg at q1 q2 q3
  have gl0 := Lib.hid gl
  have j1 := (((Is.made w #[.int .i64 z, .bool true, .int .i64 4, .int .i64 gh, .bool false, .int .i64 k, .int .i64 gs] 34).alloc (.cells #[.int .i64 0, .int .i64 0] 27 (0, 0))).alloc (.cells #[.int .i64 0, .int .i64 0] 27 (0, 0)))
  have f2 := j1.c (i := 0) rfl
  have f3 := j1.c (i := 1) rfl
  have f4 := j1.c (i := 2) rfl
  have f5 := j1.c (i := 3) rfl
  have f6 := j1.c (i := 4) rfl
  have f7 := j1.c (i := 5) rfl
  have f8 := j1.c (i := 6) rfl
  clear j1
  go_enter Tryd.func17, Tryd.ntmps17
  go_wp2_with fail
  clear f2 f3 f4 f5 f6 f7 f8
  have b1 := Is.made w #[.int .i64 z, .bool true, .int .i64 4, .int .i64 gh, .bool false, .int .i64 k, .int .i64 gs] 34
  replace b1 := ((b1.alloc (.cells #[.int .i64 0, .int .i64 0] 27 (0, 0))).alloc (.cells #[.int .i64 0, .int .i64 0] 27 (0, 0)))
  have b2 := Is.made (w.alloc (.cells #[.int .i64 z, .bool true, .int .i64 4, .int .i64 gh, .bool false, .int .i64 k, .int .i64 gs] 34 (0, 0))) #[.int .i64 0, .int .i64 0] 27
  simp only [World.size_alloc] at b2
  replace b2 := (b2.alloc (.cells #[.int .i64 0, .int .i64 0] 27 (0, 0)))
  have b3 := Is.made ((w.alloc (.cells #[.int .i64 z, .bool true, .int .i64 4, .int .i64 gh, .bool false, .int .i64 k, .int .i64 gs] 34 (0, 0))).alloc (.cells #[.int .i64 0, .int .i64 0] 27 (0, 0))) #[.int .i64 0, .int .i64 0] 27
  simp only [World.size_alloc] at b3
  replace kx := kx.alloc (.cells #[.int .i64 z, .bool true, .int .i64 4, .int .i64 gh, .bool false, .int .i64 k, .int .i64 gs] 34 (0, 0))
  replace kx := kx.alloc (.cells #[.int .i64 0, .int .i64 0] 27 (0, 0))
  replace kx := kx.alloc (.cells #[.int .i64 0, .int .i64 0] 27 (0, 0))
  replace gl := gl0.out.kb kx
  (with_reducible refine ((q1.out _ gl)).mono ?_)
  rintro r w1 ⟨rfl, k1⟩
  replace gl := gl.kb k1
  replace b1 := b1.kb k1
  replace b2 := b2.kb k1
  replace b3 := b3.kb k1
  replace kx := kx.trans k1
  have s1 := k1.size
  simp only [World.size_alloc] at s1
  clear k1
  have f9 := b1.c (i := 0) rfl
  have f10 := b1.c (i := 1) rfl
  have f11 := b1.c (i := 2) rfl
  have f12 := b1.c (i := 3) rfl
  go_wp2_with fail
  clear f9 f10 f11 f12
  (with_reducible refine ((q2.out _ gl)).mono ?_)
  rintro r w2 ⟨rfl, k2⟩
  replace gl := gl.kb k2
  replace b1 := b1.kb k2
  replace b2 := b2.kb k2
  replace b3 := b3.kb k2
  replace kx := kx.trans k2
  have s2 := k2.size
  skip
  clear k2
  have j13 := (b1.alloc (.cells #[.int .i64 hl, .int .i64 hh] 27 (0, 0)))
  have f14 := j13.c (i := 0) rfl
  have f15 := j13.c (i := 4) rfl
  have f16 := j13.c (i := 5) rfl
  have f17 := j13.c (i := 6) rfl
  clear j13
  go_wp2_with fail
  clear f14 f15 f16 f17
  replace b1 := (b1.alloc (.cells #[.int .i64 hl, .int .i64 hh] 27 (0, 0)))
  replace b2 := (b2.alloc (.cells #[.int .i64 hl, .int .i64 hh] 27 (0, 0)))
  replace b3 := (b3.alloc (.cells #[.int .i64 hl, .int .i64 hh] 27 (0, 0)))
  have b4 := Is.made w2 #[.int .i64 hl, .int .i64 hh] 27
  replace kx := kx.alloc (.cells #[.int .i64 hl, .int .i64 hh] 27 (0, 0))
  replace gl := gl0.out.kb kx
  (with_reducible refine ((q3.out _ gl)).mono ?_)
  rintro r w3 ⟨rfl, k3⟩
  replace gl := gl.kb k3
  replace b1 := b1.kb k3
  replace b2 := b2.kb k3
  replace b3 := b3.kb k3
  replace b4 := b4.kb k3
  replace kx := kx.trans k3
  have s3 := k3.size
  simp only [World.size_alloc] at s3
  clear k3
  go_wp2_with fail
  replace b1 := (b1.alloc (.cells #[.int .i64 sl, .int .i64 sh] 27 (0, 0)))
  replace b2 := (b2.alloc (.cells #[.int .i64 sl, .int .i64 sh] 27 (0, 0)))
  replace b3 := (b3.alloc (.cells #[.int .i64 sl, .int .i64 sh] 27 (0, 0)))
  replace b4 := (b4.alloc (.cells #[.int .i64 sl, .int .i64 sh] 27 (0, 0)))
  have b5 := Is.made w3 #[.int .i64 sl, .int .i64 sh] 27
  replace kx := kx.alloc (.cells #[.int .i64 sl, .int .i64 sh] 27 (0, 0))
  replace gl := gl0.out.kb kx
  generalize hW4 : (w3.alloc (.cells #[.int .i64 sl, .int .i64 sh] 27 (0, 0))) = w4 at *
  clear hW4
  have yb4_0 : w4.cell? ⟨w2.heap.size, 0, none⟩ = some (.int .i64 hl) := b4.c (i := 0) rfl
  have xb4_0 := b4.f 0
  have yb4_1 : w4.cell? ⟨w2.heap.size, 1, none⟩ = some (.int .i64 hh) := b4.c (i := 1) rfl
  have xb4_1 := b4.f 1
  have yb5_0 : w4.cell? ⟨w3.heap.size, 0, none⟩ = some (.int .i64 sl) := b5.c (i := 0) rfl
  have xb5_0 := b5.f 0
  have yb5_1 : w4.cell? ⟨w3.heap.size, 1, none⟩ = some (.int .i64 sh) := b5.c (i := 1) rfl
  have xb5_1 := b5.f 1
  have yb2_0 : w4.cell? ⟨w.heap.size + 1, 0, none⟩ = some (.int .i64 0) := b2.c (i := 0) rfl
  have xb2_0 := b2.f 0
  have yb2_1 : w4.cell? ⟨w.heap.size + 1, 1, none⟩ = some (.int .i64 0) := b2.c (i := 1) rfl
  have xb2_1 := b2.f 1
  have yb3_0 : w4.cell? ⟨w.heap.size + 1 + 1, 0, none⟩ = some (.int .i64 0) := b3.c (i := 0) rfl
  have xb3_0 := b3.f 0
  have yb3_1 : w4.cell? ⟨w.heap.size + 1 + 1, 1, none⟩ = some (.int .i64 0) := b3.c (i := 1) rfl
  have xb3_1 := b3.f 1
  go_region
  clear yb4_0 xb4_0 yb4_1 xb4_1 yb5_0 xb5_0 yb5_1 xb5_1 yb2_0 xb2_0 yb2_1 xb2_1 yb3_0 xb3_0 yb3_1 xb3_1
  replace b1 := ((((b1.far (p := ⟨w.heap.size + 1, 0, none⟩) (show w.heap.size ≠ w.heap.size + 1 by omega) (.int .i64 hl)).far (p := ⟨w.heap.size + 1, 1, none⟩) (show w.heap.size ≠ w.heap.size + 1 by omega) (.int .i64 hh)).far (p := ⟨w.heap.size + 1 + 1, 0, none⟩) (show w.heap.size ≠ w.heap.size + 1 + 1 by omega) (.int .i64 sl)).far (p := ⟨w.heap.size + 1 + 1, 1, none⟩) (show w.heap.size ≠ w.heap.size + 1 + 1 by omega) (.int .i64 sh))
  replace b2 : Is _ _ #[.int .i64 hl, .int .i64 0] _ := b2.set 0 (.int .i64 hl)
  replace b2 : Is _ _ #[.int .i64 hl, .int .i64 hh] _ := b2.set 1 (.int .i64 hh)
  replace b2 := (b2.far (p := ⟨w.heap.size + 1 + 1, 0, none⟩) (show w.heap.size + 1 ≠ w.heap.size + 1 + 1 by omega) (.int .i64 sl))
  replace b2 := (b2.far (p := ⟨w.heap.size + 1 + 1, 1, none⟩) (show w.heap.size + 1 ≠ w.heap.size + 1 + 1 by omega) (.int .i64 sh))
  replace b3 := (b3.far (p := ⟨w.heap.size + 1, 0, none⟩) (show w.heap.size + 1 + 1 ≠ w.heap.size + 1 by omega) (.int .i64 hl))
  replace b3 := (b3.far (p := ⟨w.heap.size + 1, 1, none⟩) (show w.heap.size + 1 + 1 ≠ w.heap.size + 1 by omega) (.int .i64 hh))
  replace b3 : Is _ _ #[.int .i64 sl, .int .i64 0] _ := b3.set 0 (.int .i64 sl)
  replace b3 : Is _ _ #[.int .i64 sl, .int .i64 sh] _ := b3.set 1 (.int .i64 sh)
  replace b4 := ((((b4.far (p := ⟨w.heap.size + 1, 0, none⟩) (show w2.heap.size ≠ w.heap.size + 1 by omega) (.int .i64 hl)).far (p := ⟨w.heap.size + 1, 1, none⟩) (show w2.heap.size ≠ w.heap.size + 1 by omega) (.int .i64 hh)).far (p := ⟨w.heap.size + 1 + 1, 0, none⟩) (show w2.heap.size ≠ w.heap.size + 1 + 1 by omega) (.int .i64 sl)).far (p := ⟨w.heap.size + 1 + 1, 1, none⟩) (show w2.heap.size ≠ w.heap.size + 1 + 1 by omega) (.int .i64 sh))
  replace b5 := ((((b5.far (p := ⟨w.heap.size + 1, 0, none⟩) (show w3.heap.size ≠ w.heap.size + 1 by omega) (.int .i64 hl)).far (p := ⟨w.heap.size + 1, 1, none⟩) (show w3.heap.size ≠ w.heap.size + 1 by omega) (.int .i64 hh)).far (p := ⟨w.heap.size + 1 + 1, 0, none⟩) (show w3.heap.size ≠ w.heap.size + 1 + 1 by omega) (.int .i64 sl)).far (p := ⟨w.heap.size + 1 + 1, 1, none⟩) (show w3.heap.size ≠ w.heap.size + 1 + 1 by omega) (.int .i64 sh))
  replace kx := kx.setCell (p := ⟨w.heap.size + 1, 0, none⟩) (show w.heap.size ≤ w.heap.size + 1 by omega) (.int .i64 hl)
  replace kx := kx.setCell (p := ⟨w.heap.size + 1, 1, none⟩) (show w.heap.size ≤ w.heap.size + 1 by omega) (.int .i64 hh)
  replace kx := kx.setCell (p := ⟨w.heap.size + 1 + 1, 0, none⟩) (show w.heap.size ≤ w.heap.size + 1 + 1 by omega) (.int .i64 sl)
  replace kx := kx.setCell (p := ⟨w.heap.size + 1 + 1, 1, none⟩) (show w.heap.size ≤ w.heap.size + 1 + 1 by omega) (.int .i64 sh)
  replace gl := gl0.out.kb kx
  replace gl := gl.drew
  replace b1 := b1.drew
  replace b2 := b2.drew
  replace b3 := b3.drew
  replace b4 := b4.drew
  replace b5 := b5.drew
  replace kx := kx.drew
  have s5 : ((((w4.setCell ⟨w.heap.size + 1, 0, none⟩ (.int .i64 hl)).setCell ⟨w.heap.size + 1, 1, none⟩ (.int .i64 hh)).setCell ⟨w.heap.size + 1 + 1, 0, none⟩ (.int .i64 sl)).setCell ⟨w.heap.size + 1 + 1, 1, none⟩ (.int .i64 sh)).heap.size ≤ ((((w4.setCell ⟨w.heap.size + 1, 0, none⟩ (.int .i64 hl)).setCell ⟨w.heap.size + 1, 1, none⟩ (.int .i64 hh)).setCell ⟨w.heap.size + 1 + 1, 0, none⟩ (.int .i64 sl)).setCell ⟨w.heap.size + 1 + 1, 1, none⟩ (.int .i64 sh)).drew.heap.size := Nat.le_refl _
  generalize ((((w4.setCell ⟨w.heap.size + 1, 0, none⟩ (.int .i64 hl)).setCell ⟨w.heap.size + 1, 1, none⟩ (.int .i64 hh)).setCell ⟨w.heap.size + 1 + 1, 0, none⟩ (.int .i64 sl)).setCell ⟨w.heap.size + 1 + 1, 1, none⟩ (.int .i64 sh)).drew = w5 at *
  simp only [World.size_setCell] at s5
  go_wp2
  refine ret_row3 Tryd.results17 rfl rfl rfl rfl b2 b3 Tryd.underlying27 rfl (by kernel_rfl) Tryd.underlying27 rfl (by kernel_rfl) ?_
  exact ⟨rfl, kx⟩
set_option maxRecDepth 100000 in
theorem fLim_any (z : Int) (k : Int) (gh : Int) (gs : Int) (hl : Int) (hh : Int) (sl : Int) (sh : Int)  (q1 : Cg 34 #[.agg #[.int .i64 z, .bool true, .int .i64 4, .int .i64 gh, .bool false, .int .i64 k, .int .i64 gs]] (.int .i64 0)) (q2 : Cg 35 #[.int .i64 z, .agg #[.bool true, .int .i64 4, .int .i64 gh]] (.tuple #[.agg #[.int .i64 hl, .int .i64 hh], .int .i64 0])) (q3 : Cg 35 #[.int .i64 z, .agg #[.bool false, .int .i64 k, .int .i64 gs]] (.tuple #[.agg #[.int .i64 sl, .int .i64 sh], .int .i64 0]))  : Cg 17 #[.agg #[.int .i64 z, .bool true, .int .i64 4, .int .i64 gh, .bool false, .int .i64 k, .int .i64 gs]] (.tuple #[.agg #[.int .i64 hl, .int .i64 hh], .agg #[.int .i64 sl, .int .i64 sh], .int .i64 0]) := Lib.hid fun w gl => by
  exact fLim_1 z k gh gs hl hh sl sh q1 q2 q3 w gl
set_option maxRecDepth 100000 in
set_option maxHeartbeats 4000000 in
theorem fClr_1 (z : Int) (k : Int) (gh : Int) (gs : Int) (hl : Int) (hh : Int) (sl : Int) (sh : Int)  (z1 : Int) (z2 : Int) (a1 : wrap64 (hl - sh) = z1) (a2 : wrap64 (hh - sl) = z2) (q1 : Cg 17 #[.agg #[.int .i64 z, .bool true, .int .i64 4, .int .i64 gh, .bool false, .int .i64 k, .int .i64 gs]] (.tuple #[.agg #[.int .i64 hl, .int .i64 hh], .agg #[.int .i64 sl, .int .i64 sh], .int .i64 0])) (w : World) (gl : Gl w)  : Calls Tryd.prog 8 #[.agg #[.int .i64 z, .bool true, .int .i64 4, .int .i64 gh, .bool false, .int .i64 k, .int .i64 gs]] w fun r W' => r = .returned (.tuple #[.agg #[.int .i64 z1, .int .i64 z2], .int .i64 0]) ∧ Kb w W' := by
  have kx := Kb.refl w
  unfold Cg at q1
  have gl0 := Lib.hid gl
  have a1' : IntKind.i64.wrap (hl - sh) = z1 := (Go.IntWalk.i64_left _).trans a1
  have a2' : IntKind.i64.wrap (hh - sl) = z2 := (Go.IntWalk.i64_left _).trans a2
  have j1 := ((Is.made w #[.int .i64 z, .bool true, .int .i64 4, .int .i64 gh, .bool false, .int .i64 k, .int .i64 gs] 34).alloc (.cells #[.int .i64 0, .int .i64 0] 27 (0, 0)))
  have f2 := j1.c (i := 0) rfl
  have f3 := j1.c (i := 1) rfl
  have f4 := j1.c (i := 2) rfl
  have f5 := j1.c (i := 3) rfl
  have f6 := j1.c (i := 4) rfl
  have f7 := j1.c (i := 5) rfl
  have f8 := j1.c (i := 6) rfl
  clear j1
  go_enter Tryd.func8, Tryd.ntmps8
  go_wp2_with fail
  clear f2 f3 f4 f5 f6 f7 f8
  have b1 := Is.made w #[.int .i64 z, .bool true, .int .i64 4, .int .i64 gh, .bool false, .int .i64 k, .int .i64 gs] 34
  replace b1 := (b1.alloc (.cells #[.int .i64 0, .int .i64 0] 27 (0, 0)))
  have b2 := Is.made (w.alloc (.cells #[.int .i64 z, .bool true, .int .i64 4, .int .i64 gh, .bool false, .int .i64 k, .int .i64 gs] 34 (0, 0))) #[.int .i64 0, .int .i64 0] 27
  simp only [World.size_alloc] at b2
  replace kx := kx.alloc (.cells #[.int .i64 z, .bool true, .int .i64 4, .int .i64 gh, .bool false, .int .i64 k, .int .i64 gs] 34 (0, 0))
  replace kx := kx.alloc (.cells #[.int .i64 0, .int .i64 0] 27 (0, 0))
  replace gl := gl0.out.kb kx
  (with_reducible refine ((q1.out _ gl)).mono ?_)
  rintro r w1 ⟨rfl, k1⟩
  replace gl := gl.kb k1
  replace b1 := b1.kb k1
  replace b2 := b2.kb k1
  replace kx := kx.trans k1
  have s1 := k1.size
  simp only [World.size_alloc] at s1
  clear k1
  have j9 := ((Is.made w1 #[.int .i64 hl, .int .i64 hh] 27).alloc (.cells #[.int .i64 sl, .int .i64 sh] 27 (0, 0)))
  have f10 := j9.c (i := 0) rfl
  have j11 := (Is.made (w1.alloc (.cells #[.int .i64 hl, .int .i64 hh] 27 (0, 0))) #[.int .i64 sl, .int .i64 sh] 27)
  simp only [World.size_alloc] at j11
  have f12 := j11.c (i := 1) rfl
  have f13 := j9.c (i := 1) rfl
  have f14 := j11.c (i := 0) rfl
  have j15 := ((b2.alloc (.cells #[.int .i64 hl, .int .i64 hh] 27 (0, 0))).alloc (.cells #[.int .i64 sl, .int .i64 sh] 27 (0, 0)))
  have f16 := j15.c (i := 0) rfl
  have f17 := j15.f 0
  have f18 := j15.c (i := 1) rfl
  have f19 := j15.f 1
  clear j9 j11 j15
  go_wp2
  clear f10 f12 f13 f14 f16 f17 f18 f19
  replace b2 := (b2.alloc (.cells #[.int .i64 hl, .int .i64 hh] 27 (0, 0)))
  replace b2 := (b2.alloc (.cells #[.int .i64 sl, .int .i64 sh] 27 (0, 0)))
  replace b2 : Is _ _ #[.int .i64 z1, .int .i64 0] _ := b2.set 0 (.int .i64 z1)
  replace b2 : Is _ _ #[.int .i64 z1, .int .i64 z2] _ := b2.set 1 (.int .i64 z2)
  replace kx := kx.alloc (.cells #[.int .i64 hl, .int .i64 hh] 27 (0, 0))
  replace kx := kx.alloc (.cells #[.int .i64 sl, .int .i64 sh] 27 (0, 0))
  replace kx := kx.setCell (p := ⟨w.heap.size + 1, 0, none⟩) (show w.heap.size ≤ w.heap.size + 1 by omega) (.int .i64 z1)
  replace kx := kx.setCell (p := ⟨w.heap.size + 1, 1, none⟩) (show w.heap.size ≤ w.heap.size + 1 by omega) (.int .i64 z2)
  refine ret_row2 Tryd.results8 rfl rfl rfl b2 Tryd.underlying27 rfl (by kernel_rfl) ?_
  exact ⟨rfl, kx⟩
set_option maxRecDepth 100000 in
theorem fClr_any (z : Int) (k : Int) (gh : Int) (gs : Int) (hl : Int) (hh : Int) (sl : Int) (sh : Int)  (q1 : Cg 17 #[.agg #[.int .i64 z, .bool true, .int .i64 4, .int .i64 gh, .bool false, .int .i64 k, .int .i64 gs]] (.tuple #[.agg #[.int .i64 hl, .int .i64 hh], .agg #[.int .i64 sl, .int .i64 sh], .int .i64 0]))  : Cg 8 #[.agg #[.int .i64 z, .bool true, .int .i64 4, .int .i64 gh, .bool false, .int .i64 k, .int .i64 gs]] (.tuple #[.agg #[.int .i64 (wrap64 (hl - sh)), .int .i64 (wrap64 (hh - sl))], .int .i64 0]) := Lib.hid fun w gl => by
  exact fClr_1 z k gh gs hl hh sl sh ((wrap64 (hl - sh))) ((wrap64 (hh - sl))) rfl rfl q1 w gl
set_option maxRecDepth 100000 in
set_option maxHeartbeats 4000000 in
theorem fKnd_1 (z : Int) (k : Int) (gh : Int) (gs : Int) (cl : Int) (ch : Int)    (q1 : Cg 8 #[.agg #[.int .i64 z, .bool true, .int .i64 4, .int .i64 gh, .bool false, .int .i64 k, .int .i64 gs]] (.tuple #[.agg #[.int .i64 cl, .int .i64 ch], .int .i64 0]))  (h1 : 0 ≤ cl) (w : World) (gl : Gl w)  : Calls Tryd.prog 10 #[.agg #[.int .i64 z, .bool true, .int .i64 4, .int .i64 gh, .bool false, .int .i64 k, .int .i64 gs]] w fun r W' => r = .returned (.tuple #[.int .i64 0, .int .i64 0]) ∧ Kb w W' := by
  have kx := Kb.refl w
  unfold Cg at q1
  have gl0 := Lib.hid gl
  have j1 := (Is.made w #[.int .i64 z, .bool true, .int .i64 4, .int .i64 gh, .bool false, .int .i64 k, .int .i64 gs] 34)
  have f2 := j1.c (i := 0) rfl
  have f3 := j1.c (i := 1) rfl
  have f4 := j1.c (i := 2) rfl
  have f5 := j1.c (i := 3) rfl
  have f6 := j1.c (i := 4) rfl
  have f7 := j1.c (i := 5) rfl
  have f8 := j1.c (i := 6) rfl
  clear j1
  go_enter Tryd.func10, Tryd.ntmps10
  go_wp2_with fail
  clear f2 f3 f4 f5 f6 f7 f8
  have b1 := Is.made w #[.int .i64 z, .bool true, .int .i64 4, .int .i64 gh, .bool false, .int .i64 k, .int .i64 gs] 34
  replace kx := kx.alloc (.cells #[.int .i64 z, .bool true, .int .i64 4, .int .i64 gh, .bool false, .int .i64 k, .int .i64 gs] 34 (0, 0))
  replace gl := gl0.out.kb kx
  (with_reducible refine ((q1.out _ gl)).mono ?_)
  rintro r w1 ⟨rfl, k1⟩
  replace gl := gl.kb k1
  replace b1 := b1.kb k1
  replace kx := kx.trans k1
  have s1 := k1.size
  simp only [World.size_alloc] at s1
  clear k1
  have j9 := (Is.made w1 #[.int .i64 cl, .int .i64 ch] 27)
  have f10 := j9.c (i := 0) rfl
  clear j9
  go_wp2
  go_ret2
  clear f10
  replace kx := kx.alloc (.cells #[.int .i64 cl, .int .i64 ch] 27 (0, 0))
  exact ⟨rfl, kx⟩
set_option maxRecDepth 100000 in
set_option maxHeartbeats 4000000 in
theorem fKnd_2 (z : Int) (k : Int) (gh : Int) (gs : Int) (cl : Int) (ch : Int)    (q1 : Cg 8 #[.agg #[.int .i64 z, .bool true, .int .i64 4, .int .i64 gh, .bool false, .int .i64 k, .int .i64 gs]] (.tuple #[.agg #[.int .i64 cl, .int .i64 ch], .int .i64 0]))  (h1 : ¬ 0 ≤ cl) (h2 : ch ≤ 0) (w : World) (gl : Gl w)  : Calls Tryd.prog 10 #[.agg #[.int .i64 z, .bool true, .int .i64 4, .int .i64 gh, .bool false, .int .i64 k, .int .i64 gs]] w fun r W' => r = .returned (.tuple #[.int .i64 2, .int .i64 0]) ∧ Kb w W' := by
  have kx := Kb.refl w
  unfold Cg at q1
  have gl0 := Lib.hid gl
  have j1 := (Is.made w #[.int .i64 z, .bool true, .int .i64 4, .int .i64 gh, .bool false, .int .i64 k, .int .i64 gs] 34)
  have f2 := j1.c (i := 0) rfl
  have f3 := j1.c (i := 1) rfl
  have f4 := j1.c (i := 2) rfl
  have f5 := j1.c (i := 3) rfl
  have f6 := j1.c (i := 4) rfl
  have f7 := j1.c (i := 5) rfl
  have f8 := j1.c (i := 6) rfl
  clear j1
  go_enter Tryd.func10, Tryd.ntmps10
  go_wp2_with fail
  clear f2 f3 f4 f5 f6 f7 f8
  have b1 := Is.made w #[.int .i64 z, .bool true, .int .i64 4, .int .i64 gh, .bool false, .int .i64 k, .int .i64 gs] 34
  replace kx := kx.alloc (.cells #[.int .i64 z, .bool true, .int .i64 4, .int .i64 gh, .bool false, .int .i64 k, .int .i64 gs] 34 (0, 0))
  replace gl := gl0.out.kb kx
  (with_reducible refine ((q1.out _ gl)).mono ?_)
  rintro r w1 ⟨rfl, k1⟩
  replace gl := gl.kb k1
  replace b1 := b1.kb k1
  replace kx := kx.trans k1
  have s1 := k1.size
  simp only [World.size_alloc] at s1
  clear k1
  have j9 := (Is.made w1 #[.int .i64 cl, .int .i64 ch] 27)
  have f10 := j9.c (i := 0) rfl
  have f11 := j9.c (i := 1) rfl
  clear j9
  go_wp2
  go_ret2
  clear f10 f11
  replace kx := kx.alloc (.cells #[.int .i64 cl, .int .i64 ch] 27 (0, 0))
  exact ⟨rfl, kx⟩
set_option maxRecDepth 100000 in
set_option maxHeartbeats 4000000 in
theorem fKnd_3 (z : Int) (k : Int) (gh : Int) (gs : Int) (cl : Int) (ch : Int)    (q1 : Cg 8 #[.agg #[.int .i64 z, .bool true, .int .i64 4, .int .i64 gh, .bool false, .int .i64 k, .int .i64 gs]] (.tuple #[.agg #[.int .i64 cl, .int .i64 ch], .int .i64 0]))  (h1 : ¬ 0 ≤ cl) (h2 : ¬ ch ≤ 0) (w : World) (gl : Gl w)  : Calls Tryd.prog 10 #[.agg #[.int .i64 z, .bool true, .int .i64 4, .int .i64 gh, .bool false, .int .i64 k, .int .i64 gs]] w fun r W' => r = .returned (.tuple #[.int .i64 1, .int .i64 0]) ∧ Kb w W' := by
  have kx := Kb.refl w
  unfold Cg at q1
  have gl0 := Lib.hid gl
  have j1 := (Is.made w #[.int .i64 z, .bool true, .int .i64 4, .int .i64 gh, .bool false, .int .i64 k, .int .i64 gs] 34)
  have f2 := j1.c (i := 0) rfl
  have f3 := j1.c (i := 1) rfl
  have f4 := j1.c (i := 2) rfl
  have f5 := j1.c (i := 3) rfl
  have f6 := j1.c (i := 4) rfl
  have f7 := j1.c (i := 5) rfl
  have f8 := j1.c (i := 6) rfl
  clear j1
  go_enter Tryd.func10, Tryd.ntmps10
  go_wp2_with fail
  clear f2 f3 f4 f5 f6 f7 f8
  have b1 := Is.made w #[.int .i64 z, .bool true, .int .i64 4, .int .i64 gh, .bool false, .int .i64 k, .int .i64 gs] 34
  replace kx := kx.alloc (.cells #[.int .i64 z, .bool true, .int .i64 4, .int .i64 gh, .bool false, .int .i64 k, .int .i64 gs] 34 (0, 0))
  replace gl := gl0.out.kb kx
  (with_reducible refine ((q1.out _ gl)).mono ?_)
  rintro r w1 ⟨rfl, k1⟩
  replace gl := gl.kb k1
  replace b1 := b1.kb k1
  replace kx := kx.trans k1
  have s1 := k1.size
  simp only [World.size_alloc] at s1
  clear k1
  have j9 := (Is.made w1 #[.int .i64 cl, .int .i64 ch] 27)
  have f10 := j9.c (i := 0) rfl
  have f11 := j9.c (i := 1) rfl
  clear j9
  go_wp2
  go_ret2
  clear f10 f11
  replace kx := kx.alloc (.cells #[.int .i64 cl, .int .i64 ch] 27 (0, 0))
  exact ⟨rfl, kx⟩
set_option maxRecDepth 100000 in
theorem fKnd_any (z : Int) (k : Int) (gh : Int) (gs : Int) (cl : Int) (ch : Int)  (q1 : Cg 8 #[.agg #[.int .i64 z, .bool true, .int .i64 4, .int .i64 gh, .bool false, .int .i64 k, .int .i64 gs]] (.tuple #[.agg #[.int .i64 cl, .int .i64 ch], .int .i64 0]))  : Cg 10 #[.agg #[.int .i64 z, .bool true, .int .i64 4, .int .i64 gh, .bool false, .int .i64 k, .int .i64 gs]] (if 0 ≤ cl then (.tuple #[.int .i64 0, .int .i64 0]) else (if ch ≤ 0 then (.tuple #[.int .i64 2, .int .i64 0]) else (.tuple #[.int .i64 1, .int .i64 0]))) := Lib.hid fun w gl => by
  by_cases h1 : 0 ≤ cl
  · rw [if_pos h1]
    exact fKnd_1 z k gh gs cl ch q1 h1 w gl
  · rw [if_neg h1]
    by_cases h2 : ch ≤ 0
    · rw [if_pos h2]
      exact fKnd_2 z k gh gs cl ch q1 h1 h2 w gl
    · rw [if_neg h2]
      exact fKnd_3 z k gh gs cl ch q1 h1 h2 w gl
set_option maxRecDepth 100000 in
set_option maxHeartbeats 4000000 in
theorem fRun_1     (q1 : Cg 8 #[.agg #[.int .i64 25000, .bool true, .int .i64 4, .int .i64 7, .bool false, .int .i64 3, .int .i64 6]] (.tuple #[.agg #[.int .i64 7, .int .i64 41], .int .i64 0])) (w : World) (gl : Gl w)  : Calls Tryd.prog 7 #[] w fun r W' => r = .returned (.bool true) ∧ Kb w W' := by
  have kx := Kb.refl w
  unfold Cg at q1
  have gl0 := Lib.hid gl
  go_enter Tryd.func7, Tryd.ntmps7
  go_wp2_with fail
  (with_reducible refine ((Cg.out (rfit_any 25000 3 7 6) _ gl)).mono ?_)
  rintro r w1 ⟨rfl, k1⟩
  replace gl := gl.kb k1
  replace kx := kx.trans k1
  have s1 := k1.size
  skip
  clear k1
  go_wp2_with fail
  (with_reducible refine ((q1.out _ gl)).mono ?_)
  rintro r w2 ⟨rfl, k2⟩
  replace gl := gl.kb k2
  replace kx := kx.trans k2
  have s2 := k2.size
  skip
  clear k2
  have j1 := (Is.made w2 #[.int .i64 7, .int .i64 41] 27)
  have f2 := j1.c (i := 0) rfl
  have f3 := j1.c (i := 1) rfl
  clear j1
  go_wp2
  go_ret
  clear f2 f3
  replace kx := kx.alloc (.cells #[.int .i64 7, .int .i64 41] 27 (0, 0))
  exact ⟨rfl, kx⟩
set_option maxRecDepth 100000 in
theorem fRun_any   (q1 : Cg 8 #[.agg #[.int .i64 25000, .bool true, .int .i64 4, .int .i64 7, .bool false, .int .i64 3, .int .i64 6]] (.tuple #[.agg #[.int .i64 7, .int .i64 41], .int .i64 0]))  : Cg 7 #[] (.bool true) := Lib.hid fun w gl => by
  exact fRun_1 q1 w gl
end Go.Proofs.YtmjkiccoimhfkaaDoor
