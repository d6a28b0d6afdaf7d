/- The laws' examples of package grades: awake returns true. -/
import Derived.Test.YthifdgddegpbjaaDoorG10
import Derived.Test.YthifdgddegpbjaaDoorG8
namespace Go.Proofs.YthifdgddegpbjaaDoor
open Go.RowKit

theorem aw_h7 : Gq 12 #[.string ⟨#[72, 55]⟩] (.tuple #[.agg #[.bool true, .int .i64 4, .int .i64 7], .int .i64 0]) := gParse true 4 7 (by decide) (by decide) (by decide)
theorem aw_g6 : Gq 14 #[.agg #[.bool false, .int .i64 3, .int .i64 6]] (.tuple #[.string ⟨#[103, 54]⟩, .int .i64 0]) := gFormat false 3 6 (by decide) (by decide) (by decide)
theorem aw_lim : Gq 24 #[.int .i64 25000, .agg #[.bool true, .int .i64 4, .int .i64 7]] (.tuple #[.agg #[.int .i64 25000, .int .i64 25021], .int .i64 0]) := gLimits 25000 4 7 true
theorem aw_d1 : Gq 22 #[.int .i64 25000, .agg #[.bool false, .int .i64 3, .int .i64 6]] (.tuple #[.agg #[.int .i64 (-20), .int .i64 (-7)], .int .i64 0]) := gDeviations 25000 3 6 false
theorem aw_d2 : Gq 22 #[.int .i64 2000, .agg #[.bool false, .int .i64 5, .int .i64 5]] (.tuple #[.agg #[.int .i64 (-2), .int .i64 2], .int .i64 0]) := gDeviations 2000 5 5 false
theorem aw_d3 : Gq 22 #[.int .i64 90000, .agg #[.bool false, .int .i64 9, .int .i64 12]] (.tuple #[.agg #[.int .i64 48, .int .i64 400], .int .i64 0]) := gDeviations 90000 9 12 false
theorem aw_c1 : Gq 28 #[.int .i64 25000, .int .i64 21] (.tuple #[.int .i64 7, .int .i64 0]) := gCoarsest 25000 21
theorem aw_c2 : Gq 28 #[.int .i64 25000, .int .i64 8] (.tuple #[.int .i64 0, .int .i64 6]) := gCoarsest 25000 8
set_option maxRecDepth 100000 in
set_option maxHeartbeats 8000000 in
theorem gawake : Gq 11 #[] (.bool true) := Lib.hid fun w hg => by
  have q0 := aw_h7
  have q1 := aw_g6
  have q2 := aw_lim
  have q3 := aw_d1
  have q4 := aw_d2
  have q5 := aw_d3
  have q6 := aw_c1
  have q7 := aw_c2
  unfold Gq at q0 q1 q2 q3 q4 q5 q6 q7
  go_enter Tryd.func11, Tryd.ntmps11
  have hgx := hg
  have kx := Kb.refl w
  go_wp2_with fail
  with_reducible refine (q0.out _ hgx).mono ?_
  rintro r w1 ⟨rfl, k1⟩
  have hgx := hgx.kb k1
  have kx := kx.trans k1
  have hgx := hgx.kb ((Kb.refl _).alloc (.cells #[.bool true, .int .i64 4, .int .i64 7] 23 (0, 0)))
  have kx := kx.alloc (.cells #[.bool true, .int .i64 4, .int .i64 7] 23 (0, 0))
  have b0 := Is.made w1 #[.bool true, .int .i64 4, .int .i64 7] 23
  have b0c0 := b0.c (i := 0) rfl
  have b0c1 := b0.c (i := 1) rfl
  have b0c2 := b0.c (i := 2) rfl
  go_wp2_with fail
  with_reducible refine (q2.out _ hgx).mono ?_
  rintro r w2 ⟨rfl, k2⟩
  have hgx := hgx.kb k2
  have kx := kx.trans k2
  have b0 := b0.kb k2
  have hgx := hgx.kb ((Kb.refl _).alloc (.cells #[.int .i64 25000, .int .i64 25021] 46 (0, 0)))
  have kx := kx.alloc (.cells #[.int .i64 25000, .int .i64 25021] 46 (0, 0))
  have b0 := b0.alloc (.cells #[.int .i64 25000, .int .i64 25021] 46 (0, 0))
  have b1 := Is.made w2 #[.int .i64 25000, .int .i64 25021] 46
  have b0c0 := b0.c (i := 0) rfl
  have b0c1 := b0.c (i := 1) rfl
  have b0c2 := b0.c (i := 2) rfl
  have b1c0 := b1.c (i := 0) rfl
  have b1c1 := b1.c (i := 1) rfl
  go_wp2_with fail
  with_reducible refine (q3.out _ hgx).mono ?_
  rintro r w3 ⟨rfl, k3⟩
  have hgx := hgx.kb k3
  have kx := kx.trans k3
  have b0 := b0.kb k3
  have b1 := b1.kb k3
  have hgx := hgx.kb ((Kb.refl _).alloc (.cells #[.int .i64 (-20), .int .i64 (-7)] 46 (0, 0)))
  have kx := kx.alloc (.cells #[.int .i64 (-20), .int .i64 (-7)] 46 (0, 0))
  have b0 := b0.alloc (.cells #[.int .i64 (-20), .int .i64 (-7)] 46 (0, 0))
  have b1 := b1.alloc (.cells #[.int .i64 (-20), .int .i64 (-7)] 46 (0, 0))
  have b2 := Is.made w3 #[.int .i64 (-20), .int .i64 (-7)] 46
  have b0c0 := b0.c (i := 0) rfl
  have b0c1 := b0.c (i := 1) rfl
  have b0c2 := b0.c (i := 2) rfl
  have b1c0 := b1.c (i := 0) rfl
  have b1c1 := b1.c (i := 1) rfl
  have b2c0 := b2.c (i := 0) rfl
  have b2c1 := b2.c (i := 1) rfl
  go_wp2_with fail
  with_reducible refine (q4.out _ hgx).mono ?_
  rintro r w4 ⟨rfl, k4⟩
  have hgx := hgx.kb k4
  have kx := kx.trans k4
  have b0 := b0.kb k4
  have b1 := b1.kb k4
  have b2 := b2.kb k4
  have hgx := hgx.kb ((Kb.refl _).alloc (.cells #[.int .i64 (-2), .int .i64 2] 46 (0, 0)))
  have kx := kx.alloc (.cells #[.int .i64 (-2), .int .i64 2] 46 (0, 0))
  have b0 := b0.alloc (.cells #[.int .i64 (-2), .int .i64 2] 46 (0, 0))
  have b1 := b1.alloc (.cells #[.int .i64 (-2), .int .i64 2] 46 (0, 0))
  have b2 := b2.alloc (.cells #[.int .i64 (-2), .int .i64 2] 46 (0, 0))
  have b3 := Is.made w4 #[.int .i64 (-2), .int .i64 2] 46
  have b0c0 := b0.c (i := 0) rfl
  have b0c1 := b0.c (i := 1) rfl
  have b0c2 := b0.c (i := 2) rfl
  have b1c0 := b1.c (i := 0) rfl
  have b1c1 := b1.c (i := 1) rfl
  have b2c0 := b2.c (i := 0) rfl
  have b2c1 := b2.c (i := 1) rfl
  have b3c0 := b3.c (i := 0) rfl
  have b3c1 := b3.c (i := 1) rfl
  go_wp2_with fail
  with_reducible refine (q5.out _ hgx).mono ?_
  rintro r w5 ⟨rfl, k5⟩
  have hgx := hgx.kb k5
  have kx := kx.trans k5
  have b0 := b0.kb k5
  have b1 := b1.kb k5
  have b2 := b2.kb k5
  have b3 := b3.kb k5
  have hgx := hgx.kb ((Kb.refl _).alloc (.cells #[.int .i64 48, .int .i64 400] 46 (0, 0)))
  have kx := kx.alloc (.cells #[.int .i64 48, .int .i64 400] 46 (0, 0))
  have b0 := b0.alloc (.cells #[.int .i64 48, .int .i64 400] 46 (0, 0))
  have b1 := b1.alloc (.cells #[.int .i64 48, .int .i64 400] 46 (0, 0))
  have b2 := b2.alloc (.cells #[.int .i64 48, .int .i64 400] 46 (0, 0))
  have b3 := b3.alloc (.cells #[.int .i64 48, .int .i64 400] 46 (0, 0))
  have b4 := Is.made w5 #[.int .i64 48, .int .i64 400] 46
  have b0c0 := b0.c (i := 0) rfl
  have b0c1 := b0.c (i := 1) rfl
  have b0c2 := b0.c (i := 2) rfl
  have b1c0 := b1.c (i := 0) rfl
  have b1c1 := b1.c (i := 1) rfl
  have b2c0 := b2.c (i := 0) rfl
  have b2c1 := b2.c (i := 1) rfl
  have b3c0 := b3.c (i := 0) rfl
  have b3c1 := b3.c (i := 1) rfl
  have b4c0 := b4.c (i := 0) rfl
  have b4c1 := b4.c (i := 1) rfl
  go_wp2_with fail
  with_reducible refine (q6.out _ hgx).mono ?_
  rintro r w6 ⟨rfl, k6⟩
  have hgx := hgx.kb k6
  have kx := kx.trans k6
  have b0 := b0.kb k6
  have b1 := b1.kb k6
  have b2 := b2.kb k6
  have b3 := b3.kb k6
  have b4 := b4.kb k6
  have b0c0 := b0.c (i := 0) rfl
  have b0c1 := b0.c (i := 1) rfl
  have b0c2 := b0.c (i := 2) rfl
  have b1c0 := b1.c (i := 0) rfl
  have b1c1 := b1.c (i := 1) rfl
  have b2c0 := b2.c (i := 0) rfl
  have b2c1 := b2.c (i := 1) rfl
  have b3c0 := b3.c (i := 0) rfl
  have b3c1 := b3.c (i := 1) rfl
  have b4c0 := b4.c (i := 0) rfl
  have b4c1 := b4.c (i := 1) rfl
  go_wp2_with fail
  with_reducible refine (q7.out _ hgx).mono ?_
  rintro r w7 ⟨rfl, k7⟩
  have hgx := hgx.kb k7
  have kx := kx.trans k7
  have b0 := b0.kb k7
  have b1 := b1.kb k7
  have b2 := b2.kb k7
  have b3 := b3.kb k7
  have b4 := b4.kb k7
  have b0c0 := b0.c (i := 0) rfl
  have b0c1 := b0.c (i := 1) rfl
  have b0c2 := b0.c (i := 2) rfl
  have b1c0 := b1.c (i := 0) rfl
  have b1c1 := b1.c (i := 1) rfl
  have b2c0 := b2.c (i := 0) rfl
  have b2c1 := b2.c (i := 1) rfl
  have b3c0 := b3.c (i := 0) rfl
  have b3c1 := b3.c (i := 1) rfl
  have b4c0 := b4.c (i := 0) rfl
  have b4c1 := b4.c (i := 1) rfl
  go_wp2_with fail
  with_reducible refine (q1.out _ hgx).mono ?_
  rintro r w8 ⟨rfl, k8⟩
  have hgx := hgx.kb k8
  have kx := kx.trans k8
  have b0 := b0.kb k8
  have b1 := b1.kb k8
  have b2 := b2.kb k8
  have b3 := b3.kb k8
  have b4 := b4.kb k8
  have b0c0 := b0.c (i := 0) rfl
  have b0c1 := b0.c (i := 1) rfl
  have b0c2 := b0.c (i := 2) rfl
  have b1c0 := b1.c (i := 0) rfl
  have b1c1 := b1.c (i := 1) rfl
  have b2c0 := b2.c (i := 0) rfl
  have b2c1 := b2.c (i := 1) rfl
  have b3c0 := b3.c (i := 0) rfl
  have b3c1 := b3.c (i := 1) rfl
  have b4c0 := b4.c (i := 0) rfl
  have b4c1 := b4.c (i := 1) rfl
  go_wp2
  go_ret
  exact ⟨rfl, kx⟩
end Go.Proofs.YthifdgddegpbjaaDoor
