/- Features: the reference's Coordinates, Along, Bounded, given, Reach. -/
import Derived.Test.YtdmfkgopalelgaaDoorQf4
namespace Go.Proofs.YtdmfkgopalelgaaDoor
open Go.RowKit

set_option maxRecDepth 100000 in
set_option maxHeartbeats 1000000 in
theorem rCoords_any (x y z : Int) (w : World) : Calls Tryd.prog 61 #[.agg #[.int .i64 x, .int .i64 y, .int .i64 z]] w fun r W' => r = .returned (.agg #[.int .i64 x, .int .i64 y, .int .i64 z]) ∧ Kb w W' := by
  have kx := Kb.refl w
  have b0 := Is.made w #[.int .i64 x, .int .i64 y, .int .i64 z] 23
  replace kx := kx.alloc (.cells #[.int .i64 x, .int .i64 y, .int .i64 z] 23 (0, 0))
  replace b0 := b0.alloc (.cells #[.int .i64 x, .int .i64 y, .int .i64 z] 92 (0, 0))
  have b1 := Is.made (w.alloc (.cells #[.int .i64 x, .int .i64 y, .int .i64 z] 23 (0, 0))) #[.int .i64 x, .int .i64 y, .int .i64 z] 92
  replace kx := kx.alloc (.cells #[.int .i64 x, .int .i64 y, .int .i64 z] 92 (0, 0))
  rw [World.size_alloc] at b1
  have b0_0 := b0.c (i := 0) rfl
  have b0_1 := b0.c (i := 1) rfl
  have b0_2 := b0.c (i := 2) rfl
  have b1_0 := b1.c (i := 0) rfl
  have b1_1 := b1.c (i := 1) rfl
  have b1_2 := b1.c (i := 2) rfl
  go_enter Tryd.func61, Tryd.ntmps61
  go_wp2
  refine ret_row Tryd.results61 rfl rfl b1 Tryd.underlying92 rfl (by kernel_rfl) ?_
  exact ⟨rfl, kx⟩
theorem rCoords (x y z : Int) : Ca 61 #[.agg #[.int .i64 x, .int .i64 y, .int .i64 z]] (.agg #[.int .i64 x, .int .i64 y, .int .i64 z]) := Lib.hid fun w => rCoords_any x y z w
/-- half of the greatest size, rounded up -/
def hf (hi : Int) : Int := (hi + 1) / 2
set_option maxRecDepth 100000 in
set_option maxHeartbeats 1000000 in
theorem rgiven_1 (n : ByteArray) (k a x y z lo hi : Int) (fr : Value) (c : Int) (e : Int) (he : (e != 0) = true) (q1 : Ca 19 #[.agg #[.string n, .int .i64 k, .int .i64 a, .int .i64 x, .int .i64 y, .int .i64 z, .int .i64 lo, .int .i64 hi, fr]] (.int .i64 e)) (w : World) : Calls Tryd.prog 55 #[.agg #[.string n, .int .i64 k, .int .i64 a, .int .i64 x, .int .i64 y, .int .i64 z, .int .i64 lo, .int .i64 hi, fr], .int .i64 c] w fun r W' => r = .returned (.int .i64 e) ∧ Kb w W' := by
  have kx := Kb.refl w
  unfold Ca at *
  have b0 := Is.made w #[.string n, .int .i64 k, .int .i64 a, .int .i64 x, .int .i64 y, .int .i64 z, .int .i64 lo, .int .i64 hi, fr] 28
  replace kx := kx.alloc (.cells #[.string n, .int .i64 k, .int .i64 a, .int .i64 x, .int .i64 y, .int .i64 z, .int .i64 lo, .int .i64 hi, fr] 28 (0, 0))
  have b0_0 := b0.c (i := 0) rfl
  have b0_1 := b0.c (i := 1) rfl
  have b0_2 := b0.c (i := 2) rfl
  have b0_3 := b0.c (i := 3) rfl
  have b0_4 := b0.c (i := 4) rfl
  have b0_5 := b0.c (i := 5) rfl
  have b0_6 := b0.c (i := 6) rfl
  have b0_7 := b0.c (i := 7) rfl
  have b0_8 := b0.c (i := 8) rfl
  go_enter Tryd.func55, Tryd.ntmps55
  go_wp2_with fail
  (with_reducible refine (q1.out _).mono ?_)
  rintro r w1 ⟨rfl, k1⟩
  clear b0_0 b0_1 b0_2 b0_3 b0_4 b0_5 b0_6 b0_7 b0_8
  replace b0 := b0.kb k1
  replace kx := kx.trans k1
  clear k1
  have b0_0 := b0.c (i := 0) rfl
  have b0_1 := b0.c (i := 1) rfl
  have b0_2 := b0.c (i := 2) rfl
  have b0_3 := b0.c (i := 3) rfl
  have b0_4 := b0.c (i := 4) rfl
  have b0_5 := b0.c (i := 5) rfl
  have b0_6 := b0.c (i := 6) rfl
  have b0_7 := b0.c (i := 7) rfl
  have b0_8 := b0.c (i := 8) rfl
  go_wp2
  go_ret
  exact ⟨rfl, kx⟩
set_option maxRecDepth 100000 in
set_option maxHeartbeats 1000000 in
theorem rgiven_2 (n : ByteArray) (k a x y z lo hi : Int) (fr : Value) (c : Int) (e : Int) (q1 : Ca 19 #[.agg #[.string n, .int .i64 k, .int .i64 a, .int .i64 x, .int .i64 y, .int .i64 z, .int .i64 lo, .int .i64 hi, fr]] (.int .i64 0)) (q2 : Ca 80 #[.int .i64 c] (.int .i64 e)) (w : World) : Calls Tryd.prog 55 #[.agg #[.string n, .int .i64 k, .int .i64 a, .int .i64 x, .int .i64 y, .int .i64 z, .int .i64 lo, .int .i64 hi, fr], .int .i64 c] w fun r W' => r = .returned (.int .i64 e) ∧ Kb w W' := by
  have kx := Kb.refl w
  unfold Ca at *
  have b0 := Is.made w #[.string n, .int .i64 k, .int .i64 a, .int .i64 x, .int .i64 y, .int .i64 z, .int .i64 lo, .int .i64 hi, fr] 28
  replace kx := kx.alloc (.cells #[.string n, .int .i64 k, .int .i64 a, .int .i64 x, .int .i64 y, .int .i64 z, .int .i64 lo, .int .i64 hi, fr] 28 (0, 0))
  have b0_0 := b0.c (i := 0) rfl
  have b0_1 := b0.c (i := 1) rfl
  have b0_2 := b0.c (i := 2) rfl
  have b0_3 := b0.c (i := 3) rfl
  have b0_4 := b0.c (i := 4) rfl
  have b0_5 := b0.c (i := 5) rfl
  have b0_6 := b0.c (i := 6) rfl
  have b0_7 := b0.c (i := 7) rfl
  have b0_8 := b0.c (i := 8) rfl
  go_enter Tryd.func55, Tryd.ntmps55
  go_wp2_with fail
  (with_reducible refine (q1.out _).mono ?_)
  rintro r w1 ⟨rfl, k1⟩
  clear b0_0 b0_1 b0_2 b0_3 b0_4 b0_5 b0_6 b0_7 b0_8
  replace b0 := b0.kb k1
  replace kx := kx.trans k1
  clear k1
  have b0_0 := b0.c (i := 0) rfl
  have b0_1 := b0.c (i := 1) rfl
  have b0_2 := b0.c (i := 2) rfl
  have b0_3 := b0.c (i := 3) rfl
  have b0_4 := b0.c (i := 4) rfl
  have b0_5 := b0.c (i := 5) rfl
  have b0_6 := b0.c (i := 6) rfl
  have b0_7 := b0.c (i := 7) rfl
  have b0_8 := b0.c (i := 8) rfl
  go_wp2_with fail
  (with_reducible refine (q2.out _).mono ?_)
  rintro r w2 ⟨rfl, k2⟩
  clear b0_0 b0_1 b0_2 b0_3 b0_4 b0_5 b0_6 b0_7 b0_8
  replace b0 := b0.kb k2
  replace kx := kx.trans k2
  clear k2
  have b0_0 := b0.c (i := 0) rfl
  have b0_1 := b0.c (i := 1) rfl
  have b0_2 := b0.c (i := 2) rfl
  have b0_3 := b0.c (i := 3) rfl
  have b0_4 := b0.c (i := 4) rfl
  have b0_5 := b0.c (i := 5) rfl
  have b0_6 := b0.c (i := 6) rfl
  have b0_7 := b0.c (i := 7) rfl
  have b0_8 := b0.c (i := 8) rfl
  go_wp2
  go_ret
  exact ⟨rfl, kx⟩
end Go.Proofs.YtdmfkgopalelgaaDoor
