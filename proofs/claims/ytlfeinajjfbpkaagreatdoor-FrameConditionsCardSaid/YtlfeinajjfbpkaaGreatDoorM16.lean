/- Texts Qf1: each says in its own first comment what it proves. -/
import Derived.Test.YtlfeinajjfbpkaaGreatDoorM50
import Derived.Test.YtlfeinajjfbpkaaGreatDoorM47
/- Features: small functions of the program and of the reference. -/
namespace Go.Proofs.YtlfeinajjfbpkaaGreatDoor
open Go.RowKit

set_option maxRecDepth 100000 in
set_option maxHeartbeats 1000000 in
theorem rHollow_1 (n : ByteArray) (k a x y z lo hi : Int) (fr : Value) (h1 : (k == 1) = true) (w : World) : Calls Tryz.prog 62 #[.agg #[.string n, .int .i64 k, .int .i64 a, .int .i64 x, .int .i64 y, .int .i64 z, .int .i64 lo, .int .i64 hi, fr]] w fun r W' => r = .returned (.bool true) ∧ Kb w W' := by
  have kx := Kb.refl w
  have b0 := Is.made w #[.string n, .int .i64 k, .int .i64 a, .int .i64 x, .int .i64 y, .int .i64 z, .int .i64 lo, .int .i64 hi, fr] 28
  replace kx := kx.alloc (.cells #[.string n, .int .i64 k, .int .i64 a, .int .i64 x, .int .i64 y, .int .i64 z, .int .i64 lo, .int .i64 hi, fr] 28 (0, 0))
  have b0_0 := b0.c (i := 0) rfl
  have b0_1 := b0.c (i := 1) rfl
  have b0_2 := b0.c (i := 2) rfl
  have b0_3 := b0.c (i := 3) rfl
  have b0_4 := b0.c (i := 4) rfl
  have b0_5 := b0.c (i := 5) rfl
  have b0_6 := b0.c (i := 6) rfl
  have b0_7 := b0.c (i := 7) rfl
  have b0_8 := b0.c (i := 8) rfl
  go_enter Tryz.func62, Tryz.ntmps62
  have b0_0 := b0.c (i := 0) rfl
  have b0_1 := b0.c (i := 1) rfl
  have b0_2 := b0.c (i := 2) rfl
  have b0_3 := b0.c (i := 3) rfl
  have b0_4 := b0.c (i := 4) rfl
  have b0_5 := b0.c (i := 5) rfl
  have b0_6 := b0.c (i := 6) rfl
  have b0_7 := b0.c (i := 7) rfl
  have b0_8 := b0.c (i := 8) rfl
  go_wp2
  go_ret
  exact ⟨rfl, kx⟩
set_option maxRecDepth 100000 in
set_option maxHeartbeats 1000000 in
theorem rHollow_2 (n : ByteArray) (k a x y z lo hi : Int) (fr : Value) (h1 : (k == 1) = false) (w : World) : Calls Tryz.prog 62 #[.agg #[.string n, .int .i64 k, .int .i64 a, .int .i64 x, .int .i64 y, .int .i64 z, .int .i64 lo, .int .i64 hi, fr]] w fun r W' => r = .returned (.bool (k == 3)) ∧ Kb w W' := by
  have kx := Kb.refl w
  have b0 := Is.made w #[.string n, .int .i64 k, .int .i64 a, .int .i64 x, .int .i64 y, .int .i64 z, .int .i64 lo, .int .i64 hi, fr] 28
  replace kx := kx.alloc (.cells #[.string n, .int .i64 k, .int .i64 a, .int .i64 x, .int .i64 y, .int .i64 z, .int .i64 lo, .int .i64 hi, fr] 28 (0, 0))
  have b0_0 := b0.c (i := 0) rfl
  have b0_1 := b0.c (i := 1) rfl
  have b0_2 := b0.c (i := 2) rfl
  have b0_3 := b0.c (i := 3) rfl
  have b0_4 := b0.c (i := 4) rfl
  have b0_5 := b0.c (i := 5) rfl
  have b0_6 := b0.c (i := 6) rfl
  have b0_7 := b0.c (i := 7) rfl
  have b0_8 := b0.c (i := 8) rfl
  go_enter Tryz.func62, Tryz.ntmps62
  have b0_0 := b0.c (i := 0) rfl
  have b0_1 := b0.c (i := 1) rfl
  have b0_2 := b0.c (i := 2) rfl
  have b0_3 := b0.c (i := 3) rfl
  have b0_4 := b0.c (i := 4) rfl
  have b0_5 := b0.c (i := 5) rfl
  have b0_6 := b0.c (i := 6) rfl
  have b0_7 := b0.c (i := 7) rfl
  have b0_8 := b0.c (i := 8) rfl
  go_wp2
  go_ret
  exact ⟨rfl, kx⟩
end Go.Proofs.YtlfeinajjfbpkaaGreatDoor
