/- Features: small functions of the program and of the reference. -/
import Derived.Test.YtgclljgdoonnmaaDoorOd4
import Derived.Test.YtgclljgdoonnmaaDoorOf3
namespace Go.Proofs.YtgclljgdoonnmaaDoor
open Go.RowKit

set_option maxRecDepth 100000 in
set_option maxHeartbeats 1000000 in
theorem rHollow_1 (n : ByteArray) (k a x y z lo hi : Int) (fr : Value) (h1 : (k == 1) = true) (w : World) : Calls Tryd.prog 34 #[.agg #[.string n, .int .i64 k, .int .i64 a, .int .i64 x, .int .i64 y, .int .i64 z, .int .i64 lo, .int .i64 hi, fr]] w fun r W' => r = .returned (.bool true) ∧ Kb w W' := by
  have kx := Kb.refl w
  have b0 := Is.made w #[.string n, .int .i64 k, .int .i64 a, .int .i64 x, .int .i64 y, .int .i64 z, .int .i64 lo, .int .i64 hi, fr] 28
  replace kx := kx.alloc (.cells #[.string n, .int .i64 k, .int .i64 a, .int .i64 x, .int .i64 y, .int .i64 z, .int .i64 lo, .int .i64 hi, fr] 28 (0, 0))
  have b0_0 := b0.c (i := 0) rfl
  have b0_1 := b0.c (i := 1) rfl
  have b0_2 := b0.c (i := 2) rfl
  have b0_3 := b0.c (i := 3) rfl
  have b0_4 := b0.c (i := 4) rfl
  have b0_5 := b0.c (i := 5) rfl
  have b0_6 := b0.c (i := 6) rfl
  have b0_7 := b0.c (i := 7) rfl
  have b0_8 := b0.c (i := 8) rfl
  go_enter Tryd.func34, Tryd.ntmps34
  have b0_0 := b0.c (i := 0) rfl
  have b0_1 := b0.c (i := 1) rfl
  have b0_2 := b0.c (i := 2) rfl
  have b0_3 := b0.c (i := 3) rfl
  have b0_4 := b0.c (i := 4) rfl
  have b0_5 := b0.c (i := 5) rfl
  have b0_6 := b0.c (i := 6) rfl
  have b0_7 := b0.c (i := 7) rfl
  have b0_8 := b0.c (i := 8) rfl
  go_wp2
  go_ret
  exact ⟨rfl, kx⟩
set_option maxRecDepth 100000 in
set_option maxHeartbeats 1000000 in
theorem rHollow_2 (n : ByteArray) (k a x y z lo hi : Int) (fr : Value) (h1 : (k == 1) = false) (w : World) : Calls Tryd.prog 34 #[.agg #[.string n, .int .i64 k, .int .i64 a, .int .i64 x, .int .i64 y, .int .i64 z, .int .i64 lo, .int .i64 hi, fr]] w fun r W' => r = .returned (.bool (k == 3)) ∧ Kb w W' := by
  have kx := Kb.refl w
  have b0 := Is.made w #[.string n, .int .i64 k, .int .i64 a, .int .i64 x, .int .i64 y, .int .i64 z, .int .i64 lo, .int .i64 hi, fr] 28
  replace kx := kx.alloc (.cells #[.string n, .int .i64 k, .int .i64 a, .int .i64 x, .int .i64 y, .int .i64 z, .int .i64 lo, .int .i64 hi, fr] 28 (0, 0))
  have b0_0 := b0.c (i := 0) rfl
  have b0_1 := b0.c (i := 1) rfl
  have b0_2 := b0.c (i := 2) rfl
  have b0_3 := b0.c (i := 3) rfl
  have b0_4 := b0.c (i := 4) rfl
  have b0_5 := b0.c (i := 5) rfl
  have b0_6 := b0.c (i := 6) rfl
  have b0_7 := b0.c (i := 7) rfl
  have b0_8 := b0.c (i := 8) rfl
  go_enter Tryd.func34, Tryd.ntmps34
  have b0_0 := b0.c (i := 0) rfl
  have b0_1 := b0.c (i := 1) rfl
  have b0_2 := b0.c (i := 2) rfl
  have b0_3 := b0.c (i := 3) rfl
  have b0_4 := b0.c (i := 4) rfl
  have b0_5 := b0.c (i := 5) rfl
  have b0_6 := b0.c (i := 6) rfl
  have b0_7 := b0.c (i := 7) rfl
  have b0_8 := b0.c (i := 8) rfl
  go_wp2
  go_ret
  exact ⟨rfl, kx⟩
set_option maxRecDepth 100000 in
set_option maxHeartbeats 1000000 in
theorem fAxis_1 (a : Int) (h1 : a < 0) (w : World) : Calls Tryd.prog 42 #[.int .i64 a] w fun r W' => r = .returned (.int .i64 1) ∧ Kb w W' := by
  have kx := Kb.refl w
  go_enter Tryd.func42, Tryd.ntmps42
  go_wp2
  go_ret
  exact ⟨rfl, kx⟩
set_option maxRecDepth 100000 in
set_option maxHeartbeats 1000000 in
theorem fAxis_2 (a : Int) (h1 : ¬ a < 0) (h2 : 3 ≤ a) (w : World) : Calls Tryd.prog 42 #[.int .i64 a] w fun r W' => r = .returned (.int .i64 1) ∧ Kb w W' := by
  have kx := Kb.refl w
  go_enter Tryd.func42, Tryd.ntmps42
  go_wp2
  go_ret
  exact ⟨rfl, kx⟩
set_option maxRecDepth 100000 in
set_option maxHeartbeats 1000000 in
theorem fAxis_3 (a : Int) (h1 : ¬ a < 0) (h2 : ¬ 3 ≤ a) (w : World) : Calls Tryd.prog 42 #[.int .i64 a] w fun r W' => r = .returned (.int .i64 0) ∧ Kb w W' := by
  have kx := Kb.refl w
  go_enter Tryd.func42, Tryd.ntmps42
  go_wp2
  go_ret
  exact ⟨rfl, kx⟩
set_option maxRecDepth 100000 in
set_option maxHeartbeats 1000000 in
theorem rAxis_1 (a : Int) (h1 : a < 0) (w : World) : Calls Tryd.prog 80 #[.int .i64 a] w fun r W' => r = .returned (.int .i64 1) ∧ Kb w W' := by
  have kx := Kb.refl w
  go_enter Tryd.func80, Tryd.ntmps80
  go_wp2
  go_ret
  exact ⟨rfl, kx⟩
set_option maxRecDepth 100000 in
set_option maxHeartbeats 1000000 in
theorem rAxis_2 (a : Int) (h1 : ¬ a < 0) (h2 : 3 ≤ a) (w : World) : Calls Tryd.prog 80 #[.int .i64 a] w fun r W' => r = .returned (.int .i64 1) ∧ Kb w W' := by
  have kx := Kb.refl w
  go_enter Tryd.func80, Tryd.ntmps80
  go_wp2
  go_ret
  exact ⟨rfl, kx⟩
set_option maxRecDepth 100000 in
set_option maxHeartbeats 1000000 in
theorem rAxis_3 (a : Int) (h1 : ¬ a < 0) (h2 : ¬ 3 ≤ a) (w : World) : Calls Tryd.prog 80 #[.int .i64 a] w fun r W' => r = .returned (.int .i64 0) ∧ Kb w W' := by
  have kx := Kb.refl w
  go_enter Tryd.func80, Tryd.ntmps80
  go_wp2
  go_ret
  exact ⟨rfl, kx⟩
set_option maxRecDepth 100000 in
set_option maxHeartbeats 1000000 in
theorem rBounded_1 (n : ByteArray) (k a x y z lo hi : Int) (fr : Value) (c : Int) (h1 : (k == 4) = true) (w : World) : Calls Tryd.prog 56 #[.agg #[.string n, .int .i64 k, .int .i64 a, .int .i64 x, .int .i64 y, .int .i64 z, .int .i64 lo, .int .i64 hi, fr], .int .i64 c] w fun r W' => r = .returned (.bool true) ∧ Kb w W' := by
  have kx := Kb.refl w
  have b0 := Is.made w #[.string n, .int .i64 k, .int .i64 a, .int .i64 x, .int .i64 y, .int .i64 z, .int .i64 lo, .int .i64 hi, fr] 28
  replace kx := kx.alloc (.cells #[.string n, .int .i64 k, .int .i64 a, .int .i64 x, .int .i64 y, .int .i64 z, .int .i64 lo, .int .i64 hi, fr] 28 (0, 0))
  have b0_0 := b0.c (i := 0) rfl
  have b0_1 := b0.c (i := 1) rfl
  have b0_2 := b0.c (i := 2) rfl
  have b0_3 := b0.c (i := 3) rfl
  have b0_4 := b0.c (i := 4) rfl
  have b0_5 := b0.c (i := 5) rfl
  have b0_6 := b0.c (i := 6) rfl
  have b0_7 := b0.c (i := 7) rfl
  have b0_8 := b0.c (i := 8) rfl
  go_enter Tryd.func56, Tryd.ntmps56
  have b0_0 := b0.c (i := 0) rfl
  have b0_1 := b0.c (i := 1) rfl
  have b0_2 := b0.c (i := 2) rfl
  have b0_3 := b0.c (i := 3) rfl
  have b0_4 := b0.c (i := 4) rfl
  have b0_5 := b0.c (i := 5) rfl
  have b0_6 := b0.c (i := 6) rfl
  have b0_7 := b0.c (i := 7) rfl
  have b0_8 := b0.c (i := 8) rfl
  go_wp2
  go_ret
  exact ⟨rfl, kx⟩
set_option maxRecDepth 100000 in
set_option maxHeartbeats 1000000 in
theorem rBounded_2 (n : ByteArray) (k a x y z lo hi : Int) (fr : Value) (c : Int) (h1 : (k == 4) = false) (h2 : (k == 1) = true) (w : World) : Calls Tryd.prog 56 #[.agg #[.string n, .int .i64 k, .int .i64 a, .int .i64 x, .int .i64 y, .int .i64 z, .int .i64 lo, .int .i64 hi, fr], .int .i64 c] w fun r W' => r = .returned (.bool (c != a)) ∧ Kb w W' := by
  have kx := Kb.refl w
  have b0 := Is.made w #[.string n, .int .i64 k, .int .i64 a, .int .i64 x, .int .i64 y, .int .i64 z, .int .i64 lo, .int .i64 hi, fr] 28
  replace kx := kx.alloc (.cells #[.string n, .int .i64 k, .int .i64 a, .int .i64 x, .int .i64 y, .int .i64 z, .int .i64 lo, .int .i64 hi, fr] 28 (0, 0))
  have b0_0 := b0.c (i := 0) rfl
  have b0_1 := b0.c (i := 1) rfl
  have b0_2 := b0.c (i := 2) rfl
  have b0_3 := b0.c (i := 3) rfl
  have b0_4 := b0.c (i := 4) rfl
  have b0_5 := b0.c (i := 5) rfl
  have b0_6 := b0.c (i := 6) rfl
  have b0_7 := b0.c (i := 7) rfl
  have b0_8 := b0.c (i := 8) rfl
  go_enter Tryd.func56, Tryd.ntmps56
  have b0_0 := b0.c (i := 0) rfl
  have b0_1 := b0.c (i := 1) rfl
  have b0_2 := b0.c (i := 2) rfl
  have b0_3 := b0.c (i := 3) rfl
  have b0_4 := b0.c (i := 4) rfl
  have b0_5 := b0.c (i := 5) rfl
  have b0_6 := b0.c (i := 6) rfl
  have b0_7 := b0.c (i := 7) rfl
  have b0_8 := b0.c (i := 8) rfl
  go_wp2
  go_ret
  exact ⟨rfl, kx⟩
set_option maxRecDepth 100000 in
set_option maxHeartbeats 1000000 in
theorem rBounded_3 (n : ByteArray) (k a x y z lo hi : Int) (fr : Value) (c : Int) (h1 : (k == 4) = false) (h2 : (k == 1) = false) (h3 : (k == 2) = true) (w : World) : Calls Tryd.prog 56 #[.agg #[.string n, .int .i64 k, .int .i64 a, .int .i64 x, .int .i64 y, .int .i64 z, .int .i64 lo, .int .i64 hi, fr], .int .i64 c] w fun r W' => r = .returned (.bool (c != a)) ∧ Kb w W' := by
  have kx := Kb.refl w
  have b0 := Is.made w #[.string n, .int .i64 k, .int .i64 a, .int .i64 x, .int .i64 y, .int .i64 z, .int .i64 lo, .int .i64 hi, fr] 28
  replace kx := kx.alloc (.cells #[.string n, .int .i64 k, .int .i64 a, .int .i64 x, .int .i64 y, .int .i64 z, .int .i64 lo, .int .i64 hi, fr] 28 (0, 0))
  have b0_0 := b0.c (i := 0) rfl
  have b0_1 := b0.c (i := 1) rfl
  have b0_2 := b0.c (i := 2) rfl
  have b0_3 := b0.c (i := 3) rfl
  have b0_4 := b0.c (i := 4) rfl
  have b0_5 := b0.c (i := 5) rfl
  have b0_6 := b0.c (i := 6) rfl
  have b0_7 := b0.c (i := 7) rfl
  have b0_8 := b0.c (i := 8) rfl
  go_enter Tryd.func56, Tryd.ntmps56
  have b0_0 := b0.c (i := 0) rfl
  have b0_1 := b0.c (i := 1) rfl
  have b0_2 := b0.c (i := 2) rfl
  have b0_3 := b0.c (i := 3) rfl
  have b0_4 := b0.c (i := 4) rfl
  have b0_5 := b0.c (i := 5) rfl
  have b0_6 := b0.c (i := 6) rfl
  have b0_7 := b0.c (i := 7) rfl
  have b0_8 := b0.c (i := 8) rfl
  go_wp2
  go_ret
  exact ⟨rfl, kx⟩
set_option maxRecDepth 100000 in
set_option maxHeartbeats 1000000 in
theorem rBounded_4 (n : ByteArray) (k a x y z lo hi : Int) (fr : Value) (c : Int) (h1 : (k == 4) = false) (h2 : (k == 1) = false) (h3 : (k == 2) = false) (w : World) : Calls Tryd.prog 56 #[.agg #[.string n, .int .i64 k, .int .i64 a, .int .i64 x, .int .i64 y, .int .i64 z, .int .i64 lo, .int .i64 hi, fr], .int .i64 c] w fun r W' => r = .returned (.bool (c == a)) ∧ Kb w W' := by
  have kx := Kb.refl w
  have b0 := Is.made w #[.string n, .int .i64 k, .int .i64 a, .int .i64 x, .int .i64 y, .int .i64 z, .int .i64 lo, .int .i64 hi, fr] 28
  replace kx := kx.alloc (.cells #[.string n, .int .i64 k, .int .i64 a, .int .i64 x, .int .i64 y, .int .i64 z, .int .i64 lo, .int .i64 hi, fr] 28 (0, 0))
  have b0_0 := b0.c (i := 0) rfl
  have b0_1 := b0.c (i := 1) rfl
  have b0_2 := b0.c (i := 2) rfl
  have b0_3 := b0.c (i := 3) rfl
  have b0_4 := b0.c (i := 4) rfl
  have b0_5 := b0.c (i := 5) rfl
  have b0_6 := b0.c (i := 6) rfl
  have b0_7 := b0.c (i := 7) rfl
  have b0_8 := b0.c (i := 8) rfl
  go_enter Tryd.func56, Tryd.ntmps56
  have b0_0 := b0.c (i := 0) rfl
  have b0_1 := b0.c (i := 1) rfl
  have b0_2 := b0.c (i := 2) rfl
  have b0_3 := b0.c (i := 3) rfl
  have b0_4 := b0.c (i := 4) rfl
  have b0_5 := b0.c (i := 5) rfl
  have b0_6 := b0.c (i := 6) rfl
  have b0_7 := b0.c (i := 7) rfl
  have b0_8 := b0.c (i := 8) rfl
  go_wp2
  go_ret
  exact ⟨rfl, kx⟩
end Go.Proofs.YtgclljgdoonnmaaDoor
