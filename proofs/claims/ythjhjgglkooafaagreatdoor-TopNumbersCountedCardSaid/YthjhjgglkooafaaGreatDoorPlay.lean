/- playNumbers of metrolabtop. -/
import Derived.Test.YthjhjgglkooafaaGreatDoorM45
namespace Go.Proofs.YthjhjgglkooafaaGreatDoor
open Go.RowKit
open Go.Lib (nDigits itoa decDigits)

theorem play_add : Hid (∀ W : World, Calls Tryz.prog 24 #[.string ⟨#[49, 47, 49, 52]⟩, .string ⟨#[49, 47, 50, 49]⟩] W fun e w' => e = .returned (.tuple #[.string ⟨#[53, 47, 52, 50]⟩, .int .i64 0]) ∧ Kp [] W w') := fun W => by
  have c := add_c (q := mkRat 1 14) (r := mkRat 1 21) (sm_lit (by decide +kernel)) (sm_lit (by decide +kernel)) (by omega) W
  rwa [show mkRat 1 14 + mkRat 1 21 = mkRat 5 42 by decide +kernel, l_1_14, l_1_21, l_5_42] at c
set_option maxRecDepth 100000 in
theorem play_any (w : World) : Calls Tryz.prog 8 #[] w fun e w' => e = .returned (.bool true) ∧ Kp [] w w' := by
  have q := play_add
  go_enter Tryz.func8, Tryz.ntmps8
  go_wp2_with fail
  with_reducible refine (q.out _).mono ?_
  rintro e w1 ⟨rfl, k⟩
  go_wp2
  go_ret
  exact ⟨rfl, k⟩
end Go.Proofs.YthjhjgglkooafaaGreatDoor
