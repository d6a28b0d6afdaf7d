/- Features: small functions of the program and of the reference. -/
import Derived.Test.YtdmfkgopalelgaaDoorOd4
import Derived.Test.YtdmfkgopalelgaaDoorOf3
namespace Go.Proofs.YtdmfkgopalelgaaDoor
open Go.RowKit

set_option maxRecDepth 100000 in
set_option maxHeartbeats 1000000 in
theorem rAxis_1 (a : Int) (h1 : a < 0) (w : World) : Calls Tryd.prog 80 #[.int .i64 a] w fun r W' => r = .returned (.int .i64 1) ∧ Kb w W' := by
  have kx := Kb.refl w
  go_enter Tryd.func80, Tryd.ntmps80
  go_wp2
  go_ret
  exact ⟨rfl, kx⟩
set_option maxRecDepth 100000 in
set_option maxHeartbeats 1000000 in
theorem rAxis_2 (a : Int) (h1 : ¬ a < 0) (h2 : 3 ≤ a) (w : World) : Calls Tryd.prog 80 #[.int .i64 a] w fun r W' => r = .returned (.int .i64 1) ∧ Kb w W' := by
  have kx := Kb.refl w
  go_enter Tryd.func80, Tryd.ntmps80
  go_wp2
  go_ret
  exact ⟨rfl, kx⟩
set_option maxRecDepth 100000 in
set_option maxHeartbeats 1000000 in
theorem rAxis_3 (a : Int) (h1 : ¬ a < 0) (h2 : ¬ 3 ≤ a) (w : World) : Calls Tryd.prog 80 #[.int .i64 a] w fun r W' => r = .returned (.int .i64 0) ∧ Kb w W' := by
  have kx := Kb.refl w
  go_enter Tryd.func80, Tryd.ntmps80
  go_wp2
  go_ret
  exact ⟨rfl, kx⟩
end Go.Proofs.YtdmfkgopalelgaaDoor
