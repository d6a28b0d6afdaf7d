/- Texts Vec14, Vref1, Vref2, Vref3, Vref4, Vec15: each says in its own first comment what it proves. -/
import Derived.Test.YtegamkilhgekjaaGreatDoorM60
import Derived.Test.YtegamkilhgekjaaGreatDoorM55
/- cmp.Compare of ints, Side of package vector. -/
namespace Go.Proofs.YtegamkilhgekjaaGreatDoor
open Go.RowKit
open Go.Lib (nDigits itoa decDigits)

end Go.Proofs.YtegamkilhgekjaaGreatDoor

/- The reference of layer 7: in, Right, Minus, Times, Turn. -/
namespace Go.Proofs.YtegamkilhgekjaaGreatDoor
open Go.RowKit
open Go.Lib (nDigits itoa decDigits)

set_option maxRecDepth 100000 in
theorem rin7 (z : Int) (w : World) : Calls Tryz.prog 119 #[.int .i64 z] w fun e w' => e = .returned (.bool (inB z)) ∧ Kp [] w w' := by
  by_cases h1 : -100000 ≤ z
  · by_cases h2 : z ≤ 100000
    · rw [(inB_iff z).2 ⟨h1, h2⟩]
      go_enter Tryz.func119, Tryz.ntmps119
      go_wp2
      go_ret
      exact ⟨rfl, Kp.refl _ _⟩
    · have e : inB z = false := by unfold inB; rw [decide_eq_false h2, Bool.and_false]
      rw [e]
      go_enter Tryz.func119, Tryz.ntmps119
      go_wp2
      go_ret
      exact ⟨rfl, Kp.refl _ _⟩
  · have e : inB z = false := by unfold inB; rw [decide_eq_false h1, Bool.false_and]
    rw [e]
    go_enter Tryz.func119, Tryz.ntmps119
    go_wp2
    go_ret
    exact ⟨rfl, Kp.refl _ _⟩

end Go.Proofs.YtegamkilhgekjaaGreatDoor

/- The reference of layer 7: pair, three, Signum. -/
namespace Go.Proofs.YtegamkilhgekjaaGreatDoor
open Go.RowKit
open Go.Lib (nDigits itoa decDigits)

end Go.Proofs.YtegamkilhgekjaaGreatDoor

/- The reference of layer 7: Dot, Cross, Square, Side. -/
namespace Go.Proofs.YtegamkilhgekjaaGreatDoor
open Go.RowKit
open Go.Lib (nDigits itoa decDigits)

end Go.Proofs.YtegamkilhgekjaaGreatDoor

/- The reference of layer 7: Left, Far. -/
namespace Go.Proofs.YtegamkilhgekjaaGreatDoor
open Go.RowKit
open Go.Lib (nDigits itoa decDigits)

end Go.Proofs.YtegamkilhgekjaaGreatDoor

/- Dot, Cross, Side, Square of package vector and of the reference of layer 7 answer alike. -/
namespace Go.Proofs.YtegamkilhgekjaaGreatDoor
open Go.RowKit
open Go.Lib (nDigits itoa decDigits)

section
variable (ax ay bx yb : Int) (w : World)
end
section
variable (ax ay bx yb cx yc : Int) (w : World)
end

end Go.Proofs.YtegamkilhgekjaaGreatDoor
