/- Texts RMake2: each says in its own first comment what it proves. -/
import Derived.Test.YtcgilcmhandgfaaGreatDoorM46
import Derived.Test.YtcgilcmhandgfaaGreatDoorM45
import Derived.Test.YtcgilcmhandgfaaGreatDoorM21
import Derived.Test.YtcgilcmhandgfaaGreatDoorM41
/- Make and Whole of the reference of layer 2. -/
namespace Go.Proofs.YtcgilcmhandgfaaGreatDoor
open Go.RowKit
open Go.Lib (nDigits itoa decDigits)




















































































































set_option maxRecDepth 100000 in
set_option maxHeartbeats 4000000 in
theorem rwhole_any (n : Int) (w : World) (hn : I64 n) :
    Calls Tryz.prog 53 #[.int .i64 n] w fun e w' => e = .returned (.string (S n)) ∧ Kp [] w w' := by
  have q : Hid (Gw w 112 #[.int .i64 n] (.string (S n))) := gw_of fun W => of_any n W hn.1 (by have := hn.2; omega)
  generalize S n = t at *
  unfold Gw at q
  have kk := Kp.refl [] w
  go_enter Tryz.func53, Tryz.ntmps53
  go_wp2_with fail
  with_reducible refine (q.out _ kk).mono ?_
  rintro e w1 ⟨rfl, k⟩
  replace kk := kk.trans k; clear k
  go_wp2
  go_ret
  exact ⟨rfl, kk⟩

end Go.Proofs.YtcgilcmhandgfaaGreatDoor
