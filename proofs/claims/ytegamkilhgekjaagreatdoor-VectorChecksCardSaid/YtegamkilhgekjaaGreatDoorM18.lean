/- Texts Awake: each says in its own first comment what it proves. -/
import Derived.Test.YtegamkilhgekjaaGreatDoorM08
import Derived.Test.YtegamkilhgekjaaGreatDoorM04
import Derived.Test.YtegamkilhgekjaaGreatDoorM06
import Derived.Test.YtegamkilhgekjaaGreatDoorM16
import Derived.Test.YtegamkilhgekjaaGreatDoorM11
import Derived.Test.YtegamkilhgekjaaGreatDoorM12
/- Walk over awake: the chapter's examples. -/
namespace Go.Proofs.YtegamkilhgekjaaGreatDoor
open Go.RowKit
open Go.Lib (nDigits itoa decDigits)

theorem made {w : World} (o : Obj) : (w.alloc o).heap[w.heap.size]? = some o := by
  show (w.heap.push _)[w.heap.size]? = _; rw [Array.getElem?_push_size]
theorem kept {w w' : World} {o : Obj} (hk : Kp [] (w.alloc o) w') : w'.heap[w.heap.size]? = some o :=
  (hk.block _ (by simp) (by simp)).trans (made o)
end Go.Proofs.YtegamkilhgekjaaGreatDoor
