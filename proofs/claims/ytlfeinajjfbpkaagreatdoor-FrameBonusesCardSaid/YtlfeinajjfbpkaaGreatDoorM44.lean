/- Texts Od4: each says in its own first comment what it proves. -/
import Derived.Test.YtlfeinajjfbpkaaGreatDoorM03
import Derived.Test.YtlfeinajjfbpkaaGreatDoorM46
import Derived.Test.YtlfeinajjfbpkaaGreatDoorM47
/- Package dimension: Name, Valid. -/
namespace Go.Proofs.YtlfeinajjfbpkaaGreatDoor
open Go.RowKit

def nmE (s : ByteArray) : Int := firstE [fE (decide (24 < (s.size : Int))) 17, fE (!nmB s) 3]
set_option maxRecDepth 100000 in
set_option maxHeartbeats 1000000 in
theorem dName_any (s : ByteArray) (w : World) (hs : s.size ≤ 1000000) : Calls Tryz.prog 80 #[.string s] w fun r W' => r = .returned (.int .i64 (nmE s)) ∧ Kb w W' := by
  have q := dnamed_any s
  have Q := Lib.hid q
  clear q
  have HN : Hid (nmE s = firstE [fE (decide (24 < (s.size : Int))) 17, fE (!nmB s) 3]) := rfl
  generalize nmE s = E at *
  have Hs := Lib.hid hs
  clear hs
  generalize nmB s = nb at *
  obtain ⟨big, hbig⟩ : ∃ b : Bool, decide (24 < (s.size : Int)) = b := ⟨_, rfl⟩
  rw [hbig] at HN
  go_enter Tryz.func80, Tryz.ntmps80
  go_wp2_with fail
  (refine (cWhen [] _ _ _ (by simp)).mono ?_)
  rintro r w1 ⟨v1, rfl, c1, k1⟩
  obtain ⟨F1, a1, e1, f1, g1⟩ := c1
  subst e1
  go_wp2_with fail
  (with_reducible refine (Q.out _ Hs.out).mono ?_)
  rintro r w2 ⟨rfl, k2⟩
  go_wp2_with fail
  (refine (cWhen [] _ _ _ (by simp)).mono ?_)
  rintro r w3 ⟨v3, rfl, c3, k3⟩
  obtain ⟨F3, a3, e3, f3, g3⟩ := c3
  subst e3
  have k13 := k2.trans k3
  have kz : Kb w3 (w3.alloc (.cells #[.func (.func F1) #[] a1, .func (.func F3) #[] a3] 80 (0, 0))) := (Kb.refl w3).alloc _
  have sl : SlC [] [fE big 17, fE (!nb) 3] (.slice (some ⟨w3.heap.size, 0, none⟩) 2 2) (w3.alloc (.cells #[.func (.func F1) #[] a1, .func (.func F3) #[] a3] 80 (0, 0))) :=
    ⟨[.func (.func F1) #[] a1, .func (.func F3) #[] a3], rfl, sl_is (Is.made w3 _ _) (by simp) rfl (rows_ok rfl rfl), cks_ok ⟨Ck.kx ⟨F1, a1, rfl, f1, g1⟩ (k13.trans kz).kx, Ck.kx ⟨F3, a3, rfl, f3, g3⟩ kz.kx, trivial⟩ rfl⟩
  have SL := Lib.hid sl
  clear f1 g1 f3 g3 sl
  go_wp2_with fail
  (refine (cFirst [] _ _ _ SL.out (by simp)).mono ?_)
  rintro r w4 ⟨rfl, k4⟩
  go_wp2
  go_ret
  exact ⟨by rw [HN.out]; rfl, k1.trans (k13.trans (kz.trans k4))⟩
theorem dName (s : ByteArray) (hs : s.size ≤ 1000000) : Ca 80 #[.string s] (.int .i64 (nmE s)) := Lib.hid fun w => dName_any s w hs
end Go.Proofs.YtlfeinajjfbpkaaGreatDoor
