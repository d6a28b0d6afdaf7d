/- Texts RefRoot, RefRoots, RefSign: each says in its own first comment what it proves. -/
import Derived.Test.YtminjcknmhgpiaaGreatDoorM49
import Derived.Test.YtminjcknmhgpiaaGreatDoorM47
import Derived.Test.YtminjcknmhgpiaaGreatDoorM41
/- Root of the reference of layer 2. -/
namespace Go.Proofs.YtminjcknmhgpiaaGreatDoor
open Go.RowKit
open Go.Lib (nDigits itoa decDigits)

set_option maxRecDepth 100000 in
set_option maxHeartbeats 4000000 in
theorem rRoot_m_m_0 (a b c : ByteArray) (w : World) (sa : Hid (Gw w 60 #[.string a] (.int .i64 (-1)))) (sb : Hid (Gw w 60 #[.string b] (.int .i64 (-1)))) (sc : Hid (Gw w 60 #[.string c] (.int .i64 0))) :
    Calls Tryz.prog 101 #[.string a, .string b, .string c] w fun r0 w' => r0 = .returned (.int .i64 (-1)) ∧ Kp [] w w' := by
  unfold Gw at sa sb sc
  have kk := Kp.refl [] w
  go_enter Tryz.func101, Tryz.ntmps101
  go_wp2_with fail
  with_reducible refine (sa.out _ kk).mono ?_
  rintro e w1 ⟨rfl, k⟩
  replace kk := kk.trans k; clear k
  go_wp2_with fail
  with_reducible refine (sb.out _ kk).mono ?_
  rintro e w2 ⟨rfl, k⟩
  replace kk := kk.trans k; clear k
  go_wp2_with fail
  with_reducible refine (sc.out _ kk).mono ?_
  rintro e w3 ⟨rfl, k⟩
  replace kk := kk.trans k; clear k
  go_wp2
  go_ret
  exact ⟨rfl, kk⟩

set_option maxRecDepth 100000 in
set_option maxHeartbeats 4000000 in
theorem rRoot_m_m_1 (a b c : ByteArray) (w : World) (sa : Hid (Gw w 60 #[.string a] (.int .i64 (-1)))) (sb : Hid (Gw w 60 #[.string b] (.int .i64 (-1)))) (sc : Hid (Gw w 60 #[.string c] (.int .i64 1))) :
    Calls Tryz.prog 101 #[.string a, .string b, .string c] w fun r0 w' => r0 = .returned (.int .i64 (-1)) ∧ Kp [] w w' := by
  unfold Gw at sa sb sc
  have kk := Kp.refl [] w
  go_enter Tryz.func101, Tryz.ntmps101
  go_wp2_with fail
  with_reducible refine (sa.out _ kk).mono ?_
  rintro e w1 ⟨rfl, k⟩
  replace kk := kk.trans k; clear k
  go_wp2_with fail
  with_reducible refine (sb.out _ kk).mono ?_
  rintro e w2 ⟨rfl, k⟩
  replace kk := kk.trans k; clear k
  go_wp2_with fail
  with_reducible refine (sc.out _ kk).mono ?_
  rintro e w3 ⟨rfl, k⟩
  replace kk := kk.trans k; clear k
  go_wp2
  go_ret
  exact ⟨rfl, kk⟩

set_option maxRecDepth 100000 in
set_option maxHeartbeats 4000000 in
theorem rRoot_m_0_0 (a b c : ByteArray) (w : World) (sa : Hid (Gw w 60 #[.string a] (.int .i64 (-1)))) (sb : Hid (Gw w 60 #[.string b] (.int .i64 0))) (sc : Hid (Gw w 60 #[.string c] (.int .i64 0))) :
    Calls Tryz.prog 101 #[.string a, .string b, .string c] w fun r0 w' => r0 = .returned (.int .i64 (-1)) ∧ Kp [] w w' := by
  unfold Gw at sa sb sc
  have kk := Kp.refl [] w
  go_enter Tryz.func101, Tryz.ntmps101
  go_wp2_with fail
  with_reducible refine (sa.out _ kk).mono ?_
  rintro e w1 ⟨rfl, k⟩
  replace kk := kk.trans k; clear k
  go_wp2_with fail
  with_reducible refine (sb.out _ kk).mono ?_
  rintro e w2 ⟨rfl, k⟩
  replace kk := kk.trans k; clear k
  go_wp2_with fail
  with_reducible refine (sc.out _ kk).mono ?_
  rintro e w3 ⟨rfl, k⟩
  replace kk := kk.trans k; clear k
  go_wp2
  go_ret
  exact ⟨rfl, kk⟩

set_option maxRecDepth 100000 in
set_option maxHeartbeats 4000000 in
theorem rRoot_m_0_1 (a b c : ByteArray) (w : World) (sa : Hid (Gw w 60 #[.string a] (.int .i64 (-1)))) (sb : Hid (Gw w 60 #[.string b] (.int .i64 0))) (sc : Hid (Gw w 60 #[.string c] (.int .i64 1))) :
    Calls Tryz.prog 101 #[.string a, .string b, .string c] w fun r0 w' => r0 = .returned (.int .i64 (-1)) ∧ Kp [] w w' := by
  unfold Gw at sa sb sc
  have kk := Kp.refl [] w
  go_enter Tryz.func101, Tryz.ntmps101
  go_wp2_with fail
  with_reducible refine (sa.out _ kk).mono ?_
  rintro e w1 ⟨rfl, k⟩
  replace kk := kk.trans k; clear k
  go_wp2_with fail
  with_reducible refine (sb.out _ kk).mono ?_
  rintro e w2 ⟨rfl, k⟩
  replace kk := kk.trans k; clear k
  go_wp2_with fail
  with_reducible refine (sc.out _ kk).mono ?_
  rintro e w3 ⟨rfl, k⟩
  replace kk := kk.trans k; clear k
  go_wp2
  go_ret
  exact ⟨rfl, kk⟩

set_option maxRecDepth 100000 in
set_option maxHeartbeats 4000000 in
theorem rRoot_m_1_0 (a b c : ByteArray) (w : World) (sa : Hid (Gw w 60 #[.string a] (.int .i64 (-1)))) (sb : Hid (Gw w 60 #[.string b] (.int .i64 1))) (sc : Hid (Gw w 60 #[.string c] (.int .i64 0))) :
    Calls Tryz.prog 101 #[.string a, .string b, .string c] w fun r0 w' => r0 = .returned (.int .i64 (-1)) ∧ Kp [] w w' := by
  unfold Gw at sa sb sc
  have kk := Kp.refl [] w
  go_enter Tryz.func101, Tryz.ntmps101
  go_wp2_with fail
  with_reducible refine (sa.out _ kk).mono ?_
  rintro e w1 ⟨rfl, k⟩
  replace kk := kk.trans k; clear k
  go_wp2_with fail
  with_reducible refine (sb.out _ kk).mono ?_
  rintro e w2 ⟨rfl, k⟩
  replace kk := kk.trans k; clear k
  go_wp2_with fail
  with_reducible refine (sc.out _ kk).mono ?_
  rintro e w3 ⟨rfl, k⟩
  replace kk := kk.trans k; clear k
  go_wp2
  go_ret
  exact ⟨rfl, kk⟩

set_option maxRecDepth 100000 in
set_option maxHeartbeats 4000000 in
theorem rRoot_m_1_1 (a b c x y z : ByteArray) (v : Int) (w : World) (hv : -1 ≤ v ∧ v ≤ 1) (sa : Hid (Gw w 60 #[.string a] (.int .i64 (-1)))) (sb : Hid (Gw w 60 #[.string b] (.int .i64 1))) (sc : Hid (Gw w 60 #[.string c] (.int .i64 1))) (m1 : Hid (Gw w 90 #[.string a, .string a] (.string x))) (m2 : Hid (Gw w 90 #[.string b, .string b] (.string y))) (m3 : Hid (Gw w 90 #[.string y, .string c] (.string z))) (o : Hid (Gw w 95 #[.string x, .string z] (.int .i64 v))) :
    Calls Tryz.prog 101 #[.string a, .string b, .string c] w fun r0 w' => r0 = .returned (.int .i64 ((-1) * v)) ∧ Kp [] w w' := by
  obtain ⟨hv1, hv2⟩ := hv
  unfold Gw at sa sb sc m1 m2 m3 o
  have kk := Kp.refl [] w
  go_enter Tryz.func101, Tryz.ntmps101
  go_wp2_with fail
  with_reducible refine (sa.out _ kk).mono ?_
  rintro e w1 ⟨rfl, k⟩
  replace kk := kk.trans k; clear k
  go_wp2_with fail
  with_reducible refine (sb.out _ kk).mono ?_
  rintro e w2 ⟨rfl, k⟩
  replace kk := kk.trans k; clear k
  go_wp2_with fail
  with_reducible refine (sc.out _ kk).mono ?_
  rintro e w3 ⟨rfl, k⟩
  replace kk := kk.trans k; clear k
  go_wp2_with fail
  with_reducible refine (m1.out _ kk).mono ?_
  rintro e w4 ⟨rfl, k⟩
  replace kk := kk.trans k; clear k
  go_wp2_with fail
  with_reducible refine (m2.out _ kk).mono ?_
  rintro e w5 ⟨rfl, k⟩
  replace kk := kk.trans k; clear k
  go_wp2_with fail
  with_reducible refine (m3.out _ kk).mono ?_
  rintro e w6 ⟨rfl, k⟩
  replace kk := kk.trans k; clear k
  go_wp2_with fail
  with_reducible refine (o.out _ kk).mono ?_
  rintro e w7 ⟨rfl, k⟩
  replace kk := kk.trans k; clear k
  go_wp2
  go_ret
  exact ⟨by first | rfl | (rw [show ((-1) : Int) * v = -v from by omega]; rfl), kk⟩

set_option maxRecDepth 100000 in
set_option maxHeartbeats 4000000 in
theorem rRoot_0_m_0 (a b c : ByteArray) (w : World) (sa : Hid (Gw w 60 #[.string a] (.int .i64 0))) (sb : Hid (Gw w 60 #[.string b] (.int .i64 (-1)))) (sc : Hid (Gw w 60 #[.string c] (.int .i64 0))) :
    Calls Tryz.prog 101 #[.string a, .string b, .string c] w fun r0 w' => r0 = .returned (.int .i64 0) ∧ Kp [] w w' := by
  unfold Gw at sa sb sc
  have kk := Kp.refl [] w
  go_enter Tryz.func101, Tryz.ntmps101
  go_wp2_with fail
  with_reducible refine (sa.out _ kk).mono ?_
  rintro e w1 ⟨rfl, k⟩
  replace kk := kk.trans k; clear k
  go_wp2_with fail
  with_reducible refine (sb.out _ kk).mono ?_
  rintro e w2 ⟨rfl, k⟩
  replace kk := kk.trans k; clear k
  go_wp2_with fail
  with_reducible refine (sc.out _ kk).mono ?_
  rintro e w3 ⟨rfl, k⟩
  replace kk := kk.trans k; clear k
  go_wp2
  go_ret
  exact ⟨rfl, kk⟩

set_option maxRecDepth 100000 in
set_option maxHeartbeats 4000000 in
theorem rRoot_0_m_1 (a b c : ByteArray) (w : World) (sa : Hid (Gw w 60 #[.string a] (.int .i64 0))) (sb : Hid (Gw w 60 #[.string b] (.int .i64 (-1)))) (sc : Hid (Gw w 60 #[.string c] (.int .i64 1))) :
    Calls Tryz.prog 101 #[.string a, .string b, .string c] w fun r0 w' => r0 = .returned (.int .i64 (-1)) ∧ Kp [] w w' := by
  unfold Gw at sa sb sc
  have kk := Kp.refl [] w
  go_enter Tryz.func101, Tryz.ntmps101
  go_wp2_with fail
  with_reducible refine (sa.out _ kk).mono ?_
  rintro e w1 ⟨rfl, k⟩
  replace kk := kk.trans k; clear k
  go_wp2_with fail
  with_reducible refine (sb.out _ kk).mono ?_
  rintro e w2 ⟨rfl, k⟩
  replace kk := kk.trans k; clear k
  go_wp2_with fail
  with_reducible refine (sc.out _ kk).mono ?_
  rintro e w3 ⟨rfl, k⟩
  replace kk := kk.trans k; clear k
  go_wp2
  go_ret
  exact ⟨rfl, kk⟩

set_option maxRecDepth 100000 in
set_option maxHeartbeats 4000000 in
theorem rRoot_0_0_0 (a b c : ByteArray) (w : World) (sa : Hid (Gw w 60 #[.string a] (.int .i64 0))) (sb : Hid (Gw w 60 #[.string b] (.int .i64 0))) (sc : Hid (Gw w 60 #[.string c] (.int .i64 0))) :
    Calls Tryz.prog 101 #[.string a, .string b, .string c] w fun r0 w' => r0 = .returned (.int .i64 0) ∧ Kp [] w w' := by
  unfold Gw at sa sb sc
  have kk := Kp.refl [] w
  go_enter Tryz.func101, Tryz.ntmps101
  go_wp2_with fail
  with_reducible refine (sa.out _ kk).mono ?_
  rintro e w1 ⟨rfl, k⟩
  replace kk := kk.trans k; clear k
  go_wp2_with fail
  with_reducible refine (sb.out _ kk).mono ?_
  rintro e w2 ⟨rfl, k⟩
  replace kk := kk.trans k; clear k
  go_wp2_with fail
  with_reducible refine (sc.out _ kk).mono ?_
  rintro e w3 ⟨rfl, k⟩
  replace kk := kk.trans k; clear k
  go_wp2
  go_ret
  exact ⟨rfl, kk⟩

set_option maxRecDepth 100000 in
set_option maxHeartbeats 4000000 in
theorem rRoot_0_0_1 (a b c : ByteArray) (w : World) (sa : Hid (Gw w 60 #[.string a] (.int .i64 0))) (sb : Hid (Gw w 60 #[.string b] (.int .i64 0))) (sc : Hid (Gw w 60 #[.string c] (.int .i64 1))) :
    Calls Tryz.prog 101 #[.string a, .string b, .string c] w fun r0 w' => r0 = .returned (.int .i64 0) ∧ Kp [] w w' := by
  unfold Gw at sa sb sc
  have kk := Kp.refl [] w
  go_enter Tryz.func101, Tryz.ntmps101
  go_wp2_with fail
  with_reducible refine (sa.out _ kk).mono ?_
  rintro e w1 ⟨rfl, k⟩
  replace kk := kk.trans k; clear k
  go_wp2_with fail
  with_reducible refine (sb.out _ kk).mono ?_
  rintro e w2 ⟨rfl, k⟩
  replace kk := kk.trans k; clear k
  go_wp2_with fail
  with_reducible refine (sc.out _ kk).mono ?_
  rintro e w3 ⟨rfl, k⟩
  replace kk := kk.trans k; clear k
  go_wp2
  go_ret
  exact ⟨rfl, kk⟩

set_option maxRecDepth 100000 in
set_option maxHeartbeats 4000000 in
theorem rRoot_0_1_0 (a b c : ByteArray) (w : World) (sa : Hid (Gw w 60 #[.string a] (.int .i64 0))) (sb : Hid (Gw w 60 #[.string b] (.int .i64 1))) (sc : Hid (Gw w 60 #[.string c] (.int .i64 0))) :
    Calls Tryz.prog 101 #[.string a, .string b, .string c] w fun r0 w' => r0 = .returned (.int .i64 0) ∧ Kp [] w w' := by
  unfold Gw at sa sb sc
  have kk := Kp.refl [] w
  go_enter Tryz.func101, Tryz.ntmps101
  go_wp2_with fail
  with_reducible refine (sa.out _ kk).mono ?_
  rintro e w1 ⟨rfl, k⟩
  replace kk := kk.trans k; clear k
  go_wp2_with fail
  with_reducible refine (sb.out _ kk).mono ?_
  rintro e w2 ⟨rfl, k⟩
  replace kk := kk.trans k; clear k
  go_wp2_with fail
  with_reducible refine (sc.out _ kk).mono ?_
  rintro e w3 ⟨rfl, k⟩
  replace kk := kk.trans k; clear k
  go_wp2
  go_ret
  exact ⟨rfl, kk⟩

set_option maxRecDepth 100000 in
set_option maxHeartbeats 4000000 in
theorem rRoot_0_1_1 (a b c : ByteArray) (w : World) (sa : Hid (Gw w 60 #[.string a] (.int .i64 0))) (sb : Hid (Gw w 60 #[.string b] (.int .i64 1))) (sc : Hid (Gw w 60 #[.string c] (.int .i64 1))) :
    Calls Tryz.prog 101 #[.string a, .string b, .string c] w fun r0 w' => r0 = .returned (.int .i64 1) ∧ Kp [] w w' := by
  unfold Gw at sa sb sc
  have kk := Kp.refl [] w
  go_enter Tryz.func101, Tryz.ntmps101
  go_wp2_with fail
  with_reducible refine (sa.out _ kk).mono ?_
  rintro e w1 ⟨rfl, k⟩
  replace kk := kk.trans k; clear k
  go_wp2_with fail
  with_reducible refine (sb.out _ kk).mono ?_
  rintro e w2 ⟨rfl, k⟩
  replace kk := kk.trans k; clear k
  go_wp2_with fail
  with_reducible refine (sc.out _ kk).mono ?_
  rintro e w3 ⟨rfl, k⟩
  replace kk := kk.trans k; clear k
  go_wp2
  go_ret
  exact ⟨rfl, kk⟩

set_option maxRecDepth 100000 in
set_option maxHeartbeats 4000000 in
theorem rRoot_1_m_0 (a b c : ByteArray) (w : World) (sa : Hid (Gw w 60 #[.string a] (.int .i64 1))) (sb : Hid (Gw w 60 #[.string b] (.int .i64 (-1)))) (sc : Hid (Gw w 60 #[.string c] (.int .i64 0))) :
    Calls Tryz.prog 101 #[.string a, .string b, .string c] w fun r0 w' => r0 = .returned (.int .i64 1) ∧ Kp [] w w' := by
  unfold Gw at sa sb sc
  have kk := Kp.refl [] w
  go_enter Tryz.func101, Tryz.ntmps101
  go_wp2_with fail
  with_reducible refine (sa.out _ kk).mono ?_
  rintro e w1 ⟨rfl, k⟩
  replace kk := kk.trans k; clear k
  go_wp2_with fail
  with_reducible refine (sb.out _ kk).mono ?_
  rintro e w2 ⟨rfl, k⟩
  replace kk := kk.trans k; clear k
  go_wp2_with fail
  with_reducible refine (sc.out _ kk).mono ?_
  rintro e w3 ⟨rfl, k⟩
  replace kk := kk.trans k; clear k
  go_wp2
  go_ret
  exact ⟨rfl, kk⟩

set_option maxRecDepth 100000 in
set_option maxHeartbeats 4000000 in
theorem rRoot_1_m_1 (a b c x y z : ByteArray) (v : Int) (w : World) (hv : -1 ≤ v ∧ v ≤ 1) (sa : Hid (Gw w 60 #[.string a] (.int .i64 1))) (sb : Hid (Gw w 60 #[.string b] (.int .i64 (-1)))) (sc : Hid (Gw w 60 #[.string c] (.int .i64 1))) (m1 : Hid (Gw w 90 #[.string a, .string a] (.string x))) (m2 : Hid (Gw w 90 #[.string b, .string b] (.string y))) (m3 : Hid (Gw w 90 #[.string y, .string c] (.string z))) (o : Hid (Gw w 95 #[.string x, .string z] (.int .i64 v))) :
    Calls Tryz.prog 101 #[.string a, .string b, .string c] w fun r0 w' => r0 = .returned (.int .i64 (1 * v)) ∧ Kp [] w w' := by
  obtain ⟨hv1, hv2⟩ := hv
  unfold Gw at sa sb sc m1 m2 m3 o
  have kk := Kp.refl [] w
  go_enter Tryz.func101, Tryz.ntmps101
  go_wp2_with fail
  with_reducible refine (sa.out _ kk).mono ?_
  rintro e w1 ⟨rfl, k⟩
  replace kk := kk.trans k; clear k
  go_wp2_with fail
  with_reducible refine (sb.out _ kk).mono ?_
  rintro e w2 ⟨rfl, k⟩
  replace kk := kk.trans k; clear k
  go_wp2_with fail
  with_reducible refine (sc.out _ kk).mono ?_
  rintro e w3 ⟨rfl, k⟩
  replace kk := kk.trans k; clear k
  go_wp2_with fail
  with_reducible refine (m1.out _ kk).mono ?_
  rintro e w4 ⟨rfl, k⟩
  replace kk := kk.trans k; clear k
  go_wp2_with fail
  with_reducible refine (m2.out _ kk).mono ?_
  rintro e w5 ⟨rfl, k⟩
  replace kk := kk.trans k; clear k
  go_wp2_with fail
  with_reducible refine (m3.out _ kk).mono ?_
  rintro e w6 ⟨rfl, k⟩
  replace kk := kk.trans k; clear k
  go_wp2_with fail
  with_reducible refine (o.out _ kk).mono ?_
  rintro e w7 ⟨rfl, k⟩
  replace kk := kk.trans k; clear k
  go_wp2
  go_ret
  exact ⟨by first | rfl | (rw [show (1 : Int) * v = v from by omega]; rfl), kk⟩

set_option maxRecDepth 100000 in
set_option maxHeartbeats 4000000 in
theorem rRoot_1_0_0 (a b c : ByteArray) (w : World) (sa : Hid (Gw w 60 #[.string a] (.int .i64 1))) (sb : Hid (Gw w 60 #[.string b] (.int .i64 0))) (sc : Hid (Gw w 60 #[.string c] (.int .i64 0))) :
    Calls Tryz.prog 101 #[.string a, .string b, .string c] w fun r0 w' => r0 = .returned (.int .i64 1) ∧ Kp [] w w' := by
  unfold Gw at sa sb sc
  have kk := Kp.refl [] w
  go_enter Tryz.func101, Tryz.ntmps101
  go_wp2_with fail
  with_reducible refine (sa.out _ kk).mono ?_
  rintro e w1 ⟨rfl, k⟩
  replace kk := kk.trans k; clear k
  go_wp2_with fail
  with_reducible refine (sb.out _ kk).mono ?_
  rintro e w2 ⟨rfl, k⟩
  replace kk := kk.trans k; clear k
  go_wp2_with fail
  with_reducible refine (sc.out _ kk).mono ?_
  rintro e w3 ⟨rfl, k⟩
  replace kk := kk.trans k; clear k
  go_wp2
  go_ret
  exact ⟨rfl, kk⟩

set_option maxRecDepth 100000 in
set_option maxHeartbeats 4000000 in
theorem rRoot_1_0_1 (a b c : ByteArray) (w : World) (sa : Hid (Gw w 60 #[.string a] (.int .i64 1))) (sb : Hid (Gw w 60 #[.string b] (.int .i64 0))) (sc : Hid (Gw w 60 #[.string c] (.int .i64 1))) :
    Calls Tryz.prog 101 #[.string a, .string b, .string c] w fun r0 w' => r0 = .returned (.int .i64 1) ∧ Kp [] w w' := by
  unfold Gw at sa sb sc
  have kk := Kp.refl [] w
  go_enter Tryz.func101, Tryz.ntmps101
  go_wp2_with fail
  with_reducible refine (sa.out _ kk).mono ?_
  rintro e w1 ⟨rfl, k⟩
  replace kk := kk.trans k; clear k
  go_wp2_with fail
  with_reducible refine (sb.out _ kk).mono ?_
  rintro e w2 ⟨rfl, k⟩
  replace kk := kk.trans k; clear k
  go_wp2_with fail
  with_reducible refine (sc.out _ kk).mono ?_
  rintro e w3 ⟨rfl, k⟩
  replace kk := kk.trans k; clear k
  go_wp2
  go_ret
  exact ⟨rfl, kk⟩

set_option maxRecDepth 100000 in
set_option maxHeartbeats 4000000 in
theorem rRoot_1_1_0 (a b c : ByteArray) (w : World) (sa : Hid (Gw w 60 #[.string a] (.int .i64 1))) (sb : Hid (Gw w 60 #[.string b] (.int .i64 1))) (sc : Hid (Gw w 60 #[.string c] (.int .i64 0))) :
    Calls Tryz.prog 101 #[.string a, .string b, .string c] w fun r0 w' => r0 = .returned (.int .i64 1) ∧ Kp [] w w' := by
  unfold Gw at sa sb sc
  have kk := Kp.refl [] w
  go_enter Tryz.func101, Tryz.ntmps101
  go_wp2_with fail
  with_reducible refine (sa.out _ kk).mono ?_
  rintro e w1 ⟨rfl, k⟩
  replace kk := kk.trans k; clear k
  go_wp2_with fail
  with_reducible refine (sb.out _ kk).mono ?_
  rintro e w2 ⟨rfl, k⟩
  replace kk := kk.trans k; clear k
  go_wp2_with fail
  with_reducible refine (sc.out _ kk).mono ?_
  rintro e w3 ⟨rfl, k⟩
  replace kk := kk.trans k; clear k
  go_wp2
  go_ret
  exact ⟨rfl, kk⟩

set_option maxRecDepth 100000 in
set_option maxHeartbeats 4000000 in
theorem rRoot_1_1_1 (a b c : ByteArray) (w : World) (sa : Hid (Gw w 60 #[.string a] (.int .i64 1))) (sb : Hid (Gw w 60 #[.string b] (.int .i64 1))) (sc : Hid (Gw w 60 #[.string c] (.int .i64 1))) :
    Calls Tryz.prog 101 #[.string a, .string b, .string c] w fun r0 w' => r0 = .returned (.int .i64 1) ∧ Kp [] w w' := by
  unfold Gw at sa sb sc
  have kk := Kp.refl [] w
  go_enter Tryz.func101, Tryz.ntmps101
  go_wp2_with fail
  with_reducible refine (sa.out _ kk).mono ?_
  rintro e w1 ⟨rfl, k⟩
  replace kk := kk.trans k; clear k
  go_wp2_with fail
  with_reducible refine (sb.out _ kk).mono ?_
  rintro e w2 ⟨rfl, k⟩
  replace kk := kk.trans k; clear k
  go_wp2_with fail
  with_reducible refine (sc.out _ kk).mono ?_
  rintro e w3 ⟨rfl, k⟩
  replace kk := kk.trans k; clear k
  go_wp2
  go_ret
  exact ⟨rfl, kk⟩

theorem cm3 (x y : Rat) : -1 ≤ cmR x y ∧ cmR x y ≤ 1 := by
  unfold cmR
  split
  · exact ⟨by decide, by decide⟩
  · split <;> exact ⟨by decide, by decide⟩
theorem sg_mem (q : Rat) : sgR q = -1 ∨ sgR q = 0 ∨ sgR q = 1 := by
  rcases sg3 q with ⟨_, h⟩ | ⟨_, h⟩ | ⟨_, h⟩ <;> simp [h]
theorem sg_nn {q : Rat} (h : ¬ q < 0) : sgR q = 0 ∨ sgR q = 1 := by
  rcases sg3 q with ⟨g, _⟩ | ⟨_, g⟩ | ⟨_, g⟩
  · exact absurd g h
  · exact .inl g
  · exact .inr g
section
variable {i j k : Nat} {a b c : Rat}
theorem ref_sg {w : World} {v : Int} (h : Sm j a) (hj : j ≤ 1024) (e : sgR a = v) : Hid (Gw w 60 #[.string (RS a)] (.int .i64 v)) := gw_of fun W => by
  subst e; exact rSignum_c (h.ok hj) W
theorem ref_ti {w : World} (hq : Sm j a) (hr : Sm k b) (h : j + k ≤ 1024) : Hid (Gw w 90 #[.string (RS a), .string (RS b)] (.string (RS (a * b)))) := gw_of fun W => rtimes2 hq hr h W
theorem ref_or {w : World} (hq : Sm j a) (hr : Sm k b) (h : j + k ≤ 1024) : Hid (Gw w 95 #[.string (RS a), .string (RS b)] (.int .i64 (cmR a b))) := gw_of fun W => rorder2 hq hr h W
theorem rRoot_c (ha : Sm i a) (hb : Sm j b) (hc : Sm k c) (h : i + i + (j + j + k) ≤ 1024) (hn : ¬ c < 0) (w : World) :
    Calls Tryz.prog 101 #[.string (RS a), .string (RS b), .string (RS c)] w fun r0 w' => r0 = .returned (.int .i64 (rootV a b c)) ∧ Kp [] w w' := by
  have g : ∀ s t u : Int, sgR a = s → sgR b = t → sgR c = u → rootV a b c = stV s (t * u) (cmR (a * a) (b * b * c)) := by
    intro s t u h1 h2 h3; unfold rootV; rw [h1, h2, h3]
  have pa : ∀ v, sgR a = v → _ := fun v e => ref_sg (w := w) ha (by omega) e
  have pb : ∀ v, sgR b = v → _ := fun v e => ref_sg (w := w) hb (by omega) e
  have pc : ∀ v, sgR c = v → _ := fun v e => ref_sg (w := w) hc (by omega) e
  have m1 := ref_ti (w := w) ha ha (by omega)
  have m2 := ref_ti (w := w) hb hb (by omega)
  have m3 := ref_ti (w := w) (hb.mul hb) hc (by omega)
  have o := ref_or (w := w) (ha.mul ha) ((hb.mul hb).mul hc) (by omega)
  rcases sg_mem a with ea | ea | ea <;> rcases sg_mem b with eb | eb | eb <;> rcases sg_nn hn with ec | ec <;> rw [g _ _ _ ea eb ec]
  · exact rRoot_m_m_0 _ _ _ w (pa _ ea) (pb _ eb) (pc _ ec)
  · exact rRoot_m_m_1 _ _ _ w (pa _ ea) (pb _ eb) (pc _ ec)
  · exact rRoot_m_0_0 _ _ _ w (pa _ ea) (pb _ eb) (pc _ ec)
  · exact rRoot_m_0_1 _ _ _ w (pa _ ea) (pb _ eb) (pc _ ec)
  · exact rRoot_m_1_0 _ _ _ w (pa _ ea) (pb _ eb) (pc _ ec)
  · exact rRoot_m_1_1 _ _ _ _ _ _ _ w (cm3 _ _) (pa _ ea) (pb _ eb) (pc _ ec) m1 m2 m3 o
  · exact rRoot_0_m_0 _ _ _ w (pa _ ea) (pb _ eb) (pc _ ec)
  · exact rRoot_0_m_1 _ _ _ w (pa _ ea) (pb _ eb) (pc _ ec)
  · exact rRoot_0_0_0 _ _ _ w (pa _ ea) (pb _ eb) (pc _ ec)
  · exact rRoot_0_0_1 _ _ _ w (pa _ ea) (pb _ eb) (pc _ ec)
  · exact rRoot_0_1_0 _ _ _ w (pa _ ea) (pb _ eb) (pc _ ec)
  · exact rRoot_0_1_1 _ _ _ w (pa _ ea) (pb _ eb) (pc _ ec)
  · exact rRoot_1_m_0 _ _ _ w (pa _ ea) (pb _ eb) (pc _ ec)
  · exact rRoot_1_m_1 _ _ _ _ _ _ _ w (cm3 _ _) (pa _ ea) (pb _ eb) (pc _ ec) m1 m2 m3 o
  · exact rRoot_1_0_0 _ _ _ w (pa _ ea) (pb _ eb) (pc _ ec)
  · exact rRoot_1_0_1 _ _ _ w (pa _ ea) (pb _ eb) (pc _ ec)
  · exact rRoot_1_1_0 _ _ _ w (pa _ ea) (pb _ eb) (pc _ ec)
  · exact rRoot_1_1_1 _ _ _ w (pa _ ea) (pb _ eb) (pc _ ec)
end
end Go.Proofs.YtminjcknmhgpiaaGreatDoor

/- Roots of the reference of layer 2. -/
namespace Go.Proofs.YtminjcknmhgpiaaGreatDoor
open Go.RowKit
open Go.Lib (nDigits itoa decDigits)

set_option maxRecDepth 100000 in
set_option maxHeartbeats 4000000 in
theorem rRoots_m_m_0 (a b c d e : ByteArray) (w : World) (r : Hid (Gw w 101 #[.string a, .string b, .string c] (.int .i64 (-1)))) (sd : Hid (Gw w 60 #[.string d] (.int .i64 (-1)))) (se : Hid (Gw w 60 #[.string e] (.int .i64 0))) :
    Calls Tryz.prog 104 #[.string a, .string b, .string c, .string d, .string e] w fun r0 w' => r0 = .returned (.int .i64 (-1)) ∧ Kp [] w w' := by
  unfold Gw at r sd se
  have kk := Kp.refl [] w
  go_enter Tryz.func104, Tryz.ntmps104
  go_wp2_with fail
  with_reducible refine (r.out _ kk).mono ?_
  rintro e w1 ⟨rfl, k⟩
  replace kk := kk.trans k; clear k
  go_wp2_with fail
  with_reducible refine (sd.out _ kk).mono ?_
  rintro e w2 ⟨rfl, k⟩
  replace kk := kk.trans k; clear k
  go_wp2_with fail
  with_reducible refine (se.out _ kk).mono ?_
  rintro e w3 ⟨rfl, k⟩
  replace kk := kk.trans k; clear k
  go_wp2
  go_ret
  exact ⟨rfl, kk⟩

set_option maxRecDepth 100000 in
set_option maxHeartbeats 4000000 in
theorem rRoots_m_m_1 (a b c d e : ByteArray) (w : World) (r : Hid (Gw w 101 #[.string a, .string b, .string c] (.int .i64 (-1)))) (sd : Hid (Gw w 60 #[.string d] (.int .i64 (-1)))) (se : Hid (Gw w 60 #[.string e] (.int .i64 1))) :
    Calls Tryz.prog 104 #[.string a, .string b, .string c, .string d, .string e] w fun r0 w' => r0 = .returned (.int .i64 (-1)) ∧ Kp [] w w' := by
  unfold Gw at r sd se
  have kk := Kp.refl [] w
  go_enter Tryz.func104, Tryz.ntmps104
  go_wp2_with fail
  with_reducible refine (r.out _ kk).mono ?_
  rintro e w1 ⟨rfl, k⟩
  replace kk := kk.trans k; clear k
  go_wp2_with fail
  with_reducible refine (sd.out _ kk).mono ?_
  rintro e w2 ⟨rfl, k⟩
  replace kk := kk.trans k; clear k
  go_wp2_with fail
  with_reducible refine (se.out _ kk).mono ?_
  rintro e w3 ⟨rfl, k⟩
  replace kk := kk.trans k; clear k
  go_wp2
  go_ret
  exact ⟨rfl, kk⟩

set_option maxRecDepth 100000 in
set_option maxHeartbeats 4000000 in
theorem rRoots_m_0_0 (a b c d e : ByteArray) (w : World) (r : Hid (Gw w 101 #[.string a, .string b, .string c] (.int .i64 (-1)))) (sd : Hid (Gw w 60 #[.string d] (.int .i64 0))) (se : Hid (Gw w 60 #[.string e] (.int .i64 0))) :
    Calls Tryz.prog 104 #[.string a, .string b, .string c, .string d, .string e] w fun r0 w' => r0 = .returned (.int .i64 (-1)) ∧ Kp [] w w' := by
  unfold Gw at r sd se
  have kk := Kp.refl [] w
  go_enter Tryz.func104, Tryz.ntmps104
  go_wp2_with fail
  with_reducible refine (r.out _ kk).mono ?_
  rintro e w1 ⟨rfl, k⟩
  replace kk := kk.trans k; clear k
  go_wp2_with fail
  with_reducible refine (sd.out _ kk).mono ?_
  rintro e w2 ⟨rfl, k⟩
  replace kk := kk.trans k; clear k
  go_wp2_with fail
  with_reducible refine (se.out _ kk).mono ?_
  rintro e w3 ⟨rfl, k⟩
  replace kk := kk.trans k; clear k
  go_wp2
  go_ret
  exact ⟨rfl, kk⟩

set_option maxRecDepth 100000 in
set_option maxHeartbeats 4000000 in
theorem rRoots_m_0_1 (a b c d e : ByteArray) (w : World) (r : Hid (Gw w 101 #[.string a, .string b, .string c] (.int .i64 (-1)))) (sd : Hid (Gw w 60 #[.string d] (.int .i64 0))) (se : Hid (Gw w 60 #[.string e] (.int .i64 1))) :
    Calls Tryz.prog 104 #[.string a, .string b, .string c, .string d, .string e] w fun r0 w' => r0 = .returned (.int .i64 (-1)) ∧ Kp [] w w' := by
  unfold Gw at r sd se
  have kk := Kp.refl [] w
  go_enter Tryz.func104, Tryz.ntmps104
  go_wp2_with fail
  with_reducible refine (r.out _ kk).mono ?_
  rintro e w1 ⟨rfl, k⟩
  replace kk := kk.trans k; clear k
  go_wp2_with fail
  with_reducible refine (sd.out _ kk).mono ?_
  rintro e w2 ⟨rfl, k⟩
  replace kk := kk.trans k; clear k
  go_wp2_with fail
  with_reducible refine (se.out _ kk).mono ?_
  rintro e w3 ⟨rfl, k⟩
  replace kk := kk.trans k; clear k
  go_wp2
  go_ret
  exact ⟨rfl, kk⟩

set_option maxRecDepth 100000 in
set_option maxHeartbeats 4000000 in
theorem rRoots_m_1_0 (a b c d e : ByteArray) (w : World) (r : Hid (Gw w 101 #[.string a, .string b, .string c] (.int .i64 (-1)))) (sd : Hid (Gw w 60 #[.string d] (.int .i64 1))) (se : Hid (Gw w 60 #[.string e] (.int .i64 0))) :
    Calls Tryz.prog 104 #[.string a, .string b, .string c, .string d, .string e] w fun r0 w' => r0 = .returned (.int .i64 (-1)) ∧ Kp [] w w' := by
  unfold Gw at r sd se
  have kk := Kp.refl [] w
  go_enter Tryz.func104, Tryz.ntmps104
  go_wp2_with fail
  with_reducible refine (r.out _ kk).mono ?_
  rintro e w1 ⟨rfl, k⟩
  replace kk := kk.trans k; clear k
  go_wp2_with fail
  with_reducible refine (sd.out _ kk).mono ?_
  rintro e w2 ⟨rfl, k⟩
  replace kk := kk.trans k; clear k
  go_wp2_with fail
  with_reducible refine (se.out _ kk).mono ?_
  rintro e w3 ⟨rfl, k⟩
  replace kk := kk.trans k; clear k
  go_wp2
  go_ret
  exact ⟨rfl, kk⟩

set_option maxRecDepth 100000 in
set_option maxHeartbeats 4000000 in
theorem rRoots_m_1_1 (a b c d e x y z s0 y1 z1 s1 ab ab2 : ByteArray) (v : Int) (w : World) (hv : -1 ≤ v ∧ v ≤ 1) (r : Hid (Gw w 101 #[.string a, .string b, .string c] (.int .i64 (-1)))) (sd : Hid (Gw w 60 #[.string d] (.int .i64 1))) (se : Hid (Gw w 60 #[.string e] (.int .i64 1))) (m1 : Hid (Gw w 90 #[.string a, .string a] (.string x))) (m2 : Hid (Gw w 90 #[.string b, .string b] (.string y))) (m3 : Hid (Gw w 90 #[.string y, .string c] (.string z))) (p : Hid (Gw w 85 #[.string x, .string z] (.string s0))) (m4 : Hid (Gw w 90 #[.string d, .string d] (.string y1))) (m5 : Hid (Gw w 90 #[.string y1, .string e] (.string z1))) (mi : Hid (Gw w 88 #[.string s0, .string z1] (.string s1))) (m6 : Hid (Gw w 90 #[.string a, .string b] (.string ab))) (m7 : Hid (Gw w 90 #[.string ⟨#[50]⟩, .string ab] (.string ab2))) (r2 : Hid (Gw w 101 #[.string s1, .string ab2, .string c] (.int .i64 v))) :
    Calls Tryz.prog 104 #[.string a, .string b, .string c, .string d, .string e] w fun r0 w' => r0 = .returned (.int .i64 ((-1) * v)) ∧ Kp [] w w' := by
  obtain ⟨hv1, hv2⟩ := hv
  unfold Gw at r sd se m1 m2 m3 p m4 m5 mi m6 m7 r2
  have kk := Kp.refl [] w
  go_enter Tryz.func104, Tryz.ntmps104
  go_wp2_with fail
  with_reducible refine (r.out _ kk).mono ?_
  rintro e w1 ⟨rfl, k⟩
  replace kk := kk.trans k; clear k
  go_wp2_with fail
  with_reducible refine (sd.out _ kk).mono ?_
  rintro e w2 ⟨rfl, k⟩
  replace kk := kk.trans k; clear k
  go_wp2_with fail
  with_reducible refine (se.out _ kk).mono ?_
  rintro e w3 ⟨rfl, k⟩
  replace kk := kk.trans k; clear k
  go_wp2_with fail
  with_reducible refine (m1.out _ kk).mono ?_
  rintro e w4 ⟨rfl, k⟩
  replace kk := kk.trans k; clear k
  go_wp2_with fail
  with_reducible refine (m2.out _ kk).mono ?_
  rintro e w5 ⟨rfl, k⟩
  replace kk := kk.trans k; clear k
  go_wp2_with fail
  with_reducible refine (m3.out _ kk).mono ?_
  rintro e w6 ⟨rfl, k⟩
  replace kk := kk.trans k; clear k
  go_wp2_with fail
  with_reducible refine (p.out _ kk).mono ?_
  rintro e w7 ⟨rfl, k⟩
  replace kk := kk.trans k; clear k
  go_wp2_with fail
  with_reducible refine (m4.out _ kk).mono ?_
  rintro e w8 ⟨rfl, k⟩
  replace kk := kk.trans k; clear k
  go_wp2_with fail
  with_reducible refine (m5.out _ kk).mono ?_
  rintro e w9 ⟨rfl, k⟩
  replace kk := kk.trans k; clear k
  go_wp2_with fail
  with_reducible refine (mi.out _ kk).mono ?_
  rintro e w10 ⟨rfl, k⟩
  replace kk := kk.trans k; clear k
  go_wp2_with fail
  with_reducible refine (m6.out _ kk).mono ?_
  rintro e w11 ⟨rfl, k⟩
  replace kk := kk.trans k; clear k
  go_wp2_with fail
  with_reducible refine (m7.out _ kk).mono ?_
  rintro e w12 ⟨rfl, k⟩
  replace kk := kk.trans k; clear k
  go_wp2_with fail
  with_reducible refine (r2.out _ kk).mono ?_
  rintro e w13 ⟨rfl, k⟩
  replace kk := kk.trans k; clear k
  go_wp2
  go_ret
  exact ⟨by first | rfl | (rw [show ((-1) : Int) * v = -v from by omega]; rfl), kk⟩

set_option maxRecDepth 100000 in
set_option maxHeartbeats 4000000 in
theorem rRoots_0_m_0 (a b c d e : ByteArray) (w : World) (r : Hid (Gw w 101 #[.string a, .string b, .string c] (.int .i64 0))) (sd : Hid (Gw w 60 #[.string d] (.int .i64 (-1)))) (se : Hid (Gw w 60 #[.string e] (.int .i64 0))) :
    Calls Tryz.prog 104 #[.string a, .string b, .string c, .string d, .string e] w fun r0 w' => r0 = .returned (.int .i64 0) ∧ Kp [] w w' := by
  unfold Gw at r sd se
  have kk := Kp.refl [] w
  go_enter Tryz.func104, Tryz.ntmps104
  go_wp2_with fail
  with_reducible refine (r.out _ kk).mono ?_
  rintro e w1 ⟨rfl, k⟩
  replace kk := kk.trans k; clear k
  go_wp2_with fail
  with_reducible refine (sd.out _ kk).mono ?_
  rintro e w2 ⟨rfl, k⟩
  replace kk := kk.trans k; clear k
  go_wp2_with fail
  with_reducible refine (se.out _ kk).mono ?_
  rintro e w3 ⟨rfl, k⟩
  replace kk := kk.trans k; clear k
  go_wp2
  go_ret
  exact ⟨rfl, kk⟩

set_option maxRecDepth 100000 in
set_option maxHeartbeats 4000000 in
theorem rRoots_0_m_1 (a b c d e : ByteArray) (w : World) (r : Hid (Gw w 101 #[.string a, .string b, .string c] (.int .i64 0))) (sd : Hid (Gw w 60 #[.string d] (.int .i64 (-1)))) (se : Hid (Gw w 60 #[.string e] (.int .i64 1))) :
    Calls Tryz.prog 104 #[.string a, .string b, .string c, .string d, .string e] w fun r0 w' => r0 = .returned (.int .i64 (-1)) ∧ Kp [] w w' := by
  unfold Gw at r sd se
  have kk := Kp.refl [] w
  go_enter Tryz.func104, Tryz.ntmps104
  go_wp2_with fail
  with_reducible refine (r.out _ kk).mono ?_
  rintro e w1 ⟨rfl, k⟩
  replace kk := kk.trans k; clear k
  go_wp2_with fail
  with_reducible refine (sd.out _ kk).mono ?_
  rintro e w2 ⟨rfl, k⟩
  replace kk := kk.trans k; clear k
  go_wp2_with fail
  with_reducible refine (se.out _ kk).mono ?_
  rintro e w3 ⟨rfl, k⟩
  replace kk := kk.trans k; clear k
  go_wp2
  go_ret
  exact ⟨rfl, kk⟩

set_option maxRecDepth 100000 in
set_option maxHeartbeats 4000000 in
theorem rRoots_0_0_0 (a b c d e : ByteArray) (w : World) (r : Hid (Gw w 101 #[.string a, .string b, .string c] (.int .i64 0))) (sd : Hid (Gw w 60 #[.string d] (.int .i64 0))) (se : Hid (Gw w 60 #[.string e] (.int .i64 0))) :
    Calls Tryz.prog 104 #[.string a, .string b, .string c, .string d, .string e] w fun r0 w' => r0 = .returned (.int .i64 0) ∧ Kp [] w w' := by
  unfold Gw at r sd se
  have kk := Kp.refl [] w
  go_enter Tryz.func104, Tryz.ntmps104
  go_wp2_with fail
  with_reducible refine (r.out _ kk).mono ?_
  rintro e w1 ⟨rfl, k⟩
  replace kk := kk.trans k; clear k
  go_wp2_with fail
  with_reducible refine (sd.out _ kk).mono ?_
  rintro e w2 ⟨rfl, k⟩
  replace kk := kk.trans k; clear k
  go_wp2_with fail
  with_reducible refine (se.out _ kk).mono ?_
  rintro e w3 ⟨rfl, k⟩
  replace kk := kk.trans k; clear k
  go_wp2
  go_ret
  exact ⟨rfl, kk⟩

set_option maxRecDepth 100000 in
set_option maxHeartbeats 4000000 in
theorem rRoots_0_0_1 (a b c d e : ByteArray) (w : World) (r : Hid (Gw w 101 #[.string a, .string b, .string c] (.int .i64 0))) (sd : Hid (Gw w 60 #[.string d] (.int .i64 0))) (se : Hid (Gw w 60 #[.string e] (.int .i64 1))) :
    Calls Tryz.prog 104 #[.string a, .string b, .string c, .string d, .string e] w fun r0 w' => r0 = .returned (.int .i64 0) ∧ Kp [] w w' := by
  unfold Gw at r sd se
  have kk := Kp.refl [] w
  go_enter Tryz.func104, Tryz.ntmps104
  go_wp2_with fail
  with_reducible refine (r.out _ kk).mono ?_
  rintro e w1 ⟨rfl, k⟩
  replace kk := kk.trans k; clear k
  go_wp2_with fail
  with_reducible refine (sd.out _ kk).mono ?_
  rintro e w2 ⟨rfl, k⟩
  replace kk := kk.trans k; clear k
  go_wp2_with fail
  with_reducible refine (se.out _ kk).mono ?_
  rintro e w3 ⟨rfl, k⟩
  replace kk := kk.trans k; clear k
  go_wp2
  go_ret
  exact ⟨rfl, kk⟩

set_option maxRecDepth 100000 in
set_option maxHeartbeats 4000000 in
theorem rRoots_0_1_0 (a b c d e : ByteArray) (w : World) (r : Hid (Gw w 101 #[.string a, .string b, .string c] (.int .i64 0))) (sd : Hid (Gw w 60 #[.string d] (.int .i64 1))) (se : Hid (Gw w 60 #[.string e] (.int .i64 0))) :
    Calls Tryz.prog 104 #[.string a, .string b, .string c, .string d, .string e] w fun r0 w' => r0 = .returned (.int .i64 0) ∧ Kp [] w w' := by
  unfold Gw at r sd se
  have kk := Kp.refl [] w
  go_enter Tryz.func104, Tryz.ntmps104
  go_wp2_with fail
  with_reducible refine (r.out _ kk).mono ?_
  rintro e w1 ⟨rfl, k⟩
  replace kk := kk.trans k; clear k
  go_wp2_with fail
  with_reducible refine (sd.out _ kk).mono ?_
  rintro e w2 ⟨rfl, k⟩
  replace kk := kk.trans k; clear k
  go_wp2_with fail
  with_reducible refine (se.out _ kk).mono ?_
  rintro e w3 ⟨rfl, k⟩
  replace kk := kk.trans k; clear k
  go_wp2
  go_ret
  exact ⟨rfl, kk⟩

set_option maxRecDepth 100000 in
set_option maxHeartbeats 4000000 in
theorem rRoots_0_1_1 (a b c d e : ByteArray) (w : World) (r : Hid (Gw w 101 #[.string a, .string b, .string c] (.int .i64 0))) (sd : Hid (Gw w 60 #[.string d] (.int .i64 1))) (se : Hid (Gw w 60 #[.string e] (.int .i64 1))) :
    Calls Tryz.prog 104 #[.string a, .string b, .string c, .string d, .string e] w fun r0 w' => r0 = .returned (.int .i64 1) ∧ Kp [] w w' := by
  unfold Gw at r sd se
  have kk := Kp.refl [] w
  go_enter Tryz.func104, Tryz.ntmps104
  go_wp2_with fail
  with_reducible refine (r.out _ kk).mono ?_
  rintro e w1 ⟨rfl, k⟩
  replace kk := kk.trans k; clear k
  go_wp2_with fail
  with_reducible refine (sd.out _ kk).mono ?_
  rintro e w2 ⟨rfl, k⟩
  replace kk := kk.trans k; clear k
  go_wp2_with fail
  with_reducible refine (se.out _ kk).mono ?_
  rintro e w3 ⟨rfl, k⟩
  replace kk := kk.trans k; clear k
  go_wp2
  go_ret
  exact ⟨rfl, kk⟩

set_option maxRecDepth 100000 in
set_option maxHeartbeats 4000000 in
theorem rRoots_1_m_0 (a b c d e : ByteArray) (w : World) (r : Hid (Gw w 101 #[.string a, .string b, .string c] (.int .i64 1))) (sd : Hid (Gw w 60 #[.string d] (.int .i64 (-1)))) (se : Hid (Gw w 60 #[.string e] (.int .i64 0))) :
    Calls Tryz.prog 104 #[.string a, .string b, .string c, .string d, .string e] w fun r0 w' => r0 = .returned (.int .i64 1) ∧ Kp [] w w' := by
  unfold Gw at r sd se
  have kk := Kp.refl [] w
  go_enter Tryz.func104, Tryz.ntmps104
  go_wp2_with fail
  with_reducible refine (r.out _ kk).mono ?_
  rintro e w1 ⟨rfl, k⟩
  replace kk := kk.trans k; clear k
  go_wp2_with fail
  with_reducible refine (sd.out _ kk).mono ?_
  rintro e w2 ⟨rfl, k⟩
  replace kk := kk.trans k; clear k
  go_wp2_with fail
  with_reducible refine (se.out _ kk).mono ?_
  rintro e w3 ⟨rfl, k⟩
  replace kk := kk.trans k; clear k
  go_wp2
  go_ret
  exact ⟨rfl, kk⟩

set_option maxRecDepth 100000 in
set_option maxHeartbeats 4000000 in
theorem rRoots_1_m_1 (a b c d e x y z s0 y1 z1 s1 ab ab2 : ByteArray) (v : Int) (w : World) (hv : -1 ≤ v ∧ v ≤ 1) (r : Hid (Gw w 101 #[.string a, .string b, .string c] (.int .i64 1))) (sd : Hid (Gw w 60 #[.string d] (.int .i64 (-1)))) (se : Hid (Gw w 60 #[.string e] (.int .i64 1))) (m1 : Hid (Gw w 90 #[.string a, .string a] (.string x))) (m2 : Hid (Gw w 90 #[.string b, .string b] (.string y))) (m3 : Hid (Gw w 90 #[.string y, .string c] (.string z))) (p : Hid (Gw w 85 #[.string x, .string z] (.string s0))) (m4 : Hid (Gw w 90 #[.string d, .string d] (.string y1))) (m5 : Hid (Gw w 90 #[.string y1, .string e] (.string z1))) (mi : Hid (Gw w 88 #[.string s0, .string z1] (.string s1))) (m6 : Hid (Gw w 90 #[.string a, .string b] (.string ab))) (m7 : Hid (Gw w 90 #[.string ⟨#[50]⟩, .string ab] (.string ab2))) (r2 : Hid (Gw w 101 #[.string s1, .string ab2, .string c] (.int .i64 v))) :
    Calls Tryz.prog 104 #[.string a, .string b, .string c, .string d, .string e] w fun r0 w' => r0 = .returned (.int .i64 (1 * v)) ∧ Kp [] w w' := by
  obtain ⟨hv1, hv2⟩ := hv
  unfold Gw at r sd se m1 m2 m3 p m4 m5 mi m6 m7 r2
  have kk := Kp.refl [] w
  go_enter Tryz.func104, Tryz.ntmps104
  go_wp2_with fail
  with_reducible refine (r.out _ kk).mono ?_
  rintro e w1 ⟨rfl, k⟩
  replace kk := kk.trans k; clear k
  go_wp2_with fail
  with_reducible refine (sd.out _ kk).mono ?_
  rintro e w2 ⟨rfl, k⟩
  replace kk := kk.trans k; clear k
  go_wp2_with fail
  with_reducible refine (se.out _ kk).mono ?_
  rintro e w3 ⟨rfl, k⟩
  replace kk := kk.trans k; clear k
  go_wp2_with fail
  with_reducible refine (m1.out _ kk).mono ?_
  rintro e w4 ⟨rfl, k⟩
  replace kk := kk.trans k; clear k
  go_wp2_with fail
  with_reducible refine (m2.out _ kk).mono ?_
  rintro e w5 ⟨rfl, k⟩
  replace kk := kk.trans k; clear k
  go_wp2_with fail
  with_reducible refine (m3.out _ kk).mono ?_
  rintro e w6 ⟨rfl, k⟩
  replace kk := kk.trans k; clear k
  go_wp2_with fail
  with_reducible refine (p.out _ kk).mono ?_
  rintro e w7 ⟨rfl, k⟩
  replace kk := kk.trans k; clear k
  go_wp2_with fail
  with_reducible refine (m4.out _ kk).mono ?_
  rintro e w8 ⟨rfl, k⟩
  replace kk := kk.trans k; clear k
  go_wp2_with fail
  with_reducible refine (m5.out _ kk).mono ?_
  rintro e w9 ⟨rfl, k⟩
  replace kk := kk.trans k; clear k
  go_wp2_with fail
  with_reducible refine (mi.out _ kk).mono ?_
  rintro e w10 ⟨rfl, k⟩
  replace kk := kk.trans k; clear k
  go_wp2_with fail
  with_reducible refine (m6.out _ kk).mono ?_
  rintro e w11 ⟨rfl, k⟩
  replace kk := kk.trans k; clear k
  go_wp2_with fail
  with_reducible refine (m7.out _ kk).mono ?_
  rintro e w12 ⟨rfl, k⟩
  replace kk := kk.trans k; clear k
  go_wp2_with fail
  with_reducible refine (r2.out _ kk).mono ?_
  rintro e w13 ⟨rfl, k⟩
  replace kk := kk.trans k; clear k
  go_wp2
  go_ret
  exact ⟨by first | rfl | (rw [show (1 : Int) * v = v from by omega]; rfl), kk⟩

set_option maxRecDepth 100000 in
set_option maxHeartbeats 4000000 in
theorem rRoots_1_0_0 (a b c d e : ByteArray) (w : World) (r : Hid (Gw w 101 #[.string a, .string b, .string c] (.int .i64 1))) (sd : Hid (Gw w 60 #[.string d] (.int .i64 0))) (se : Hid (Gw w 60 #[.string e] (.int .i64 0))) :
    Calls Tryz.prog 104 #[.string a, .string b, .string c, .string d, .string e] w fun r0 w' => r0 = .returned (.int .i64 1) ∧ Kp [] w w' := by
  unfold Gw at r sd se
  have kk := Kp.refl [] w
  go_enter Tryz.func104, Tryz.ntmps104
  go_wp2_with fail
  with_reducible refine (r.out _ kk).mono ?_
  rintro e w1 ⟨rfl, k⟩
  replace kk := kk.trans k; clear k
  go_wp2_with fail
  with_reducible refine (sd.out _ kk).mono ?_
  rintro e w2 ⟨rfl, k⟩
  replace kk := kk.trans k; clear k
  go_wp2_with fail
  with_reducible refine (se.out _ kk).mono ?_
  rintro e w3 ⟨rfl, k⟩
  replace kk := kk.trans k; clear k
  go_wp2
  go_ret
  exact ⟨rfl, kk⟩

set_option maxRecDepth 100000 in
set_option maxHeartbeats 4000000 in
theorem rRoots_1_0_1 (a b c d e : ByteArray) (w : World) (r : Hid (Gw w 101 #[.string a, .string b, .string c] (.int .i64 1))) (sd : Hid (Gw w 60 #[.string d] (.int .i64 0))) (se : Hid (Gw w 60 #[.string e] (.int .i64 1))) :
    Calls Tryz.prog 104 #[.string a, .string b, .string c, .string d, .string e] w fun r0 w' => r0 = .returned (.int .i64 1) ∧ Kp [] w w' := by
  unfold Gw at r sd se
  have kk := Kp.refl [] w
  go_enter Tryz.func104, Tryz.ntmps104
  go_wp2_with fail
  with_reducible refine (r.out _ kk).mono ?_
  rintro e w1 ⟨rfl, k⟩
  replace kk := kk.trans k; clear k
  go_wp2_with fail
  with_reducible refine (sd.out _ kk).mono ?_
  rintro e w2 ⟨rfl, k⟩
  replace kk := kk.trans k; clear k
  go_wp2_with fail
  with_reducible refine (se.out _ kk).mono ?_
  rintro e w3 ⟨rfl, k⟩
  replace kk := kk.trans k; clear k
  go_wp2
  go_ret
  exact ⟨rfl, kk⟩

set_option maxRecDepth 100000 in
set_option maxHeartbeats 4000000 in
theorem rRoots_1_1_0 (a b c d e : ByteArray) (w : World) (r : Hid (Gw w 101 #[.string a, .string b, .string c] (.int .i64 1))) (sd : Hid (Gw w 60 #[.string d] (.int .i64 1))) (se : Hid (Gw w 60 #[.string e] (.int .i64 0))) :
    Calls Tryz.prog 104 #[.string a, .string b, .string c, .string d, .string e] w fun r0 w' => r0 = .returned (.int .i64 1) ∧ Kp [] w w' := by
  unfold Gw at r sd se
  have kk := Kp.refl [] w
  go_enter Tryz.func104, Tryz.ntmps104
  go_wp2_with fail
  with_reducible refine (r.out _ kk).mono ?_
  rintro e w1 ⟨rfl, k⟩
  replace kk := kk.trans k; clear k
  go_wp2_with fail
  with_reducible refine (sd.out _ kk).mono ?_
  rintro e w2 ⟨rfl, k⟩
  replace kk := kk.trans k; clear k
  go_wp2_with fail
  with_reducible refine (se.out _ kk).mono ?_
  rintro e w3 ⟨rfl, k⟩
  replace kk := kk.trans k; clear k
  go_wp2
  go_ret
  exact ⟨rfl, kk⟩

set_option maxRecDepth 100000 in
set_option maxHeartbeats 4000000 in
theorem rRoots_1_1_1 (a b c d e : ByteArray) (w : World) (r : Hid (Gw w 101 #[.string a, .string b, .string c] (.int .i64 1))) (sd : Hid (Gw w 60 #[.string d] (.int .i64 1))) (se : Hid (Gw w 60 #[.string e] (.int .i64 1))) :
    Calls Tryz.prog 104 #[.string a, .string b, .string c, .string d, .string e] w fun r0 w' => r0 = .returned (.int .i64 1) ∧ Kp [] w w' := by
  unfold Gw at r sd se
  have kk := Kp.refl [] w
  go_enter Tryz.func104, Tryz.ntmps104
  go_wp2_with fail
  with_reducible refine (r.out _ kk).mono ?_
  rintro e w1 ⟨rfl, k⟩
  replace kk := kk.trans k; clear k
  go_wp2_with fail
  with_reducible refine (sd.out _ kk).mono ?_
  rintro e w2 ⟨rfl, k⟩
  replace kk := kk.trans k; clear k
  go_wp2_with fail
  with_reducible refine (se.out _ kk).mono ?_
  rintro e w3 ⟨rfl, k⟩
  replace kk := kk.trans k; clear k
  go_wp2
  go_ret
  exact ⟨rfl, kk⟩

theorem stV_mem {s t o : Int} (hs : s = -1 ∨ s = 0 ∨ s = 1) (ht : t = -1 ∨ t = 0 ∨ t = 1) (ho : -1 ≤ o ∧ o ≤ 1) : stV s t o = -1 ∨ stV s t o = 0 ∨ stV s t o = 1 := by
  obtain ⟨h1, h2⟩ := ho
  rcases hs with rfl | rfl | rfl <;> rcases ht with rfl | rfl | rfl <;> unfold stV <;> simp <;> omega
theorem mul_mem {s t : Int} (hs : s = -1 ∨ s = 0 ∨ s = 1) (ht : t = -1 ∨ t = 0 ∨ t = 1) : s * t = -1 ∨ s * t = 0 ∨ s * t = 1 := by
  rcases hs with rfl | rfl | rfl <;> rcases ht with rfl | rfl | rfl <;> simp
theorem root_mem (a b c : Rat) : rootV a b c = -1 ∨ rootV a b c = 0 ∨ rootV a b c = 1 := stV_mem (sg_mem a) (mul_mem (sg_mem b) (sg_mem c)) (cm3 _ _)
theorem mem_le {s : Int} (h : s = -1 ∨ s = 0 ∨ s = 1) : -1 ≤ s ∧ s ≤ 1 := by rcases h with rfl | rfl | rfl <;> exact ⟨by decide, by decide⟩
/-- as the reference has it -/
def rootsW (a b c d e : Rat) : Int := stV (rootV a b c) (sgR d * sgR e) (rootV (a * a + b * b * c - d * d * e) (2 * (a * b)) c)
theorem sgR_mul (p q : Rat) : sgR (p * q) = sgR p * sgR q := by
  rcases sg3 p with ⟨h, e⟩ | ⟨h, e⟩ | ⟨h, e⟩ <;> rcases sg3 q with ⟨g, f⟩ | ⟨g, f⟩ | ⟨g, f⟩ <;> rw [e, f]
  · have := Rat.mul_pos (a := -p) (b := -q) (by grind) (by grind)
    exact sg_pos (by grind)
  · subst g; rw [Rat.mul_zero]; exact sg_zero
  · have := Rat.mul_pos (a := -p) (b := q) (by grind) g
    exact sg_neg (by grind)
  · subst h; rw [Rat.zero_mul]; exact sg_zero
  · subst h; rw [Rat.zero_mul]; exact sg_zero
  · subst h; rw [Rat.zero_mul]; exact sg_zero
  · have := Rat.mul_pos (a := p) (b := -q) h (by grind)
    exact sg_neg (by grind)
  · subst g; rw [Rat.mul_zero]; exact sg_zero
  · exact sg_pos (Rat.mul_pos h g)
theorem sq_nn (a : Rat) : 0 ≤ a * a := by
  rcases sg3 a with ⟨h, _⟩ | ⟨h, _⟩ | ⟨h, _⟩
  · have := Rat.mul_pos (a := -a) (b := -a) (by grind) (by grind); grind
  · subst h; rw [Rat.mul_zero]; exact Rat.le_refl
  · have := Rat.mul_pos h h; grind
theorem sg_sq (a : Rat) : sgR a = 0 ∧ a * a = 0 ∨ (sgR a = 1 ∨ sgR a = -1) ∧ a * a ≠ 0 := by
  rcases sg3 a with ⟨h, e⟩ | ⟨h, e⟩ | ⟨h, e⟩
  · have := Rat.mul_pos (a := -a) (b := -a) (by grind) (by grind); exact .inr ⟨.inr e, by grind⟩
  · subst h; exact .inl ⟨e, Rat.mul_zero _⟩
  · have := Rat.mul_pos h h; exact .inr ⟨.inl e, by grind⟩
theorem sg_sqc (b c : Rat) (hc : ¬ c < 0) : sgR b * sgR c = 0 ∧ b * b * c = 0 ∨ (sgR b * sgR c = 1 ∨ sgR b * sgR c = -1) ∧ b * b * c ≠ 0 := by
  rcases sg3 c with ⟨h, _⟩ | ⟨h, e⟩ | ⟨h, e⟩
  · exact absurd h hc
  · subst h; exact .inl ⟨by rw [e, Int.mul_zero], Rat.mul_zero _⟩
  · rw [e, Int.mul_one]
    rcases sg_sq b with ⟨h1, h2⟩ | ⟨h1, h2⟩
    · exact .inl ⟨h1, by rw [h2, Rat.zero_mul]⟩
    · refine .inr ⟨h1, fun h3 => ?_⟩
      have h4 := sq_nn b
      have := Rat.mul_pos (a := b * b) (b := c) (by grind) h
      grind
theorem sqc_nn (b c : Rat) (hc : ¬ c < 0) : 0 ≤ b * b * c := Rat.mul_nonneg (sq_nn b) (by grind)
theorem roots_same (a b c d e : Rat) (hc : ¬ c < 0) (he : ¬ e < 0) : rootsV a b c d e = rootsW a b c d e := by
  have h := roots_eq (sq_nn a) (sqc_nn b c hc) (sqc_nn d e he) (sg_sq a) (sg_sqc b c hc) (sg_sqc d e he)
  unfold rootsV rootsW rootV
  rw [sgR_mul (-2) (b * d), sgR_mul b d, sgR_mul c e, sgR_mul 2 (a * b), sgR_mul a b, show sgR (-2) = -1 by decide, show sgR 2 = 1 by decide,
    show (-1 * (sgR b * sgR d) * (sgR c * sgR e) : Int) = -(sgR b * sgR c * (sgR d * sgR e)) by grind, show (1 * (sgR a * sgR b) * sgR c : Int) = sgR a * (sgR b * sgR c) by grind,
    show (-2 * (b * d) * (-2 * (b * d)) * (c * e) : Rat) = 4 * (b * b * c) * (d * d * e) by grind, show (2 * (a * b) * (2 * (a * b)) * c : Rat) = 4 * (a * a) * (b * b * c) by grind]
  exact h
section
variable {a b c d e : Rat}
theorem rRoots_c (ha : Sm 30 a) (hb : Sm 30 b) (hc : Sm 30 c) (hd : Sm 30 d) (he : Sm 30 e) (hn : ¬ c < 0) (hm : ¬ e < 0) (w : World) :
    Calls Tryz.prog 104 #[.string (RS a), .string (RS b), .string (RS c), .string (RS d), .string (RS e)] w fun r0 w' => r0 = .returned (.int .i64 (rootsW a b c d e)) ∧ Kp [] w w' := by
  have g : ∀ s t u : Int, rootV a b c = s → sgR d = t → sgR e = u → rootsW a b c d e = stV s (t * u) (rootV (a * a + b * b * c - d * d * e) (2 * (a * b)) c) := by
    intro s t u h1 h2 h3; unfold rootsW; rw [h1, h2, h3]
  have pa : ∀ v, rootV a b c = v → Hid (Gw w 101 #[.string (RS a), .string (RS b), .string (RS c)] (.int .i64 v)) := fun v e => gw_of fun W => by
    subst e; exact rRoot_c ha hb hc (by omega) hn W
  have pd : ∀ v, sgR d = v → _ := fun v e => ref_sg (w := w) hd (by omega) e
  have pe : ∀ v, sgR e = v → _ := fun v h => ref_sg (w := w) he (by omega) h
  have m1 := ref_ti (w := w) ha ha (by omega)
  have m2 := ref_ti (w := w) hb hb (by omega)
  have m3 := ref_ti (w := w) (hb.mul hb) hc (by omega)
  have p : Hid (Gw w 85 #[.string (RS (a * a)), .string (RS (b * b * c))] (.string (RS (a * a + b * b * c)))) := gw_of fun W => rplus2 (ha.mul ha) ((hb.mul hb).mul hc) (by omega) W
  have m4 := ref_ti (w := w) hd hd (by omega)
  have m5 := ref_ti (w := w) (hd.mul hd) he (by omega)
  have hx := (ha.mul ha).add ((hb.mul hb).mul hc)
  have hy := (hd.mul hd).mul he
  have mi : Hid (Gw w 88 #[.string (RS (a * a + b * b * c)), .string (RS (d * d * e))] (.string (RS (a * a + b * b * c - d * d * e)))) := gw_of fun W => rminus2 hx hy (by omega) W
  have m6 := ref_ti (w := w) ha hb (by omega)
  have h2 : Sm 2 (2 : Rat) := sm_lit (by decide)
  have m7 := ref_ti (w := w) h2 (ha.mul hb) (by omega)
  rw [l_2] at m7
  have r2 : Hid (Gw w 101 #[.string (RS (a * a + b * b * c - d * d * e)), .string (RS (2 * (a * b))), .string (RS c)] (.int .i64 (rootV (a * a + b * b * c - d * d * e) (2 * (a * b)) c))) := gw_of fun W =>
    rRoot_c (hx.sub hy) (h2.mul (ha.mul hb)) hc (by omega) hn W
  rcases root_mem a b c with ea | ea | ea <;> rcases sg_mem d with ed | ed | ed <;> rcases sg_nn hm with ee | ee <;> rw [g _ _ _ ea ed ee]
  · exact rRoots_m_m_0 _ _ _ _ _ w (pa _ ea) (pd _ ed) (pe _ ee)
  · exact rRoots_m_m_1 _ _ _ _ _ w (pa _ ea) (pd _ ed) (pe _ ee)
  · exact rRoots_m_0_0 _ _ _ _ _ w (pa _ ea) (pd _ ed) (pe _ ee)
  · exact rRoots_m_0_1 _ _ _ _ _ w (pa _ ea) (pd _ ed) (pe _ ee)
  · exact rRoots_m_1_0 _ _ _ _ _ w (pa _ ea) (pd _ ed) (pe _ ee)
  · exact rRoots_m_1_1 _ _ _ _ _ _ _ _ _ _ _ _ _ _ _ w (mem_le (root_mem _ _ _)) (pa _ ea) (pd _ ed) (pe _ ee) m1 m2 m3 p m4 m5 mi m6 m7 r2
  · exact rRoots_0_m_0 _ _ _ _ _ w (pa _ ea) (pd _ ed) (pe _ ee)
  · exact rRoots_0_m_1 _ _ _ _ _ w (pa _ ea) (pd _ ed) (pe _ ee)
  · exact rRoots_0_0_0 _ _ _ _ _ w (pa _ ea) (pd _ ed) (pe _ ee)
  · exact rRoots_0_0_1 _ _ _ _ _ w (pa _ ea) (pd _ ed) (pe _ ee)
  · exact rRoots_0_1_0 _ _ _ _ _ w (pa _ ea) (pd _ ed) (pe _ ee)
  · exact rRoots_0_1_1 _ _ _ _ _ w (pa _ ea) (pd _ ed) (pe _ ee)
  · exact rRoots_1_m_0 _ _ _ _ _ w (pa _ ea) (pd _ ed) (pe _ ee)
  · exact rRoots_1_m_1 _ _ _ _ _ _ _ _ _ _ _ _ _ _ _ w (mem_le (root_mem _ _ _)) (pa _ ea) (pd _ ed) (pe _ ee) m1 m2 m3 p m4 m5 mi m6 m7 r2
  · exact rRoots_1_0_0 _ _ _ _ _ w (pa _ ea) (pd _ ed) (pe _ ee)
  · exact rRoots_1_0_1 _ _ _ _ _ w (pa _ ea) (pd _ ed) (pe _ ee)
  · exact rRoots_1_1_0 _ _ _ _ _ w (pa _ ea) (pd _ ed) (pe _ ee)
  · exact rRoots_1_1_1 _ _ _ _ _ w (pa _ ea) (pd _ ed) (pe _ ee)
end
end Go.Proofs.YtminjcknmhgpiaaGreatDoor

/- SignRoot and SignRoots of the reference of layer 2: the walks. -/
namespace Go.Proofs.YtminjcknmhgpiaaGreatDoor
open Go.RowKit
open Go.Lib (nDigits itoa decDigits)

theorem spL_pre : ∀ (ss : List ByteArray) (e : Int), ss.foldl (fun e s => kp e (spE s)) e = kp e (spL ss)
  | [], e => (kp_right e).symm
  | s :: ss, e => by
    unfold spL
    rw [List.foldl_cons, List.foldl_cons, spL_pre ss, spL_pre ss, kp_zero, kp_assoc]
theorem spL_cons (s : ByteArray) (ss : List ByteArray) : spL (s :: ss) = kp (spE s) (spL ss) := by
  show ss.foldl (fun e s => kp e (spE s)) (kp 0 (spE s)) = _
  rw [spL_pre, kp_zero]
theorem spL_nil : spL [] = 0 := rfl
/-- the first wrong text decides -/
theorem spL_at : ∀ {ss : List ByteArray} {k : Nat} (hk : k < ss.length), (∀ j (_ : j < k) (h : j < ss.length), spE ss[j] = 0) → spE ss[k] ≠ 0 → spL ss = spE ss[k]
  | [], k, hk, _, _ => absurd hk (by simp)
  | s :: ss, 0, _, _, h => by rw [spL_cons]; exact kp_ne h _
  | s :: ss, k + 1, hk, hb, h => by
    have h0 : spE s = 0 := hb 0 (by omega) (by simp)
    rw [spL_cons, h0, kp_zero]
    exact spL_at (ss := ss) (k := k) (by simpa using hk) (fun j hj hl => hb (j + 1) (by omega) (by simpa using hl)) h
theorem spL_zero : ∀ {ss : List ByteArray}, spL ss = 0 → ∀ s ∈ ss, spE s = 0
  | [], _, s, hs => by cases hs
  | s :: ss, h, t, ht => by
    rw [spL_cons] at h
    have h0 : spE s = 0 := Classical.byContradiction fun hne => by rw [kp_ne hne] at h; exact hne h
    rw [h0, kp_zero] at h
    rcases List.mem_cons.1 ht with rfl | ht
    · exact h0
    · exact spL_zero h t ht
theorem spL_all : ∀ {ss : List ByteArray}, (∀ s ∈ ss, spE s = 0) → spL ss = 0
  | [], _ => rfl
  | s :: ss, h => by rw [spL_cons, h s List.mem_cons_self, kp_zero]; exact spL_all fun t ht => h t (List.mem_cons_of_mem _ ht)
theorem strs5Q {W : World} {g : Nat} {a b c d e : ByteArray} {T : Nat} (hb : W.heap[g]? = some (.cells #[.string a, .string b, .string c, .string d, .string e] T (0, 0))) : Strs W g 0 [a, b, c, d, e] := by
  have hc : ∀ n, W.cell? ⟨g, n, none⟩ = (#[.string a, .string b, .string c, .string d, .string e] : Array Value)[n]? := fun n => by simp [World.cell?, hb]
  intro i h
  rw [hc]
  have h3 : i < 5 := h
  have : i = 0 ∨ i = 1 ∨ i = 2 ∨ i = 3 ∨ i = 4 := by omega
  rcases this with rfl | rfl | rfl | rfl | rfl <;> rfl
theorem strs3Z {W : World} {g : Nat} {a b c : ByteArray} {T : Nat} (hb : W.heap[g]? = some (.cells #[.string a, .string b, .string c] T (0, 0))) : Strs W g 0 [a, b, c] := by
  have hc : ∀ n, W.cell? ⟨g, n, none⟩ = (#[.string a, .string b, .string c] : Array Value)[n]? := fun n => by simp [World.cell?, hb]
  intro i h
  rw [hc]
  have h3 : i < 3 := h
  have : i = 0 ∨ i = 1 ∨ i = 2 := by omega
  rcases this with rfl | rfl | rfl <;> rfl

set_option maxRecDepth 100000 in
set_option maxHeartbeats 4000000 in
theorem SignRoot_e (a b c : ByteArray) (w : World) (ck : ∀ s ∈ [a, b, c], Hid (Gw w 21 #[.string s] (.int .i64 (spE s)))) (R : Int) (hR : spL [a, b, c] = R) (hne : (R == 0) = false) :
    Calls Tryz.prog 46 #[.string a, .string b, .string c] w fun r0 w' => r0 = .returned (.tuple #[.int .i64 0, .int .i64 R]) ∧ Kp [] w w' := by
  have hs : Strs (w.alloc (.cells #[.string a, .string b, .string c] 22 (0, 0))) w.heap.size 0 [a, b, c] := strs3Z (heap_alloc_new w _)
  have hg : w.heap.size < (w.alloc (.cells #[.string a, .string b, .string c] 22 (0, 0))).heap.size := by simp
  have hk0 : Kp [] w (w.alloc (.cells #[.string a, .string b, .string c] 22 (0, 0))) := (Kp.refl _ _).alloc _
  have HR := Lib.hid hR
  clear hR
  have HN := Lib.hid hne
  clear hne
  go_enter Tryz.func46, Tryz.ntmps46
  go_wp2
  go_loopg [16] 3 (fun gk s16 wr => ∃ k : Nat, s16 = .int .i64 k ∧ k + gk = 3 ∧ (∀ j (hj : j < k) (h : j < [a, b, c].length), spE [a, b, c][j] = 0) ∧ Kp [] (w.alloc (.cells #[.string a, .string b, .string c] 22 (0, 0))) wr)
  case atStart => exact ⟨0, rfl, by omega, fun j hj => by omega, Kp.refl _ _⟩
  case round =>
    obtain ⟨k, rfl, hk, hb, hkp⟩ := hrel
    have kk := hk0.trans hkp
    by_cases hlt : k < 3
    · have hlt0 : k < [a, b, c].length := hlt
      have hcell := (hs.kp hg hkp (by simp)) k hlt0
      rw [Nat.zero_add] at hcell
      have hq := ck _ (List.getElem_mem hlt0)
      unfold Gw at hq
      have hlt' : (k : Int) < 3 := by omega
      have hz1 : 0 ≤ (k : Int) := by omega
      have Hb := Lib.hid hb
      have Hk := Lib.hid hk
      cases hc : (spE [a, b, c][k] == 0) with
      | false =>
        have hv : R = spE [a, b, c][k] := by rw [← HR.out]; exact spL_at hlt0 (fun j hj h => Hb.out j hj h) (beq_eq_false_iff_ne.1 hc)
        have Hv := Lib.hid hv
        clear hv ck hs hb hk Hb
        generalize spE [a, b, c][k] = ev at *
        generalize [a, b, c][k] = s at *
        go_wp2_with fail
        with_reducible refine (hq.out _ kk).mono ?_
        rintro x w' ⟨rfl, k2⟩
        go_wp2
        go_ret2
        exact ⟨by rw [Hv.out]; rfl, kk.trans k2⟩
      | true =>
        have Hc : Hid (spE [a, b, c][k] = 0) := by show _ = _; simpa using hc
        rw [Hc.out] at hq
        clear hc ck hb hk
        generalize hS : [a, b, c][k] = s at *
        have HS := Lib.hid hS
        clear hS hs
        go_wp2_with fail
        with_reducible refine (hq.out _ kk).mono ?_
        rintro x w' ⟨rfl, k2⟩
        go_wp2
        have hk := Hk.out
        go_roundg (gk - 1)
        case measure => omega
        case rel =>
          refine ⟨k + 1, by go_num, by omega, fun j hj h => ?_, hkp.trans k2⟩
          by_cases ejk : j = k
          · subst ejk; rw [HS.out]; exact Hc.out
          · exact Hb.out j (by omega) h
    · have hlt' : ¬ (k : Int) < 3 := by omega
      exact absurd (HR.out.symm.trans (spL_all fun s hm => by obtain ⟨j, hj, rfl⟩ := List.getElem_of_mem hm; exact hb j (by have : j < 3 := hj; omega) hj)) (beq_eq_false_iff_ne.1 HN.out)

set_option maxRecDepth 100000 in
set_option maxHeartbeats 4000000 in
theorem SignRoot_n (a b c : ByteArray) (v : Int) (w : World) (ck : ∀ s ∈ [a, b, c], Hid (Gw w 21 #[.string s] (.int .i64 (spE s)))) (R : Int) (hR : spL [a, b, c] = R) (h0 : R = 0) (sc : Hid (Gw w 60 #[.string c] (.int .i64 v))) (hv : v < 0) :
    Calls Tryz.prog 46 #[.string a, .string b, .string c] w fun r0 w' => r0 = .returned (.tuple #[.int .i64 0, .int .i64 2]) ∧ Kp [] w w' := by
  have hs : Strs (w.alloc (.cells #[.string a, .string b, .string c] 22 (0, 0))) w.heap.size 0 [a, b, c] := strs3Z (heap_alloc_new w _)
  have hg : w.heap.size < (w.alloc (.cells #[.string a, .string b, .string c] 22 (0, 0))).heap.size := by simp
  have hk0 : Kp [] w (w.alloc (.cells #[.string a, .string b, .string c] 22 (0, 0))) := (Kp.refl _ _).alloc _
  have HR := Lib.hid hR
  clear hR
  have H0 := Lib.hid h0
  clear h0
  go_enter Tryz.func46, Tryz.ntmps46
  go_wp2
  go_loopg [16] 3 (fun gk s16 wr => ∃ k : Nat, s16 = .int .i64 k ∧ k + gk = 3 ∧ (∀ j (hj : j < k) (h : j < [a, b, c].length), spE [a, b, c][j] = 0) ∧ Kp [] (w.alloc (.cells #[.string a, .string b, .string c] 22 (0, 0))) wr)
  case atStart => exact ⟨0, rfl, by omega, fun j hj => by omega, Kp.refl _ _⟩
  case round =>
    obtain ⟨k, rfl, hk, hb, hkp⟩ := hrel
    have kk := hk0.trans hkp
    by_cases hlt : k < 3
    · have hlt0 : k < [a, b, c].length := hlt
      have hcell := (hs.kp hg hkp (by simp)) k hlt0
      rw [Nat.zero_add] at hcell
      have hq := ck _ (List.getElem_mem hlt0)
      unfold Gw at hq
      have hlt' : (k : Int) < 3 := by omega
      have hz1 : 0 ≤ (k : Int) := by omega
      have Hb := Lib.hid hb
      have Hk := Lib.hid hk
      have hc : (spE [a, b, c][k] == 0) = true := by simpa using spL_zero (HR.out.trans H0.out) _ (List.getElem_mem hlt0)
      have Hc : Hid (spE [a, b, c][k] = 0) := by show _ = _; simpa using hc
      rw [Hc.out] at hq
      clear hc ck hb hk
      generalize hS : [a, b, c][k] = s at *
      have HS := Lib.hid hS
      clear hS hs
      go_wp2_with fail
      with_reducible refine (hq.out _ kk).mono ?_
      rintro x w' ⟨rfl, k2⟩
      go_wp2
      have hk := Hk.out
      go_roundg (gk - 1)
      case measure => omega
      case rel =>
        refine ⟨k + 1, by go_num, by omega, fun j hj h => ?_, hkp.trans k2⟩
        by_cases ejk : j = k
        · subst ejk; rw [HS.out]; exact Hc.out
        · exact Hb.out j (by omega) h
    · have hlt' : ¬ (k : Int) < 3 := by omega
      clear hb ck hs hk hkp
      unfold Gw at sc
      go_wp2_with fail
      with_reducible refine (sc.out _ kk).mono ?_
      rintro x w1 ⟨rfl, k⟩
      replace kk := kk.trans k; clear k
      go_wp2
      go_ret2
      exact ⟨rfl, kk⟩

set_option maxRecDepth 100000 in
set_option maxHeartbeats 4000000 in
theorem SignRoot_p (a b c : ByteArray) (v z : Int) (w : World) (ck : ∀ s ∈ [a, b, c], Hid (Gw w 21 #[.string s] (.int .i64 (spE s)))) (R : Int) (hR : spL [a, b, c] = R) (h0 : R = 0) (sc : Hid (Gw w 60 #[.string c] (.int .i64 v))) (hv : ¬ v < 0) (r : Hid (Gw w 101 #[.string a, .string b, .string c] (.int .i64 z))) :
    Calls Tryz.prog 46 #[.string a, .string b, .string c] w fun r0 w' => r0 = .returned (.tuple #[.int .i64 z, .int .i64 0]) ∧ Kp [] w w' := by
  have hs : Strs (w.alloc (.cells #[.string a, .string b, .string c] 22 (0, 0))) w.heap.size 0 [a, b, c] := strs3Z (heap_alloc_new w _)
  have hg : w.heap.size < (w.alloc (.cells #[.string a, .string b, .string c] 22 (0, 0))).heap.size := by simp
  have hk0 : Kp [] w (w.alloc (.cells #[.string a, .string b, .string c] 22 (0, 0))) := (Kp.refl _ _).alloc _
  have HR := Lib.hid hR
  clear hR
  have H0 := Lib.hid h0
  clear h0
  go_enter Tryz.func46, Tryz.ntmps46
  go_wp2
  go_loopg [16] 3 (fun gk s16 wr => ∃ k : Nat, s16 = .int .i64 k ∧ k + gk = 3 ∧ (∀ j (hj : j < k) (h : j < [a, b, c].length), spE [a, b, c][j] = 0) ∧ Kp [] (w.alloc (.cells #[.string a, .string b, .string c] 22 (0, 0))) wr)
  case atStart => exact ⟨0, rfl, by omega, fun j hj => by omega, Kp.refl _ _⟩
  case round =>
    obtain ⟨k, rfl, hk, hb, hkp⟩ := hrel
    have kk := hk0.trans hkp
    by_cases hlt : k < 3
    · have hlt0 : k < [a, b, c].length := hlt
      have hcell := (hs.kp hg hkp (by simp)) k hlt0
      rw [Nat.zero_add] at hcell
      have hq := ck _ (List.getElem_mem hlt0)
      unfold Gw at hq
      have hlt' : (k : Int) < 3 := by omega
      have hz1 : 0 ≤ (k : Int) := by omega
      have Hb := Lib.hid hb
      have Hk := Lib.hid hk
      have hc : (spE [a, b, c][k] == 0) = true := by simpa using spL_zero (HR.out.trans H0.out) _ (List.getElem_mem hlt0)
      have Hc : Hid (spE [a, b, c][k] = 0) := by show _ = _; simpa using hc
      rw [Hc.out] at hq
      clear hc ck hb hk
      generalize hS : [a, b, c][k] = s at *
      have HS := Lib.hid hS
      clear hS hs
      go_wp2_with fail
      with_reducible refine (hq.out _ kk).mono ?_
      rintro x w' ⟨rfl, k2⟩
      go_wp2
      have hk := Hk.out
      go_roundg (gk - 1)
      case measure => omega
      case rel =>
        refine ⟨k + 1, by go_num, by omega, fun j hj h => ?_, hkp.trans k2⟩
        by_cases ejk : j = k
        · subst ejk; rw [HS.out]; exact Hc.out
        · exact Hb.out j (by omega) h
    · have hlt' : ¬ (k : Int) < 3 := by omega
      clear hb ck hs hk hkp
      unfold Gw at sc r
      go_wp2_with fail
      with_reducible refine (sc.out _ kk).mono ?_
      rintro x w1 ⟨rfl, k⟩
      replace kk := kk.trans k; clear k
      go_wp2_with fail
      with_reducible refine (r.out _ kk).mono ?_
      rintro x w2 ⟨rfl, k⟩
      replace kk := kk.trans k; clear k
      go_wp2
      go_ret2
      exact ⟨rfl, kk⟩

set_option maxRecDepth 100000 in
set_option maxHeartbeats 4000000 in
theorem SignRoots_e (a b c d e : ByteArray) (w : World) (ck : ∀ s ∈ [a, b, c, d, e], Hid (Gw w 21 #[.string s] (.int .i64 (spE s)))) (R : Int) (hR : spL [a, b, c, d, e] = R) (hne : (R == 0) = false) :
    Calls Tryz.prog 48 #[.string a, .string b, .string c, .string d, .string e] w fun r0 w' => r0 = .returned (.tuple #[.int .i64 0, .int .i64 R]) ∧ Kp [] w w' := by
  have hs : Strs (w.alloc (.cells #[.string a, .string b, .string c, .string d, .string e] 22 (0, 0))) w.heap.size 0 [a, b, c, d, e] := strs5Q (heap_alloc_new w _)
  have hg : w.heap.size < (w.alloc (.cells #[.string a, .string b, .string c, .string d, .string e] 22 (0, 0))).heap.size := by simp
  have hk0 : Kp [] w (w.alloc (.cells #[.string a, .string b, .string c, .string d, .string e] 22 (0, 0))) := (Kp.refl _ _).alloc _
  have HR := Lib.hid hR
  clear hR
  have HN := Lib.hid hne
  clear hne
  go_enter Tryz.func48, Tryz.ntmps48
  go_wp2
  go_loopg [22] 5 (fun gk s22 wr => ∃ k : Nat, s22 = .int .i64 k ∧ k + gk = 5 ∧ (∀ j (hj : j < k) (h : j < [a, b, c, d, e].length), spE [a, b, c, d, e][j] = 0) ∧ Kp [] (w.alloc (.cells #[.string a, .string b, .string c, .string d, .string e] 22 (0, 0))) wr)
  case atStart => exact ⟨0, rfl, by omega, fun j hj => by omega, Kp.refl _ _⟩
  case round =>
    obtain ⟨k, rfl, hk, hb, hkp⟩ := hrel
    have kk := hk0.trans hkp
    by_cases hlt : k < 5
    · have hlt0 : k < [a, b, c, d, e].length := hlt
      have hcell := (hs.kp hg hkp (by simp)) k hlt0
      rw [Nat.zero_add] at hcell
      have hq := ck _ (List.getElem_mem hlt0)
      unfold Gw at hq
      have hlt' : (k : Int) < 5 := by omega
      have hz1 : 0 ≤ (k : Int) := by omega
      have Hb := Lib.hid hb
      have Hk := Lib.hid hk
      cases hc : (spE [a, b, c, d, e][k] == 0) with
      | false =>
        have hv : R = spE [a, b, c, d, e][k] := by rw [← HR.out]; exact spL_at hlt0 (fun j hj h => Hb.out j hj h) (beq_eq_false_iff_ne.1 hc)
        have Hv := Lib.hid hv
        clear hv ck hs hb hk Hb
        generalize spE [a, b, c, d, e][k] = ev at *
        generalize [a, b, c, d, e][k] = s at *
        go_wp2_with fail
        with_reducible refine (hq.out _ kk).mono ?_
        rintro x w' ⟨rfl, k2⟩
        go_wp2
        go_ret2
        exact ⟨by rw [Hv.out]; rfl, kk.trans k2⟩
      | true =>
        have Hc : Hid (spE [a, b, c, d, e][k] = 0) := by show _ = _; simpa using hc
        rw [Hc.out] at hq
        clear hc ck hb hk
        generalize hS : [a, b, c, d, e][k] = s at *
        have HS := Lib.hid hS
        clear hS hs
        go_wp2_with fail
        with_reducible refine (hq.out _ kk).mono ?_
        rintro x w' ⟨rfl, k2⟩
        go_wp2
        have hk := Hk.out
        go_roundg (gk - 1)
        case measure => omega
        case rel =>
          refine ⟨k + 1, by go_num, by omega, fun j hj h => ?_, hkp.trans k2⟩
          by_cases ejk : j = k
          · subst ejk; rw [HS.out]; exact Hc.out
          · exact Hb.out j (by omega) h
    · have hlt' : ¬ (k : Int) < 5 := by omega
      exact absurd (HR.out.symm.trans (spL_all fun s hm => by obtain ⟨j, hj, rfl⟩ := List.getElem_of_mem hm; exact hb j (by have : j < 5 := hj; omega) hj)) (beq_eq_false_iff_ne.1 HN.out)

set_option maxRecDepth 100000 in
set_option maxHeartbeats 4000000 in
theorem SignRoots_n (a b c d e : ByteArray) (v : Int) (w : World) (ck : ∀ s ∈ [a, b, c, d, e], Hid (Gw w 21 #[.string s] (.int .i64 (spE s)))) (R : Int) (hR : spL [a, b, c, d, e] = R) (h0 : R = 0) (sc : Hid (Gw w 60 #[.string c] (.int .i64 v))) (hv : v < 0) :
    Calls Tryz.prog 48 #[.string a, .string b, .string c, .string d, .string e] w fun r0 w' => r0 = .returned (.tuple #[.int .i64 0, .int .i64 2]) ∧ Kp [] w w' := by
  have hs : Strs (w.alloc (.cells #[.string a, .string b, .string c, .string d, .string e] 22 (0, 0))) w.heap.size 0 [a, b, c, d, e] := strs5Q (heap_alloc_new w _)
  have hg : w.heap.size < (w.alloc (.cells #[.string a, .string b, .string c, .string d, .string e] 22 (0, 0))).heap.size := by simp
  have hk0 : Kp [] w (w.alloc (.cells #[.string a, .string b, .string c, .string d, .string e] 22 (0, 0))) := (Kp.refl _ _).alloc _
  have HR := Lib.hid hR
  clear hR
  have H0 := Lib.hid h0
  clear h0
  go_enter Tryz.func48, Tryz.ntmps48
  go_wp2
  go_loopg [22] 5 (fun gk s22 wr => ∃ k : Nat, s22 = .int .i64 k ∧ k + gk = 5 ∧ (∀ j (hj : j < k) (h : j < [a, b, c, d, e].length), spE [a, b, c, d, e][j] = 0) ∧ Kp [] (w.alloc (.cells #[.string a, .string b, .string c, .string d, .string e] 22 (0, 0))) wr)
  case atStart => exact ⟨0, rfl, by omega, fun j hj => by omega, Kp.refl _ _⟩
  case round =>
    obtain ⟨k, rfl, hk, hb, hkp⟩ := hrel
    have kk := hk0.trans hkp
    by_cases hlt : k < 5
    · have hlt0 : k < [a, b, c, d, e].length := hlt
      have hcell := (hs.kp hg hkp (by simp)) k hlt0
      rw [Nat.zero_add] at hcell
      have hq := ck _ (List.getElem_mem hlt0)
      unfold Gw at hq
      have hlt' : (k : Int) < 5 := by omega
      have hz1 : 0 ≤ (k : Int) := by omega
      have Hb := Lib.hid hb
      have Hk := Lib.hid hk
      have hc : (spE [a, b, c, d, e][k] == 0) = true := by simpa using spL_zero (HR.out.trans H0.out) _ (List.getElem_mem hlt0)
      have Hc : Hid (spE [a, b, c, d, e][k] = 0) := by show _ = _; simpa using hc
      rw [Hc.out] at hq
      clear hc ck hb hk
      generalize hS : [a, b, c, d, e][k] = s at *
      have HS := Lib.hid hS
      clear hS hs
      go_wp2_with fail
      with_reducible refine (hq.out _ kk).mono ?_
      rintro x w' ⟨rfl, k2⟩
      go_wp2
      have hk := Hk.out
      go_roundg (gk - 1)
      case measure => omega
      case rel =>
        refine ⟨k + 1, by go_num, by omega, fun j hj h => ?_, hkp.trans k2⟩
        by_cases ejk : j = k
        · subst ejk; rw [HS.out]; exact Hc.out
        · exact Hb.out j (by omega) h
    · have hlt' : ¬ (k : Int) < 5 := by omega
      clear hb ck hs hk hkp
      unfold Gw at sc
      go_wp2_with fail
      with_reducible refine (sc.out _ kk).mono ?_
      rintro x w1 ⟨rfl, k⟩
      replace kk := kk.trans k; clear k
      go_wp2
      go_ret2
      exact ⟨rfl, kk⟩

set_option maxRecDepth 100000 in
set_option maxHeartbeats 4000000 in
theorem SignRoots_m (a b c d e : ByteArray) (v u : Int) (w : World) (ck : ∀ s ∈ [a, b, c, d, e], Hid (Gw w 21 #[.string s] (.int .i64 (spE s)))) (R : Int) (hR : spL [a, b, c, d, e] = R) (h0 : R = 0) (sc : Hid (Gw w 60 #[.string c] (.int .i64 v))) (hv : ¬ v < 0) (se : Hid (Gw w 60 #[.string e] (.int .i64 u))) (hu : u < 0) :
    Calls Tryz.prog 48 #[.string a, .string b, .string c, .string d, .string e] w fun r0 w' => r0 = .returned (.tuple #[.int .i64 0, .int .i64 2]) ∧ Kp [] w w' := by
  have hs : Strs (w.alloc (.cells #[.string a, .string b, .string c, .string d, .string e] 22 (0, 0))) w.heap.size 0 [a, b, c, d, e] := strs5Q (heap_alloc_new w _)
  have hg : w.heap.size < (w.alloc (.cells #[.string a, .string b, .string c, .string d, .string e] 22 (0, 0))).heap.size := by simp
  have hk0 : Kp [] w (w.alloc (.cells #[.string a, .string b, .string c, .string d, .string e] 22 (0, 0))) := (Kp.refl _ _).alloc _
  have HR := Lib.hid hR
  clear hR
  have H0 := Lib.hid h0
  clear h0
  go_enter Tryz.func48, Tryz.ntmps48
  go_wp2
  go_loopg [22] 5 (fun gk s22 wr => ∃ k : Nat, s22 = .int .i64 k ∧ k + gk = 5 ∧ (∀ j (hj : j < k) (h : j < [a, b, c, d, e].length), spE [a, b, c, d, e][j] = 0) ∧ Kp [] (w.alloc (.cells #[.string a, .string b, .string c, .string d, .string e] 22 (0, 0))) wr)
  case atStart => exact ⟨0, rfl, by omega, fun j hj => by omega, Kp.refl _ _⟩
  case round =>
    obtain ⟨k, rfl, hk, hb, hkp⟩ := hrel
    have kk := hk0.trans hkp
    by_cases hlt : k < 5
    · have hlt0 : k < [a, b, c, d, e].length := hlt
      have hcell := (hs.kp hg hkp (by simp)) k hlt0
      rw [Nat.zero_add] at hcell
      have hq := ck _ (List.getElem_mem hlt0)
      unfold Gw at hq
      have hlt' : (k : Int) < 5 := by omega
      have hz1 : 0 ≤ (k : Int) := by omega
      have Hb := Lib.hid hb
      have Hk := Lib.hid hk
      have hc : (spE [a, b, c, d, e][k] == 0) = true := by simpa using spL_zero (HR.out.trans H0.out) _ (List.getElem_mem hlt0)
      have Hc : Hid (spE [a, b, c, d, e][k] = 0) := by show _ = _; simpa using hc
      rw [Hc.out] at hq
      clear hc ck hb hk
      generalize hS : [a, b, c, d, e][k] = s at *
      have HS := Lib.hid hS
      clear hS hs
      go_wp2_with fail
      with_reducible refine (hq.out _ kk).mono ?_
      rintro x w' ⟨rfl, k2⟩
      go_wp2
      have hk := Hk.out
      go_roundg (gk - 1)
      case measure => omega
      case rel =>
        refine ⟨k + 1, by go_num, by omega, fun j hj h => ?_, hkp.trans k2⟩
        by_cases ejk : j = k
        · subst ejk; rw [HS.out]; exact Hc.out
        · exact Hb.out j (by omega) h
    · have hlt' : ¬ (k : Int) < 5 := by omega
      clear hb ck hs hk hkp
      unfold Gw at sc se
      go_wp2_with fail
      with_reducible refine (sc.out _ kk).mono ?_
      rintro x w1 ⟨rfl, k⟩
      replace kk := kk.trans k; clear k
      go_wp2_with fail
      with_reducible refine (se.out _ kk).mono ?_
      rintro x w2 ⟨rfl, k⟩
      replace kk := kk.trans k; clear k
      go_wp2
      go_ret2
      exact ⟨rfl, kk⟩

set_option maxRecDepth 100000 in
set_option maxHeartbeats 4000000 in
theorem SignRoots_p (a b c d e : ByteArray) (v u z : Int) (w : World) (ck : ∀ s ∈ [a, b, c, d, e], Hid (Gw w 21 #[.string s] (.int .i64 (spE s)))) (R : Int) (hR : spL [a, b, c, d, e] = R) (h0 : R = 0) (sc : Hid (Gw w 60 #[.string c] (.int .i64 v))) (hv : ¬ v < 0) (se : Hid (Gw w 60 #[.string e] (.int .i64 u))) (hu : ¬ u < 0) (r : Hid (Gw w 104 #[.string a, .string b, .string c, .string d, .string e] (.int .i64 z))) :
    Calls Tryz.prog 48 #[.string a, .string b, .string c, .string d, .string e] w fun r0 w' => r0 = .returned (.tuple #[.int .i64 z, .int .i64 0]) ∧ Kp [] w w' := by
  have hs : Strs (w.alloc (.cells #[.string a, .string b, .string c, .string d, .string e] 22 (0, 0))) w.heap.size 0 [a, b, c, d, e] := strs5Q (heap_alloc_new w _)
  have hg : w.heap.size < (w.alloc (.cells #[.string a, .string b, .string c, .string d, .string e] 22 (0, 0))).heap.size := by simp
  have hk0 : Kp [] w (w.alloc (.cells #[.string a, .string b, .string c, .string d, .string e] 22 (0, 0))) := (Kp.refl _ _).alloc _
  have HR := Lib.hid hR
  clear hR
  have H0 := Lib.hid h0
  clear h0
  go_enter Tryz.func48, Tryz.ntmps48
  go_wp2
  go_loopg [22] 5 (fun gk s22 wr => ∃ k : Nat, s22 = .int .i64 k ∧ k + gk = 5 ∧ (∀ j (hj : j < k) (h : j < [a, b, c, d, e].length), spE [a, b, c, d, e][j] = 0) ∧ Kp [] (w.alloc (.cells #[.string a, .string b, .string c, .string d, .string e] 22 (0, 0))) wr)
  case atStart => exact ⟨0, rfl, by omega, fun j hj => by omega, Kp.refl _ _⟩
  case round =>
    obtain ⟨k, rfl, hk, hb, hkp⟩ := hrel
    have kk := hk0.trans hkp
    by_cases hlt : k < 5
    · have hlt0 : k < [a, b, c, d, e].length := hlt
      have hcell := (hs.kp hg hkp (by simp)) k hlt0
      rw [Nat.zero_add] at hcell
      have hq := ck _ (List.getElem_mem hlt0)
      unfold Gw at hq
      have hlt' : (k : Int) < 5 := by omega
      have hz1 : 0 ≤ (k : Int) := by omega
      have Hb := Lib.hid hb
      have Hk := Lib.hid hk
      have hc : (spE [a, b, c, d, e][k] == 0) = true := by simpa using spL_zero (HR.out.trans H0.out) _ (List.getElem_mem hlt0)
      have Hc : Hid (spE [a, b, c, d, e][k] = 0) := by show _ = _; simpa using hc
      rw [Hc.out] at hq
      clear hc ck hb hk
      generalize hS : [a, b, c, d, e][k] = s at *
      have HS := Lib.hid hS
      clear hS hs
      go_wp2_with fail
      with_reducible refine (hq.out _ kk).mono ?_
      rintro x w' ⟨rfl, k2⟩
      go_wp2
      have hk := Hk.out
      go_roundg (gk - 1)
      case measure => omega
      case rel =>
        refine ⟨k + 1, by go_num, by omega, fun j hj h => ?_, hkp.trans k2⟩
        by_cases ejk : j = k
        · subst ejk; rw [HS.out]; exact Hc.out
        · exact Hb.out j (by omega) h
    · have hlt' : ¬ (k : Int) < 5 := by omega
      clear hb ck hs hk hkp
      unfold Gw at sc se r
      go_wp2_with fail
      with_reducible refine (sc.out _ kk).mono ?_
      rintro x w1 ⟨rfl, k⟩
      replace kk := kk.trans k; clear k
      go_wp2_with fail
      with_reducible refine (se.out _ kk).mono ?_
      rintro x w2 ⟨rfl, k⟩
      replace kk := kk.trans k; clear k
      go_wp2_with fail
      with_reducible refine (r.out _ kk).mono ?_
      rintro x w3 ⟨rfl, k⟩
      replace kk := kk.trans k; clear k
      go_wp2
      go_ret2
      exact ⟨rfl, kk⟩

end Go.Proofs.YtminjcknmhgpiaaGreatDoor
