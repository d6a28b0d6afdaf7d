/- The laws GradesBounds, GradesGrows. -/
import Derived.Test.YthifdgddegpbjaaDoorG11
import Derived.Test.YthifdgddegpbjaaDoorG4
namespace Go.Proofs.YthifdgddegpbjaaDoor
open Go.RowKit

theorem crs_zero {z w : Int} : ∀ {k : Nat}, crs z w k = 0 → ∀ j, j < k → w < tolI z (5 + j)
  | 0, _, j, hj => by omega
  | k + 1, h, j, hj => by
    unfold crs at h
    split at h
    · omega
    · by_cases e : j = k
      · subst e; omega
      · exact crs_zero h j (by omega)
theorem crs_some {z w : Int} {c : Nat} : ∀ {k : Nat}, crs z w k = 5 + (c : Int) → tolI z (5 + c) ≤ w ∧ c < k ∧ ∀ j, c < j → j < k → w < tolI z (5 + j)
  | 0, h => by unfold crs at h; omega
  | k + 1, h => by
    unfold crs at h
    split at h
    · obtain rfl : c = k := by omega
      exact ⟨by assumption, by omega, fun j h1 h2 => by omega⟩
    · obtain ⟨h1, h2, h3⟩ := crs_some h
      refine ⟨h1, by omega, fun j h4 h5 => ?_⟩
      by_cases e : j = k
      · subst e; omega
      · exact h3 j h4 (by omega)
theorem tol_grow {z : Int} {j : Nat} (hj : j < 7) : tolI z (5 + j) < tolI z (5 + j + 1) := by
  have h1 := base_bd (stp z)
  have h2 := fac_grow hj
  have h3 : baseI (stp z) * (facI j + 3) ≤ baseI (stp z) * facI (j + 1) := Int.mul_le_mul_of_nonneg_left h2 (by omega)
  have h4 : 6 * 3 ≤ baseI (stp z) * 3 := Int.mul_le_mul_of_nonneg_right h1.1 (by omega)
  rw [Int.mul_add] at h3
  unfold tolI tolP
  rw [show (5 + (j : Int) - 5).toNat = j by omega, show (5 + (j : Int) + 1 - 5).toNat = j + 1 by omega]
  have h5 : 0 ≤ baseI (stp z) * facI j := Int.mul_nonneg (by omega) (by have := fac_bd j; omega)
  generalize baseI (stp z) * facI j = p at *
  generalize baseI (stp z) * facI (j + 1) = q at *
  omega
theorem tol_mono {y z g : Int} (h : y ≤ z) : tolI y g ≤ tolI z g := by
  have h1 := base_mono (stp_mono h) (stp_le z)
  have h2 := fac_bd (g - 5).toNat
  have h3 : baseI (stp y) * facI (g - 5).toNat ≤ baseI (stp z) * facI (g - 5).toNat := Int.mul_le_mul_of_nonneg_right h1 (by omega)
  unfold tolI tolP
  omega
theorem tolV_ok {z g : Int} (h1 : 1 ≤ z ∧ z ≤ 100000) (h2 : 5 ≤ g ∧ g ≤ 12) : tolV z g = tolI z g ∧ tolE z g = 0 := ⟨if_pos ⟨h1, h2⟩, (if_pos h1).trans (if_pos h2)⟩
set_option maxRecDepth 100000 in
set_option maxHeartbeats 8000000 in
theorem bounds_out (z v : Int) (q1 : Gq 34 #[.int .i64 z] (.int .i64 2)) (w : World) (hg : Glo w) : Calls Tryd.prog 10 #[.int .i64 z, .int .i64 v] w fun r w' => r = .returned (.bool true) ∧ Kb w w' := by
  have qa := gawake
  unfold Gq at *
  go_enter Tryd.func10, Tryd.ntmps10
  have hgx := hg
  have kx := Kb.refl w
  go_wp2_with fail
  with_reducible refine (q1.out _ hgx).mono ?_
  rintro r w1 ⟨rfl, k1⟩
  have hgx := hgx.kb k1
  have kx := kx.trans k1
  go_wp2_with fail
  with_reducible refine (qa.out _ hgx).mono ?_
  rintro r w2 ⟨rfl, k2⟩
  have hgx := hgx.kb k2
  have kx := kx.trans k2
  go_wp2
  go_ret
  exact ⟨rfl, kx⟩
set_option maxRecDepth 100000 in
set_option maxHeartbeats 8000000 in
theorem bounds_none (z v t : Int) (ht : v < t) (q1 : Gq 34 #[.int .i64 z] (.int .i64 0)) (q2 : Gq 28 #[.int .i64 z, .int .i64 v] (.tuple #[.int .i64 0, .int .i64 6])) (q3 : Gq 20 #[.int .i64 z, .int .i64 5] (.tuple #[.int .i64 t, .int .i64 0])) (w : World) (hg : Glo w) : Calls Tryd.prog 10 #[.int .i64 z, .int .i64 v] w fun r w' => r = .returned (.bool true) ∧ Kb w w' := by
  have qa := gawake
  unfold Gq at *
  go_enter Tryd.func10, Tryd.ntmps10
  have hgx := hg
  have kx := Kb.refl w
  go_wp2_with fail
  with_reducible refine (q1.out _ hgx).mono ?_
  rintro r w1 ⟨rfl, k1⟩
  have hgx := hgx.kb k1
  have kx := kx.trans k1
  go_wp2_with fail
  with_reducible refine (q2.out _ hgx).mono ?_
  rintro r w2 ⟨rfl, k2⟩
  have hgx := hgx.kb k2
  have kx := kx.trans k2
  go_wp2_with fail
  with_reducible refine (q3.out _ hgx).mono ?_
  rintro r w3 ⟨rfl, k3⟩
  have hgx := hgx.kb k3
  have kx := kx.trans k3
  go_wp2_with fail
  with_reducible refine (qa.out _ hgx).mono ?_
  rintro r w4 ⟨rfl, k4⟩
  have hgx := hgx.kb k4
  have kx := kx.trans k4
  go_wp2
  go_ret
  exact ⟨rfl, kx⟩
set_option maxRecDepth 100000 in
set_option maxHeartbeats 8000000 in
theorem bounds_last (z v t : Int) (ht : ¬ v < t) (q1 : Gq 34 #[.int .i64 z] (.int .i64 0)) (q2 : Gq 28 #[.int .i64 z, .int .i64 v] (.tuple #[.int .i64 12, .int .i64 0])) (q3 : Gq 20 #[.int .i64 z, .int .i64 12] (.tuple #[.int .i64 t, .int .i64 0])) (w : World) (hg : Glo w) : Calls Tryd.prog 10 #[.int .i64 z, .int .i64 v] w fun r w' => r = .returned (.bool true) ∧ Kb w w' := by
  have qa := gawake
  unfold Gq at *
  go_enter Tryd.func10, Tryd.ntmps10
  have hgx := hg
  have kx := Kb.refl w
  go_wp2_with fail
  with_reducible refine (q1.out _ hgx).mono ?_
  rintro r w1 ⟨rfl, k1⟩
  have hgx := hgx.kb k1
  have kx := kx.trans k1
  go_wp2_with fail
  with_reducible refine (q2.out _ hgx).mono ?_
  rintro r w2 ⟨rfl, k2⟩
  have hgx := hgx.kb k2
  have kx := kx.trans k2
  go_wp2_with fail
  with_reducible refine (q3.out _ hgx).mono ?_
  rintro r w3 ⟨rfl, k3⟩
  have hgx := hgx.kb k3
  have kx := kx.trans k3
  go_wp2_with fail
  with_reducible refine (qa.out _ hgx).mono ?_
  rintro r w4 ⟨rfl, k4⟩
  have hgx := hgx.kb k4
  have kx := kx.trans k4
  go_wp2
  go_ret
  exact ⟨rfl, kx⟩
set_option maxRecDepth 100000 in
set_option maxHeartbeats 8000000 in
theorem bounds_some (z v t u g : Int) (ht : ¬ v < t) (hu : v < u) (g5 : 5 ≤ g) (g12 : g < 12) (gn : (g == 12) = false) (q1 : Gq 34 #[.int .i64 z] (.int .i64 0)) (q2 : Gq 28 #[.int .i64 z, .int .i64 v] (.tuple #[.int .i64 g, .int .i64 0])) (q3 : Gq 20 #[.int .i64 z, .int .i64 g] (.tuple #[.int .i64 t, .int .i64 0])) (q4 : Gq 20 #[.int .i64 z, .int .i64 (g + 1)] (.tuple #[.int .i64 u, .int .i64 0])) (w : World) (hg : Glo w) : Calls Tryd.prog 10 #[.int .i64 z, .int .i64 v] w fun r w' => r = .returned (.bool true) ∧ Kb w w' := by
  have qa := gawake
  unfold Gq at *
  go_enter Tryd.func10, Tryd.ntmps10
  have hgx := hg
  have kx := Kb.refl w
  go_wp2_with fail
  with_reducible refine (q1.out _ hgx).mono ?_
  rintro r w1 ⟨rfl, k1⟩
  have hgx := hgx.kb k1
  have kx := kx.trans k1
  go_wp2_with fail
  with_reducible refine (q2.out _ hgx).mono ?_
  rintro r w2 ⟨rfl, k2⟩
  have hgx := hgx.kb k2
  have kx := kx.trans k2
  go_wp2_with fail
  with_reducible refine (q3.out _ hgx).mono ?_
  rintro r w3 ⟨rfl, k3⟩
  have hgx := hgx.kb k3
  have kx := kx.trans k3
  go_wp2_with fail
  with_reducible refine (q4.out _ hgx).mono ?_
  rintro r w4 ⟨rfl, k4⟩
  have hgx := hgx.kb k4
  have kx := kx.trans k4
  go_wp2_with fail
  with_reducible refine (qa.out _ hgx).mono ?_
  rintro r w5 ⟨rfl, k5⟩
  have hgx := hgx.kb k5
  have kx := kx.trans k5
  go_wp2
  go_ret
  exact ⟨rfl, kx⟩
theorem bounds_true (z v : Int) (w : World) (hg : Glo w) : Calls Tryd.prog 10 #[.int .i64 z, .int .i64 v] w fun r w' => r = .returned (.bool true) ∧ Kb w w' := by
  have q1 := rSize z
  by_cases hz : 1 ≤ z ∧ z ≤ 100000
  · rw [show szE z = 0 from if_pos hz] at q1
    have q2 := gCoarsest z v
    rw [show crsV z v = crs z v 8 from if_pos hz, show crsE z v = (if crs z v 8 = 0 then 6 else 0) from if_pos hz] at q2
    rcases crs_in z v 8 with h | h
    · rw [h, if_pos rfl] at q2
      have q3 := gTolerance z 5
      rw [(tolV_ok hz (show (5 : Int) ≤ 5 ∧ (5 : Int) ≤ 12 by omega)).1, (tolV_ok hz (show (5 : Int) ≤ 5 ∧ (5 : Int) ≤ 12 by omega)).2] at q3
      exact bounds_none z v _ (crs_zero h 0 (by omega)) q1 q2 q3 w hg
    · obtain ⟨c, hc⟩ : ∃ c : Nat, crs z v 8 = 5 + (c : Int) := ⟨(crs z v 8 - 5).toNat, by omega⟩
      obtain ⟨h1, h2, h3⟩ := crs_some hc
      rw [hc, if_neg (by omega)] at q2
      have q3 := gTolerance z (5 + (c : Int))
      have hcc : 5 ≤ 5 + (c : Int) ∧ 5 + (c : Int) ≤ 12 := by omega
      rw [(tolV_ok hz hcc).1, (tolV_ok hz hcc).2] at q3
      by_cases h7 : c = 7
      · subst h7
        exact bounds_last z v _ (by omega) q1 q2 q3 w hg
      · have q4 := gTolerance z (5 + (c : Int) + 1)
        have hcd : 5 ≤ 5 + (c : Int) + 1 ∧ 5 + (c : Int) + 1 ≤ 12 := by omega
        rw [(tolV_ok hz hcd).1, (tolV_ok hz hcd).2] at q4
        have h4 := h3 (c + 1) (by omega) (by omega)
        rw [show (5 : Int) + ((c + 1 : Nat) : Int) = 5 + (c : Int) + 1 by omega] at h4
        exact bounds_some z v _ _ _ (by omega) h4 (by omega) (by omega) (by simpa using (by omega : ¬ (5 + (c : Int)) = 12)) q1 q2 q3 q4 w hg
  · rw [show szE z = 2 from if_neg hz] at q1
    exact bounds_out z v q1 w hg
set_option maxRecDepth 100000 in
set_option maxHeartbeats 8000000 in
theorem grows_in (z m n g a b c s t : Int) (n0 : 0 ≤ n) (n1 : n ≤ 255) (z1 : 1 ≤ z) (z2 : z ≤ 100000) (m1 : 0 ≤ m) (m2 : m ≤ 100000 - z) (hgg : 5 + n % 7 = g) (g5 : 5 ≤ g) (g12 : g < 12) (t1 : 0 < a) (t2 : a < b) (t3 : a ≤ c) (t4 : s ≤ t) (q1 : Gq 20 #[.int .i64 z, .int .i64 g] (.tuple #[.int .i64 a, .int .i64 0])) (q2 : Gq 20 #[.int .i64 z, .int .i64 (g + 1)] (.tuple #[.int .i64 b, .int .i64 0])) (q3 : Gq 20 #[.int .i64 (z + m), .int .i64 g] (.tuple #[.int .i64 c, .int .i64 0])) (q4 : Gq 18 #[.int .i64 z] (.tuple #[.int .i64 s, .int .i64 0])) (q5 : Gq 18 #[.int .i64 (z + m)] (.tuple #[.int .i64 t, .int .i64 0])) (w : World) (hg : Glo w) : Calls Tryd.prog 7 #[.int .i64 z, .int .i64 m, .int .u8 n] w fun r w' => r = .returned (.bool true) ∧ Kb w w' := by
  have qa := gawake
  unfold Gq at *
  have hz1 : ¬ z < 1 := by omega
  have hz2 : ¬ 100000 < z := by omega
  have hm1 : ¬ m < 0 := by omega
  have hm2 : ¬ 100000 - z < m := by omega
  go_enter Tryd.func7, Tryd.ntmps7
  have hgx := hg
  have kx := Kb.refl w
  go_wp2_with fail
  with_reducible refine (q1.out _ hgx).mono ?_
  rintro r w1 ⟨rfl, k1⟩
  have hgx := hgx.kb k1
  have kx := kx.trans k1
  go_wp2_with fail
  with_reducible refine (q2.out _ hgx).mono ?_
  rintro r w2 ⟨rfl, k2⟩
  have hgx := hgx.kb k2
  have kx := kx.trans k2
  go_wp2_with fail
  with_reducible refine (q3.out _ hgx).mono ?_
  rintro r w3 ⟨rfl, k3⟩
  have hgx := hgx.kb k3
  have kx := kx.trans k3
  go_wp2_with fail
  with_reducible refine (q4.out _ hgx).mono ?_
  rintro r w4 ⟨rfl, k4⟩
  have hgx := hgx.kb k4
  have kx := kx.trans k4
  go_wp2_with fail
  with_reducible refine (q5.out _ hgx).mono ?_
  rintro r w5 ⟨rfl, k5⟩
  have hgx := hgx.kb k5
  have kx := kx.trans k5
  go_wp2_with fail
  with_reducible refine (qa.out _ hgx).mono ?_
  rintro r w6 ⟨rfl, k6⟩
  have hgx := hgx.kb k6
  have kx := kx.trans k6
  go_wp2
  go_ret
  exact ⟨rfl, kx⟩
set_option maxRecDepth 100000 in
set_option maxHeartbeats 8000000 in
theorem grows_o1 (z m n : Int) (h1 : z < 1) (w : World) (hg : Glo w) : Calls Tryd.prog 7 #[.int .i64 z, .int .i64 m, .int .u8 n] w fun r w' => r = .returned (.bool true) ∧ Kb w w' := by
  have qa := gawake
  unfold Gq at qa
  go_enter Tryd.func7, Tryd.ntmps7
  go_wp2_with fail
  with_reducible refine (qa.out _ hg).mono ?_
  rintro r w1 ⟨rfl, k1⟩
  go_wp2
  go_ret
  exact ⟨rfl, k1⟩
set_option maxRecDepth 100000 in
set_option maxHeartbeats 8000000 in
theorem grows_o2 (z m n : Int) (h1 : ¬ z < 1) (h2 : 100000 < z) (w : World) (hg : Glo w) : Calls Tryd.prog 7 #[.int .i64 z, .int .i64 m, .int .u8 n] w fun r w' => r = .returned (.bool true) ∧ Kb w w' := by
  have qa := gawake
  unfold Gq at qa
  go_enter Tryd.func7, Tryd.ntmps7
  go_wp2_with fail
  with_reducible refine (qa.out _ hg).mono ?_
  rintro r w1 ⟨rfl, k1⟩
  go_wp2
  go_ret
  exact ⟨rfl, k1⟩
set_option maxRecDepth 100000 in
set_option maxHeartbeats 8000000 in
theorem grows_o3 (z m n : Int) (h1 : ¬ z < 1) (h2 : ¬ 100000 < z) (h3 : m < 0) (w : World) (hg : Glo w) : Calls Tryd.prog 7 #[.int .i64 z, .int .i64 m, .int .u8 n] w fun r w' => r = .returned (.bool true) ∧ Kb w w' := by
  have qa := gawake
  unfold Gq at qa
  go_enter Tryd.func7, Tryd.ntmps7
  go_wp2_with fail
  with_reducible refine (qa.out _ hg).mono ?_
  rintro r w1 ⟨rfl, k1⟩
  go_wp2
  go_ret
  exact ⟨rfl, k1⟩
set_option maxRecDepth 100000 in
set_option maxHeartbeats 8000000 in
theorem grows_o4 (z m n : Int) (h1 : ¬ z < 1) (h2 : ¬ 100000 < z) (h3 : ¬ m < 0) (h4 : 100000 - z < m) (w : World) (hg : Glo w) : Calls Tryd.prog 7 #[.int .i64 z, .int .i64 m, .int .u8 n] w fun r w' => r = .returned (.bool true) ∧ Kb w w' := by
  have qa := gawake
  unfold Gq at qa
  go_enter Tryd.func7, Tryd.ntmps7
  go_wp2_with fail
  with_reducible refine (qa.out _ hg).mono ?_
  rintro r w1 ⟨rfl, k1⟩
  go_wp2
  go_ret
  exact ⟨rfl, k1⟩
theorem grows_true (z m n : Int) (n0 : 0 ≤ n) (n1 : n ≤ 255) (w : World) (hg : Glo w) : Calls Tryd.prog 7 #[.int .i64 z, .int .i64 m, .int .u8 n] w fun r w' => r = .returned (.bool true) ∧ Kb w w' := by
  by_cases h1 : z < 1
  · exact grows_o1 z m n h1 w hg
  by_cases h2 : 100000 < z
  · exact grows_o2 z m n h1 h2 w hg
  by_cases h3 : m < 0
  · exact grows_o3 z m n h1 h2 h3 w hg
  by_cases h4 : 100000 - z < m
  · exact grows_o4 z m n h1 h2 h3 h4 w hg
  obtain ⟨j, hj⟩ : ∃ j : Nat, n % 7 = (j : Int) := ⟨(n % 7).toNat, by omega⟩
  have hj7 : j < 7 := by omega
  have hz : 1 ≤ z ∧ z ≤ 100000 := by omega
  have hzm : 1 ≤ z + m ∧ z + m ≤ 100000 := by omega
  have a1 : 5 ≤ 5 + (j : Int) ∧ 5 + (j : Int) ≤ 12 := by omega
  have a2 : 5 ≤ 5 + (j : Int) + 1 ∧ 5 + (j : Int) + 1 ≤ 12 := by omega
  have q1 := gTolerance z (5 + (j : Int))
  have q2 := gTolerance z (5 + (j : Int) + 1)
  have q3 := gTolerance (z + m) (5 + (j : Int))
  have q4 := gStep z
  have q5 := gStep (z + m)
  rw [(tolV_ok hz a1).1, (tolV_ok hz a1).2] at q1
  rw [(tolV_ok hz a2).1, (tolV_ok hz a2).2] at q2
  rw [(tolV_ok hzm a1).1, (tolV_ok hzm a1).2] at q3
  rw [show szE z = 0 from if_pos hz, show stepV z = stp z from if_pos hz] at q4
  rw [show szE (z + m) = 0 from if_pos hzm, show stepV (z + m) = stp (z + m) from if_pos hzm] at q5
  exact grows_in z m n (5 + j) _ _ _ _ _ n0 n1 hz.1 hz.2 (by omega) (by omega) (by omega) (by omega) (by omega) (by have := tolI_bd z (5 + j); omega) (tol_grow hj7) (tol_mono (by omega)) (by have := stp_mono (show z ≤ z + m by omega); omega) q1 q2 q3 q4 q5 w hg
end Go.Proofs.YthifdgddegpbjaaDoor
