/- The reference's Mul and Divide. -/
import Derived.Test.YtbhngccjacdlfaaRPart2
import Derived.Test.YtbhngccjacdlfaaM14
namespace Go.Proofs.Ytbhngccjacdlfaa
open Go.RowKit
open Go.Lib (nDigits itoa decDigits)

set_option maxHeartbeats 1000000 in
theorem RMul_any (a b : ByteArray) (w : World) (ha : a.size ≤ 9223372036854775807) (hb : b.size ≤ 9223372036854775807) :
    Calls Try.prog 25 #[.string a, .string b] w fun e w' => e = .returned (.tuple #[.string (binB (· * ·) a b), .int .i64 (binE (· * ·) a b)]) ∧ Kp [] w w' := by
  have q1 := Lib.hid (fun W => both_any a b W ha hb)
  by_cases h : chkL [a, b] = 0
  · obtain ⟨x, y, rfl, rfl, hx, hy⟩ := chkL2 h
    have q2 := Lib.hid (fun W => times_ref x y W (Nat.le_trans hx (by omega)) (Nat.le_trans hy (by omega)))
    have q3 := Lib.hid (fun W => kept_any (x * y) W (Nat.le_trans (abs_sz (k := 2400) (by rw [Int.natAbs_mul]; exact nd_mul (Nat.le_trans hx (by omega)) (Nat.le_trans hy (by omega)))) (by omega)))
    rw [binB_S h, binE_S h]
    rw [h] at q1
    clear hx hy h ha hb
    show Calls Try.prog 25 #[.string (S x), .string (S y)] w fun e w' => e = .returned (.tuple #[.string (resB (x * y)), .int .i64 (resE (x * y))]) ∧ Kp [] w w'
    generalize resB (x * y) = r1 at *
    generalize resE (x * y) = r2 at *
    generalize S (x * y) = r at *
    generalize S x = a at *
    generalize S y = b at *
    go_enter Try.func25, Try.ntmps25
    go_wp2_with fail
    refine (q1.out _).mono ?_
    rintro e w' ⟨rfl, rfl⟩
    go_wp2_with fail
    refine (q2.out _).mono ?_
    rintro e w' ⟨rfl, hk⟩
    go_wp2_with fail
    refine (q3.out _).mono ?_
    rintro e w' ⟨rfl, rfl⟩
    go_wp2
    go_ret2
    exact ⟨rfl, hk⟩
  · have hv1 : Hid (binB (· * ·) a b = ⟨#[]⟩) := by show binB (· * ·) a b = _; unfold binB; rw [if_neg h]
    have hv2 : Hid (binE (· * ·) a b = chkL [a, b]) := by show binE (· * ·) a b = _; unfold binE; rw [if_neg h]
    have hb2 : (chkL [a, b] != 0) = true := bne_iff_ne.2 h
    rw [hv1.out, hv2.out]
    clear h hv1 hv2 ha hb
    generalize chkL [a, b] = c at *
    go_enter Try.func25, Try.ntmps25
    go_wp2_with fail
    refine (q1.out _).mono ?_
    rintro e w' ⟨rfl, rfl⟩
    go_wp2
    go_ret2
    exact ⟨rfl, Kp.refl _ _⟩

set_option maxHeartbeats 1000000 in
theorem RDivide_ok (x y : Int) (w : World) (h : chkL [S x, S y] = 0) (hx : Ok x) (hy : Ok y) (h0 : y ≠ 0) :
    Calls Try.prog 28 #[.string (S x), .string (S y)] w fun e w' => e = .returned (.tuple #[.string (S (x.fdiv y)), .string (S (x.fmod y)), .int .i64 0]) ∧ Kp [] w w' := by
  have sx := hx.size
  have sy := hy.size
  have q1 := Lib.hid (fun W => both_any (S x) (S y) W (Nat.le_trans (S_size x) (by unfold Ok at hx; omega)) (Nat.le_trans (S_size y) (by unfold Ok at hy; omega)))
  have q2 := Lib.hid (fun W => parted_any x y W h0 hx hy)
  rw [h] at q1
  have hb : ((S y).toList == [48]) = false := by
    rw [beq_eq_false_iff_ne]; intro e; exact h0 (S_eq_zero.1 e)
  clear h hx hy h0 sx sy
  generalize S (x.fdiv y) = r at *
  generalize S (x.fmod y) = r2 at *
  generalize S x = a at *
  generalize S y = b at *
  go_enter Try.func28, Try.ntmps28
  go_wp2_with fail
  refine (q1.out _).mono ?_
  rintro e w' ⟨rfl, rfl⟩
  go_wp2_with fail
  with_reducible refine (q2.out _).mono ?_
  rintro e w' ⟨rfl, hk⟩
  go_wp2
  refine bodyPost_ret (results_tmp3 rfl _ _ _) rfl ?_
  exact ⟨rfl, hk⟩
set_option maxHeartbeats 1000000 in
theorem RDivide_zero (a : ByteArray) (w : World) (ha : a.size ≤ 9223372036854775807) (h : chkL [a, S 0] = 0) :
    Calls Try.prog 28 #[.string a, .string (S 0)] w fun e w' => e = .returned (.tuple #[.string ⟨#[]⟩, .string ⟨#[]⟩, .int .i64 10]) ∧ Kp [] w w' := by
  have q1 := Lib.hid (fun W => both_any a (S 0) W ha (by rw [S_zero]; decide))
  rw [h] at q1
  clear h ha
  rw [S_zero] at *
  go_enter Try.func28, Try.ntmps28
  go_wp2_with fail
  refine (q1.out _).mono ?_
  rintro e w' ⟨rfl, rfl⟩
  go_wp2
  refine bodyPost_ret (results_tmp3 rfl _ _ _) rfl ?_
  exact ⟨rfl, Kp.refl _ _⟩
set_option maxHeartbeats 1000000 in
theorem RDivide_bad (a b : ByteArray) (w : World) (ha : a.size ≤ 9223372036854775807) (hb : b.size ≤ 9223372036854775807) (h : chkL [a, b] ≠ 0) :
    Calls Try.prog 28 #[.string a, .string b] w fun e w' => e = .returned (.tuple #[.string ⟨#[]⟩, .string ⟨#[]⟩, .int .i64 (chkL [a, b])]) ∧ Kp [] w w' := by
  have q1 := Lib.hid (fun W => both_any a b W ha hb)
  have hb2 : (chkL [a, b] != 0) = true := bne_iff_ne.2 h
  clear h ha hb
  generalize chkL [a, b] = c at *
  go_enter Try.func28, Try.ntmps28
  go_wp2_with fail
  refine (q1.out _).mono ?_
  rintro e w' ⟨rfl, rfl⟩
  go_wp2
  refine bodyPost_ret (results_tmp3 rfl _ _ _) rfl ?_
  exact ⟨rfl, Kp.refl _ _⟩
end Go.Proofs.Ytbhngccjacdlfaa
