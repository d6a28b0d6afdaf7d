/- The reference's Pow, at every text and every exponent. -/
import Derived.Test.YtobfboemgelmoaaM31
import Derived.Test.YtobfboemgelmoaaM24
import Derived.Test.YtobfboemgelmoaaM21
namespace Go.Proofs.Ytobfboemgelmoaa
open Go.RowKit
open Go.Lib (nDigits itoa decDigits)

set_option maxHeartbeats 1000000 in
theorem RPow_bad (a : ByteArray) (n : Int) (w : World) (ha : a.size ≤ 9223372036854775807) (h : chk a.data.toList ≠ 0) :
    Calls Try.prog 32 #[.string a, .int .i64 n] w fun e w' => e = .returned (.tuple #[.string ⟨#[]⟩, .int .i64 (chk a.data.toList)]) ∧ w = w' := by
  have hb : (chk a.data.toList != 0) = true := bne_iff_ne.2 h
  clear h
  go_enter Try.func32, Try.ntmps32
  go_wp2_with fail
  refine (rcheck_any a _ ha).mono ?_
  rintro e w' ⟨rfl, rfl⟩
  go_wp2
  go_ret2
  exact ⟨rfl, rfl⟩

set_option maxHeartbeats 1000000 in
theorem RPow_out (a : ByteArray) (n : Int) (w : World) (ha : a.size ≤ 9223372036854775807) (h : chk a.data.toList = 0) (hn : n < 0 ∨ (¬ n < 0 ∧ 4096 < n)) :
    Calls Try.prog 32 #[.string a, .int .i64 n] w fun e w' => e = .returned (.tuple #[.string ⟨#[]⟩, .int .i64 2]) ∧ w = w' := by
  have hc := Lib.hid (rcheck_any a w ha)
  rw [h] at hc
  clear h
  rcases hn with hn | ⟨h0, hn⟩
  all_goals
    go_enter Try.func32, Try.ntmps32
    go_wp2_with fail
    refine hc.out.mono ?_
    rintro e w' ⟨rfl, rfl⟩
    go_wp2
    go_ret2
    exact ⟨rfl, rfl⟩

set_option maxRecDepth 100000 in
set_option maxHeartbeats 2000000 in
theorem RPow_ok (x : Int) (n : Nat) (w : World) (hx : Ok x) (hn : n ≤ 4096) :
    Calls Try.prog 32 #[.string (S x), .int .i64 (n : Int)] w fun e w' => e = .returned (.tuple #[.string (resB (x ^ n)), .int .i64 (resE (x ^ n))]) ∧ Kp [] w w' := by
  have hc : Hid (∀ W, Calls Try.prog 45 #[.string (S x)] W fun e w' => e = .returned (.int .i64 0) ∧ W = w') := by
    intro W
    have := rcheck_any (S x) W (Nat.le_trans hx.size (by decide))
    rwa [S_list, chk_ok hx] at this
  have qt : Hid (∀ (z : Int) W, Ok z → Calls Try.prog 54 #[.string (S z), .string (S x)] W fun e w' => e = .returned (.string (S (z * x))) ∧ Kp [] W w') :=
    fun z W hz => times_ref z x W (Nat.le_trans hz (by omega)) (Nat.le_trans hx (by omega))
  have qk : Hid (∀ (z : Int) W, Ok z → Calls Try.prog 40 #[.string (S (z * x))] W fun e w' => e = .returned (.tuple #[.string (resB (z * x)), .int .i64 (resE (z * x))]) ∧ W = w') :=
    fun z W hz => kept_any (z * x) W (Nat.le_trans (abs_sz (k := 2400) (by rw [Int.natAbs_mul]; exact nd_mul (Nat.le_trans hz (by omega)) (Nat.le_trans hx (by omega)))) (by omega))
  have hs1 : Hid ((⟨#[49]⟩ : ByteArray) = S (x ^ 0)) := by show _ = _; rw [Int.pow_zero, S_one]
  have hl : (n : Int) ≤ 4096 := by omega
  obtain ⟨s, hs⟩ : ∃ s, S x = s := ⟨_, rfl⟩
  rw [hs] at hc qt ⊢
  clear hs
  have Hx := Lib.hid hx
  clear hx
  go_enter Try.func32, Try.ntmps32
  go_wp2_with fail
  refine (hc.out _).mono ?_
  rintro e w' ⟨rfl, rfl⟩
  go_wp2
  go_loopg [7, 8] n (fun gk s7 s8 wr => ∃ i : Nat, s7 = .string (S (x ^ i)) ∧ s8 = .int .i64 (i : Int) ∧ i + gk = n ∧ Hid (Ok (x ^ i)) ∧ Kp [] w wr)
  case atStart => exact ⟨0, by rw [hs1.out], rfl, by omega, by show Ok _; rw [Int.pow_zero]; exact ok_one, Kp.refl _ _⟩
  case round =>
    obtain ⟨i, rfl, rfl, hi, hok, hkp⟩ := hrel
    clear hc hs1
    by_cases hlt : i < n
    · have q1 := Lib.hid (fun W => qt.out (x ^ i) W hok.out)
      have q2 := Lib.hid (fun W => qk.out (x ^ i) W hok.out)
      rw [← Int.pow_succ] at q1 q2
      clear qt qk
      by_cases h2 : Ok (x ^ (i + 1))
      · rw [show resB (x ^ (i + 1)) = S (x ^ (i + 1)) from if_pos h2, show resE (x ^ (i + 1)) = 0 from if_pos h2] at q2
        have H2 := Lib.hid h2
        have Hi := Lib.hid hi
        clear h2 hi hok
        generalize S (x ^ i) = s1 at *
        obtain ⟨s2, hs2⟩ : ∃ s2, S (x ^ (i + 1)) = s2 := ⟨_, rfl⟩
        rw [hs2] at q1 q2
        have Hs2 := Lib.hid hs2
        clear hs2
        go_wp2_with fail
        with_reducible refine (q1.out _).mono ?_
        rintro e w1 ⟨rfl, k1⟩
        go_wp2_with fail
        with_reducible refine (q2.out _).mono ?_
        rintro e w2 ⟨rfl, rfl⟩
        go_wp2
        have hi := Hi.out
        go_roundg (gk - 1)
        case measure => omega
        case rel => exact ⟨i + 1, by rw [Hs2.out], by go_num, by omega, H2, hkp.trans k1⟩
      · rw [show resB (x ^ (i + 1)) = ⟨#[]⟩ from if_neg h2, show resE (x ^ (i + 1)) = 11 from if_neg h2] at q2
        have hv1 : Hid (resB (x ^ n) = ⟨#[]⟩) := if_neg (fun h => h2 (ok_pow_le (by omega) h))
        have hv2 : Hid (resE (x ^ n) = 11) := if_neg (fun h => h2 (ok_pow_le (by omega) h))
        clear h2 hi hok
        generalize S (x ^ i) = s1 at *
        generalize S (x ^ (i + 1)) = s2 at *
        go_wp2_with fail
        with_reducible refine (q1.out _).mono ?_
        rintro e w1 ⟨rfl, k1⟩
        go_wp2_with fail
        with_reducible refine (q2.out _).mono ?_
        rintro e w2 ⟨rfl, rfl⟩
        go_wp2
        go_ret2
        exact ⟨by rw [hv1.out, hv2.out]; rfl, hkp.trans k1⟩
    · obtain rfl : i = n := by omega
      have hv1 : Hid (resB (x ^ i) = S (x ^ i)) := if_pos hok.out
      have hv2 : Hid (resE (x ^ i) = 0) := if_pos hok.out
      clear hok qt qk Hx
      generalize S (x ^ i) = s1 at *
      go_wp2
      go_ret2
      exact ⟨by rw [hv1.out, hv2.out]; rfl, hkp⟩

theorem RPow_any (a : ByteArray) (n : Int) (w : World) (ha : a.size ≤ 9223372036854775807) :
    Calls Try.prog 32 #[.string a, .int .i64 n] w fun e w' => e = .returned (.tuple #[.string (powB a n), .int .i64 (powE a n)]) ∧ Kp [] w w' := by
  by_cases h : chk a.data.toList = 0
  · by_cases hn : 0 ≤ n ∧ n ≤ 4096
    · obtain ⟨k, rfl⟩ := Int.eq_ofNat_of_zero_le hn.1
      obtain ⟨z, rfl, hz⟩ := of_chk_zero h
      have := RPow_ok z k w hz (by omega)
      unfold powB powE
      rw [if_pos ⟨h, hn⟩, if_pos h, if_pos hn, valS_S]
      exact this
    · unfold powB powE
      rw [if_neg (fun k => hn k.2), if_pos h, if_neg hn]
      refine (RPow_out a n w ha h (by omega)).mono ?_
      rintro e w' ⟨he, rfl⟩; exact ⟨he, Kp.refl _ _⟩
  · unfold powB powE
    rw [if_neg (fun k => h k.1), if_neg h]
    refine (RPow_bad a n w ha h).mono ?_
    rintro e w' ⟨he, rfl⟩; exact ⟨he, Kp.refl _ _⟩
end Go.Proofs.Ytobfboemgelmoaa
