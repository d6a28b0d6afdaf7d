/- Pow at a text that is none, and at an exponent out of range. -/
import Derived.Test.YtbhngccjacdlfaaPow
namespace Go.Proofs.Ytbhngccjacdlfaa
open Go.RowKit

set_option maxHeartbeats 1000000 in
theorem Pow_bad (a : ByteArray) (n : Int) (w : World) (ha : a.size ≤ 9223372036854775807) (h : chk a.data.toList ≠ 0) :
    Calls Try.prog 31 #[.string a, .int .i64 n] w fun e w' => e = .returned (.tuple #[.string ⟨#[]⟩, .int .i64 (chk a.data.toList)]) ∧ w = w' := by
  have hb : (chk a.data.toList != 0) = true := bne_iff_ne.2 h
  clear h
  go_enter Try.func31, Try.ntmps31
  go_wp2_with fail
  refine (check_any a _ ha).mono ?_
  rintro e w' ⟨rfl, rfl⟩
  go_wp2
  go_ret2
  exact ⟨rfl, rfl⟩

set_option maxHeartbeats 1000000 in
theorem Pow_low (a : ByteArray) (n : Int) (w : World) (ha : a.size ≤ 9223372036854775807) (h : chk a.data.toList = 0) (hn : n < 0) :
    Calls Try.prog 31 #[.string a, .int .i64 n] w fun e w' => e = .returned (.tuple #[.string ⟨#[]⟩, .int .i64 2]) ∧ w = w' := by
  have hc := Lib.hid (check_any a w ha)
  rw [h] at hc
  clear h
  go_enter Try.func31, Try.ntmps31
  go_wp2_with fail
  refine hc.out.mono ?_
  rintro e w' ⟨rfl, rfl⟩
  go_wp2
  go_ret2
  exact ⟨rfl, rfl⟩

set_option maxHeartbeats 1000000 in
theorem Pow_high (a : ByteArray) (n : Int) (w : World) (ha : a.size ≤ 9223372036854775807) (h : chk a.data.toList = 0) (hn : 4096 < n) :
    Calls Try.prog 31 #[.string a, .int .i64 n] w fun e w' => e = .returned (.tuple #[.string ⟨#[]⟩, .int .i64 2]) ∧ w = w' := by
  have hc := Lib.hid (check_any a w ha)
  rw [h] at hc
  have h0 : ¬ n < 0 := by omega
  clear h
  go_enter Try.func31, Try.ntmps31
  go_wp2_with fail
  refine hc.out.mono ?_
  rintro e w' ⟨rfl, rfl⟩
  go_wp2
  go_ret2
  exact ⟨rfl, rfl⟩

/-- the text and the error of a power, of every text and every exponent -/
def powB (a : ByteArray) (n : Int) : ByteArray := if chk a.data.toList = 0 ∧ 0 ≤ n ∧ n ≤ 4096 then resB (valS a ^ n.toNat) else ⟨#[]⟩
def powE (a : ByteArray) (n : Int) : Int := if chk a.data.toList = 0 then (if 0 ≤ n ∧ n ≤ 4096 then resE (valS a ^ n.toNat) else 2) else chk a.data.toList

theorem Pow_any (a : ByteArray) (n : Int) (w : World) (ha : a.size ≤ 9223372036854775807) :
    Calls Try.prog 31 #[.string a, .int .i64 n] w fun e w' => e = .returned (.tuple #[.string (powB a n), .int .i64 (powE a n)]) ∧ Kp [] w w' := by
  by_cases h : chk a.data.toList = 0
  · by_cases hn : 0 ≤ n ∧ n ≤ 4096
    · obtain ⟨k, rfl⟩ := Int.eq_ofNat_of_zero_le hn.1
      obtain ⟨z, rfl, hz⟩ := of_chk_zero h
      have := Pow_ok z k w hz (by omega)
      unfold powB powE
      rw [if_pos ⟨h, hn⟩, if_pos h, if_pos hn, valS_S]
      exact this
    · unfold powB powE
      rw [if_neg (fun k => hn k.2), if_pos h, if_neg hn]
      by_cases h0 : n < 0
      · refine (Pow_low a n w ha h h0).mono ?_
        rintro e w' ⟨he, rfl⟩; exact ⟨he, Kp.refl _ _⟩
      · refine (Pow_high a n w ha h (by omega)).mono ?_
        rintro e w' ⟨he, rfl⟩; exact ⟨he, Kp.refl _ _⟩
  · unfold powB powE
    rw [if_neg (fun k => h k.1), if_neg h]
    refine (Pow_bad a n w ha h).mono ?_
    rintro e w' ⟨he, rfl⟩; exact ⟨he, Kp.refl _ _⟩
end Go.Proofs.Ytbhngccjacdlfaa
