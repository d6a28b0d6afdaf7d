/- Walk over word: the value of at most nine digits. -/
import Derived.Test.YtbhngccjacdlfaaArr
import Derived.Test.YtbhngccjacdlfaaTxt2
namespace Go.Proofs.Ytbhngccjacdlfaa
open Go.RowKit

theorem take_snoc (s : ByteArray) (k : Nat) (h : k < s.size) : s.data.toList.take (k + 1) = s.data.toList.take k ++ [s[k]] := by
  rw [List.take_succ_eq_append_getElem (by simpa using h)]; rfl
theorem dig_at {s : ByteArray} (h : s.data.toList.all isDig = true) {k : Nat} (hk : k < s.size) : 48 ≤ s[k].toNat ∧ s[k].toNat ≤ 57 := by
  rw [List.all_eq_true] at h
  exact (isDig_iff _).1 (h s[k] (by
    have : s[k] = s.data.toList[k]'(by simpa using hk) := rfl
    rw [this]; exact List.getElem_mem _))

set_option maxHeartbeats 1000000 in
theorem word_any (s : ByteArray) (w : World) (hd : s.data.toList.all isDig = true) (hs : s.size ≤ 9) :
    Calls Try.prog 74 #[.string s] w fun e w' => e = .returned (.int .u32 (valN s.data.toList : Int)) ∧ w = w' := by
  go_enter Try.func74, Try.ntmps74
  go_wp2
  go_loop [3, 7] (fun a i => ∃ k : Nat, k ≤ s.size ∧ i = .int .i64 k ∧ a = .int .u32 (valN (s.data.toList.take k) : Int)) (fun _ i => s.size - (intOf i).toNat)
  case atStart => exact ⟨0, Nat.zero_le _, rfl, rfl⟩
  case round =>
    obtain ⟨k, hk, rfl, rfl⟩ := hrel
    by_cases hlt : k < s.size
    · have hsn := valN_snoc (s.data.toList.take k) s[k]
      rw [← take_snoc s k hlt] at hsn
      have HS := Lib.hid hsn; clear hsn
      have hb := dig_at hd hlt
      have hv : valN (s.data.toList.take k) < 100000000 := by
        have h1 := valN_lt _ (all_take hd k)
        rw [List.length_take] at h1
        exact Nat.lt_of_lt_of_le h1 (by rw [show 100000000 = 10 ^ 8 from rfl]; exact Nat.pow_le_pow_right (by decide) (by omega))
      obtain ⟨hb1, hb2⟩ := hb
      go_wp2
      go_round
      case rel => exact ⟨k + 1, by omega, by go_num, val_i (by rw [HS.out]; omega)⟩
      case measure => simp [intOf]; omega
    · obtain rfl : k = s.size := by omega
      go_wp2
      go_ret
      exact ⟨by rw [List.take_of_length_le (by simp)]; rfl, rfl⟩
end Go.Proofs.Ytbhngccjacdlfaa
