/- Walks over strings.TrimPrefix where a minus sign is taken away, and over (*number).set, low. -/
import Derived.Test.YtbhngccjacdlfaaArr
import Derived.Test.YtbhngccjacdlfaaTxt2
import Derived.Lib.Strings
namespace Go.Proofs.Ytbhngccjacdlfaa
open Go.RowKit

/-- a text without its minus sign -/
def magB (s : ByteArray) : ByteArray := if isNeg s.data.toList then s.extract 1 s.size else s
theorem magB_list (s : ByteArray) : (magB s).data.toList = mag s.data.toList := by
  unfold magB
  cases hl : s.data.toList with
  | nil => simp [isNeg, mag, hl]
  | cons c t =>
    have hs : s.size = t.length + 1 := by
      have : s.data.toList.length = s.size := by simp
      rw [← this, hl]; rfl
    by_cases h : c = 45
    · subst h
      have he : (s.extract 1 s.size).data.toList = (s.data.toList.take s.size).drop 1 := by rw [Lib.extract_data, List.drop_take]
      simp only [isNeg, beq_self_eq_true, if_true, mag]
      rw [he, hl, hs, List.take_of_length_le (by simp)]; rfl
    · simp [isNeg, mag, h, hl]

theorem prefix_hit (s : ByteArray) (h : 1 ≤ s.size) : ((s.extract 0 1).toList == [45]) = isNeg s.data.toList := by
  rw [Lib.extract_toList]
  cases hl : s.data.toList with
  | nil => rw [Lib.size_eq, hl] at h; simp at h
  | cons c t => simp [isNeg]
theorem prefix_miss (s : ByteArray) (h : ¬ 1 ≤ s.size) : isNeg s.data.toList = false := by
  have : s.data.toList = [] := List.eq_nil_of_length_eq_zero (by rw [← Lib.size_eq]; omega)
  rw [this]; rfl

set_option maxHeartbeats 400000 in
theorem prefix_any (s : ByteArray) (w : World) (hs : s.size ≤ 9223372036854775807) :
    Calls Try.prog 97 #[.string s, .string ⟨#[45]⟩] w fun e w' => e = .returned (.bool (isNeg s.data.toList)) ∧ w = w' := by
  by_cases h0 : 1 ≤ s.size
  · go_enter Try.func97, Try.ntmps97
    go_wp2
    go_ret
    exact ⟨by rw [← prefix_hit s h0]; rfl, rfl⟩
  · go_enter Try.func97, Try.ntmps97
    go_wp2
    go_ret
    exact ⟨by rw [prefix_miss s h0]; rfl, rfl⟩

set_option maxHeartbeats 400000 in
theorem trimP_any (s : ByteArray) (w : World) (hs : s.size ≤ 9223372036854775807) :
    Calls Try.prog 86 #[.string s, .string ⟨#[45]⟩] w fun e w' => e = .returned (.string (magB s)) ∧ w = w' := by
  cases hn : isNeg s.data.toList with
  | true =>
    have h1 : 1 ≤ s.size := by
      rcases Nat.lt_or_ge 0 s.size with h | h
      · exact h
      · rw [prefix_miss s (by omega)] at hn; cases hn
    have hm : Hid (magB s = s.extract 1 s.size) := by show magB s = _; unfold magB; rw [hn]; rfl
    have H := Lib.hid hn; clear hn
    go_enter Try.func86, Try.ntmps86
    go_wp2_with fail
    refine (prefix_any s _ hs).mono ?_
    rw [H.out]
    rintro e w' ⟨rfl, rfl⟩
    go_wp2
    go_ret
    exact ⟨by rw [hm.out]; rfl, rfl⟩
  | false =>
    have hm : Hid (magB s = s) := by show magB s = _; unfold magB; rw [hn]; rfl
    have H := Lib.hid hn; clear hn
    go_enter Try.func86, Try.ntmps86
    go_wp2_with fail
    refine (prefix_any s _ hs).mono ?_
    rw [H.out]
    rintro e w' ⟨rfl, rfl⟩
    go_wp2
    go_ret
    exact ⟨by rw [hm.out]; rfl, rfl⟩

set_option maxHeartbeats 400000 in
theorem trimPrefix_any (s : ByteArray) (w : World) (hs : s.size ≤ 9223372036854775807) :
    Calls Try.prog 65 #[.string s, .string ⟨#[45]⟩] w fun e w' => e = .returned (.string (magB s)) ∧ w = w' := by
  go_enter Try.func65, Try.ntmps65
  go_wp2_with fail
  refine (trimP_any s _ hs).mono ?_
  rintro e w' ⟨rfl, rfl⟩
  go_wp2
  go_ret
  exact ⟨rfl, rfl⟩
end Go.Proofs.Ytbhngccjacdlfaa
