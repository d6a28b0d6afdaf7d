/- Texts RCheck: each says in its own first comment what it proves. -/
import Derived.Test.YtcgilcmhandgfaaGreatDoorM05
/- Walks over the reference's size and Check. -/
namespace Go.Proofs.YtcgilcmhandgfaaGreatDoor
open Go.RowKit

theorem isNeg_first {s : ByteArray} (h : 0 < s.size) : isNeg s.data.toList = (s[0].toNat == 45) := by
  have h0 : s[0] = s.data.toList[0]'(by simpa using h) := rfl
  have h1 : ∀ (l : List UInt8) (hl : 0 < l.length), isNeg l = (l[0].toNat == 45) := by
    intro l hl
    cases l with
    | nil => simp at hl
    | cons c t =>
      simp only [isNeg, List.getElem_cons_zero]
      rw [Bool.eq_iff_iff]; simp
      exact ⟨fun e => by rw [e]; rfl, fun e => UInt8.toNat_inj.1 e⟩
  rw [h0]; exact h1 _ _
set_option maxHeartbeats 1000000 in
theorem rsize_any (s : ByteArray) (w : World) (hs : s.size ≤ 9223372036854775807) :
    Calls Tryz.prog 164 #[.string s] w fun e w' => e = .returned (.string (magB s)) ∧ w = w' := by
  by_cases h0 : 0 < s.size
  · have he : s.toList.isEmpty = false := by
      rw [Lib.toList_data]; cases hl : s.data.toList with
      | nil => rw [Lib.size_eq, hl] at h0; simp at h0
      | cons c t => rfl
    cases hn : isNeg s.data.toList with
    | true =>
      have hb : ((s[0].toNat : Int) == 45) = true := by
        have := isNeg_first h0; rw [hn] at this; exact beq_iff_eq.2 (by have := beq_iff_eq.1 this.symm; omega)
      have hm : Hid (magB s = s.extract 1 s.size) := by show magB s = _; unfold magB; rw [hn]; rfl
      clear hn
      go_enter Tryz.func164, Tryz.ntmps164
      go_wp2
      go_ret
      exact ⟨by rw [hm.out]; rfl, rfl⟩
    | false =>
      have hb : ((s[0].toNat : Int) == 45) = false := by
        have := isNeg_first h0; rw [hn] at this; exact beq_eq_false_iff_ne.2 (by have := beq_eq_false_iff_ne.1 this.symm; omega)
      have hm : Hid (magB s = s) := by show magB s = _; unfold magB; rw [hn]; rfl
      clear hn
      go_enter Tryz.func164, Tryz.ntmps164
      go_wp2
      go_ret
      exact ⟨by rw [hm.out]; rfl, rfl⟩
  · have hl : s.data.toList = [] := List.eq_nil_of_length_eq_zero (by rw [← Lib.size_eq]; omega)
    have he : s.toList.isEmpty = true := by rw [Lib.toList_data, hl]; rfl
    have hm : Hid (magB s = s) := by show magB s = _; unfold magB; rw [hl]; rfl
    clear hl
    go_enter Tryz.func164, Tryz.ntmps164
    go_wp2
    go_ret
    exact ⟨by rw [hm.out]; rfl, rfl⟩

end Go.Proofs.YtcgilcmhandgfaaGreatDoor
