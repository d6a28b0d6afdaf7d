/- Texts RSlash: each says in its own first comment what it proves. -/
import Derived.Test.YtcgilcmhandgfaaGreatDoorM38
/- slash, Split and Short of the reference of layer 2, for any texts. -/
namespace Go.Proofs.YtcgilcmhandgfaaGreatDoor
open Go.RowKit
open Go.Lib (nDigits itoa decDigits)

theorem slash_at {a : ByteArray} {k : Nat} (hk : k < a.size) (hb : ∀ j (hj : j < k), a[j]'(by omega) ≠ 47) (h : a[k] = 47) : slashAt a = k := by
  unfold slashAt
  have hk' : k < a.data.toList.length := by rw [← Lib.size_eq]; exact hk
  rw [List.findIdx_eq hk']
  refine ⟨beq_iff_eq.2 h, fun j hj => ?_⟩
  exact beq_eq_false_iff_ne.2 (hb j hj)
theorem cN_le (a : ByteArray) : (cN a).size ≤ a.size := by unfold cN; rw [ByteArray.size_extract]; omega
theorem cD_le (a : ByteArray) : (cD a).size ≤ a.size ∨ (cD a).size = 1 := by
  unfold cD
  split
  · rw [ByteArray.size_extract]; omega
  · right; rfl
theorem cut_size (a : ByteArray) : a.size ≤ (cN a).size + 1 + (cD a).size := by
  have := slash_le a
  unfold cN cD
  rw [ByteArray.size_extract]
  split
  · rw [ByteArray.size_extract]; omega
  · omega
theorem slash_no {a : ByteArray} (hb : ∀ j (hj : j < a.size), a[j] ≠ 47) : slashAt a = a.size := by
  unfold slashAt
  rw [find_none, Lib.size_eq]
  intro c hc
  obtain ⟨j, hj, rfl⟩ := List.mem_iff_getElem.1 hc
  exact hb j (by rw [Lib.size_eq]; exact hj)









































































































































end Go.Proofs.YtcgilcmhandgfaaGreatDoor
