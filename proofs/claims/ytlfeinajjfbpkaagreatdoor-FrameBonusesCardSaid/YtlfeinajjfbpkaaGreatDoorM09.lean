/- Texts Un7: each says in its own first comment what it proves. -/
import Derived.Test.YtlfeinajjfbpkaaGreatDoorM01
import Derived.Test.YtlfeinajjfbpkaaGreatDoorM51
/- Frames: the law FrameConditions. -/
namespace Go.Proofs.YtlfeinajjfbpkaaGreatDoor
open Go.RowKit

theorem fpE_m {k t m : Int} {ds : List DatT} (h : fpE k t m ds = 0) : (m = 0 ∨ m = 1 ∨ m = 2) ∧ 0 ≤ t ∧ t ≤ 100000 := by
  have h1 := (fst_z h).2
  have h2 := (fst_z (fst_z h1).1).1
  have h3 := fE_z (by decide) (fst_z (fst_z h1).2).1
  unfold cmE at h2
  have h4 := fE_z (by decide) h2
  rw [Bool.or_eq_false_iff, decide_eq_false_iff_not, decide_eq_false_iff_not] at h3 h4
  omega
theorem fcE_z {n : ByteArray} {k a x y z lo hi fk ft fm : Int} {fd : Bool} {ds : List DatT} (h : fcE n k a x y z lo hi fk fd ft fm ds = 0) : ftE n k a x y z lo hi = 0 ∧ fpE fk ft fm ds = 0 :=
  ⟨(fst_z (fst_z h).1).1, (fst_z (fst_z (fst_z h).2).1).1⟩
theorem ft_lim2 {n : ByteArray} {k a x y z lo hi : Int} (h : ftE n k a x y z lo hi = 0) (hk : k ≠ 0) : 1 ≤ lo ∧ lo ≤ hi ∧ hi ≤ 100000 := by
  have h5 := (fst_z (fst_z (fst_z (fst_z (fst_z (fst_z h).2).2).2).2).2).1
  unfold szE at h5
  rw [if_neg hk] at h5
  have h6 := lmE_0 (fst_z (fst_z h5).1).1
  have h7 := fE_z (by decide) (fst_z (fst_z h5).2).1
  rw [decide_eq_false_iff_not] at h7
  omega
theorem w64_in {z : Int} (h : -9223372036854775808 ≤ z ∧ z ≤ 9223372036854775807) : wrap64 z = z := by
  unfold wrap64; omega
end Go.Proofs.YtlfeinajjfbpkaaGreatDoor
