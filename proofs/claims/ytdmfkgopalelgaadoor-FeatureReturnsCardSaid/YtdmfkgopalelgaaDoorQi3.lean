/- Features: Reach and Separate give the same on both sides. -/
import Derived.Test.YtdmfkgopalelgaaDoorQg3
import Derived.Test.YtdmfkgopalelgaaDoorOr2
import Derived.Lib.MinMax
import Derived.Test.YtdmfkgopalelgaaDoorQg6
import Derived.Test.YtdmfkgopalelgaaDoorOf2
import Derived.Test.YtdmfkgopalelgaaDoorQh2
namespace Go.Proofs.YtdmfkgopalelgaaDoor
open Go.RowKit

theorem firstE_all : ∀ {l : List Int}, firstE l = 0 → ∀ e ∈ l, e = 0
  | [], _, e, he => by simp at he
  | u :: l, h, e, he => by
    unfold firstE at h
    by_cases h0 : u = 0
    · rw [if_pos h0] at h
      rcases List.mem_cons.1 he with rfl | he
      · exact h0
      · exact firstE_all h e he
    · rw [if_neg h0] at h; exact absurd h h0
theorem ft_pl {n : ByteArray} {k a x y z lo hi : Int} (h : ftE n k a x y z lo hi = 0) : (-100000 ≤ x ∧ x ≤ 100000) ∧ (-100000 ≤ y ∧ y ≤ 100000) ∧ (-100000 ≤ z ∧ z ≤ 100000) := by
  unfold ftE at h
  have h1 := firstE_all h (firstE [plE x y z]) (by simp)
  rw [firstE_one] at h1
  unfold plE fE at h1
  split at h1
  · cases h1
  · rename_i h2
    simp only [Bool.not_eq_true', Bool.not_eq_false, inR, Bool.and_eq_true, decide_eq_true_eq] at h2
    omega
theorem rAxis (c : Int) : Ca 80 #[.int .i64 c] (.int .i64 (axE c)) := Lib.hid fun w => by
  unfold axE fE
  by_cases h1 : c < 0
  · simp only [h1, decide_true, Bool.true_or, if_true]; exact rAxis_1 c h1 w
  · by_cases h2 : 3 ≤ c
    · simp only [h1, h2, decide_true, Bool.or_true, if_true]; exact rAxis_2 c h1 h2 w
    · simp only [h1, h2, decide_false, Bool.or_false, Bool.false_eq_true, if_false]; exact rAxis_3 c h1 h2 w
theorem rgiven (n : ByteArray) (k a x y z lo hi : Int) (fp : Option Addr) (fl fc : Nat) (c : Int) (hn : n.size ≤ 1000000) : Ca 55 #[.agg #[.string n, .int .i64 k, .int .i64 a, .int .i64 x, .int .i64 y, .int .i64 z, .int .i64 lo, .int .i64 hi, .slice fp fl fc], .int .i64 c] (.int .i64 (firstE [(ftE n k a x y z lo hi), axE c])) := Lib.hid fun w => by
  have q := rfCheck n k a x y z lo hi (.slice fp fl fc) hn
  by_cases e : (ftE n k a x y z lo hi) = 0
  · rw [e] at q; rw [e, fst_0, firstE_one]; exact rgiven_2 n k a x y z lo hi (.slice fp fl fc) c _ q (rAxis c) w
  · rw [fst_e e]; exact rgiven_1 n k a x y z lo hi (.slice fp fl fc) c _ (ne_b e) q w
end Go.Proofs.YtdmfkgopalelgaaDoor
