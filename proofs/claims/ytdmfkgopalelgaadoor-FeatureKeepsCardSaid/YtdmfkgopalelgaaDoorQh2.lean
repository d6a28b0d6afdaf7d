/- Features: the laws Checks and Ends. -/
import Derived.Test.YtdmfkgopalelgaaDoorQh1
namespace Go.Proofs.YtdmfkgopalelgaaDoor
open Go.RowKit

theorem few_n {n : ByteArray} {fs : List FrT} (h : fewB n fs = true) : n.size ≤ 1000000 := by
  unfold fewB fewN at h
  simp only [Bool.and_eq_true, decide_eq_true_eq] at h
  omega
/-- right: few, and without an error -/
def rtB (n : ByteArray) (k a x y z lo hi : Int) (fs : List FrT) : Bool := fewB n fs && (ftE n k a x y z lo hi == 0)
theorem cRight (n : ByteArray) (k a x y z lo hi : Int) (fp : Option Addr) (fl fc : Nat) (fs : List FrT) : Hid (∀ W : World, FrS W (.slice fp fl fc) fs → Calls Tryd.prog 32 #[.agg #[.string n, .int .i64 k, .int .i64 a, .int .i64 x, .int .i64 y, .int .i64 z, .int .i64 lo, .int .i64 hi, .slice fp fl fc]] W fun r w' => r = .returned (.bool (rtB n k a x y z lo hi fs)) ∧ Kb W w') := Lib.hid fun W fr => by
  unfold rtB
  rcases Bool.eq_false_or_eq_true (fewB n fs) with h | h
  · rw [h, Bool.true_and]
    exact lwright_1 n k a x y z lo hi fp fl fc fs _ (rfCheck n k a x y z lo hi _ (few_n h)) h W fr
  · rw [h, Bool.false_and]
    exact lwright_2 n k a x y z lo hi fp fl fc fs h W fr
theorem ft_lim {n : ByteArray} {k a x y z lo hi : Int} (h : ftE n k a x y z lo hi = 0) (hk : k ≠ 0) : 1 ≤ lo ∧ lo ≤ hi ∧ hi ≤ 100000 := by
  have hs : szE k lo hi = 0 := by
    unfold ftE at h
    by_cases e1 : firstE [nmE n] = 0
    · rw [e1, fst_0] at h
      by_cases e2 : fE (decide (k < 0) || decide (5 ≤ k)) 1 = 0
      · rw [e2, fst_0] at h
        by_cases e3 : firstE [axE a] = 0
        · rw [e3, fst_0] at h
          by_cases e4 : fE ((k == 4) && (a != 0)) 3 = 0
          · rw [e4, fst_0] at h
            by_cases e5 : firstE [plE x y z] = 0
            · rw [e5, fst_0, firstE_one] at h; exact h
            · rw [fst_e e5] at h; exact absurd h e5
          · rw [fst_e e4] at h; exact absurd h e4
        · rw [fst_e e3] at h; exact absurd h e3
      · rw [fst_e e2] at h; exact absurd h e2
    · rw [fst_e e1] at h; exact absurd h e1
  unfold szE at hs
  rw [if_neg hk] at hs
  by_cases e1 : lmE lo hi = 0
  · rw [firstE_one, e1, fst_0, firstE_one] at hs
    have h1 : ¬ lo < 1 := fun hl => by rw [decide_eq_true hl, fE_t] at hs; cases hs
    unfold lmE at e1
    by_cases e2 : fE (!inAll [lo, hi]) 2 = 0
    · rw [e2, fst_0, firstE_one] at e1
      have h2 : ¬ hi < lo := fun hl => by rw [decide_eq_true hl, fE_t] at e1; cases e1
      have h3 : inAll [lo, hi] = true := by
        rcases Bool.eq_false_or_eq_true (inAll [lo, hi]) with h | h
        · exact h
        · rw [h] at e2; cases e2
      simp only [inAll, List.all_cons, List.all_nil, inR, Bool.and_eq_true, decide_eq_true_eq] at h3
      omega
    · rw [fst_e e2] at e1; exact absurd e1 e2
  · rw [firstE_one, fst_e e1] at hs; exact absurd hs e1
theorem mm {lo hi : Int} (h : lo ≤ hi) : lo ≤ hi ∧ min lo hi = lo ∧ max lo hi = hi ∧ min hi lo = lo ∧ max hi lo = hi := by omega
end Go.Proofs.YtdmfkgopalelgaaDoor
