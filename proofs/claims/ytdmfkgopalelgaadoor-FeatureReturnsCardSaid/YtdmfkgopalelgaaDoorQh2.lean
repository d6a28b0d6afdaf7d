/- Features: the laws Checks and Ends. -/
import Derived.Test.YtdmfkgopalelgaaDoorQh1
namespace Go.Proofs.YtdmfkgopalelgaaDoor
open Go.RowKit

theorem few_n {n : ByteArray} {fs : List FrT} (h : fewB n fs = true) : n.size ≤ 1000000 := by
  unfold fewB fewN at h
  simp only [Bool.and_eq_true, decide_eq_true_eq] at h
  omega
/-- right: few, and without an error -/
def rtB (n : ByteArray) (k a x y z lo hi : Int) (fs : List FrT) : Bool := fewB n fs && (ftE n k a x y z lo hi == 0)
theorem cRight (n : ByteArray) (k a x y z lo hi : Int) (fp : Option Addr) (fl fc : Nat) (fs : List FrT) : Hid (∀ W : World, FrS W (.slice fp fl fc) fs → Calls Tryd.prog 32 #[.agg #[.string n, .int .i64 k, .int .i64 a, .int .i64 x, .int .i64 y, .int .i64 z, .int .i64 lo, .int .i64 hi, .slice fp fl fc]] W fun r w' => r = .returned (.bool (rtB n k a x y z lo hi fs)) ∧ Kb W w') := Lib.hid fun W fr => by
  unfold rtB
  rcases Bool.eq_false_or_eq_true (fewB n fs) with h | h
  · rw [h, Bool.true_and]
    exact lwright_1 n k a x y z lo hi fp fl fc fs _ (rfCheck n k a x y z lo hi _ (few_n h)) h W fr
  · rw [h, Bool.false_and]
    exact lwright_2 n k a x y z lo hi fp fl fc fs h W fr
theorem mm {lo hi : Int} (h : lo ≤ hi) : lo ≤ hi ∧ min lo hi = lo ∧ max lo hi = hi ∧ min hi lo = lo ∧ max hi lo = hi := by omega
end Go.Proofs.YtdmfkgopalelgaaDoor
