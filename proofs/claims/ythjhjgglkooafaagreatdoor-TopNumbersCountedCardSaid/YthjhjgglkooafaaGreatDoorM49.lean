/- Texts GvA, Few2: each says in its own first comment what it proves. -/
import Derived.Test.YthjhjgglkooafaaGreatDoorM13
import Derived.Test.YthjhjgglkooafaaGreatDoorM12
import Derived.Test.YthjhjgglkooafaaGreatDoorM43
import Derived.Test.YthjhjgglkooafaaGreatDoorM47
/- Calls that return a value and keep the old blocks. -/
namespace Go.Proofs.YthjhjgglkooafaaGreatDoor
open Go.RowKit
open Go.Lib (nDigits itoa decDigits)

/-- a call that returns a value and keeps the old blocks, in worlds that keep what w has -/
def Gw (w : World) (n : Nat) (args : Array Value) (v : Value) : Prop := ∀ W : World, Kp [] w W → Calls Tryz.prog n args W fun e w' => e = .returned v ∧ Kp [] W w'
section
variable {n : Nat} {args : Array Value} {v : Value} {w : World}
theorem gw_of (h : ∀ W, Calls Tryz.prog n args W fun e w' => e = .returned v ∧ Kp [] W w') : Hid (Gw w n args v) := fun W _ => h W
theorem gw_same (h : ∀ W, Calls Tryz.prog n args W fun e w' => e = .returned v ∧ W = w') : Hid (Gw w n args v) := fun W _ => (h W).mono fun _ _ ⟨a, b⟩ => ⟨a, b ▸ Kp.refl _ _⟩
end
theorem zero_list : (S 0).toList = [48] := by rw [S_zero]; decide +kernel
theorem isZero_S (x : Int) : ((S x).toList == [48]) = decide (x = 0) := by rw [← zero_list]; exact S_beq x 0

end Go.Proofs.YthjhjgglkooafaaGreatDoor

/- Few and FewInt of the reference of layer 2. -/
namespace Go.Proofs.YthjhjgglkooafaaGreatDoor
open Go.RowKit
open Go.Lib (nDigits itoa decDigits)



















/-- a text with few bytes before and behind the slash, or with too many -/
def fewB (a : ByteArray) : Bool := decide ((cN a).size ≤ 120) && decide ((cD a).size ≤ 120) || (decide (a.size < 5000) && (decide (1025 < (cN a).size) || decide (1025 < (cD a).size)))

























































































































































































































/-- what few texts are: wrong, or those of small numbers -/
theorem few_cases {a : ByteArray} (h : fewB a = true) : spE a ≠ 0 ∧ a.size ≤ 5000 ∨ ∃ q, a = RS q ∧ Sm 120 q ∧ (S q.num).size ≤ 120 ∧ (S (q.den : Int)).size ≤ 120 := by
  have hle := cN_le a
  have hcut := cut_size a
  unfold fewB at h
  by_cases hs : spE a = 0
  · right
    obtain ⟨q, rfl, hq⟩ := RS_of_sp hs
    obtain ⟨e1, e2, _⟩ := sp_RS hq
    rw [e1, e2] at h
    have z1 := hq.1.size
    have z2 := hq.2.size
    have h2 : (S q.num).size ≤ 120 ∧ (S (q.den : Int)).size ≤ 120 := by
      simp only [Bool.or_eq_true, Bool.and_eq_true, decide_eq_true_eq] at h
      omega
    have n1 : nDigits q.num.natAbs ≤ 120 := by
      have : nDigits q.num.natAbs ≤ (S q.num).size := by
        by_cases hn : q.num < 0
        · have := (S_neg hn).2; omega
        · have := (S_nn (z := q.num) (by omega)).2; omega
      omega
    have n2 : nDigits q.den ≤ 120 := by
      have := (S_nn (z := (q.den : Int)) (by omega)).2
      rw [Int.natAbs_natCast] at this
      omega
    exact ⟨q, rfl, ⟨nd_len_lt n1 (by omega), nd_len_lt n2 (by omega)⟩, h2.1, h2.2⟩
  · left
    refine ⟨hs, ?_⟩
    simp only [Bool.or_eq_true, Bool.and_eq_true, decide_eq_true_eq] at h
    omega

end Go.Proofs.YthjhjgglkooafaaGreatDoor
