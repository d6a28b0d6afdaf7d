/- Texts Right: each says in its own first comment what it proves. -/
import Derived.Test.YthjhjgglkooafaaGreatDoorM43
import Derived.Test.YthjhjgglkooafaaGreatDoorM45
/- slices.ContainsFunc over lists of texts, and right of metrolablaw02. -/
namespace Go.Proofs.YthjhjgglkooafaaGreatDoor
open Go.RowKit
open Go.Lib (nDigits itoa decDigits)

/-- the index of the first text that f takes, or -1 -/
def idxF (f : ByteArray → Bool) (ss : List ByteArray) : Int := if ss.any f = true then (ss.findIdx f : Int) else -1
theorem idxF_at {f : ByteArray → Bool} {ss : List ByteArray} {k : Nat} (hk : k < ss.length) (hb : ∀ j (hj : j < k), f (ss[j]'(by omega)) = false) (h : f ss[k] = true) : idxF f ss = (k : Int) := by
  have ha : ss.any f = true := List.any_eq_true.2 ⟨_, List.getElem_mem hk, h⟩
  unfold idxF
  rw [if_pos ha, (List.findIdx_eq hk).2 ⟨h, hb⟩]
theorem idxF_no {f : ByteArray → Bool} {ss : List ByteArray} (hb : ∀ j (hj : j < ss.length), f ss[j] = false) : idxF f ss = -1 := by
  unfold idxF
  rw [if_neg]
  intro h
  obtain ⟨x, hx, h2⟩ := List.any_eq_true.1 h
  obtain ⟨j, hj, rfl⟩ := List.mem_iff_getElem.1 hx
  rw [hb j hj] at h2
  cases h2
theorem idxF_nn (f : ByteArray → Bool) (ss : List ByteArray) : decide (0 ≤ idxF f ss) = ss.any f := by
  unfold idxF
  cases h : ss.any f
  · rw [if_neg (by decide)]; rfl
  · rw [if_pos rfl]; exact decide_eq_true (by omega)

/-- what a predicate says of a text, in worlds that keep what w has -/
def Pred (F : Nat) (w : World) (f : ByteArray → Bool) (s : ByteArray) : Prop := Hid (∀ W : World, Kp [] w W → Calls Tryz.prog F #[.string s] W fun e w' => e = .returned (.bool (f s)) ∧ Kp [] W w')












































































/-- a text with at most 30 bytes before and behind the slash -/
def shB (a : ByteArray) : Bool := decide ((cN a).size ≤ 30) && decide ((cD a).size ≤ 30)
def badB (a : ByteArray) : Bool := !(shB a) || decide (spE a ≠ 0)









































































theorem nd_len_lt {n k : Nat} (h : nDigits n ≤ k) (hk : 0 < k) : n < 10 ^ k := (nd_le_iff hk).1 h
/-- a right, short text is that of a short number -/
theorem good_RS {a : ByteArray} (h : badB a = false) : ∃ q, a = RS q ∧ Sm 30 q := by
  unfold badB shB at h
  simp only [Bool.or_eq_false_iff, Bool.not_eq_false', Bool.and_eq_true, decide_eq_true_eq, decide_eq_false_iff_not, Classical.not_not] at h
  obtain ⟨⟨h1, h2⟩, h3⟩ := h
  obtain ⟨q, rfl, oq⟩ := RS_of_sp h3
  obtain ⟨a1, a2, a3⟩ := sp_RS oq
  rw [a1] at h1
  rw [a2] at h2
  have n1 : nDigits q.num.natAbs ≤ 30 := by
    have : nDigits q.num.natAbs ≤ (S q.num).size := by
      by_cases hn : q.num < 0
      · have := (S_neg hn).2; omega
      · have := (S_nn hn).2; omega
    omega
  have n2 : nDigits q.den ≤ 30 := by
    have := (S_nn (z := (q.den : Int)) (by omega)).2
    rw [Int.natAbs_natCast] at this
    omega
  exact ⟨q, rfl, nd_len_lt n1 (by omega), nd_len_lt n2 (by omega)⟩
end Go.Proofs.YthjhjgglkooafaaGreatDoor
