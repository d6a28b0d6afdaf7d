/- Mathematics for the reference's Parted. -/
import Derived.Test.YtbhngccjacdlfaaRDiv
import Derived.Test.YtbhngccjacdlfaaM31
namespace Go.Proofs.Ytbhngccjacdlfaa
open Go.RowKit
open Go.Lib (nDigits itoa decDigits)

theorem fmod_side {x y : Int} (hy : y ≠ 0) : (0 < y ∧ 0 ≤ x.fmod y ∧ x.fmod y < y) ∨ (y < 0 ∧ x.fmod y ≤ 0 ∧ y < x.fmod y) := by
  rcases Int.lt_or_gt_of_ne hy with h | h
  · have e := Int.neg_fmod_neg x y
    have h1 := Int.fmod_nonneg_of_pos (-x) (show 0 < -y by omega)
    have h2 := Int.fmod_lt_of_pos (-x) (show 0 < -y by omega)
    exact .inr ⟨h, by omega, by omega⟩
  · exact .inl ⟨h, Int.fmod_nonneg_of_pos x h, Int.fmod_lt_of_pos x h⟩
theorem tmod_side {x y : Int} (hy : y ≠ 0) : (0 < y ∧ -y < x.tmod y ∧ x.tmod y < y) ∨ (y < 0 ∧ y < x.tmod y ∧ x.tmod y < -y) := by
  rcases Int.lt_or_gt_of_ne hy with h | h
  · have e : x.tmod (-y) = x.tmod y := Int.tmod_neg x y
    have h1 := Int.lt_tmod_of_pos x (show 0 < -y by omega)
    have h2 := Int.tmod_lt_of_pos x (show 0 < -y by omega)
    exact .inr ⟨h, by omega, by omega⟩
  · exact .inl ⟨h, Int.lt_tmod_of_pos x h, Int.tmod_lt_of_pos x h⟩
theorem tmod_step {x y : Int} (hy : y ≠ 0) : x.fmod y = x.tmod y ∨ x.fmod y = x.tmod y + y := by
  have h1 := Int.mul_fdiv_add_fmod x y
  have h2 := Int.mul_tdiv_add_tmod x y
  have hk : y * (x.tdiv y - x.fdiv y) = x.fmod y - x.tmod y := by rw [Int.mul_sub]; omega
  generalize x.tdiv y - x.fdiv y = k at *
  have f := fmod_side (x := x) hy
  have t := tmod_side (x := x) hy
  rcases f with ⟨y0, f1, f2⟩ | ⟨y0, f1, f2⟩
  · have ha : k < 2 := Int.lt_of_mul_lt_mul_left (a := y) (by omega) (by omega)
    have hb : -1 < k := Int.lt_of_mul_lt_mul_left (a := y) (by omega) (by omega)
    have : k = 0 ∨ k = 1 := by omega
    rcases this with rfl | rfl
    · left; omega
    · right; omega
  · have hk2 : (-y) * k = -(x.fmod y - x.tmod y) := by rw [Int.neg_mul, hk]
    have ha : k < 2 := Int.lt_of_mul_lt_mul_left (a := -y) (by omega) (by omega)
    have hb : -1 < k := Int.lt_of_mul_lt_mul_left (a := -y) (by omega) (by omega)
    have : k = 0 ∨ k = 1 := by omega
    rcases this with rfl | rfl
    · left; omega
    · right; omega
theorem tmod_fix {x y : Int} (hy : y ≠ 0) : (x.tmod y = 0 ∨ (x.tmod y ≠ 0 ∧ (decide (x.tmod y < 0) != decide (y < 0)) = false)) ∧ x.fmod y = x.tmod y ∨
    x.tmod y ≠ 0 ∧ (decide (x.tmod y < 0) != decide (y < 0)) = true ∧ x.fmod y = x.tmod y + y := by
  have f := fmod_side (x := x) hy
  have t := tmod_side (x := x) hy
  have s := tmod_step (x := x) hy
  generalize x.fmod y = F at *
  generalize x.tmod y = T at *
  by_cases h0 : T = 0
  · left; exact ⟨.inl h0, by omega⟩
  · by_cases hn : T < 0 <;> by_cases hyn : y < 0 <;> simp [h0, hn, hyn] <;> omega
theorem part_exact {x y : Int} (hy : y ≠ 0) : (x - x.fmod y).tdiv y = x.fdiv y := by
  have h := Int.mul_fdiv_add_fmod x y
  rw [show x - x.fmod y = y * x.fdiv y by omega]
  exact Int.mul_tdiv_cancel_left _ hy
theorem fdiv_small {x y : Int} (hy : y ≠ 0) : (x.fdiv y).natAbs ≤ x.natAbs + 1 := by
  have h := Int.mul_fdiv_add_fmod x y
  have hm : (x.fmod y).natAbs < y.natAbs := by rcases fmod_side (x := x) hy with h | h <;> omega
  have e : (y * x.fdiv y).natAbs = y.natAbs * (x.fdiv y).natAbs := Int.natAbs_mul _ _
  have h1 : y.natAbs * (x.fdiv y).natAbs ≤ x.natAbs + y.natAbs := by rw [← e]; omega
  rcases Nat.lt_or_ge (x.natAbs + 1) (x.fdiv y).natAbs with h2 | h2
  · have h3 := Nat.mul_le_mul_left y.natAbs (show x.natAbs + 2 ≤ (x.fdiv y).natAbs by omega)
    have h4 := Nat.mul_le_mul_right x.natAbs (show 1 ≤ y.natAbs by omega)
    rw [Nat.mul_add] at h3
    omega
  · exact h2

theorem tdiv_abs (x y : Int) : (if (!(decide (x < 0) == decide (y < 0))) = true then -((x.natAbs / y.natAbs : Nat) : Int) else ((x.natAbs / y.natAbs : Nat) : Int)) = x.tdiv y := by
  rcases Int.natAbs_eq x with hx | hx <;> rcases Int.natAbs_eq y with hy | hy
  all_goals
    generalize x.natAbs = u at *
    generalize y.natAbs = v at *
    subst hx hy
  · have h1 : decide ((u : Int) < 0) = false := decide_eq_false (by omega)
    have h2 : decide ((v : Int) < 0) = false := decide_eq_false (by omega)
    rw [Int.ofNat_tdiv, h1, h2]; rfl
  · rw [Int.tdiv_neg, Int.ofNat_tdiv]
    rcases Nat.eq_zero_or_pos v with rfl | h
    · simp
    · have : decide (-(v : Int) < 0) = true := decide_eq_true (by omega)
      have h2 : decide ((u : Int) < 0) = false := decide_eq_false (by omega)
      rw [this, h2]; rfl
  · rw [Int.neg_tdiv, Int.ofNat_tdiv]
    rcases Nat.eq_zero_or_pos u with rfl | h
    · simp
    · have : decide (-(u : Int) < 0) = true := decide_eq_true (by omega)
      have h2 : decide ((v : Int) < 0) = false := decide_eq_false (by omega)
      rw [this, h2]; rfl
  · rw [Int.neg_tdiv_neg, Int.ofNat_tdiv]
    rcases Nat.eq_zero_or_pos u with rfl | h
    · simp
    · rcases Nat.eq_zero_or_pos v with rfl | h'
      · simp
      · have : decide (-(u : Int) < 0) = true := decide_eq_true (by omega)
        have h2 : decide (-(v : Int) < 0) = true := decide_eq_true (by omega)
        rw [this, h2]; rfl
theorem part_cases {x y : Int} (hy : y ≠ 0) :
    (x.natAbs % y.natAbs = 0 ∧ x.tdiv y = x.fdiv y) ∨
    (x.natAbs % y.natAbs ≠ 0 ∧ (!(decide (x < 0) == decide (y < 0))) = false ∧ x.tdiv y = x.fdiv y) ∨
    (x.natAbs % y.natAbs ≠ 0 ∧ (!(decide (x < 0) == decide (y < 0))) = true ∧ x.tdiv y - 1 = x.fdiv y) := by
  have h1 := Int.mul_fdiv_add_fmod x y
  have h2 := Int.mul_tdiv_add_tmod x y
  have ha : (x.tmod y).natAbs = x.natAbs % y.natAbs := Int.natAbs_tmod x y
  have hs : x.tmod y = 0 ∨ (decide (x.tmod y < 0) = decide (x < 0)) := by
    by_cases h0 : x.tmod y = 0
    · exact .inl h0
    · right
      rcases (show x < 0 ∨ 0 ≤ x by omega) with h | h
      · have : (-x).tmod y = -(x.tmod y) := Int.neg_tmod x y
        have h3 := Int.tmod_nonneg y (show 0 ≤ -x by omega)
        rw [decide_eq_true h, decide_eq_true (show x.tmod y < 0 by omega)]
      · have h3 := Int.tmod_nonneg y h
        rw [decide_eq_false (show ¬ x < 0 by omega), decide_eq_false (show ¬ x.tmod y < 0 by omega)]
  have f := fmod_side (x := x) hy
  have t := tmod_side (x := x) hy
  have s := tmod_fix (x := x) hy
  have hq : ∀ k : Int, y * (x.tdiv y) - y * (x.fdiv y) = k * y → x.tdiv y - x.fdiv y = k := by
    intro k hk
    rw [← Int.mul_sub, Int.mul_comm k y] at hk
    exact Int.eq_of_mul_eq_mul_left hy hk
  by_cases h0 : x.tmod y = 0
  · left
    have hF : x.fmod y = x.tmod y := by
      rcases s with ⟨_, h⟩ | ⟨h, _⟩
      · exact h
      · exact absurd h0 h
    have := hq 0 (by omega)
    exact ⟨by omega, by omega⟩
  · right
    have hs2 := hs.resolve_left h0
    rcases s with ⟨h | ⟨_, h⟩, hF⟩ | ⟨_, h, hF⟩
    · exact absurd h h0
    · left
      have := hq 0 (by omega)
      refine ⟨by omega, ?_, by omega⟩
      rw [← hs2]; exact h
    · right
      have := hq 1 (by omega)
      refine ⟨by omega, ?_, by omega⟩
      rw [← hs2]; exact h
theorem fdiv_back (x y : Int) : x - x.fdiv y * y = x.fmod y := by
  have h1 := Int.mul_fdiv_add_fmod x y
  rw [Int.mul_comm] at h1; omega
theorem nd_fdiv {x y : Int} {k : Nat} (hk : 1 ≤ k) (hy : y ≠ 0) (hx : nDigits x.natAbs ≤ k) : nDigits (x.fdiv y).natAbs ≤ k + 1 := by
  have h1 := (nd_le_iff hk).1 hx
  have h := fdiv_small (x := x) hy
  refine (nd_le_iff (by omega)).2 ?_
  rw [Nat.pow_succ]
  generalize 10 ^ k = p at *
  omega
theorem nd_back {x y : Int} {k : Nat} (hk : 1 ≤ k) (hy : y ≠ 0) (hx : nDigits x.natAbs ≤ k) (hy' : nDigits y.natAbs ≤ k) : nDigits (x.fdiv y * y).natAbs ≤ k + 1 := by
  have h1 := (nd_le_iff hk).1 hx
  have h2 := (nd_le_iff hk).1 hy'
  have h := fdiv_back x y
  have f := fmod_side (x := x) hy
  refine (nd_le_iff (by omega)).2 ?_
  rw [Nat.pow_succ]
  generalize 10 ^ k = p at *
  omega
end Go.Proofs.Ytbhngccjacdlfaa
