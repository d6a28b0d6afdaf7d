/- Numbers in words of nine decimal digits: sums, differences and orders word by word. No program is named here. -/
import Derived.Lib.ItoaNum
namespace Go.Proofs.YthifdgddegpbjaaDoor

def B9 : Nat := 1000000000
def wd (A i : Nat) : Nat := A / B9 ^ i % B9
theorem B9_pos : 0 < B9 := by decide
theorem B9p_pos (i : Nat) : 0 < B9 ^ i := Nat.pow_pos B9_pos
theorem wd_lt (A i : Nat) : wd A i < 1000000000 := Nat.mod_lt _ B9_pos
theorem mod_succ (A i : Nat) : A % B9 ^ (i + 1) = A % B9 ^ i + B9 ^ i * wd A i := by
  unfold wd; rw [Nat.pow_succ, Nat.mod_mul]
theorem wd_of_lt {A i : Nat} (h : A < B9 ^ i) : wd A i = 0 := by
  unfold wd; rw [Nat.div_eq_of_lt h]; rfl
theorem wd_zero (i : Nat) : wd 0 i = 0 := by unfold wd; simp
theorem pow_le {i j : Nat} (h : i ≤ j) : B9 ^ i ≤ B9 ^ j := Nat.pow_le_pow_right B9_pos h

/-- the carry into word k of a sum -/
def cy (A B k : Nat) : Nat := (A % B9 ^ k + B % B9 ^ k) / B9 ^ k
theorem cy_zero (A B : Nat) : cy A B 0 = 0 := by unfold cy; simp [Nat.mod_one]
theorem cy_le (A B k : Nat) : cy A B k ≤ 1 := by
  unfold cy
  have h1 := Nat.mod_lt A (B9p_pos k); have h2 := Nat.mod_lt B (B9p_pos k)
  have : (A % B9 ^ k + B % B9 ^ k) / B9 ^ k < 2 := Nat.div_lt_of_lt_mul (by omega)
  omega
theorem sum_div (A B k : Nat) : (A + B) / B9 ^ k = A / B9 ^ k + B / B9 ^ k + cy A B k := by
  unfold cy
  have hA := Nat.div_add_mod A (B9 ^ k); have hB := Nat.div_add_mod B (B9 ^ k)
  conv => lhs; rw [← hA, ← hB]
  rw [show B9 ^ k * (A / B9 ^ k) + A % B9 ^ k + (B9 ^ k * (B / B9 ^ k) + B % B9 ^ k) = B9 ^ k * (A / B9 ^ k + B / B9 ^ k) + (A % B9 ^ k + B % B9 ^ k) by rw [Nat.mul_add]; omega]
  rw [Nat.mul_add_div (B9p_pos k)]
theorem wd_add (A B k : Nat) : (wd A k + wd B k + cy A B k) % B9 = wd (A + B) k := by
  unfold wd; rw [sum_div]; simp [Nat.add_mod]
theorem cy_succ (A B k : Nat) : cy A B (k + 1) = (wd A k + wd B k + cy A B k) / B9 := by
  have h1 := sum_div A B (k + 1)
  have h2 := sum_div A B k
  have e : ∀ X : Nat, X / B9 ^ (k + 1) = X / B9 ^ k / B9 := fun X => by rw [Nat.pow_succ, ← Nat.div_div_eq_div_mul]
  rw [e, e A, e B, h2] at h1
  unfold wd
  have := B9_pos
  have a1 := Nat.div_add_mod (A / B9 ^ k) B9
  have a2 := Nat.div_add_mod (B / B9 ^ k) B9
  have key : (A / B9 ^ k + B / B9 ^ k + cy A B k) / B9 = A / B9 ^ k / B9 + B / B9 ^ k / B9 + (A / B9 ^ k % B9 + B / B9 ^ k % B9 + cy A B k) / B9 := by
    conv => lhs; rw [← a1, ← a2]
    rw [show B9 * (A / B9 ^ k / B9) + A / B9 ^ k % B9 + (B9 * (B / B9 ^ k / B9) + B / B9 ^ k % B9) + cy A B k = B9 * (A / B9 ^ k / B9 + B / B9 ^ k / B9) + (A / B9 ^ k % B9 + B / B9 ^ k % B9 + cy A B k) by rw [Nat.mul_add]; omega]
    rw [Nat.mul_add_div B9_pos]
  omega

/-- the borrow into word k of a difference -/
def bw (A B k : Nat) : Nat := if A % B9 ^ k < B % B9 ^ k then 1 else 0
theorem bw_zero (A B : Nat) : bw A B 0 = 0 := by unfold bw; simp [Nat.mod_one]
theorem bw_le (A B k : Nat) : bw A B k ≤ 1 := by unfold bw; split <;> omega
theorem bw_succ (A B k : Nat) : bw A B (k + 1) = if wd A k < wd B k + bw A B k then 1 else 0 := by
  unfold bw
  rw [mod_succ A, mod_succ B]
  have h1 := Nat.mod_lt A (B9p_pos k); have h2 := Nat.mod_lt B (B9p_pos k)
  generalize A % B9 ^ k = a at *; generalize B % B9 ^ k = b at *; generalize wd A k = x; generalize wd B k = y; generalize B9 ^ k = p at *
  rcases Nat.lt_trichotomy x y with h | h | h
  · have : p * (x + 1) ≤ p * y := Nat.mul_le_mul_left _ h
    rw [Nat.mul_add] at this
    rw [if_pos (by omega), if_pos (by omega)]
  · subst h
    by_cases hab : a < b
    · rw [if_pos (by omega), if_pos (by rw [if_pos hab]; omega)]
    · rw [if_neg (by omega), if_neg (by rw [if_neg hab]; omega)]
  · have : p * (y + 1) ≤ p * x := Nat.mul_le_mul_left _ h
    rw [Nat.mul_add] at this
    rw [if_neg (by omega), if_neg (by split <;> omega)]
theorem sub_div (A B k : Nat) (h : B ≤ A) : A / B9 ^ k = (A - B) / B9 ^ k + B / B9 ^ k + bw A B k := by
  have h1 := sum_div (A - B) B k
  rw [Nat.sub_add_cancel h] at h1
  rw [h1]
  have : cy (A - B) B k = bw A B k := by
    unfold cy bw
    have hp := B9p_pos k
    have hm1 := Nat.mod_lt (A - B) hp; have hm2 := Nat.mod_lt B hp
    have ha : A % B9 ^ k = ((A - B) % B9 ^ k + B % B9 ^ k) % B9 ^ k := by rw [← Nat.add_mod, Nat.sub_add_cancel h]
    generalize (A - B) % B9 ^ k = a at *; generalize B % B9 ^ k = b at *; generalize B9 ^ k = p at *
    by_cases hs : a + b < p
    · rw [ha, Nat.mod_eq_of_lt hs, Nat.div_eq_of_lt hs, if_neg (by omega)]
    · have e1 : (a + b) % p = a + b - p := by rw [Nat.mod_eq_sub_mod (by omega), Nat.mod_eq_of_lt (by omega)]
      have e2 : (a + b) / p = 1 := by rw [Nat.div_eq_iff hp]; omega
      rw [ha, e1, e2, if_pos (by omega)]
  omega
theorem wd_sub (A B k : Nat) (h : B ≤ A) : wd A k + bw A B (k + 1) * B9 = wd (A - B) k + wd B k + bw A B k := by
  have h1 := sub_div A B k h
  have h2 := sub_div A B (k + 1) h
  have e : ∀ X : Nat, X / B9 ^ (k + 1) = X / B9 ^ k / B9 := fun X => by rw [Nat.pow_succ, ← Nat.div_div_eq_div_mul]
  rw [e, e (A - B), e B] at h2
  unfold wd
  have a1 := Nat.div_add_mod (A / B9 ^ k) B9
  have a2 := Nat.div_add_mod (B / B9 ^ k) B9
  have a3 := Nat.div_add_mod ((A - B) / B9 ^ k) B9
  generalize A / B9 ^ k = x at *; generalize B / B9 ^ k = y at *; generalize (A - B) / B9 ^ k = z at *
  generalize x / B9 = x1 at *; generalize y / B9 = y1 at *; generalize z / B9 = z1 at *
  generalize bw A B (k+1) = c at *
  unfold B9 at *
  omega

/-- words decide the order -/
theorem ge_of_words {A B : Nat} (k : Nat) (hk : wd A k > wd B k) (hu : A / B9 ^ (k + 1) = B / B9 ^ (k + 1)) : B < A := by
  have e : ∀ X : Nat, X / B9 ^ (k + 1) = X / B9 ^ k / B9 := fun X => by rw [Nat.pow_succ, ← Nat.div_div_eq_div_mul]
  rw [e, e] at hu
  unfold wd at hk
  have h : B / B9 ^ k < A / B9 ^ k := by
    have a1 := Nat.div_add_mod (A / B9 ^ k) B9
    have a2 := Nat.div_add_mod (B / B9 ^ k) B9
    rw [hu] at a1; omega
  exact Nat.lt_of_not_le fun hle => absurd (Nat.div_le_div_right (c := B9 ^ k) hle) (by omega)
theorem div_step (A k : Nat) : A / B9 ^ k = A / B9 ^ (k + 1) * B9 + wd A k := by
  unfold wd
  rw [Nat.pow_succ, ← Nat.div_div_eq_div_mul]
  have := Nat.div_add_mod (A / B9 ^ k) B9
  rw [Nat.mul_comm] at this; exact this.symm

/-- how many words a number has -/
def nw (A : Nat) : Nat := if h : A = 0 then 0 else nw (A / B9) + 1
termination_by A
decreasing_by exact Nat.div_lt_self (by omega) (by decide)
theorem nw_zero : nw 0 = 0 := by rw [nw]; simp
theorem nw_pos {A : Nat} (h : A ≠ 0) : nw A = nw (A / B9) + 1 := by rw [nw, dif_neg h]
theorem lt_pow_nw (A : Nat) : A < B9 ^ nw A := by
  induction A using Nat.strongRecOn with
  | _ A ih =>
    by_cases h : A = 0
    · subst h; rw [nw_zero]; simp
    · rw [nw_pos h, Nat.pow_succ]
      have := ih (A / B9) (Nat.div_lt_self (by omega) (by decide))
      exact (Nat.div_lt_iff_lt_mul B9_pos).1 this
theorem nw_le {A k : Nat} (h : A < B9 ^ k) : nw A ≤ k := by
  induction k generalizing A with
  | zero => have : A = 0 := by simpa using h
            subst this; rw [nw_zero]; omega
  | succ k ih =>
    by_cases h0 : A = 0
    · subst h0; rw [nw_zero]; omega
    · rw [nw_pos h0]
      have := ih (A := A / B9) ((Nat.div_lt_iff_lt_mul B9_pos).2 (by rw [← Nat.pow_succ]; exact h))
      omega
theorem nw_gt {A k : Nat} (h : B9 ^ k ≤ A) : k < nw A := by
  rcases Nat.lt_or_ge k (nw A) with h1 | h1
  · exact h1
  · exact absurd (Nat.lt_of_lt_of_le (lt_pow_nw A) (pow_le h1)) (by omega)
theorem nw_eq {A k : Nat} (h1 : B9 ^ k ≤ A) (h2 : A < B9 ^ (k + 1)) : nw A = k + 1 := by
  have a := nw_gt h1; have b := nw_le h2; omega
theorem wd_beyond {A i : Nat} (h : nw A ≤ i) : wd A i = 0 := wd_of_lt (Nat.lt_of_lt_of_le (lt_pow_nw A) (pow_le h))
theorem wd_top {A : Nat} (h : 0 < nw A) : wd A (nw A - 1) ≠ 0 := by
  intro e
  have h1 := div_step A (nw A - 1)
  rw [e, show nw A - 1 + 1 = nw A by omega, Nat.div_eq_of_lt (lt_pow_nw A)] at h1
  have h2 : A < B9 ^ (nw A - 1) := by
    rcases Nat.lt_or_ge A (B9 ^ (nw A - 1)) with h3 | h3
    · exact h3
    · have := (Nat.one_le_div_iff (B9p_pos (nw A - 1))).2 h3; omega
  have := nw_le h2; omega
/-- the number that words below k make -/
theorem mod_eq_of_words {A B k : Nat} (h : ∀ i, i < k → wd A i = wd B i) : A % B9 ^ k = B % B9 ^ k := by
  induction k with
  | zero => simp [Nat.mod_one]
  | succ k ih => rw [mod_succ, mod_succ, ih fun i hi => h i (by omega), h k (by omega)]
theorem eq_of_words {A B k : Nat} (hA : A < B9 ^ k) (hB : B < B9 ^ k) (h : ∀ i, i < k → wd A i = wd B i) : A = B := by
  have := mod_eq_of_words h
  rwa [Nat.mod_eq_of_lt hA, Nat.mod_eq_of_lt hB] at this
end Go.Proofs.YthifdgddegpbjaaDoor
