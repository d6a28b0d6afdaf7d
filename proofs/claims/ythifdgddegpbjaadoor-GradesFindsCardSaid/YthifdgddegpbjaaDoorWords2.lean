/- Numbers in words of nine decimal digits: products, and quotients by one word. No program is named here. -/
import Derived.Test.YthifdgddegpbjaaDoorWords
namespace Go.Proofs.YthifdgddegpbjaaDoor

theorem dv_succ (X k : Nat) : X / B9 ^ (k + 1) = X / B9 ^ k / B9 := by rw [Nat.pow_succ, ← Nat.div_div_eq_div_mul]
theorem wd_eq (X k : Nat) : wd X k = X / B9 ^ k % B9 := rfl
/-- words below k do not see multiples of B9 ^ k -/
theorem wd_low (X Y i k : Nat) (h : i < k) : wd (X + B9 ^ k * Y) i = wd X i := by
  unfold wd
  rw [show k = i + (k - i) by omega, Nat.pow_add, Nat.mul_assoc, Nat.add_mul_div_left _ _ (B9p_pos i)]
  rw [show k - i = (k - i - 1) + 1 by omega, Nat.pow_succ, Nat.mul_comm (B9 ^ (k - i - 1)) B9, Nat.mul_assoc, Nat.add_mul_mod_self_left]
theorem div_low (X Y k : Nat) : (X + B9 ^ k * Y) / B9 ^ k = X / B9 ^ k + Y := Nat.add_mul_div_left _ _ (B9p_pos k)

/-- one step of a row of a product: T is what stands with the columns below k, P what stood before the row, xy the next product. -/
theorem row_word (P T k xy carry : Nat) (hc : T / B9 ^ k = P / B9 ^ k + carry) :
    (wd P k + xy + carry) % B9 = wd (T + B9 ^ k * xy) k := by
  rw [wd_eq (T + _), div_low, hc, wd_eq P]
  simp [Nat.add_mod, Nat.add_comm, Nat.add_left_comm]
theorem row_carry (P T k xy carry : Nat) (hc : T / B9 ^ k = P / B9 ^ k + carry) :
    (T + B9 ^ k * xy) / B9 ^ (k + 1) = P / B9 ^ (k + 1) + (wd P k + xy + carry) / B9 := by
  rw [dv_succ, div_low, hc, dv_succ, wd_eq P]
  have a := Nat.div_add_mod (P / B9 ^ k) B9
  generalize P / B9 ^ k = p at *
  conv => lhs; rw [← a]
  rw [show B9 * (p / B9) + p % B9 + carry + xy = B9 * (p / B9) + (p % B9 + xy + carry) by omega, Nat.mul_add_div B9_pos]

/-- the carry into word k of a product by one word -/
def cm (A f k : Nat) : Nat := (A % B9 ^ k * f) / B9 ^ k
theorem cm_zero (A f : Nat) : cm A f 0 = 0 := by unfold cm; simp [Nat.mod_one]
theorem mul_div (A f k : Nat) : A * f / B9 ^ k = A / B9 ^ k * f + cm A f k := by
  unfold cm
  have hA := Nat.div_add_mod A (B9 ^ k)
  conv => lhs; rw [← hA]
  rw [Nat.add_mul, Nat.mul_assoc, Nat.mul_add_div (B9p_pos k)]
theorem wd_mul (A f k : Nat) : (wd A k * f + cm A f k) % B9 = wd (A * f) k := by
  rw [wd_eq (A * f), mul_div]; unfold wd; simp [Nat.add_mod, Nat.mul_mod]
theorem cm_succ (A f k : Nat) : cm A f (k + 1) = (wd A k * f + cm A f k) / B9 := by
  have h1 := mul_div A f (k + 1)
  rw [dv_succ, mul_div, dv_succ A] at h1
  unfold wd
  have a := Nat.div_add_mod (A / B9 ^ k) B9
  generalize A / B9 ^ k = p at *
  have key : (p * f + cm A f k) / B9 = p / B9 * f + (p % B9 * f + cm A f k) / B9 := by
    conv => lhs; rw [← a]
    rw [Nat.add_mul, Nat.mul_assoc, Nat.add_assoc, Nat.mul_add_div B9_pos]
  omega
theorem cm_lt (A f k : Nat) (hf : 0 < f) : cm A f k < f := by
  unfold cm
  refine (Nat.div_lt_iff_lt_mul (B9p_pos k)).2 ?_
  rw [Nat.mul_comm]; exact (Nat.mul_lt_mul_left hf).2 (Nat.mod_lt _ (B9p_pos k))
theorem cm_top {A k : Nat} (f : Nat) (h : A < B9 ^ k) : cm A f k = wd (A * f) k + (A * f / B9 ^ (k + 1)) * B9 := by
  unfold cm; rw [Nat.mod_eq_of_lt h, div_step]; omega

/-- the rest above word k in a division by one word -/
def rs (A p k : Nat) : Nat := A / B9 ^ k % p
theorem rs_step (A p k : Nat) : (rs A p (k + 1) * B9 + wd A k) % p = rs A p k := by
  unfold rs; rw [div_step A k]; simp [Nat.add_mod, Nat.mul_mod]
theorem wd_div (A p k : Nat) (hp : 0 < p) : (rs A p (k + 1) * B9 + wd A k) / p = wd (A / p) k := by
  unfold rs
  rw [wd_eq (A / p), Nat.div_div_eq_div_mul, Nat.mul_comm p, ← Nat.div_div_eq_div_mul, div_step A k]
  generalize A / B9 ^ (k + 1) = x
  have a := Nat.div_add_mod x p
  have hw := wd_lt A k
  have hlt : (x % p * B9 + wd A k) / p < B9 := by
    refine (Nat.div_lt_iff_lt_mul hp).2 ?_
    have : x % p + 1 ≤ p := Nat.mod_lt _ hp
    have h2 := Nat.mul_le_mul_right B9 this
    rw [Nat.add_mul] at h2
    have : wd A k < B9 := hw
    rw [Nat.mul_comm B9 p]
    omega
  have key : (x * B9 + wd A k) / p = B9 * (x / p) + (x % p * B9 + wd A k) / p := by
    conv => lhs; rw [← a]
    rw [Nat.add_mul, Nat.mul_assoc, Nat.add_assoc, Nat.mul_add_div hp, Nat.mul_comm (x / p)]
  rw [key, Nat.mul_add_mod, Nat.mod_eq_of_lt hlt]
theorem rs_zero (A p : Nat) : rs A p 0 = A % p := by unfold rs; simp
theorem rs_top {A k : Nat} (p : Nat) (h : A < B9 ^ k) : rs A p k = 0 := by unfold rs; rw [Nat.div_eq_of_lt h]; simp
theorem rs_lt (A p k : Nat) (hp : 0 < p) : rs A p k < p := Nat.mod_lt _ hp
end Go.Proofs.YthifdgddegpbjaaDoor
