/- Texts Pow, Powx: each says in its own first comment what it proves. -/
import Derived.Test.YtcgilcmhandgfaaGreatDoorM11
import Derived.Test.YtcgilcmhandgfaaGreatDoorM16
/- Walk over whole.Pow: powers by squaring. -/
namespace Go.Proofs.YtcgilcmhandgfaaGreatDoor
open Go.RowKit
open Go.Lib (nDigits itoa decDigits)

theorem natAbs_pow (x : Int) (n : Nat) : (x ^ n).natAbs = x.natAbs ^ n := Int.natAbs_pow x n
set_option exponentiation.threshold 2000 in
theorem ok_pow_le {x : Int} {j n : Nat} (h : j ≤ n) (hok : Ok (x ^ n)) : Ok (x ^ j) := by
  unfold Ok at *
  rw [natAbs_pow] at *
  refine (nd_le_iff (by omega)).2 ?_
  have h1 := (nd_le_iff (by omega)).1 hok
  rcases Nat.eq_zero_or_pos x.natAbs with h0 | h0
  · rw [h0]
    refine Nat.lt_of_le_of_lt (m := 1) ?_ (Nat.one_lt_pow (by omega) (by omega))
    cases j with
    | zero => simp
    | succ j => rw [Nat.pow_succ]; simp
  · exact Nat.lt_of_le_of_lt (Nat.pow_le_pow_right h0 h) h1

theorem lt_len (x : Nat) (hx : x < 2 ^ 64) : x < 2 ^ Lib.bitLen x := by
  induction x using Nat.strongRecOn with
  | _ x ih =>
    by_cases h0 : x = 0
    · subst h0; exact Nat.two_pow_pos _
    · have := ih (x / 2) (by omega) (by omega)
      rw [Lib.bitLen_half x h0 hx, Nat.add_comm, Nat.pow_succ]; omega
theorem len_le : ∀ (k x : Nat), x < 2 ^ 64 → x < 2 ^ k → Lib.bitLen x ≤ k
  | 0, x, _, h => by
    have : x = 0 := by simpa using h
    subst this; exact Nat.le_refl _
  | k + 1, x, hx, h => by
    by_cases h0 : x = 0
    · subst h0; exact Nat.zero_le _
    · have := len_le k (x / 2) (by omega) (by rw [Nat.pow_succ] at h; omega)
      rw [Lib.bitLen_half x h0 hx]; omega
theorem len_small (n : Nat) (hn : n ≤ 4096) : n < 2 ^ Lib.bitLen n ∧ Lib.bitLen n ≤ 13 := by
  have h64 : n < 2 ^ 64 := Nat.lt_of_le_of_lt hn (by decide)
  exact ⟨lt_len n h64, len_le 13 n h64 (Nat.lt_of_le_of_lt hn (by decide))⟩
theorem and_one (a : Nat) (ha : a ≤ 4096) : bits .and .i64 (a : Int) 1 = ((a % 2 : Nat) : Int) := by
  show IntKind.i64.wrap ((BitVec.ofInt 64 (a : Int) &&& BitVec.ofInt 64 ((1 : Nat) : Int)).toNat : Int) = _
  rw [BitVec.toNat_and, BitVec.ofInt_natCast, BitVec.ofInt_natCast, BitVec.toNat_ofNat, BitVec.toNat_ofNat, Nat.mod_eq_of_lt (Nat.lt_of_le_of_lt ha (by decide)), Nat.mod_eq_of_lt (by decide), Nat.and_one_is_mod, IntKind.wrap_i64]
  omega
theorem shift_bit (n j : Nat) (hn : n ≤ 4096) : bits .and .i64 ((n : Int) / 2 ^ j) 1 = ((n / 2 ^ j % 2 : Nat) : Int) := by
  have e : (n : Int) / 2 ^ j = ((n / 2 ^ j : Nat) : Int) := by rw [Int.natCast_ediv, Int.natCast_pow]; rfl
  rw [e, and_one _ (Nat.le_trans (Nat.div_le_self _ _) hn)]
theorem shift_step (n j : Nat) : n / 2 ^ j = 2 * (n / 2 ^ (j + 1)) + n / 2 ^ j % 2 := by
  rw [Nat.pow_succ, ← Nat.div_div_eq_div_mul]; omega




























































































































end Go.Proofs.YtcgilcmhandgfaaGreatDoor

/- Pow at a text that is none, and at an exponent out of range. -/
namespace Go.Proofs.YtcgilcmhandgfaaGreatDoor
open Go.RowKit











































/-- the text and the error of a power, of every text and every exponent -/
def powB (a : ByteArray) (n : Int) : ByteArray := if chk a.data.toList = 0 ∧ 0 ≤ n ∧ n ≤ 4096 then resB (valS a ^ n.toNat) else ⟨#[]⟩
def powE (a : ByteArray) (n : Int) : Int := if chk a.data.toList = 0 then (if 0 ≤ n ∧ n ≤ 4096 then resE (valS a ^ n.toNat) else 2) else chk a.data.toList






















end Go.Proofs.YtcgilcmhandgfaaGreatDoor
