/- Texts of classes, in numbers: the digits of a number below 1000, and which letters a byte stands for. -/
import Derived.Test.YthifdgddegpbjaaDoorG10
namespace Go.Proofs.YthifdgddegpbjaaDoor
open Go.RowKit

def dg (n : Nat) : List UInt8 := if n < 10 then [UInt8.ofNat (48 + n)] else if n < 100 then [UInt8.ofNat (48 + n / 10), UInt8.ofNat (48 + n % 10)] else [UInt8.ofNat (48 + n / 100), UInt8.ofNat (48 + n / 10 % 10), UInt8.ofNat (48 + n % 10)]
theorem dec_dg {n : Nat} (h : n < 1000) : Lib.decDigits n = dg n := by
  unfold dg
  by_cases h1 : n < 10
  · rw [if_pos h1, Lib.decDigits, dif_pos h1]
  · rw [if_neg h1, Lib.decDigits, dif_neg h1]
    by_cases h2 : n < 100
    · rw [if_pos h2, Lib.decDigits, dif_pos (by omega)]; rfl
    · rw [if_neg h2, Lib.decDigits, dif_neg (by omega), Lib.decDigits, dif_pos (by omega), Nat.div_div_eq_div_mul]; rfl
def dgB (a : UInt8) : Bool := decide (48 ≤ a.toNat) && decide (a.toNat ≤ 57)
/-- the number whose digits, at most three and without a leading zero, a text is -/
def numOf : List UInt8 → Option Nat
  | [a] => if dgB a then some (a.toNat - 48) else none
  | [a, b] => if dgB a && dgB b && decide (a.toNat ≠ 48) then some (10 * (a.toNat - 48) + (b.toNat - 48)) else none
  | [a, b, c] => if dgB a && dgB b && dgB c && decide (a.toNat ≠ 48) then some (10 * (10 * (a.toNat - 48) + (b.toNat - 48)) + (c.toNat - 48)) else none
  | _ => none
theorem num1 (a : UInt8) : numOf [a] = if dgB a then some (a.toNat - 48) else none := rfl
theorem num2 (a b : UInt8) : numOf [a, b] = if dgB a && dgB b && decide (a.toNat ≠ 48) then some (10 * (a.toNat - 48) + (b.toNat - 48)) else none := rfl
theorem num3 (a b c : UInt8) : numOf [a, b, c] = if dgB a && dgB b && dgB c && decide (a.toNat ≠ 48) then some (10 * (10 * (a.toNat - 48) + (b.toNat - 48)) + (c.toNat - 48)) else none := rfl
theorem u8_of {a : UInt8} {n : Nat} (h : a.toNat = 48 + n) (_hn : n < 10) : a = UInt8.ofNat (48 + n) := by rw [← h]; simp
theorem dgB_iff {a : UInt8} : dgB a = true ↔ 48 ≤ a.toNat ∧ a.toNat ≤ 57 := by unfold dgB; simp
theorem numOf_some : ∀ {t : List UInt8} {n : Nat}, numOf t = some n → n < 1000 ∧ t = dg n
  | [], n, h => by simp [numOf] at h
  | [a], n, h => by
    rw [num1] at h
    split at h
    · rename_i ha
      rw [dgB_iff] at ha
      cases h
      refine ⟨by omega, ?_⟩
      unfold dg
      rw [if_pos (by omega), ← u8_of (a := a) (by omega) (by omega)]
    · cases h
  | [a, b], n, h => by
    rw [num2] at h
    split at h
    · rename_i ha
      simp only [Bool.and_eq_true, dgB_iff, decide_eq_true_eq] at ha
      obtain ⟨⟨ha, hb⟩, hz⟩ := ha
      cases h
      refine ⟨by omega, ?_⟩
      unfold dg
      rw [if_neg (by omega), if_pos (by omega), ← u8_of (a := a) (by omega) (by omega), ← u8_of (a := b) (by omega) (by omega)]
    · cases h
  | [a, b, c], n, h => by
    rw [num3] at h
    split at h
    · rename_i ha
      simp only [Bool.and_eq_true, dgB_iff, decide_eq_true_eq] at ha
      obtain ⟨⟨⟨ha, hb⟩, hc⟩, hz⟩ := ha
      cases h
      refine ⟨by omega, ?_⟩
      unfold dg
      rw [if_neg (by omega), if_neg (by omega), ← u8_of (a := a) (by omega) (by omega), ← u8_of (a := b) (by omega) (by omega), ← u8_of (a := c) (by omega) (by omega)]
    · cases h
  | a :: b :: c :: d :: t, n, h => by simp [numOf] at h
theorem toNat_dig {n : Nat} (h : n < 10) : (UInt8.ofNat (48 + n)).toNat = 48 + n := by simp; omega
theorem numOf_dg {n : Nat} (h : n < 1000) : numOf (dg n) = some n := by
  unfold dg
  by_cases h1 : n < 10
  · rw [if_pos h1]
    have e := toNat_dig h1
    rw [num1]
    unfold dgB
    rw [e, if_pos (by simp; omega)]
    congr 1; omega
  · rw [if_neg h1]
    by_cases h2 : n < 100
    · rw [if_pos h2]
      have e1 := toNat_dig (n := n / 10) (by omega)
      have e2 := toNat_dig (n := n % 10) (by omega)
      rw [num2]
      unfold dgB
      rw [e1, e2, if_pos (by simp; omega)]
      congr 1; omega
    · rw [if_neg h2]
      have e1 := toNat_dig (n := n / 100) (by omega)
      have e2 := toNat_dig (n := n / 10 % 10) (by omega)
      have e3 := toNat_dig (n := n % 10) (by omega)
      rw [num3]
      unfold dgB
      rw [e1, e2, e3, if_pos (by simp; omega)]
      congr 1; omega
def isOk (n : Nat) : Lib.NumEnd Int → Bool
  | .ok v => v == (n : Int)
  | _ => false
theorem atoi_all : (List.range 1000).all (fun n => isOk n (Lib.atoiAll (dg n))) = true := by kernel_rfl
theorem atoi_dg {n : Nat} (h : n < 1000) : Lib.atoiAll (dg n) = .ok (n : Int) := by
  have := List.all_eq_true.1 atoi_all n (List.mem_range.2 h)
  unfold isOk at this
  split at this
  · rename_i v hv
    rw [hv]
    have e : v = (n : Int) := by simpa using this
    rw [e]
  · cases this
/-! which letter a byte stands for -/
abbrev capB : ByteArray := ⟨#[68, 69, 70, 71, 72, 74, 75, 77, 78, 80]⟩
/-- the program's: by the small letter, of an ASCII byte -/
def pIdx (c : UInt8) : Int := if c.toNat < 128 then Lib.indexByte letB.data.toList (Lib.lowerB c) else -1
/-- the reference's -/
def rIdx (c : UInt8) : Int := if 0 ≤ Lib.indexByte letB.data.toList c then Lib.indexByte letB.data.toList c else Lib.indexByte capB.data.toList c
def rHole (c : UInt8) : Bool := decide (Lib.indexByte letB.data.toList c < 0)
def letOk (n : Nat) : Bool :=
  let c := UInt8.ofNat n
  pIdx c == rIdx c && (decide (rIdx c < 0) || (decide (rIdx c < 10) && (((c.toNat : Int) != ((lowU (rIdx c).toNat).toNat : Int)) == rHole c) && (Lib.lowerB c == lowU (rIdx c).toNat) && decide (c.toNat < 128)))
theorem let_all : (List.range 256).all letOk = true := by kernel_rfl
theorem let_one (c : UInt8) : pIdx c = rIdx c ∧ (0 ≤ rIdx c → rIdx c < 10 ∧ ((c.toNat : Int) != ((lowU (rIdx c).toNat).toNat : Int)) = rHole c ∧ Lib.lowerB c = lowU (rIdx c).toNat ∧ c.toNat < 128) := by
  have := List.all_eq_true.1 let_all c.toNat (List.mem_range.2 c.toNat_lt)
  unfold letOk at this
  rw [show UInt8.ofNat c.toNat = c by simp] at this
  simp only [Bool.and_eq_true, Bool.or_eq_true, beq_iff_eq, decide_eq_true_eq] at this
  obtain ⟨h1, h2⟩ := this
  refine ⟨h1, fun h => ?_⟩
  rcases h2 with h2 | ⟨⟨⟨h2, h3⟩, h4⟩, h5⟩
  · omega
  · exact ⟨h2, h3, h4, h5⟩
end Go.Proofs.YthifdgddegpbjaaDoor
