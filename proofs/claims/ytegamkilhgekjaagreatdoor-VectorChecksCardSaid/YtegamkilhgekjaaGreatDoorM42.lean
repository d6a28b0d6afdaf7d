/- Texts Sm, RopA: each says in its own first comment what it proves. -/
import Derived.Test.YtegamkilhgekjaaGreatDoorM41
import Derived.Test.YtegamkilhgekjaaGreatDoorM02
/- Rational numbers whose numerators and denominators are short, and the operations of package ratio on their texts. -/
namespace Go.Proofs.YtegamkilhgekjaaGreatDoor
open Go.RowKit
open Go.Lib (nDigits itoa decDigits)

/-- numerator and denominator have at most k digits -/
def Sm (k : Nat) (q : Rat) : Prop := q.num.natAbs < 10 ^ k ∧ q.den < 10 ^ k
set_option exponentiation.threshold 2000 in
theorem ok_pow {z : Int} {k : Nat} (h : z.natAbs < 10 ^ k) (hk : k ≤ 1024) : Ok z := by
  unfold Ok
  exact (nd_le_iff (by omega)).2 (Nat.lt_of_lt_of_le h (Nat.pow_le_pow_right (by omega) hk))
theorem Sm.ok {k : Nat} {q : Rat} (h : Sm k q) (hk : k ≤ 1024) : OkR q := ⟨ok_pow h.1 hk, ok_pow (by rw [Int.natAbs_natCast]; exact h.2) hk⟩
theorem Sm.mono {k j : Nat} {q : Rat} (h : Sm k q) (hk : k ≤ j) : Sm j q :=
  ⟨Nat.lt_of_lt_of_le h.1 (Nat.pow_le_pow_right (by omega) hk), Nat.lt_of_lt_of_le h.2 (Nat.pow_le_pow_right (by omega) hk)⟩
theorem num_le {n d : Int} (hd : d ≠ 0) : (Rat.divInt n d).num.natAbs ≤ n.natAbs := by
  rw [Rat.num_divInt]
  have h1 : (d.sign * n).natAbs = n.natAbs := by
    rw [Int.natAbs_mul, Int.natAbs_sign_of_ne_zero hd, Nat.one_mul]
  have := Int.natAbs_ediv_le_natAbs (d.sign * n) (d.gcd n)
  omega
theorem den_le {n d : Int} (hd : d ≠ 0) : (Rat.divInt n d).den ≤ d.natAbs := by
  rw [Rat.den_divInt, if_neg hd]
  exact Nat.div_le_self _ _
theorem mul_lt_pow {x y j k : Nat} (hx : x < 10 ^ j) (hy : y < 10 ^ k) : x * y < 10 ^ (j + k) := by
  rw [Nat.pow_add]
  exact Nat.mul_lt_mul'' hx hy
theorem mulI_lt {x y : Int} {j k : Nat} (hx : x.natAbs < 10 ^ j) (hy : y.natAbs < 10 ^ k) : (x * y).natAbs < 10 ^ (j + k) := by
  rw [Int.natAbs_mul]; exact mul_lt_pow hx hy
theorem addI_lt {x y : Int} {k : Nat} (hx : x.natAbs < 10 ^ k) (hy : y.natAbs < 10 ^ k) : (x + y).natAbs < 10 ^ (k + 1) := by
  rw [Nat.pow_succ]
  omega
section
variable {j k : Nat} {q r : Rat} (hq : Sm j q) (hr : Sm k r)
theorem Sm.dd (hq : Sm j q) (hr : Sm k r) : ((q.den : Int) * (r.den : Int)).natAbs < 10 ^ (j + k) := by
  rw [Int.natAbs_mul, Int.natAbs_natCast, Int.natAbs_natCast]; exact mul_lt_pow hq.2 hr.2
theorem Sm.nn (hq : Sm j q) (hr : Sm k r) : (q.num * r.num).natAbs < 10 ^ (j + k) := mulI_lt hq.1 hr.1
theorem Sm.nd (hq : Sm j q) (hr : Sm k r) : (q.num * (r.den : Int)).natAbs < 10 ^ (j + k) := mulI_lt hq.1 (by rw [Int.natAbs_natCast]; exact hr.2)
theorem Sm.dn (hq : Sm j q) (hr : Sm k r) : (r.num * (q.den : Int)).natAbs < 10 ^ (j + k) := by rw [Nat.add_comm]; exact hr.nd hq
theorem Sm.dn' (hq : Sm j q) (hr : Sm k r) : ((q.den : Int) * r.num).natAbs < 10 ^ (j + k) := by rw [Int.mul_comm]; exact hq.dn hr
theorem Sm.add (hq : Sm j q) (hr : Sm k r) : Sm (j + k + 1) (q + r) := by
  rw [add_RS]
  refine ⟨Nat.lt_of_le_of_lt (num_le (den_nz q r)) (addI_lt (hq.nd hr) (hq.dn hr)), ?_⟩
  refine Nat.lt_of_le_of_lt (den_le (den_nz q r)) (Nat.lt_of_lt_of_le (hq.dd hr) (Nat.pow_le_pow_right (by omega) (by omega)))
theorem Sm.neg (hq : Sm j q) : Sm j (-q) := by
  refine ⟨?_, hq.2⟩
  show (-q.num).natAbs < _
  rw [Int.natAbs_neg]; exact hq.1
end
/-! signs and orders -/
/-! the operations on right fractions -/
section
variable {j k : Nat} {q r : Rat}
end
end Go.Proofs.YtegamkilhgekjaaGreatDoor

/- The calls of package ratio with short, right numbers: contracts over core's Rat. -/
namespace Go.Proofs.YtegamkilhgekjaaGreatDoor
open Go.RowKit
open Go.Lib (nDigits itoa decDigits)

section
variable {j k : Nat} {q r : Rat}























theorem div_c (hq : Sm j q) (hr : Sm k r) (h : j + k ≤ 1024) (h0 : r ≠ 0) (w : World) :
    Calls Tryz.prog 128 #[.string (RS q), .string (RS r)] w fun x w' => x = .returned (.tuple #[.string (RS (q / r)), .int .i64 0]) ∧ Kp [] w w' := by
  have oq := hq.ok (by omega)
  have or := hr.ok (by omega)
  have hn : ¬ r.num = 0 := fun e => h0 (Rat.num_eq_zero.1 e)
  have c := qDiv_any (RS q) (RS r) w oq.size9 or.size9
  have hc : Ok (q.num * (r.den : Int)) ∧ Ok ((q.den : Int) * r.num) := ⟨ok_pow (hq.nd hr) h, ok_pow (hq.dn' hr) h⟩
  rwa [(qDiv_RS oq or).1, (qDiv_RS oq or).2, if_neg hn, if_neg hn, if_pos hc, if_pos hc] at c
theorem parts_c (hq : Sm j q) (h : j ≤ 1024) (w : World) :
    Calls Tryz.prog 223 #[.string (RS q)] w fun x w' => x = .returned (.tuple #[.string (S q.num), .string (S (q.den : Int)), .int .i64 0]) ∧ Kp [] w w' := by
  have oq := hq.ok h
  have c := qParts_any (RS q) w oq.size9
  obtain ⟨a1, a2, a3⟩ := sp_RS oq
  unfold qPn qPd at c
  rwa [a3, if_pos rfl, if_pos rfl, a1, a2] at c





end
theorem make_c {n d : Int} (hn : Ok n) (hd : Ok d) (h0 : d ≠ 0) (w : World) :
    Calls Tryz.prog 225 #[.string (S n), .string (S d)] w fun x w' => x = .returned (.tuple #[.string (RS (Rat.divInt n d)), .int .i64 0]) ∧ Kp [] w w' := by
  have c := qMake_any (S n) (S d) w (Nat.le_trans hn.size (by omega)) (Nat.le_trans hd.size (by omega))
  rwa [(qMake_RS hn hd h0).2, (qMake_RS hn hd h0).1] at c
/-! literal texts -/
theorem S_of {z : Int} {l : List UInt8} (h : itoa z = l) : S z = ⟨l.toArray⟩ := by unfold S; rw [h]
theorem RS_lit {q : Rat} {n : Int} {d : Nat} {l m : List UInt8} (hn : q.num = n) (hd : q.den = d) (h1 : d ≠ 1) (hl : itoa n = l) (hm : itoa (d : Int) = m) : RS q = ⟨(l ++ 47 :: m).toArray⟩ := by
  unfold RS
  rw [if_neg (by omega), hn, hd, S_of hl, S_of hm]
  apply bytes_eq
  simp [ByteArray.data_append]
end Go.Proofs.YtegamkilhgekjaaGreatDoor
