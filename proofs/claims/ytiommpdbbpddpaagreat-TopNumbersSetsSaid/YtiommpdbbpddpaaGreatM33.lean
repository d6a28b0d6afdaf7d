/- Texts Signs, Sm, RopA: each says in its own first comment what it proves. -/
import Derived.Test.YtiommpdbbpddpaaGreatM32
import Derived.Test.YtiommpdbbpddpaaGreatM02
/- Signs of sums with square roots: the mathematics, over core's Rat. The sign of x + y + z, where each has a sign and a square, does not depend on which two are put together first. -/
namespace Go.Proofs.YtiommpdbbpddpaaGreat
open Go.RowKit
open Go.Lib (nDigits itoa decDigits)

def cmR (x y : Rat) : Int := if x < y then -1 else if x = y then 0 else 1
end Go.Proofs.YtiommpdbbpddpaaGreat

/- Rational numbers whose numerators and denominators are short, and the operations of package ratio on their texts. -/
namespace Go.Proofs.YtiommpdbbpddpaaGreat
open Go.RowKit
open Go.Lib (nDigits itoa decDigits)

/-- numerator and denominator have at most k digits -/
def Sm (k : Nat) (q : Rat) : Prop := q.num.natAbs < 10 ^ k ∧ q.den < 10 ^ k
set_option exponentiation.threshold 2000 in
theorem ok_pow {z : Int} {k : Nat} (h : z.natAbs < 10 ^ k) (hk : k ≤ 1024) : Ok z := by
  unfold Ok
  exact (nd_le_iff (by omega)).2 (Nat.lt_of_lt_of_le h (Nat.pow_le_pow_right (by omega) hk))
theorem Sm.ok {k : Nat} {q : Rat} (h : Sm k q) (hk : k ≤ 1024) : OkR q := ⟨ok_pow h.1 hk, ok_pow (by rw [Int.natAbs_natCast]; exact h.2) hk⟩
theorem Sm.mono {k j : Nat} {q : Rat} (h : Sm k q) (hk : k ≤ j) : Sm j q :=
  ⟨Nat.lt_of_lt_of_le h.1 (Nat.pow_le_pow_right (by omega) hk), Nat.lt_of_lt_of_le h.2 (Nat.pow_le_pow_right (by omega) hk)⟩
theorem num_le {n d : Int} (hd : d ≠ 0) : (Rat.divInt n d).num.natAbs ≤ n.natAbs := by
  rw [Rat.num_divInt]
  have h1 : (d.sign * n).natAbs = n.natAbs := by
    rw [Int.natAbs_mul, Int.natAbs_sign_of_ne_zero hd, Nat.one_mul]
  have := Int.natAbs_ediv_le_natAbs (d.sign * n) (d.gcd n)
  omega
theorem den_le {n d : Int} (hd : d ≠ 0) : (Rat.divInt n d).den ≤ d.natAbs := by
  rw [Rat.den_divInt, if_neg hd]
  exact Nat.div_le_self _ _
theorem mul_lt_pow {x y j k : Nat} (hx : x < 10 ^ j) (hy : y < 10 ^ k) : x * y < 10 ^ (j + k) := by
  rw [Nat.pow_add]
  exact Nat.mul_lt_mul'' hx hy
theorem mulI_lt {x y : Int} {j k : Nat} (hx : x.natAbs < 10 ^ j) (hy : y.natAbs < 10 ^ k) : (x * y).natAbs < 10 ^ (j + k) := by
  rw [Int.natAbs_mul]; exact mul_lt_pow hx hy
theorem addI_lt {x y : Int} {k : Nat} (hx : x.natAbs < 10 ^ k) (hy : y.natAbs < 10 ^ k) : (x + y).natAbs < 10 ^ (k + 1) := by
  rw [Nat.pow_succ]
  omega
theorem subI_lt {x y : Int} {k : Nat} (hx : x.natAbs < 10 ^ k) (hy : y.natAbs < 10 ^ k) : (x - y).natAbs < 10 ^ (k + 1) := by
  rw [Nat.pow_succ]
  omega
section
variable {j k : Nat} {q r : Rat} (hq : Sm j q) (hr : Sm k r)
theorem Sm.dd (hq : Sm j q) (hr : Sm k r) : ((q.den : Int) * (r.den : Int)).natAbs < 10 ^ (j + k) := by
  rw [Int.natAbs_mul, Int.natAbs_natCast, Int.natAbs_natCast]; exact mul_lt_pow hq.2 hr.2
theorem Sm.nd (hq : Sm j q) (hr : Sm k r) : (q.num * (r.den : Int)).natAbs < 10 ^ (j + k) := mulI_lt hq.1 (by rw [Int.natAbs_natCast]; exact hr.2)
theorem Sm.dn (hq : Sm j q) (hr : Sm k r) : (r.num * (q.den : Int)).natAbs < 10 ^ (j + k) := by rw [Nat.add_comm]; exact hr.nd hq
theorem Sm.add (hq : Sm j q) (hr : Sm k r) : Sm (j + k + 1) (q + r) := by
  rw [add_RS]
  refine ⟨Nat.lt_of_le_of_lt (num_le (den_nz q r)) (addI_lt (hq.nd hr) (hq.dn hr)), ?_⟩
  refine Nat.lt_of_le_of_lt (den_le (den_nz q r)) (Nat.lt_of_lt_of_le (hq.dd hr) (Nat.pow_le_pow_right (by omega) (by omega)))
theorem Sm.sub (hq : Sm j q) (hr : Sm k r) : Sm (j + k + 1) (q - r) := by
  rw [sub_RS]
  refine ⟨Nat.lt_of_le_of_lt (num_le (den_nz q r)) (subI_lt (hq.nd hr) (hq.dn hr)), ?_⟩
  refine Nat.lt_of_le_of_lt (den_le (den_nz q r)) (Nat.lt_of_lt_of_le (hq.dd hr) (Nat.pow_le_pow_right (by omega) (by omega)))
theorem Sm.neg (hq : Sm j q) : Sm j (-q) := by
  refine ⟨?_, hq.2⟩
  show (-q.num).natAbs < _
  rw [Int.natAbs_neg]; exact hq.1
theorem Sm.sumOk (hq : Sm j q) (hr : Sm k r) (h : j + k < 1024) : SumOk q r :=
  ⟨⟨ok_pow (hq.nd hr) (by omega), ok_pow (hq.dn hr) (by omega), ok_pow (addI_lt (hq.nd hr) (hq.dn hr)) h⟩, ok_pow (hq.dd hr) (by omega)⟩
end
/-! signs and orders -/
theorem cmp_num (q r : Rat) : cmpI (q.num * (r.den : Int)) (r.num * (q.den : Int)) = cmR q r := by
  unfold cmpI cmR
  simp only [← Rat.lt_iff, ← Rat.eq_iff_mul_eq_mul]

/-! the operations on right fractions -/
section
variable {j k : Nat} {q r : Rat}
end
end Go.Proofs.YtiommpdbbpddpaaGreat

/- The calls of package ratio with short, right numbers: contracts over core's Rat. -/
namespace Go.Proofs.YtiommpdbbpddpaaGreat
open Go.RowKit
open Go.Lib (nDigits itoa decDigits)

section
variable {j k : Nat} {q r : Rat}
theorem add_c (hq : Sm j q) (hr : Sm k r) (h : j + k < 1024) (w : World) :
    Calls Tryz.prog 14 #[.string (RS q), .string (RS r)] w fun x w' => x = .returned (.tuple #[.string (RS (q + r)), .int .i64 0]) ∧ Kp [] w w' := by
  have oq := hq.ok (by omega)
  have or := hr.ok (by omega)
  have c := qAdd_any (RS q) (RS r) w oq.size9 or.size9
  have hc := hq.sumOk hr h
  unfold SumOk at hc
  rwa [(qAdd_RS oq or).1, (qAdd_RS oq or).2, if_pos hc, if_pos hc] at c
theorem sub_c (hq : Sm j q) (hr : Sm k r) (h : j + k < 1024) (w : World) :
    Calls Tryz.prog 27 #[.string (RS q), .string (RS r)] w fun x w' => x = .returned (.tuple #[.string (RS (q - r)), .int .i64 0]) ∧ Kp [] w w' := by
  have oq := hq.ok (by omega)
  have or := hr.ok (by omega)
  have c := qSub_any (RS q) (RS r) w oq.size9 or.size9
  have hc : (Ok (q.num * (r.den : Int)) ∧ Ok (r.num * (q.den : Int)) ∧ Ok (q.num * (r.den : Int) - r.num * (q.den : Int))) ∧ Ok ((q.den : Int) * (r.den : Int)) :=
    ⟨⟨ok_pow (hq.nd hr) (by omega), ok_pow (hq.dn hr) (by omega), ok_pow (subI_lt (hq.nd hr) (hq.dn hr)) h⟩, ok_pow (hq.dd hr) (by omega)⟩
  rwa [(qSub_RS oq or).1, (qSub_RS oq or).2, if_pos hc, if_pos hc] at c
































end




/-! literal texts -/
theorem S_of {z : Int} {l : List UInt8} (h : itoa z = l) : S z = ⟨l.toArray⟩ := by unfold S; rw [h]
theorem RS_lit {q : Rat} {n : Int} {d : Nat} {l m : List UInt8} (hn : q.num = n) (hd : q.den = d) (h1 : d ≠ 1) (hl : itoa n = l) (hm : itoa (d : Int) = m) : RS q = ⟨(l ++ 47 :: m).toArray⟩ := by
  unfold RS
  rw [if_neg (by omega), hn, hd, S_of hl, S_of hm]
  apply bytes_eq
  simp [ByteArray.data_append]
theorem RS_int {q : Rat} {n : Int} {l : List UInt8} (hn : q.num = n) (hd : q.den = 1) (hl : itoa n = l) : RS q = ⟨l.toArray⟩ := by
  unfold RS
  rw [if_pos hd, hn, S_of hl]
theorem l_1_14 : RS (mkRat 1 14) = ⟨#[49, 47, 49, 52]⟩ := RS_lit (n := 1) (d := 14) (by decide +kernel) (by decide +kernel) (by decide) (l := [49]) (m := [49, 52]) (by simp [itoa, decDigits]) (by simp [itoa, decDigits])
theorem l_1_21 : RS (mkRat 1 21) = ⟨#[49, 47, 50, 49]⟩ := RS_lit (n := 1) (d := 21) (by decide +kernel) (by decide +kernel) (by decide) (l := [49]) (m := [50, 49]) (by simp [itoa, decDigits]) (by simp [itoa, decDigits])
theorem l_5_42 : RS (mkRat 5 42) = ⟨#[53, 47, 52, 50]⟩ := RS_lit (n := 5) (d := 42) (by decide +kernel) (by decide +kernel) (by decide) (l := [53]) (m := [52, 50]) (by simp [itoa, decDigits]) (by simp [itoa, decDigits])
theorem l_0 : RS (0 : Rat) = ⟨#[48]⟩ := RS_int (n := 0) (by decide +kernel) (by decide +kernel) (l := [48]) (by simp [itoa, decDigits])
theorem sm_lit {q : Rat} (h : q.num.natAbs < 100 ∧ q.den < 100) : Sm 2 q := h
theorem RS_inj {q r : Rat} (hq : OkR q) (hr : OkR r) (h : RS q = RS r) : q = r := by
  obtain ⟨a1, a2, _⟩ := sp_RS hq
  obtain ⟨b1, b2, _⟩ := sp_RS hr
  rw [h] at a1 a2
  have e1 := S_inj (a1.symm.trans b1)
  have e2 := S_inj (a2.symm.trans b2)
  rw [← Rat.num_divInt_den q, ← Rat.num_divInt_den r, e1, e2]
theorem RS_beq {q r : Rat} (hq : OkR q) (hr : OkR r) : ((RS q).toList == (RS r).toList) = decide (q = r) := by
  by_cases h : q = r
  · subst h; rw [decide_eq_true rfl]; exact beq_self_eq_true _
  · rw [decide_eq_false h]
    refine beq_eq_false_iff_ne.2 (fun e => h (RS_inj hq hr ?_))
    rw [ByteArray.toList_eq, ByteArray.toList_eq] at e
    exact bytes_eq e
end Go.Proofs.YtiommpdbbpddpaaGreat
