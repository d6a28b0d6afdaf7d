/- Texts Stv, Signs, Sm, RopA: each says in its own first comment what it proves. -/
import Derived.Test.YtcgilcmhandgfaaGreatDoorM02
import Derived.Test.YtcgilcmhandgfaaGreatDoorM41
/- The sign of a sum of two terms, by their signs and by the order of their squares. -/
namespace Go.Proofs.YtcgilcmhandgfaaGreatDoor
open Go.RowKit
open Go.Lib (nDigits itoa decDigits)

/-- the sign of a sum of two terms: its value, and whether the order is asked for -/
def stV (s t o : Int) : Int := if s = 0 then t else if t = 0 then s else if s = t then s else s * o
def stE (s t E : Int) : Int := if s = 0 then 0 else if t = 0 then 0 else if s = t then 0 else E
end Go.Proofs.YtcgilcmhandgfaaGreatDoor

/- Signs of sums with square roots: the mathematics, over core's Rat. The sign of x + y + z, where each has a sign and a square, does not depend on which two are put together first. -/
namespace Go.Proofs.YtcgilcmhandgfaaGreatDoor
open Go.RowKit
open Go.Lib (nDigits itoa decDigits)

def sgR (q : Rat) : Int := if q < 0 then -1 else if q = 0 then 0 else 1
def cmR (x y : Rat) : Int := if x < y then -1 else if x = y then 0 else 1
theorem cm_sg (x y : Rat) : cmR x y = sgR (x - y) := by
  have a : (x < y) ↔ (x - y < 0) := by constructor <;> intro h <;> grind
  have b : (x = y) ↔ (x - y = 0) := by constructor <;> intro h <;> grind
  unfold cmR sgR
  simp only [a, b]
theorem sg3 (q : Rat) : q < 0 ∧ sgR q = -1 ∨ q = 0 ∧ sgR q = 0 ∨ 0 < q ∧ sgR q = 1 := by
  unfold sgR
  by_cases h : q < 0
  · exact .inl ⟨h, if_pos h⟩
  · by_cases h2 : q = 0
    · exact .inr (.inl ⟨h2, by rw [if_neg h, if_pos h2]⟩)
    · exact .inr (.inr ⟨by grind, by rw [if_neg h, if_neg h2]⟩)
theorem st_right (s o : Int) : stV s 0 o = s := by unfold stV; split <;> simp_all
theorem st_left (t o : Int) : stV 0 t o = t := if_pos rfl
theorem sg_neg {q : Rat} (h : q < 0) : sgR q = -1 := if_pos h
theorem sg_pos {q : Rat} (h : 0 < q) : sgR q = 1 := by unfold sgR; rw [if_neg (by grind), if_neg (by grind)]
theorem sg_zero : sgR 0 = 0 := by decide
/-- Y < Z, X < Y + Z, Z ≤ X + Y -/
theorem tri {X Y Z : Rat} (hY : 0 < Y) (h1 : Y < Z) (h2 : X < Y + Z) (h3 : Z ≤ X + Y) : (X - Y - Z) * (X - Y - Z) < 4 * Y * Z := by
  have a : 0 ≤ (Y + Z - X) * (2 * Y - (Y + Z - X)) := Rat.mul_nonneg (by grind) (by grind)
  have b : 0 ≤ Y * (2 * Y - (Y + Z - X)) := Rat.mul_nonneg (by grind) (by grind)
  have c : 0 < Y * (Z - Y) := Rat.mul_pos hY (by grind)
  grind
def DD (X Y Z : Rat) : Rat := X * X + Y * Y + Z * Z - 2 * X * Y - 2 * X * Z - 2 * Y * Z
theorem cm1 (X Y Z : Rat) : cmR ((X - Y - Z) * (X - Y - Z)) (4 * Y * Z) = sgR (DD X Y Z) := by rw [cm_sg]; congr 1; unfold DD; grind
theorem cm2 (X Y Z : Rat) : cmR ((X + Y - Z) * (X + Y - Z)) (4 * X * Y) = sgR (DD X Y Z) := by rw [cm_sg]; congr 1; unfold DD; grind
theorem tri1 {X Y Z : Rat} (hY : 0 < Y) (h1 : Y < Z) (h2 : X < Y + Z) (h3 : Z ≤ X + Y) : DD X Y Z < 0 := by have := tri hY h1 h2 h3; unfold DD; grind
theorem DD12 (X Y Z : Rat) : DD X Y Z = DD Y X Z := by unfold DD; grind
theorem DD23 (X Y Z : Rat) : DD X Y Z = DD X Z Y := by unfold DD; grind
theorem roots_eq {X Y Z : Rat} {x y z : Int} (hX : 0 ≤ X) (hY : 0 ≤ Y) (hZ : 0 ≤ Z) (ex : x = 0 ∧ X = 0 ∨ (x = 1 ∨ x = -1) ∧ X ≠ 0) (ey : y = 0 ∧ Y = 0 ∨ (y = 1 ∨ y = -1) ∧ Y ≠ 0) (ez : z = 0 ∧ Z = 0 ∨ (z = 1 ∨ z = -1) ∧ Z ≠ 0) :
    stV x (stV y z (cmR Y Z)) (stV (sgR (X - Y - Z)) (-(y * z)) (cmR ((X - Y - Z) * (X - Y - Z)) (4 * Y * Z))) =
    stV (stV x y (cmR X Y)) z (stV (sgR (X + Y - Z)) (x * y) (cmR ((X + Y - Z) * (X + Y - Z)) (4 * X * Y))) := by
  rw [cm1, cm2]
  rcases ex with ⟨rfl, rfl⟩ | ⟨ex, nx⟩
  · rw [Int.zero_mul, st_left, st_left, st_right, cm_sg]; congr 2; grind
  rcases ey with ⟨rfl, rfl⟩ | ⟨ey, ny⟩
  · rw [Int.zero_mul, Int.neg_zero, Int.mul_zero, st_left, st_right, st_right, st_right]; congr 2; grind
  rcases ez with ⟨rfl, rfl⟩ | ⟨ez, nz⟩
  · rw [Int.mul_zero, Int.neg_zero, st_right, st_right, st_right, cm_sg]; congr 2; grind
  have pX : 0 < X := by grind
  have pY : 0 < Y := by grind
  have pZ : 0 < Z := by grind
  clear hX hY hZ nx ny nz
  have t1 := @tri1 X Y Z pY
  have t2 := @tri1 Y X Z pX
  have t3 := @tri1 X Z Y pZ
  have t4 := @tri1 Y Z X pZ
  have t5 := @tri1 Z X Y pX
  have t6 := @tri1 Z Y X pY
  have d1 := DD12 X Y Z
  have d2 := DD23 X Y Z
  have d3 := DD23 Y X Z
  have d4 := DD12 X Z Y
  have d5 := DD12 Y Z X
  rw [← d1] at t2 d3
  rw [← d2] at t3 d4
  rw [← d3] at t4 d5
  rw [← d4] at t5
  rw [← d5] at t6
  clear d1 d2 d3 d4 d5
  generalize DD X Y Z = D at *
  rw [cm_sg, cm_sg]
  have h1 := sg3 (Y - Z)
  have h2 := sg3 (X - Y)
  have h3 := sg3 (X - Y - Z)
  have h4 := sg3 (X + Y - Z)
  have h5 := sg3 D
  generalize sgR (Y - Z) = o1 at *
  generalize sgR (X - Y) = o2 at *
  generalize sgR (X - Y - Z) = o3 at *
  generalize sgR (X + Y - Z) = o4 at *
  generalize sgR D = o5 at *
  rcases ex with rfl | rfl <;> rcases ey with rfl | rfl <;> rcases ez with rfl | rfl
  all_goals rcases h1 with ⟨h1, rfl⟩ | ⟨h1, rfl⟩ | ⟨h1, rfl⟩
  all_goals try rfl
  all_goals rcases h2 with ⟨h2, rfl⟩ | ⟨h2, rfl⟩ | ⟨h2, rfl⟩
  all_goals try rfl
  all_goals rcases h3 with ⟨h3, rfl⟩ | ⟨h3, rfl⟩ | ⟨h3, rfl⟩
  all_goals try rfl
  all_goals rcases h4 with ⟨h4, rfl⟩ | ⟨h4, rfl⟩ | ⟨h4, rfl⟩
  all_goals try rfl
  all_goals try (exfalso; clear t1 t2 t3 t4 t5 t6 h5; grind)
  all_goals rcases h5 with ⟨h5, rfl⟩ | ⟨h5, rfl⟩ | ⟨h5, rfl⟩
  all_goals try rfl
  all_goals (exfalso; grind)
end Go.Proofs.YtcgilcmhandgfaaGreatDoor

/- Rational numbers whose numerators and denominators are short, and the operations of package ratio on their texts. -/
namespace Go.Proofs.YtcgilcmhandgfaaGreatDoor
open Go.RowKit
open Go.Lib (nDigits itoa decDigits)

/-- numerator and denominator have at most k digits -/
def Sm (k : Nat) (q : Rat) : Prop := q.num.natAbs < 10 ^ k ∧ q.den < 10 ^ k
set_option exponentiation.threshold 2000 in
theorem ok_pow {z : Int} {k : Nat} (h : z.natAbs < 10 ^ k) (hk : k ≤ 1024) : Ok z := by
  unfold Ok
  exact (nd_le_iff (by omega)).2 (Nat.lt_of_lt_of_le h (Nat.pow_le_pow_right (by omega) hk))
theorem Sm.ok {k : Nat} {q : Rat} (h : Sm k q) (hk : k ≤ 1024) : OkR q := ⟨ok_pow h.1 hk, ok_pow (by rw [Int.natAbs_natCast]; exact h.2) hk⟩
theorem Sm.mono {k j : Nat} {q : Rat} (h : Sm k q) (hk : k ≤ j) : Sm j q :=
  ⟨Nat.lt_of_lt_of_le h.1 (Nat.pow_le_pow_right (by omega) hk), Nat.lt_of_lt_of_le h.2 (Nat.pow_le_pow_right (by omega) hk)⟩
theorem num_le {n d : Int} (hd : d ≠ 0) : (Rat.divInt n d).num.natAbs ≤ n.natAbs := by
  rw [Rat.num_divInt]
  have h1 : (d.sign * n).natAbs = n.natAbs := by
    rw [Int.natAbs_mul, Int.natAbs_sign_of_ne_zero hd, Nat.one_mul]
  have := Int.natAbs_ediv_le_natAbs (d.sign * n) (d.gcd n)
  omega
theorem den_le {n d : Int} (hd : d ≠ 0) : (Rat.divInt n d).den ≤ d.natAbs := by
  rw [Rat.den_divInt, if_neg hd]
  exact Nat.div_le_self _ _
theorem mul_lt_pow {x y j k : Nat} (hx : x < 10 ^ j) (hy : y < 10 ^ k) : x * y < 10 ^ (j + k) := by
  rw [Nat.pow_add]
  exact Nat.mul_lt_mul'' hx hy
theorem mulI_lt {x y : Int} {j k : Nat} (hx : x.natAbs < 10 ^ j) (hy : y.natAbs < 10 ^ k) : (x * y).natAbs < 10 ^ (j + k) := by
  rw [Int.natAbs_mul]; exact mul_lt_pow hx hy
theorem addI_lt {x y : Int} {k : Nat} (hx : x.natAbs < 10 ^ k) (hy : y.natAbs < 10 ^ k) : (x + y).natAbs < 10 ^ (k + 1) := by
  rw [Nat.pow_succ]
  omega
theorem subI_lt {x y : Int} {k : Nat} (hx : x.natAbs < 10 ^ k) (hy : y.natAbs < 10 ^ k) : (x - y).natAbs < 10 ^ (k + 1) := by
  rw [Nat.pow_succ]
  omega
section
variable {j k : Nat} {q r : Rat} (hq : Sm j q) (hr : Sm k r)
theorem Sm.dd (hq : Sm j q) (hr : Sm k r) : ((q.den : Int) * (r.den : Int)).natAbs < 10 ^ (j + k) := by
  rw [Int.natAbs_mul, Int.natAbs_natCast, Int.natAbs_natCast]; exact mul_lt_pow hq.2 hr.2
theorem Sm.nn (hq : Sm j q) (hr : Sm k r) : (q.num * r.num).natAbs < 10 ^ (j + k) := mulI_lt hq.1 hr.1
theorem Sm.nd (hq : Sm j q) (hr : Sm k r) : (q.num * (r.den : Int)).natAbs < 10 ^ (j + k) := mulI_lt hq.1 (by rw [Int.natAbs_natCast]; exact hr.2)
theorem Sm.dn (hq : Sm j q) (hr : Sm k r) : (r.num * (q.den : Int)).natAbs < 10 ^ (j + k) := by rw [Nat.add_comm]; exact hr.nd hq
theorem Sm.dn' (hq : Sm j q) (hr : Sm k r) : ((q.den : Int) * r.num).natAbs < 10 ^ (j + k) := by rw [Int.mul_comm]; exact hq.dn hr
theorem Sm.mul (hq : Sm j q) (hr : Sm k r) : Sm (j + k) (q * r) := by
  rw [mul_RS]
  refine ⟨Nat.lt_of_le_of_lt (num_le (den_nz q r)) (hq.nn hr), ?_⟩
  exact Nat.lt_of_le_of_lt (den_le (n := q.num * r.num) (den_nz q r)) (hq.dd hr)
theorem Sm.add (hq : Sm j q) (hr : Sm k r) : Sm (j + k + 1) (q + r) := by
  rw [add_RS]
  refine ⟨Nat.lt_of_le_of_lt (num_le (den_nz q r)) (addI_lt (hq.nd hr) (hq.dn hr)), ?_⟩
  refine Nat.lt_of_le_of_lt (den_le (den_nz q r)) (Nat.lt_of_lt_of_le (hq.dd hr) (Nat.pow_le_pow_right (by omega) (by omega)))
theorem Sm.sub (hq : Sm j q) (hr : Sm k r) : Sm (j + k + 1) (q - r) := by
  rw [sub_RS]
  refine ⟨Nat.lt_of_le_of_lt (num_le (den_nz q r)) (subI_lt (hq.nd hr) (hq.dn hr)), ?_⟩
  refine Nat.lt_of_le_of_lt (den_le (den_nz q r)) (Nat.lt_of_lt_of_le (hq.dd hr) (Nat.pow_le_pow_right (by omega) (by omega)))
theorem Sm.neg (hq : Sm j q) : Sm j (-q) := by
  refine ⟨?_, hq.2⟩
  show (-q.num).natAbs < _
  rw [Int.natAbs_neg]; exact hq.1
theorem Sm.div (hq : Sm j q) (hr : Sm k r) (h0 : r.num ≠ 0) : Sm (j + k) (q / r) := by
  have hz : (q.den : Int) * r.num ≠ 0 := Int.mul_ne_zero (by have := q.den_pos; omega) h0
  rw [div_RS]
  exact ⟨Nat.lt_of_le_of_lt (num_le hz) (hq.nd hr), Nat.lt_of_le_of_lt (den_le (n := q.num * (r.den : Int)) hz) (hq.dn' hr)⟩
theorem Sm.sumOk (hq : Sm j q) (hr : Sm k r) (h : j + k < 1024) : SumOk q r :=
  ⟨⟨ok_pow (hq.nd hr) (by omega), ok_pow (hq.dn hr) (by omega), ok_pow (addI_lt (hq.nd hr) (hq.dn hr)) h⟩, ok_pow (hq.dd hr) (by omega)⟩
end
theorem sm_zero (k : Nat) : Sm k 0 ∨ k = 0 := by
  by_cases h : k = 0
  · exact .inr h
  · left
    have : 1 < 10 ^ k := Nat.one_lt_pow h (by omega)
    exact ⟨by show (0 : Int).natAbs < _; simp; omega, by show 1 < _; exact this⟩

/-! signs and orders -/
theorem num_neg_iff (q : Rat) : q.num < 0 ↔ q < 0 := by
  have := Rat.num_nonneg (q := q)
  constructor
  · intro h; exact Rat.not_le.1 (fun x => by have := this.2 x; omega)
  · intro h; exact Int.not_le.1 (fun x => absurd (this.1 x) (Rat.not_le.2 h))
theorem sgn_num (q : Rat) : sgn q.num = sgR q := by
  unfold sgn sgR
  simp only [num_neg_iff, Rat.num_eq_zero]
theorem cmp_num (q r : Rat) : cmpI (q.num * (r.den : Int)) (r.num * (q.den : Int)) = cmR q r := by
  unfold cmpI cmR
  simp only [← Rat.lt_iff, ← Rat.eq_iff_mul_eq_mul]

/-! the operations on right fractions -/
section
variable {j k : Nat} {q r : Rat}
theorem pr_RS (hq : Sm j q) (hr : Sm k r) (h : j + k ≤ 1024) :
    prN (S q.num) (S (q.den : Int)) (S r.num) (S (r.den : Int)) = S (q * r).num ∧ prD (S q.num) (S (q.den : Int)) (S r.num) (S (r.den : Int)) = S ((q * r).den : Int) ∧ prE (S q.num) (S (q.den : Int)) (S r.num) (S (r.den : Int)) = 0 := by
  have oq := hq.ok (by omega)
  have or := hr.ok (by omega)
  have h1 := ok_pow (hq.nn hr) h
  have h2 := ok_pow (hq.dd hr) h
  obtain ⟨r1, r2, r3⟩ := red_S h1 h2 (den_nz q r)
  unfold prN prD prE tM tME
  rw [mul_RS, (bin_S oq.1 or.1).1, (bin_S oq.1 or.1).2, (bin_S oq.2 or.2).1, (bin_S oq.2 or.2).2, resB_ok h1, resE_ok h1, resB_ok h2, resE_ok h2, kp_zero, kp_zero]
  exact ⟨r1, r2, r3⟩
theorem di_RS (hq : Sm j q) (hr : Sm k r) (h : j + k < 1024) :
    diN (S q.num) (S (q.den : Int)) (S r.num) (S (r.den : Int)) = S (q - r).num ∧ diD (S q.num) (S (q.den : Int)) (S r.num) (S (r.den : Int)) = S ((q - r).den : Int) ∧ diE (S q.num) (S (q.den : Int)) (S r.num) (S (r.den : Int)) = 0 := by
  have oq := hq.ok (by omega)
  have or := hr.ok (by omega)
  have h1 := ok_pow (hq.nd hr) (by omega)
  have h2 := ok_pow (hq.dn hr) (by omega)
  have h3 := ok_pow (subI_lt (hq.nd hr) (hq.dn hr)) h
  have h4 := ok_pow (hq.dd hr) (by omega)
  obtain ⟨r1, r2, r3⟩ := red_S h3 h4 (den_nz q r)
  unfold diN diD diE tS tSE tM tME
  rw [sub_RS, (bin_S oq.1 or.2).1, (bin_S oq.1 or.2).2, (bin_S or.1 oq.2).1, (bin_S or.1 oq.2).2, (bin_S oq.2 or.2).1, (bin_S oq.2 or.2).2, resE_ok h1, resE_ok h2, resE_ok h4, resB_ok h1, resB_ok h2, resB_ok h4,
    (bin_S h1 h2).1, (bin_S h1 h2).2, resB_ok h3, resE_ok h3, kp_zero, kp_zero, kp_zero, kp_zero]
  exact ⟨r1, r2, r3⟩
theorem or_RS (hq : Sm j q) (hr : Sm k r) (h : j + k ≤ 1024) :
    orV (S q.num) (S (q.den : Int)) (S r.num) (S (r.den : Int)) = cmR q r ∧ orE (S q.num) (S (q.den : Int)) (S r.num) (S (r.den : Int)) = 0 := by
  have oq := hq.ok (by omega)
  have or := hr.ok (by omega)
  have h1 := ok_pow (hq.nd hr) h
  have h2 := ok_pow (hq.dn hr) h
  unfold orV orE tM tME
  rw [(bin_S oq.1 or.2).1, (bin_S oq.1 or.2).2, (bin_S or.1 oq.2).1, (bin_S or.1 oq.2).2, resE_ok h1, resE_ok h2, resB_ok h1, resB_ok h2, kp_zero, kp_zero, cmpV_S h1 h2, cmp_num, chkL_S2 h1 h2]
  exact ⟨rfl, rfl⟩
end
end Go.Proofs.YtcgilcmhandgfaaGreatDoor

/- The calls of package ratio with short, right numbers: contracts over core's Rat. -/
namespace Go.Proofs.YtcgilcmhandgfaaGreatDoor
open Go.RowKit
open Go.Lib (nDigits itoa decDigits)

section
variable {j k : Nat} {q r : Rat}























theorem div_c (hq : Sm j q) (hr : Sm k r) (h : j + k ≤ 1024) (h0 : r ≠ 0) (w : World) :
    Calls Tryz.prog 128 #[.string (RS q), .string (RS r)] w fun x w' => x = .returned (.tuple #[.string (RS (q / r)), .int .i64 0]) ∧ Kp [] w w' := by
  have oq := hq.ok (by omega)
  have or := hr.ok (by omega)
  have hn : ¬ r.num = 0 := fun e => h0 (Rat.num_eq_zero.1 e)
  have c := qDiv_any (RS q) (RS r) w oq.size9 or.size9
  have hc : Ok (q.num * (r.den : Int)) ∧ Ok ((q.den : Int) * r.num) := ⟨ok_pow (hq.nd hr) h, ok_pow (hq.dn' hr) h⟩
  rwa [(qDiv_RS oq or).1, (qDiv_RS oq or).2, if_neg hn, if_neg hn, if_pos hc, if_pos hc] at c
theorem div_z (hq : Sm j q) (h : j ≤ 1024) (w : World) :
    Calls Tryz.prog 128 #[.string (RS q), .string (RS 0)] w fun x w' => x = .returned (.tuple #[.string ⟨#[]⟩, .int .i64 10]) ∧ Kp [] w w' := by
  have oq := hq.ok h
  have oz : OkR 0 := ⟨ok_le okq_one (by decide), okq_one⟩
  have c := qDiv_any (RS q) (RS 0) w oq.size9 oz.size9
  have hn : (0 : Rat).num = 0 := rfl
  rwa [(qDiv_RS oq oz).1, (qDiv_RS oq oz).2, if_pos hn, if_pos hn] at c










theorem cmp_c (hq : Sm j q) (hr : Sm k r) (h : j + k ≤ 1024) (w : World) :
    Calls Tryz.prog 52 #[.string (RS q), .string (RS r)] w fun x w' => x = .returned (.tuple #[.int .i64 (cmR q r), .int .i64 0]) ∧ Kp [] w w' := by
  have oq := hq.ok (by omega)
  have or := hr.ok (by omega)
  have c := qCompare_any (RS q) (RS r) w oq.size9 or.size9
  have hc : Ok (q.num * (r.den : Int)) ∧ Ok (r.num * (q.den : Int)) := ⟨ok_pow (hq.nd hr) h, ok_pow (hq.dn hr) h⟩
  rwa [(qCompare_RS oq or).1, (qCompare_RS oq or).2, if_pos hc, if_pos hc, cmp_num] at c





theorem parts_c (hq : Sm j q) (h : j ≤ 1024) (w : World) :
    Calls Tryz.prog 221 #[.string (RS q)] w fun x w' => x = .returned (.tuple #[.string (S q.num), .string (S (q.den : Int)), .int .i64 0]) ∧ Kp [] w w' := by
  have oq := hq.ok h
  have c := qParts_any (RS q) w oq.size9
  obtain ⟨a1, a2, a3⟩ := sp_RS oq
  unfold qPn qPd at c
  rwa [a3, if_pos rfl, if_pos rfl, a1, a2] at c





end
theorem make_c {n d : Int} (hn : Ok n) (hd : Ok d) (h0 : d ≠ 0) (w : World) :
    Calls Tryz.prog 224 #[.string (S n), .string (S d)] w fun x w' => x = .returned (.tuple #[.string (RS (Rat.divInt n d)), .int .i64 0]) ∧ Kp [] w w' := by
  have c := qMake_any (S n) (S d) w (Nat.le_trans hn.size (by omega)) (Nat.le_trans hd.size (by omega))
  rwa [(qMake_RS hn hd h0).2, (qMake_RS hn hd h0).1] at c
/-! literal texts -/
theorem S_of {z : Int} {l : List UInt8} (h : itoa z = l) : S z = ⟨l.toArray⟩ := by unfold S; rw [h]
theorem RS_lit {q : Rat} {n : Int} {d : Nat} {l m : List UInt8} (hn : q.num = n) (hd : q.den = d) (h1 : d ≠ 1) (hl : itoa n = l) (hm : itoa (d : Int) = m) : RS q = ⟨(l ++ 47 :: m).toArray⟩ := by
  unfold RS
  rw [if_neg (by omega), hn, hd, S_of hl, S_of hm]
  apply bytes_eq
  simp [ByteArray.data_append]
theorem RS_int {q : Rat} {n : Int} {l : List UInt8} (hn : q.num = n) (hd : q.den = 1) (hl : itoa n = l) : RS q = ⟨l.toArray⟩ := by
  unfold RS
  rw [if_pos hd, hn, S_of hl]
theorem l_1_14 : RS (mkRat 1 14) = ⟨#[49, 47, 49, 52]⟩ := RS_lit (n := 1) (d := 14) (by decide +kernel) (by decide +kernel) (by decide) (l := [49]) (m := [49, 52]) (by simp [itoa, decDigits]) (by simp [itoa, decDigits])
theorem l_1_21 : RS (mkRat 1 21) = ⟨#[49, 47, 50, 49]⟩ := RS_lit (n := 1) (d := 21) (by decide +kernel) (by decide +kernel) (by decide) (l := [49]) (m := [50, 49]) (by simp [itoa, decDigits]) (by simp [itoa, decDigits])
theorem l_5_42 : RS (mkRat 5 42) = ⟨#[53, 47, 52, 50]⟩ := RS_lit (n := 5) (d := 42) (by decide +kernel) (by decide +kernel) (by decide) (l := [53]) (m := [52, 50]) (by simp [itoa, decDigits]) (by simp [itoa, decDigits])
theorem l_1_42 : RS (mkRat 1 42) = ⟨#[49, 47, 52, 50]⟩ := RS_lit (n := 1) (d := 42) (by decide +kernel) (by decide +kernel) (by decide) (l := [49]) (m := [52, 50]) (by simp [itoa, decDigits]) (by simp [itoa, decDigits])
theorem l_3_5 : RS (mkRat 3 5) = ⟨#[51, 47, 53]⟩ := RS_lit (n := 3) (d := 5) (by decide +kernel) (by decide +kernel) (by decide) (l := [51]) (m := [53]) (by simp [itoa, decDigits]) (by simp [itoa, decDigits])
theorem l_25_6 : RS (mkRat 25 6) = ⟨#[50, 53, 47, 54]⟩ := RS_lit (n := 25) (d := 6) (by decide +kernel) (by decide +kernel) (by decide) (l := [50, 53]) (m := [54]) (by simp [itoa, decDigits]) (by simp [itoa, decDigits])
theorem l_5_2 : RS (mkRat 5 2) = ⟨#[53, 47, 50]⟩ := RS_lit (n := 5) (d := 2) (by decide +kernel) (by decide +kernel) (by decide) (l := [53]) (m := [50]) (by simp [itoa, decDigits]) (by simp [itoa, decDigits])
theorem l_m9_10 : RS (mkRat (-9) 10) = ⟨#[45, 57, 47, 49, 48]⟩ := RS_lit (n := -9) (d := 10) (by decide +kernel) (by decide +kernel) (by decide) (l := [45, 57]) (m := [49, 48]) (by simp [itoa, decDigits]) (by simp [itoa, decDigits])
theorem l_m2_3 : RS (mkRat (-2) 3) = ⟨#[45, 50, 47, 51]⟩ := RS_lit (n := -2) (d := 3) (by decide +kernel) (by decide +kernel) (by decide) (l := [45, 50]) (m := [51]) (by simp [itoa, decDigits]) (by simp [itoa, decDigits])
theorem l_3 : RS (3 : Rat) = ⟨#[51]⟩ := RS_int (n := 3) (by decide +kernel) (by decide +kernel) (l := [51]) (by simp [itoa, decDigits])
theorem l_m2 : RS (-2 : Rat) = ⟨#[45, 50]⟩ := RS_int (n := -2) (by decide +kernel) (by decide +kernel) (l := [45, 50]) (by simp [itoa, decDigits])
theorem l_2 : RS (2 : Rat) = ⟨#[50]⟩ := RS_int (n := 2) (by decide +kernel) (by decide +kernel) (l := [50]) (by simp [itoa, decDigits])
theorem l_1 : RS (1 : Rat) = ⟨#[49]⟩ := RS_int (n := 1) (by decide +kernel) (by decide +kernel) (l := [49]) (by simp [itoa, decDigits])
theorem l_m1 : RS (-1 : Rat) = ⟨#[45, 49]⟩ := RS_int (n := -1) (by decide +kernel) (by decide +kernel) (l := [45, 49]) (by simp [itoa, decDigits])
theorem l_6 : RS (6 : Rat) = ⟨#[54]⟩ := RS_int (n := 6) (by decide +kernel) (by decide +kernel) (l := [54]) (by simp [itoa, decDigits])
theorem l_0 : RS (0 : Rat) = ⟨#[48]⟩ := RS_int (n := 0) (by decide +kernel) (by decide +kernel) (l := [48]) (by simp [itoa, decDigits])
theorem sm_lit {q : Rat} (h : q.num.natAbs < 100 ∧ q.den < 100) : Sm 2 q := h
theorem sm_lit30 {q : Rat} (h : q.num.natAbs < 100 ∧ q.den < 100) : Sm 30 q := (sm_lit h).mono (by omega)
theorem RS_inj {q r : Rat} (hq : OkR q) (hr : OkR r) (h : RS q = RS r) : q = r := by
  obtain ⟨a1, a2, _⟩ := sp_RS hq
  obtain ⟨b1, b2, _⟩ := sp_RS hr
  rw [h] at a1 a2
  have e1 := S_inj (a1.symm.trans b1)
  have e2 := S_inj (a2.symm.trans b2)
  rw [← Rat.num_divInt_den q, ← Rat.num_divInt_den r, e1, e2]
theorem RS_beq {q r : Rat} (hq : OkR q) (hr : OkR r) : ((RS q).toList == (RS r).toList) = decide (q = r) := by
  by_cases h : q = r
  · subst h; rw [decide_eq_true rfl]; exact beq_self_eq_true _
  · rw [decide_eq_false h]
    refine beq_eq_false_iff_ne.2 (fun e => h (RS_inj hq hr ?_))
    rw [ByteArray.toList_eq, ByteArray.toList_eq] at e
    exact bytes_eq e
end Go.Proofs.YtcgilcmhandgfaaGreatDoor
