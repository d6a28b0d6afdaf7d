/- Texts RTimes: each says in its own first comment what it proves. -/
import Derived.Test.YtiommpdbbpddpaaGreatDoorM20
import Derived.Test.YtiommpdbbpddpaaGreatDoorM19
/- The reference's Times: the product of two integers. -/
namespace Go.Proofs.YtiommpdbbpddpaaGreatDoor
open Go.RowKit
open Go.Lib (nDigits itoa decDigits)

set_option exponentiation.threshold 5000 in
theorem nd_mul {u v : Nat} (hu : nDigits u ≤ 1200) (hv : nDigits v ≤ 1200) : nDigits (u * v) ≤ 2400 := by
  have h1 := (nd_le_iff (u := u) (k := 1200) (by omega)).1 hu
  have h2 := (nd_le_iff (u := v) (k := 1200) (by omega)).1 hv
  refine (nd_le_iff (by omega)).2 ?_
  rw [show 2400 = 1200 + 1200 from rfl, Nat.pow_add]
  exact Nat.mul_lt_mul'' h1 h2
theorem mul_signed (x y : Int) : (if (!(decide (x < 0) == decide (y < 0))) = true then -((x.natAbs * y.natAbs : Nat) : Int) else ((x.natAbs * y.natAbs : Nat) : Int)) = x * y := by
  have hx : (x.natAbs : Int) = if x < 0 then -x else x := by split <;> omega
  have hy : (y.natAbs : Int) = if y < 0 then -y else y := by split <;> omega
  rw [Int.natCast_mul, hx, hy]
  by_cases h1 : x < 0 <;> by_cases h2 : y < 0 <;> simp [h1, h2, Int.neg_mul, Int.mul_neg]
theorem short_mul {x y : Int} (h : (S x).size + (S y).size ≤ 18) : -1000000000000000000 < x * y ∧ x * y < 1000000000000000000 := by
  have hx : nDigits x.natAbs ≤ (S x).size := by
    by_cases hz : x < 0
    · have := (S_neg hz).2; omega
    · have := (S_nn hz).2; omega
  have hy : nDigits y.natAbs ≤ (S y).size := by
    by_cases hz : y < 0
    · have := (S_neg hz).2; omega
    · have := (S_nn hz).2; omega
  have h1 := Go.Lib.lt_pow_nDigits x.natAbs
  have h2 := Go.Lib.lt_pow_nDigits y.natAbs
  have h3 : x.natAbs * y.natAbs < 10 ^ 18 := by
    refine Nat.lt_of_lt_of_le (Nat.mul_lt_mul'' h1 h2) ?_
    rw [← Nat.pow_add]; exact Nat.pow_le_pow_right (by decide) (by omega)
  rw [← Int.natAbs_mul] at h3
  have e : 10 ^ 18 = 1000000000000000000 := rfl
  omega

set_option maxRecDepth 100000 in
set_option maxHeartbeats 4000000 in
theorem times_ref (x y : Int) (w : World) (hx : nDigits x.natAbs ≤ 1200) (hy : nDigits y.natAbs ≤ 1200) :
    Calls Tryz.prog 89 #[.string (S x), .string (S y)] w fun e w' => e = .returned (.string (S (x * y))) ∧ Kp [] w w' := by
  have sx := abs_sz hx
  have sy := abs_sz hy
  by_cases hb : Brief x y
  · by_cases h18 : (S x).size + (S y).size ≤ 18
    · have q1 := Lib.hid (fun W => brief_S x y W (by omega) (by omega) hb)
      obtain ⟨m1, m2⟩ := short_mul h18
      have q2 := Lib.hid (fun W => of_any (x * y) W (by omega) (by omega))
      have hd : decide (((S x).size : Int) + ((S y).size : Int) ≤ 18) = true := decide_eq_true (by omega)
      obtain ⟨z, hz⟩ : ∃ z, x * y = z := ⟨_, rfl⟩
      rw [hz] at q2 m1 m2 ⊢
      have hz2 : ((S x).size : Int) ≤ 18 := by omega
      have hz3 : ((S y).size : Int) ≤ 18 := by omega
      generalize S z = r at *
      generalize S x = s at *
      generalize S y = t at *
      clear hb hx hy sx sy h18
      go_enter Tryz.func89, Tryz.ntmps89
      go_wp2_with fail
      refine (q1.out _).mono ?_
      rintro e w1 ⟨rfl, rfl⟩
      go_wp2_with fail
      refine (q2.out _).mono ?_
      rintro e w2 ⟨rfl, k2⟩
      go_wp2
      go_ret
      exact ⟨rfl, k2⟩
    · have q1 := Lib.hid (fun W => brief_S x y W (by omega) (by omega) hb)
      have hd : decide (((S x).size : Int) + ((S y).size : Int) ≤ 18) = false := decide_eq_false (by omega)
      have hg : ¬ ((S x).size : Int) + ((S y).size : Int) ≤ 18 := by omega
      have hz2 : ((S x).size : Int) ≤ 2000 := by omega
      have hz3 : ((S y).size : Int) ≤ 2000 := by omega
      have q2 := size_S x (by omega)
      have q3 := size_S y (by omega)
      have q4 := Lib.hid (fun W => below_any x W)
      have q5 := Lib.hid (fun W => below_any y W)
      have q7 := Lib.hid (fun W => prod_S x.natAbs y.natAbs W (by omega) (by omega))
      have q8 := Lib.hid (fun W => signed_any (x.natAbs * y.natAbs) (!(decide (x < 0) == decide (y < 0))) W (Nat.le_trans (abs_sz (k := 2400) (by rw [Int.natAbs_natCast]; exact nd_mul hx hy)) (by omega)))
      rw [mul_signed] at q8
      generalize S (x * y) = r at *
      generalize S ((x.natAbs * y.natAbs : Nat) : Int) = p at *
      generalize S (x.natAbs : Int) = m at *
      generalize S (y.natAbs : Int) = n at *
      generalize S x = s at *
      generalize S y = t at *
      generalize decide (x < 0) = d at *
      generalize decide (y < 0) = f at *
      clear hb hx hy sx sy h18
      go_enter Tryz.func89, Tryz.ntmps89
      go_wp2_with fail
      refine (q1.out _).mono ?_
      rintro e w1 ⟨rfl, rfl⟩
      go_wp2_with fail
      refine (q2.out _).mono ?_
      rintro e w2 ⟨rfl, rfl⟩
      go_wp2_with fail
      refine (q3.out _).mono ?_
      rintro e w3 ⟨rfl, rfl⟩
      go_wp2_with fail
      refine (q7.out _).mono ?_
      rintro e w7 ⟨rfl, k7⟩
      go_wp2_with fail
      refine (q4.out _).mono ?_
      rintro e w4 ⟨rfl, rfl⟩
      go_wp2_with fail
      refine (q5.out _).mono ?_
      rintro e w5 ⟨rfl, rfl⟩
      go_wp2_with fail
      refine (q8.out _).mono ?_
      rintro e w8 ⟨rfl, rfl⟩
      go_wp2
      go_ret
      exact ⟨rfl, k7⟩
  · have q1 := Lib.hid (fun W => brief_not x y W (by omega) (by omega) hb)
    have q2 := size_S x (by omega)
    have q3 := size_S y (by omega)
    have q4 := Lib.hid (fun W => below_any x W)
    have q5 := Lib.hid (fun W => below_any y W)
    have q7 := Lib.hid (fun W => prod_S x.natAbs y.natAbs W (by omega) (by omega))
    have q8 := Lib.hid (fun W => signed_any (x.natAbs * y.natAbs) (!(decide (x < 0) == decide (y < 0))) W (Nat.le_trans (abs_sz (k := 2400) (by rw [Int.natAbs_natCast]; exact nd_mul hx hy)) (by omega)))
    rw [mul_signed] at q8
    generalize S (x * y) = r at *
    generalize S ((x.natAbs * y.natAbs : Nat) : Int) = p at *
    generalize S (x.natAbs : Int) = m at *
    generalize S (y.natAbs : Int) = n at *
    generalize S x = s at *
    generalize S y = t at *
    generalize decide (x < 0) = d at *
    generalize decide (y < 0) = f at *
    clear hb hx hy sx sy
    go_enter Tryz.func89, Tryz.ntmps89
    go_wp2_with fail
    refine (q1.out _).mono ?_
    rintro e w1 ⟨rfl, rfl⟩
    go_wp2_with fail
    refine (q2.out _).mono ?_
    rintro e w2 ⟨rfl, rfl⟩
    go_wp2_with fail
    refine (q3.out _).mono ?_
    rintro e w3 ⟨rfl, rfl⟩
    go_wp2_with fail
    refine (q7.out _).mono ?_
    rintro e w7 ⟨rfl, k7⟩
    go_wp2_with fail
    refine (q4.out _).mono ?_
    rintro e w4 ⟨rfl, rfl⟩
    go_wp2_with fail
    refine (q5.out _).mono ?_
    rintro e w5 ⟨rfl, rfl⟩
    go_wp2_with fail
    refine (q8.out _).mono ?_
    rintro e w8 ⟨rfl, rfl⟩
    go_wp2
    go_ret
    exact ⟨rfl, k7⟩

end Go.Proofs.YtiommpdbbpddpaaGreatDoor
