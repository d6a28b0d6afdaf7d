/- Texts RTurned, RKept, RAdd: each says in its own first comment what it proves. -/
import Derived.Test.YthjhjgglkooafaaGreatDoorM14
import Derived.Test.YthjhjgglkooafaaGreatDoorM12
import Derived.Test.YthjhjgglkooafaaGreatDoorM13
/- The reference's Below, signed, Turned and Neg. -/
namespace Go.Proofs.YthjhjgglkooafaaGreatDoor
open Go.RowKit
open Go.Lib (nDigits itoa decDigits)

set_option maxHeartbeats 1000000 in
theorem below_any (z : Int) (w : World) :
    Calls Tryz.prog 46 #[.string (S z)] w fun e w' => e = .returned (.bool (decide (z < 0))) ∧ w = w' := by
  obtain ⟨hpos, h1, _⟩ := S_first z
  have hv : Hid ((((S z)[0].toNat : Int) == 45) = decide (z < 0)) := by
    show _ = _
    by_cases h : z < 0
    · rw [h1.2 h]; simp [h]
    · have h2 : (S z)[0] ≠ 45 := fun e => h (h1.1 e)
      have h3 : ((S z)[0].toNat : Int) ≠ 45 := fun e => h2 (UInt8.toNat_inj.1 (by
        have : (S z)[0].toNat = 45 := by omega
        rw [this]; rfl))
      simp [h, h3]
  clear h1
  generalize decide (z < 0) = d at *
  generalize S z = s at *
  go_enter Tryz.func46, Tryz.ntmps46
  go_wp2
  go_ret
  exact ⟨by rw [← hv.out]; rfl, rfl⟩

theorem magB_S (z : Int) : magB (S z) = S (z.natAbs : Int) := by
  apply eq_S_of_list
  rw [magB_list, S_list, mag_itoa]
  unfold itoa
  rw [if_neg (by omega)]
  rfl
theorem S_ne_zero {n : Nat} (h : n ≠ 0) : ((S (n : Int)).toList != [48]) = true := by
  rw [bne_iff_ne]; intro e
  have := S_eq_zero.1 e
  omega

set_option maxHeartbeats 1000000 in
theorem signed_any (n : Nat) (m : Bool) (w : World) (hsz : (S (n : Int)).size ≤ 1000000) :
    Calls Tryz.prog 47 #[.string (S (n : Int)), .bool m] w fun e w' => e = .returned (.string (S (if m then -(n : Int) else n))) ∧ w = w' := by
  cases m with
  | false =>
    have hv : Hid (S (if false = true then -(n : Int) else n) = S (n : Int)) := rfl
    rw [hv.out]
    clear hsz
    generalize S (n : Int) = s
    clear hv
    go_enter Tryz.func47, Tryz.ntmps47
    go_wp2
    go_ret
    exact ⟨rfl, rfl⟩
  | true =>
    by_cases h : n = 0
    · subst h
      rw [show S (if true = true then -((0 : Nat) : Int) else ((0 : Nat) : Int)) = ⟨#[48]⟩ from S_zero, show S ((0 : Nat) : Int) = ⟨#[48]⟩ from S_zero]
      go_enter Tryz.func47, Tryz.ntmps47
      go_wp2
      go_ret
      exact ⟨rfl, rfl⟩
    · have hne := S_ne_zero h
      have hne3 : ((S (n : Int)).toList == [48]) = false := by simpa using hne
      clear hne
      have hv := Lib.hid (S_minus (z := (n : Int)) (by omega))
      rw [show (if true = true then -(n : Int) else n) = -(n : Int) from rfl]
      clear h
      generalize S (-(n : Int)) = r at *
      generalize S (n : Int) = s at *
      go_enter Tryz.func47, Tryz.ntmps47
      go_wp2
      go_ret
      exact ⟨by rw [← hv.out]; rfl, rfl⟩

set_option maxHeartbeats 1000000 in
theorem turned_any (z : Int) (w : World) (hsz : (S z).size ≤ 100000) :
    Calls Tryz.prog 53 #[.string (S z)] w fun e w' => e = .returned (.string (S (-z))) ∧ w = w' := by
  have q1 := Lib.hid (fun W => rsize_any (S z) W (by omega))
  have hm := magB_S z
  have hle := magB_le (S z)
  rw [hm] at q1 hle
  have q2 := Lib.hid (fun W => below_any z W)
  have q3 := Lib.hid (fun W => signed_any z.natAbs (!decide (z < 0)) W (by omega))
  have hv : (if (!decide (z < 0)) = true then -(z.natAbs : Int) else z.natAbs) = -z := by
    by_cases h : z < 0
    · simp [h]; omega
    · simp [h]; omega
  rw [hv] at q3
  clear hv hm hle hsz
  generalize S (-z) = r at *
  generalize S (z.natAbs : Int) = m at *
  generalize S z = s at *
  generalize decide (z < 0) = d at *
  go_enter Tryz.func53, Tryz.ntmps53
  go_wp2_with fail
  refine (q1.out _).mono ?_
  rintro e w' ⟨rfl, rfl⟩
  go_wp2_with fail
  refine (q2.out _).mono ?_
  rintro e w' ⟨rfl, rfl⟩
  go_wp2_with fail
  refine (q3.out _).mono ?_
  rintro e w' ⟨rfl, rfl⟩
  go_wp2
  go_ret
  exact ⟨rfl, rfl⟩







































end Go.Proofs.YthjhjgglkooafaaGreatDoor

/- The reference's both and Kept. -/
namespace Go.Proofs.YthjhjgglkooafaaGreatDoor
open Go.RowKit
open Go.Lib (nDigits itoa decDigits)













































































end Go.Proofs.YthjhjgglkooafaaGreatDoor

/- The reference's Add, Sub, Order and Compare, under the contract of its Plus. -/
namespace Go.Proofs.YthjhjgglkooafaaGreatDoor
open Go.RowKit

/-- the contract of the reference's Plus -/
def PlusAll : Prop := Hid (∀ (x y : Int) (W : World), Ok x → Ok y → Calls Tryz.prog 26 #[.string (S x), .string (S y)] W fun e w' => e = .returned (.string (S (x + y))) ∧ Kp [] W w')

set_option exponentiation.threshold 2000 in
theorem ok2_size {x y : Int} (hx : Ok x) (hy : Ok y) : (S (x + y)).size ≤ 100000 := by
  have h1 := hx.lt
  have h2 := hy.lt
  refine Nat.le_trans (S_size _) ?_
  have := Int.natAbs_add_le x y
  have h3 : (x + y).natAbs < 10 ^ 1025 := by
    unfold Ok at hx hy
    have a1 := (nd_le_iff (u := x.natAbs) (k := 1024) (by omega)).1 hx
    have a2 := (nd_le_iff (u := y.natAbs) (k := 1024) (by omega)).1 hy
    rw [show (1025 : Nat) = 1024 + 1 from rfl, Nat.pow_succ]
    generalize 10 ^ 1024 = p at *
    omega
  have := nd_le (k := 1025) (by omega) h3
  omega

set_option maxHeartbeats 1000000 in
theorem minus_any (hp : PlusAll) (x y : Int) (w : World) (hx : Ok x) (hy : Ok y) :
    Calls Tryz.prog 45 #[.string (S x), .string (S y)] w fun e w' => e = .returned (.string (S (x - y))) ∧ Kp [] w w' := by
  have q1 := Lib.hid (fun W => turned_any y W (Nat.le_trans hy.size (by decide)))
  have q2 := Lib.hid (fun W => hp.out x (-y) W hx hy.neg)
  rw [← Int.sub_eq_add_neg] at q2
  clear hp hx hy
  generalize S (x - y) = r at *
  generalize S (-y) = n at *
  generalize S x = a at *
  generalize S y = b at *
  go_enter Tryz.func45, Tryz.ntmps45
  go_wp2_with fail
  refine (q1.out _).mono ?_
  rintro e w' ⟨rfl, rfl⟩
  go_wp2_with fail
  refine (q2.out _).mono ?_
  rintro e w' ⟨rfl, hk⟩
  go_wp2
  go_ret
  exact ⟨rfl, hk⟩
























































































set_option maxHeartbeats 1000000 in
theorem rorder_any (hp : PlusAll) (x y : Int) (w : World) (hx : Ok x) (hy : Ok y) :
    Calls Tryz.prog 21 #[.string (S x), .string (S y)] w fun e w' => e = .returned (.int .i64 (cmpI x y)) ∧ Kp [] w w' := by
  have q1 := Lib.hid (fun W => minus_any hp x y W hx hy)
  have q2 := Lib.hid (fun W => below_any (x - y) W)
  by_cases h0 : x = y
  · have hv : Hid (cmpI x y = 0) := by show cmpI x y = 0; unfold cmpI; rw [if_neg (by omega), if_pos h0]
    rw [show x - y = 0 by omega, S_zero] at q1
    rw [hv.out]
    clear hp hx hy q2 hv h0
    generalize S x = a at *
    generalize S y = b at *
    go_enter Tryz.func21, Tryz.ntmps21
    go_wp2_with fail
    refine (q1.out _).mono ?_
    rintro e w' ⟨rfl, hk⟩
    go_wp2
    go_ret
    exact ⟨rfl, hk⟩
  · have hz : ¬ (S (x - y)).toList = [48] := fun e => h0 (by have := S_eq_zero.1 e; omega)
    have hz2 : ((S (x - y)).toList == [48]) = false := by simpa using hz
    by_cases h : x < y
    · have hv : Hid (cmpI x y = -1) := by show cmpI x y = -1; exact if_pos h
      rw [decide_eq_true (show x - y < 0 by omega)] at q2
      rw [hv.out]
      clear hp hx hy hv h0 h hz
      generalize S (x - y) = r at *
      generalize S x = a at *
      generalize S y = b at *
      go_enter Tryz.func21, Tryz.ntmps21
      go_wp2_with fail
      refine (q1.out _).mono ?_
      rintro e w' ⟨rfl, hk⟩
      go_wp2_with fail
      refine (q2.out _).mono ?_
      rintro e w' ⟨rfl, rfl⟩
      go_wp2
      go_ret
      exact ⟨rfl, hk⟩
    · have hv : Hid (cmpI x y = 1) := by show cmpI x y = 1; unfold cmpI; rw [if_neg h, if_neg h0]
      rw [decide_eq_false (show ¬ x - y < 0 by omega)] at q2
      rw [hv.out]
      clear hp hx hy hv h0 h hz
      generalize S (x - y) = r at *
      generalize S x = a at *
      generalize S y = b at *
      go_enter Tryz.func21, Tryz.ntmps21
      go_wp2_with fail
      refine (q1.out _).mono ?_
      rintro e w' ⟨rfl, hk⟩
      go_wp2_with fail
      refine (q2.out _).mono ?_
      rintro e w' ⟨rfl, rfl⟩
      go_wp2
      go_ret
      exact ⟨rfl, hk⟩





































end Go.Proofs.YthjhjgglkooafaaGreatDoor
