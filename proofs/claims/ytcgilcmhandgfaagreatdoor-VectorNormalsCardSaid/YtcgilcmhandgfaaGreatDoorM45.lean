/- Texts RLow: each says in its own first comment what it proves. -/
import Derived.Test.YtcgilcmhandgfaaGreatDoorM40
import Derived.Test.YtcgilcmhandgfaaGreatDoorM42
import Derived.Test.YtcgilcmhandgfaaGreatDoorM26
import Derived.Test.YtcgilcmhandgfaaGreatDoorM25
/- Lowest and crossed of the reference of layer 2. -/
namespace Go.Proofs.YtcgilcmhandgfaaGreatDoor
open Go.RowKit
open Go.Lib (nDigits itoa decDigits)

set_option maxRecDepth 100000 in
set_option maxHeartbeats 2000000 in
theorem lowest_core (a b g g2 n1 m1 d1 m2 : ByteArray) (neg one : Bool) (w : World) (hn : n1.size ≤ 4000000000) (hd : d1.size ≤ 4000000000)
    (q1 : Hid (∀ W, Calls Tryz.prog 158 #[.string a, .string b] W fun e w' => e = .returned (.string g) ∧ Kp [] W w'))
    (q2 : Hid (∀ W, Calls Tryz.prog 159 #[.string b] W fun e w' => e = .returned (.bool neg) ∧ W = w'))
    (q3 : neg = true → Hid (∀ W, Calls Tryz.prog 141 #[.string g] W fun e w' => e = .returned (.string g2) ∧ W = w')) (e3 : neg = false → g = g2)
    (q4 : Hid (∀ W, Calls Tryz.prog 160 #[.string a, .string g2] W fun e w' => e = .returned (.tuple #[.string n1, .string m1]) ∧ Kp [] W w'))
    (q5 : Hid (∀ W, Calls Tryz.prog 160 #[.string b, .string g2] W fun e w' => e = .returned (.tuple #[.string d1, .string m2]) ∧ Kp [] W w'))
    (h1 : (d1.toList == [49]) = one) :
    Calls Tryz.prog 130 #[.string a, .string b] w fun e w' => e = .returned (.string (if one then n1 else n1 ++ ⟨#[47]⟩ ++ d1)) ∧ Kp [] w w' := by
  have hs : (1 : Int) ≤ 9223372036854775807 := by decide
  have hn' : (n1.size : Int) ≤ 4000000000 := by omega
  have hd' : (d1.size : Int) ≤ 4000000000 := by omega
  cases neg with
  | true =>
    replace q3 := q3 rfl
    clear e3
    cases one with
    | true =>
      go_enter Tryz.func130, Tryz.ntmps130
      go_wp2_with fail
      with_reducible refine (q1.out _).mono ?_
      rintro x w1 ⟨rfl, k1⟩
      go_wp2_with fail
      with_reducible refine (q2.out _).mono ?_
      rintro x _ ⟨rfl, rfl⟩
      go_wp2_with fail
      with_reducible refine (q3.out _).mono ?_
      rintro x _ ⟨rfl, rfl⟩
      go_wp2_with fail
      with_reducible refine (q4.out _).mono ?_
      rintro x w2 ⟨rfl, k2⟩
      go_wp2_with fail
      with_reducible refine (q5.out _).mono ?_
      rintro x w3 ⟨rfl, k3⟩
      go_wp2
      go_ret
      exact ⟨rfl, (k1.trans k2).trans k3⟩
    | false =>
      go_enter Tryz.func130, Tryz.ntmps130
      go_wp2_with fail
      with_reducible refine (q1.out _).mono ?_
      rintro x w1 ⟨rfl, k1⟩
      go_wp2_with fail
      with_reducible refine (q2.out _).mono ?_
      rintro x _ ⟨rfl, rfl⟩
      go_wp2_with fail
      with_reducible refine (q3.out _).mono ?_
      rintro x _ ⟨rfl, rfl⟩
      go_wp2_with fail
      with_reducible refine (q4.out _).mono ?_
      rintro x w2 ⟨rfl, k2⟩
      go_wp2_with fail
      with_reducible refine (q5.out _).mono ?_
      rintro x w3 ⟨rfl, k3⟩
      go_wp2
      go_ret
      exact ⟨rfl, (k1.trans k2).trans k3⟩
  | false =>
    obtain rfl := e3 rfl
    clear q3 e3
    cases one with
    | true =>
      go_enter Tryz.func130, Tryz.ntmps130
      go_wp2_with fail
      with_reducible refine (q1.out _).mono ?_
      rintro x w1 ⟨rfl, k1⟩
      go_wp2_with fail
      with_reducible refine (q2.out _).mono ?_
      rintro x _ ⟨rfl, rfl⟩
      go_wp2_with fail
      with_reducible refine (q4.out _).mono ?_
      rintro x w2 ⟨rfl, k2⟩
      go_wp2_with fail
      with_reducible refine (q5.out _).mono ?_
      rintro x w3 ⟨rfl, k3⟩
      go_wp2
      go_ret
      exact ⟨rfl, (k1.trans k2).trans k3⟩
    | false =>
      go_enter Tryz.func130, Tryz.ntmps130
      go_wp2_with fail
      with_reducible refine (q1.out _).mono ?_
      rintro x w1 ⟨rfl, k1⟩
      go_wp2_with fail
      with_reducible refine (q2.out _).mono ?_
      rintro x _ ⟨rfl, rfl⟩
      go_wp2_with fail
      with_reducible refine (q4.out _).mono ?_
      rintro x w2 ⟨rfl, k2⟩
      go_wp2_with fail
      with_reducible refine (q5.out _).mono ?_
      rintro x w3 ⟨rfl, k3⟩
      go_wp2
      go_ret
      exact ⟨rfl, (k1.trans k2).trans k3⟩

theorem RS_one (q : Rat) : (if ((S (q.den : Int)).toList == [49]) = true then S q.num else S q.num ++ ⟨#[47]⟩ ++ S (q.den : Int)) = RS q := by
  have h := isOne_S (q.den : Int)
  unfold isOne at h
  rw [h]
  unfold RS
  by_cases e : q.den = 1
  · rw [if_pos e, decide_eq_true (by omega), if_pos rfl]
  · rw [if_neg e, decide_eq_false (by omega), if_neg (by decide)]

theorem lowest_S {n d : Int} (hn : Ok n) (hd : Ok d) (h0 : d ≠ 0) (w : World) :
    Calls Tryz.prog 130 #[.string (S n), .string (S d)] w fun e w' => e = .returned (.string (RS (Rat.divInt n d))) ∧ Kp [] w w' := by
  obtain ⟨v1, v2⟩ := red_val n d h0
  have hgz : gcdI n d ≠ 0 := by rw [gcdI_eq]; have := Int.gcd_pos_of_ne_zero_left n h0; omega
  have og : Ok (gcdI n d) := ok_le hd (gcdI_le h0)
  have o1 := ok_num hn h0
  have o2 := ok_den (n := n) hd h0
  rw [← RS_one]
  have hz1 : (S (Rat.divInt n d).num).size ≤ 4000000000 := Nat.le_trans o1.size (by omega)
  have hz2 : (S ((Rat.divInt n d).den : Int)).size ≤ 4000000000 := Nat.le_trans o2.size (by omega)
  have q1 : Hid (∀ W, Calls Tryz.prog 158 #[.string (S n), .string (S d)] W fun e w' => e = .returned (.string (S (gcdI n d))) ∧ Kp [] W w') := fun W => shared_any n d W hn hd
  have q2 := Lib.hid (fun W => below_any d W)
  rcases Int.lt_or_gt_of_ne h0 with h | h
  · rw [sgn_neg h, Int.neg_one_mul] at v1 v2
    rw [decide_eq_true h] at q2
    rw [← v1] at hz1 ⊢
    rw [← v2] at hz2 ⊢
    exact lowest_core (S n) (S d) (S (gcdI n d)) (S (-gcdI n d)) _ (S (n.fmod (-gcdI n d))) _ (S (d.fmod (-gcdI n d))) true _ w hz1 hz2 q1 q2
      (fun _ W => turned_any (gcdI n d) W (Nat.le_trans og.size (by omega))) (fun h => by cases h)
      (fun W => parted_any n (-gcdI n d) W (by omega) hn og.neg) (fun W => parted_any d (-gcdI n d) W (by omega) hd og.neg) rfl
  · rw [sgn_pos h, Int.one_mul] at v1 v2
    rw [decide_eq_false (by omega)] at q2
    rw [← v1] at hz1 ⊢
    rw [← v2] at hz2 ⊢
    exact lowest_core (S n) (S d) (S (gcdI n d)) (S (gcdI n d)) _ (S (n.fmod (gcdI n d))) _ (S (d.fmod (gcdI n d))) false _ w hz1 hz2 q1 q2
      (fun h => by cases h) (fun _ => rfl) (fun W => parted_any n (gcdI n d) W hgz hn og) (fun W => parted_any d (gcdI n d) W hgz hd og) rfl

end Go.Proofs.YtcgilcmhandgfaaGreatDoor
