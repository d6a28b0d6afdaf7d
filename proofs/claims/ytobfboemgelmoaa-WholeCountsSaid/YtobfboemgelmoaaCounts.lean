/- Walk over WholeCounts. -/
import Derived.Test.YtobfboemgelmoaaRPow
import Derived.Test.YtobfboemgelmoaaRChosen
import Derived.Test.YtobfboemgelmoaaFew
namespace Go.Proofs.Ytobfboemgelmoaa
open Go.RowKit
open Go.Lib (nDigits itoa decDigits)

/-- the text and the error of a binomial, for all numbers -/
def bnB (n k : Int) : ByteArray := if 0 ≤ n ∧ n ≤ 4096 then (if 0 ≤ k ∧ k ≤ n then resB (ch n.toNat k.toNat : Int) else ⟨#[48]⟩) else ⟨#[]⟩
def bnE (n k : Int) : Int := if 0 ≤ n ∧ n ≤ 4096 then (if 0 ≤ k ∧ k ≤ n then resE (ch n.toNat k.toNat : Int) else 0) else 2

theorem Binomial_any (n k : Int) (w : World) :
    Calls Try.prog 33 #[.int .i64 n, .int .i64 k] w fun e w' => e = .returned (.tuple #[.string (bnB n k), .int .i64 (bnE n k)]) ∧ Kp [] w w' := by
  unfold bnB bnE
  by_cases hn : 0 ≤ n ∧ n ≤ 4096
  · rw [if_pos hn, if_pos hn]
    by_cases hk : 0 ≤ k ∧ k ≤ n
    · rw [if_pos hk, if_pos hk]
      obtain ⟨N, rfl⟩ := Int.eq_ofNat_of_zero_le hn.1
      obtain ⟨K, rfl⟩ := Int.eq_ofNat_of_zero_le hk.1
      exact Binomial_ok N K w (by omega) (by omega)
    · rw [if_neg hk, if_neg hk]
      refine (Binomial_none n k w hn.1 hn.2 (by omega)).mono ?_
      rintro e w' ⟨he, rfl⟩; exact ⟨he, Kp.refl _ _⟩
  · rw [if_neg hn, if_neg hn]
    refine (Binomial_range n k w (by omega)).mono ?_
    rintro e w' ⟨he, rfl⟩; exact ⟨he, Kp.refl _ _⟩

theorem RBinomial_any (n k : Int) (w : World) (h40 : n ≤ 40 ∨ 4096 < n) :
    Calls Try.prog 34 #[.int .i64 n, .int .i64 k] w fun e w' => e = .returned (.tuple #[.string (bnB n k), .int .i64 (bnE n k)]) ∧ Kp [] w w' := by
  unfold bnB bnE
  by_cases hn : 0 ≤ n ∧ n ≤ 4096
  · rw [if_pos hn, if_pos hn]
    by_cases hk : 0 ≤ k ∧ k ≤ n
    · rw [if_pos hk, if_pos hk]
      obtain ⟨N, rfl⟩ := Int.eq_ofNat_of_zero_le hn.1
      obtain ⟨K, rfl⟩ := Int.eq_ofNat_of_zero_le hk.1
      exact RBinomial_ok N K w (by omega) (by omega)
    · rw [if_neg hk, if_neg hk]
      exact RBinomial_none n k w hn.1 (by omega) (by omega)
  · rw [if_neg hn, if_neg hn]
    refine (RBinomial_range n k w (by omega)).mono ?_
    rintro e w' ⟨he, rfl⟩; exact ⟨he, Kp.refl _ _⟩

def GiveII (f : Nat) (n k : Int) (r c : Value) : Prop := Hid (∀ W : World, Calls Try.prog f #[.int .i64 n, .int .i64 k] W fun e w' => e = .returned (.tuple #[r, c]) ∧ Kp [] W w')
def GiveSI (f : Nat) (a : ByteArray) (n : Int) (r c : Value) : Prop := Hid (∀ W : World, Calls Try.prog f #[.string a, .int .i64 n] W fun e w' => e = .returned (.tuple #[r, c]) ∧ Kp [] W w')

set_option maxRecDepth 100000 in
set_option maxHeartbeats 1000000 in
theorem Counts_no (a : ByteArray) (n k : Int) (w : World) (f1 : FewIs a false) :
    Calls Try.prog 6 #[.string a, .int .i64 n, .int .i64 k] w fun e w' => e = .returned (.bool true) ∧ Kp [] w w' := by
  go_enter Try.func6, Try.ntmps6
  go_wp2_with fail
  refine (f1.out _).mono ?_
  rintro e w' ⟨rfl, rfl⟩
  go_wp2_with fail
  refine (awake_any _).mono ?_
  rintro e w2 ⟨rfl, hk2⟩
  go_wp2
  go_ret
  exact ⟨rfl, hk2⟩

/-- why the powers are compared -/
def Some3 (a : ByteArray) : Prop := (a.toList == [48]) = true ∨ ((a.toList == [48]) = false ∧ ((a.toList == [49]) = true ∨ ((a.toList == [49]) = false ∧ (a.toList == [45, 49]) = true)))

set_option maxRecDepth 100000 in
set_option maxHeartbeats 4000000 in
theorem Counts_both (a x y : ByteArray) (e1 e2 n k : Int) (w : World) (f1 : FewIs a true)
    (hc : n ≤ 30 ∨ (¬ n ≤ 30 ∧ 4096 < n) ∨ (¬ n ≤ 30 ∧ ¬ 4096 < n ∧ n ≤ 40 ∧ Some3 a))
    (q1 : GiveSI 31 a n (.string x) (.int .i64 e1)) (q2 : GiveSI 32 a n (.string x) (.int .i64 e1))
    (q3 : GiveII 33 n k (.string y) (.int .i64 e2)) (q4 : GiveII 34 n k (.string y) (.int .i64 e2)) :
    Calls Try.prog 6 #[.string a, .int .i64 n, .int .i64 k] w fun e w' => e = .returned (.bool true) ∧ Kp [] w w' := by
  rcases hc with h1 | ⟨h1, h2⟩ | ⟨h1, h2, h3, h4 | ⟨h4, h5 | ⟨h5, h6⟩⟩⟩
  all_goals
    go_enter Try.func6, Try.ntmps6
    go_wp2_with fail
    refine (f1.out _).mono ?_
    rintro e w' ⟨rfl, rfl⟩
    go_wp2_with fail
    refine (q1.out _).mono ?_
    rintro e w1 ⟨rfl, hk1⟩
    go_wp2_with fail
    refine (q2.out _).mono ?_
    rintro e w2 ⟨rfl, k2⟩
    have hk2 := hk1.trans k2
    clear k2 hk1
    go_wp2_with fail
    refine (q3.out _).mono ?_
    rintro e w3 ⟨rfl, k3⟩
    have hk3 := hk2.trans k3
    clear k3 hk2
    go_wp2_with fail
    refine (q4.out _).mono ?_
    rintro e w4 ⟨rfl, k4⟩
    have hk4 := hk3.trans k4
    clear k4 hk3
    go_wp2_with fail
    refine (awake_any _).mono ?_
    rintro e w5 ⟨rfl, k5⟩
    have hk5 := hk4.trans k5
    clear k5
    go_wp2
    go_ret
    exact ⟨rfl, hk5⟩

set_option maxRecDepth 100000 in
set_option maxHeartbeats 4000000 in
theorem Counts_pow (a x : ByteArray) (e1 n k : Int) (w : World) (f1 : FewIs a true) (h1 : ¬ n ≤ 30) (h2 : ¬ 4096 < n) (h3 : 40 < n) (hc : Some3 a)
    (q1 : GiveSI 31 a n (.string x) (.int .i64 e1)) (q2 : GiveSI 32 a n (.string x) (.int .i64 e1)) :
    Calls Try.prog 6 #[.string a, .int .i64 n, .int .i64 k] w fun e w' => e = .returned (.bool true) ∧ Kp [] w w' := by
  rcases hc with h4 | ⟨h4, h5 | ⟨h5, h6⟩⟩
  all_goals
    go_enter Try.func6, Try.ntmps6
    go_wp2_with fail
    refine (f1.out _).mono ?_
    rintro e w' ⟨rfl, rfl⟩
    go_wp2_with fail
    refine (q1.out _).mono ?_
    rintro e w1 ⟨rfl, hk1⟩
    go_wp2_with fail
    refine (q2.out _).mono ?_
    rintro e w2 ⟨rfl, k2⟩
    have hk2 := hk1.trans k2
    clear k2 hk1
    go_wp2_with fail
    refine (awake_any _).mono ?_
    rintro e w5 ⟨rfl, k5⟩
    have hk5 := hk2.trans k5
    clear k5
    go_wp2
    go_ret
    exact ⟨rfl, hk5⟩

set_option maxRecDepth 100000 in
set_option maxHeartbeats 4000000 in
theorem Counts_bin (a y : ByteArray) (e2 n k : Int) (w : World) (f1 : FewIs a true) (h1 : ¬ n ≤ 30) (h2 : ¬ 4096 < n) (h3 : ¬ 40 < n) (h4 : (a.toList == [48]) = false) (h5 : (a.toList == [49]) = false) (h6 : (a.toList == [45, 49]) = false)
    (q3 : GiveII 33 n k (.string y) (.int .i64 e2)) (q4 : GiveII 34 n k (.string y) (.int .i64 e2)) :
    Calls Try.prog 6 #[.string a, .int .i64 n, .int .i64 k] w fun e w' => e = .returned (.bool true) ∧ Kp [] w w' := by
  go_enter Try.func6, Try.ntmps6
  go_wp2_with fail
  refine (f1.out _).mono ?_
  rintro e w' ⟨rfl, rfl⟩
  go_wp2_with fail
  refine (q3.out _).mono ?_
  rintro e w3 ⟨rfl, hk3⟩
  go_wp2_with fail
  refine (q4.out _).mono ?_
  rintro e w4 ⟨rfl, k4⟩
  have hk4 := hk3.trans k4
  clear k4 hk3
  go_wp2_with fail
  refine (awake_any _).mono ?_
  rintro e w5 ⟨rfl, k5⟩
  have hk5 := hk4.trans k5
  clear k5
  go_wp2
  go_ret
  exact ⟨rfl, hk5⟩

set_option maxRecDepth 100000 in
set_option maxHeartbeats 4000000 in
theorem Counts_none (a : ByteArray) (n k : Int) (w : World) (f1 : FewIs a true) (h1 : ¬ n ≤ 30) (h2 : ¬ 4096 < n) (h3 : 40 < n) (h4 : (a.toList == [48]) = false) (h5 : (a.toList == [49]) = false) (h6 : (a.toList == [45, 49]) = false) :
    Calls Try.prog 6 #[.string a, .int .i64 n, .int .i64 k] w fun e w' => e = .returned (.bool true) ∧ Kp [] w w' := by
  go_enter Try.func6, Try.ntmps6
  go_wp2_with fail
  refine (f1.out _).mono ?_
  rintro e w' ⟨rfl, rfl⟩
  go_wp2_with fail
  refine (awake_any _).mono ?_
  rintro e w5 ⟨rfl, k5⟩
  go_wp2
  go_ret
  exact ⟨rfl, k5⟩

theorem some3_cases (a : ByteArray) : Some3 a ∨ ((a.toList == [48]) = false ∧ (a.toList == [49]) = false ∧ (a.toList == [45, 49]) = false) := by
  unfold Some3
  cases h4 : (a.toList == [48]) <;> cases h5 : (a.toList == [49]) <;> cases h6 : (a.toList == [45, 49]) <;> simp

theorem Counts_any (a : ByteArray) (n k : Int) (w : World) :
    Calls Try.prog 6 #[.string a, .int .i64 n, .int .i64 k] w fun e w' => e = .returned (.bool true) ∧ Kp [] w w' := by
  have f1 : FewIs a (few1 a) := fun W => few_all a W
  cases ha : few1 a with
  | false => rw [ha] at f1; exact Counts_no a n k w f1
  | true =>
    rw [ha] at f1
    have sa := few_size ha
    have q1 : GiveSI 31 a n (.string (powB a n)) (.int .i64 (powE a n)) := fun W => Pow_any a n W sa
    have q2 : GiveSI 32 a n (.string (powB a n)) (.int .i64 (powE a n)) := fun W => RPow_any a n W sa
    have q3 : GiveII 33 n k (.string (bnB n k)) (.int .i64 (bnE n k)) := fun W => Binomial_any n k W
    have q4 : n ≤ 40 ∨ 4096 < n → GiveII 34 n k (.string (bnB n k)) (.int .i64 (bnE n k)) := fun h W => RBinomial_any n k W h
    by_cases h1 : n ≤ 30
    · exact Counts_both a _ _ _ _ n k w f1 (.inl h1) q1 q2 q3 (q4 (by omega))
    · by_cases h2 : 4096 < n
      · exact Counts_both a _ _ _ _ n k w f1 (.inr (.inl ⟨h1, h2⟩)) q1 q2 q3 (q4 (by omega))
      · by_cases h3 : 40 < n
        · rcases some3_cases a with hs | ⟨h4, h5, h6⟩
          · exact Counts_pow a _ _ n k w f1 h1 h2 h3 hs q1 q2
          · exact Counts_none a n k w f1 h1 h2 h3 h4 h5 h6
        · rcases some3_cases a with hs | ⟨h4, h5, h6⟩
          · exact Counts_both a _ _ _ _ n k w f1 (.inr (.inr ⟨h1, h2, by omega, hs⟩)) q1 q2 q3 (q4 (by omega))
          · exact Counts_bin a _ _ n k w f1 h1 h2 h3 h4 h5 h6 q3 (q4 (by omega))
end Go.Proofs.Ytobfboemgelmoaa
