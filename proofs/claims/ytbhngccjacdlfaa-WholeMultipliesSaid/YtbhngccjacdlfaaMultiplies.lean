/- Walk over WholeMultiplies. -/
import Derived.Test.YtbhngccjacdlfaaRGcd
import Derived.Test.YtbhngccjacdlfaaTotals
import Derived.Test.YtbhngccjacdlfaaAdds
namespace Go.Proofs.Ytbhngccjacdlfaa
open Go.RowKit
open Go.Lib (nDigits itoa decDigits)

set_option maxRecDepth 100000 in
set_option maxHeartbeats 1000000 in
theorem few_all (s : ByteArray) (w : World) :
    Calls Try.prog 23 #[.string s] w fun e w' => e = .returned (.bool (few1 s)) ∧ w = w' := by
  by_cases h2 : s.size ≤ 2048
  · exact few_any s w (by omega)
  · have hd1 : decide ((s.size : Int) ≤ 50) = false := decide_eq_false (by omega)
    have hd2 : decide ((s.size : Int) ≤ 2048) = false := decide_eq_false (by omega)
    have hv : Hid (few1 s = false) := by show few1 s = _; unfold few1; rw [decide_eq_false h2, decide_eq_false (by omega)]; rfl
    go_enter Try.func23, Try.ntmps23
    go_wp2_with fail
    go_ret
    exact ⟨by rw [hv.out]; rfl, rfl⟩
theorem few_size {s : ByteArray} (h : few1 s = true) : s.size ≤ 9223372036854775807 := by
  unfold few1 at h
  simp at h
  omega

def FewIs (a : ByteArray) (v : Bool) : Prop := Hid (∀ W, Calls Try.prog 23 #[.string a] W fun e w' => e = .returned (.bool v) ∧ W = w')
def Give3 (n : Nat) (a b : ByteArray) (r s c : Value) : Prop := Hid (∀ W : World, Calls Try.prog n #[.string a, .string b] W fun e w' => e = .returned (.tuple #[r, s, c]) ∧ Kp [] W w')

set_option maxRecDepth 100000 in
set_option maxHeartbeats 4000000 in
theorem Multiplies_core (a b x q r g : ByteArray) (e1 e2 e3 : Int) (w : World) (f1 : FewIs a true) (f2 : FewIs b true)
    (q1 : Give2 24 a b (.string x) (.int .i64 e1)) (q2 : Give2 25 a b (.string x) (.int .i64 e1))
    (q3 : Give2 26 a b (.string q) (.int .i64 e2)) (q4 : Give2 27 a b (.string r) (.int .i64 e2))
    (q5 : Give3 28 a b (.string q) (.string r) (.int .i64 e2))
    (q6 : Give2 29 a b (.string g) (.int .i64 e3)) (q7 : Give2 30 a b (.string g) (.int .i64 e3)) :
    Calls Try.prog 5 #[.string a, .string b] w fun e w' => e = .returned (.bool true) ∧ Kp [] w w' := by
  have hk0 := Kp.refl [] w
  go_enter Try.func5, Try.ntmps5
  go_wp2_with fail
  refine (f1.out _).mono ?_
  rintro e w' ⟨rfl, rfl⟩
  go_wp2_with fail
  refine (f2.out _).mono ?_
  rintro e w' ⟨rfl, rfl⟩
  go_wp2_with fail
  refine (q1.out _).mono ?_
  rintro e w1 ⟨rfl, k⟩
  have hk1 := hk0.trans k
  clear k q1 hk0
  go_wp2_with fail
  refine (q2.out _).mono ?_
  rintro e w2 ⟨rfl, k⟩
  have hk2 := hk1.trans k
  clear k q2 hk1
  go_wp2_with fail
  refine (q3.out _).mono ?_
  rintro e w3 ⟨rfl, k⟩
  have hk3 := hk2.trans k
  clear k q3 hk2
  go_wp2_with fail
  refine (q4.out _).mono ?_
  rintro e w4 ⟨rfl, k⟩
  have hk4 := hk3.trans k
  clear k q4 hk3
  go_wp2_with fail
  refine (q5.out _).mono ?_
  rintro e w5 ⟨rfl, k⟩
  have hk5 := hk4.trans k
  clear k q5 hk4
  go_wp2_with fail
  refine (q6.out _).mono ?_
  rintro e w6 ⟨rfl, k⟩
  have hk6 := hk5.trans k
  clear k q6 hk5
  go_wp2_with fail
  refine (q7.out _).mono ?_
  rintro e w7 ⟨rfl, k⟩
  have hk7 := hk6.trans k
  clear k q7 hk6
  go_wp2_with fail
  refine (awake_any _).mono ?_
  rintro e w8 ⟨rfl, k⟩
  have hk8 := hk7.trans k
  clear k
  go_wp2
  go_ret
  exact ⟨rfl, hk8⟩

set_option maxRecDepth 100000 in
set_option maxHeartbeats 1000000 in
theorem Multiplies_no (a b : ByteArray) (w : World) (f1 : FewIs a false) :
    Calls Try.prog 5 #[.string a, .string b] w fun e w' => e = .returned (.bool true) ∧ Kp [] w w' := by
  go_enter Try.func5, Try.ntmps5
  go_wp2_with fail
  refine (f1.out _).mono ?_
  rintro e w' ⟨rfl, rfl⟩
  go_wp2_with fail
  refine (awake_any _).mono ?_
  rintro e w2 ⟨rfl, hk2⟩
  go_wp2
  go_ret
  exact ⟨rfl, hk2⟩
set_option maxRecDepth 100000 in
set_option maxHeartbeats 1000000 in
theorem Multiplies_no2 (a b : ByteArray) (w : World) (f1 : FewIs a true) (f2 : FewIs b false) :
    Calls Try.prog 5 #[.string a, .string b] w fun e w' => e = .returned (.bool true) ∧ Kp [] w w' := by
  go_enter Try.func5, Try.ntmps5
  go_wp2_with fail
  refine (f1.out _).mono ?_
  rintro e w' ⟨rfl, rfl⟩
  go_wp2_with fail
  refine (f2.out _).mono ?_
  rintro e w' ⟨rfl, rfl⟩
  go_wp2_with fail
  refine (awake_any _).mono ?_
  rintro e w2 ⟨rfl, hk2⟩
  go_wp2
  go_ret
  exact ⟨rfl, hk2⟩

theorem div_err (a b : ByteArray) : divE Int.fdiv a b = divE Int.fmod a b := by
  by_cases h : chkL [a, b] = 0
  · obtain ⟨x, y, rfl, rfl, hx, hy⟩ := chkL2 h
    unfold divE
    rw [if_pos h, if_pos h, valS_S, valS_S]
    by_cases h0 : y = 0
    · rw [if_pos h0, if_pos h0]
    · rw [if_neg h0, if_neg h0, show resE (x.fdiv y) = 0 from if_pos (fdiv_ok h0 hx), show resE (x.fmod y) = 0 from if_pos (fmod_ok (x := x) h0 hy)]
  · unfold divE
    rw [if_neg h, if_neg h]

theorem Multiplies_any (a b : ByteArray) (w : World) :
    Calls Try.prog 5 #[.string a, .string b] w fun e w' => e = .returned (.bool true) ∧ Kp [] w w' := by
  have f1 : FewIs a (few1 a) := fun W => few_all a W
  have f2 : FewIs b (few1 b) := fun W => few_all b W
  cases ha : few1 a with
  | false => rw [ha] at f1; exact Multiplies_no a b w f1
  | true =>
    rw [ha] at f1
    cases hb : few1 b with
    | false => rw [hb] at f2; exact Multiplies_no2 a b w f1 f2
    | true =>
      rw [hb] at f2
      have sa := few_size ha
      have sb := few_size hb
      have he : divE Int.fdiv a b = divE Int.fmod a b := div_err a b
      exact Multiplies_core a b (binB (· * ·) a b) (divB Int.fdiv a b) (divB Int.fmod a b) (binB gcdI a b) (binE (· * ·) a b) (divE Int.fdiv a b) (binE gcdI a b) w f1 f2
        (fun W => Mul_any a b W sa sb) (fun W => RMul_any a b W sa sb) (fun W => Quo_all a b W sa sb) (fun W => by rw [he]; exact Rem_all a b W sa sb)
        (fun W => (RDivide_any a b W sa sb).mono (fun e w' h => ⟨h.1, h.2.1⟩)) (fun W => Gcd_all a b W sa sb) (fun W => RGcd_any a b W sa sb)
end Go.Proofs.Ytbhngccjacdlfaa
