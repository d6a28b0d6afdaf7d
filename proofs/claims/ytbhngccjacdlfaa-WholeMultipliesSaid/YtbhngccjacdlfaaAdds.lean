/- Walk over WholeAdds, under the contract of the reference's Plus. -/
import Derived.Test.YtbhngccjacdlfaaM24
import Derived.Test.YtbhngccjacdlfaaM22
namespace Go.Proofs.Ytbhngccjacdlfaa
open Go.RowKit

/-- a call of two texts (of one) that returns two values and keeps the old blocks -/
def Give2 (n : Nat) (a b : ByteArray) (r c : Value) : Prop := Hid (∀ W : World, Calls Try.prog n #[.string a, .string b] W fun e w' => e = .returned (.tuple #[r, c]) ∧ Kp [] W w')
def Give1 (n : Nat) (a : ByteArray) (r c : Value) : Prop := Hid (∀ W : World, Calls Try.prog n #[.string a] W fun e w' => e = .returned (.tuple #[r, c]) ∧ Kp [] W w')

set_option maxRecDepth 100000 in
set_option maxHeartbeats 4000000 in
theorem Adds_core (a b x u n : ByteArray) (e1 e2 e3 e4 c : Int) (w : World) (ha : ¬ (1026 : Int) < (a.size : Int)) (hb : ¬ (1026 : Int) < (b.size : Int))
    (q1 : Give2 12 a b (.string x) (.int .i64 e1)) (q2 : Give2 13 a b (.string x) (.int .i64 e1))
    (q3 : Give2 14 a b (.string u) (.int .i64 e2)) (q4 : Give2 15 a b (.string u) (.int .i64 e2))
    (q5 : Give1 16 a (.string n) (.int .i64 e3)) (q6 : Give1 17 a (.string n) (.int .i64 e3))
    (q7 : Give2 18 a b (.int .i64 c) (.int .i64 e4)) (q8 : Give2 19 a b (.int .i64 c) (.int .i64 e4)) :
    Calls Try.prog 3 #[.string a, .string b] w fun e w' => e = .returned (.bool true) ∧ Kp [] w w' := by
  have hk0 := Kp.refl [] w
  go_enter Try.func3, Try.ntmps3
  go_wp2_with fail
  refine (q1.out _).mono ?_
  rintro e w1 ⟨rfl, k⟩
  have hk1 := hk0.trans k
  clear k q1 hk0
  go_wp2_with fail
  refine (q2.out _).mono ?_
  rintro e w2 ⟨rfl, k⟩
  have hk2 := hk1.trans k
  clear k q2 hk1
  go_wp2_with fail
  refine (q3.out _).mono ?_
  rintro e w3 ⟨rfl, k⟩
  have hk3 := hk2.trans k
  clear k q3 hk2
  go_wp2_with fail
  refine (q4.out _).mono ?_
  rintro e w4 ⟨rfl, k⟩
  have hk4 := hk3.trans k
  clear k q4 hk3
  go_wp2_with fail
  refine (q5.out _).mono ?_
  rintro e w5 ⟨rfl, k⟩
  have hk5 := hk4.trans k
  clear k q5 hk4
  go_wp2_with fail
  refine (q6.out _).mono ?_
  rintro e w6 ⟨rfl, k⟩
  have hk6 := hk5.trans k
  clear k q6 hk5
  go_wp2_with fail
  refine (q7.out _).mono ?_
  rintro e w7 ⟨rfl, k⟩
  have hk7 := hk6.trans k
  clear k q7 hk6
  go_wp2_with fail
  refine (q8.out _).mono ?_
  rintro e w8 ⟨rfl, k⟩
  have hk8 := hk7.trans k
  clear k q8 hk7
  go_wp2_with fail
  refine (awake_any _).mono ?_
  rintro e w9 ⟨rfl, k⟩
  have hk9 := hk8.trans k
  clear k
  go_wp2
  go_ret
  exact ⟨rfl, hk9⟩

set_option maxHeartbeats 1000000 in
theorem Adds_long (a b : ByteArray) (w : World) (h : (1026 : Int) < (a.size : Int)) :
    Calls Try.prog 3 #[.string a, .string b] w fun e w' => e = .returned (.bool true) ∧ Kp [] w w' := by
  go_enter Try.func3, Try.ntmps3
  go_wp2_with fail
  refine (awake_any _).mono ?_
  rintro e w2 ⟨rfl, hk2⟩
  go_wp2
  go_ret
  exact ⟨rfl, hk2⟩
set_option maxHeartbeats 1000000 in
theorem Adds_long2 (a b : ByteArray) (w : World) (h1 : ¬ (1026 : Int) < (a.size : Int)) (h : (1026 : Int) < (b.size : Int)) :
    Calls Try.prog 3 #[.string a, .string b] w fun e w' => e = .returned (.bool true) ∧ Kp [] w w' := by
  go_enter Try.func3, Try.ntmps3
  go_wp2_with fail
  refine (awake_any _).mono ?_
  rintro e w2 ⟨rfl, hk2⟩
  go_wp2
  go_ret
  exact ⟨rfl, hk2⟩

theorem Adds_any (hp : PlusAll) (a b : ByteArray) (w : World) :
    Calls Try.prog 3 #[.string a, .string b] w fun e w' => e = .returned (.bool true) ∧ Kp [] w w' := by
  by_cases ha : (1026 : Int) < (a.size : Int)
  · exact Adds_long a b w ha
  · by_cases hb : (1026 : Int) < (b.size : Int)
    · exact Adds_long2 a b w ha hb
    · have sa : a.size ≤ 9223372036854775807 := by omega
      have sb : b.size ≤ 9223372036854775807 := by omega
      refine Adds_core a b (binB (· + ·) a b) (binB (· - ·) a b) (unB (- ·) a) (binE (· + ·) a b) (binE (· - ·) a b) (chk a.data.toList) (chkL [a, b]) (cmpV a b) w ha hb
        (fun W => Add_any a b W sa sb) (fun W => RAdd_any hp a b W sa sb) (fun W => Sub_any a b W sa sb) (fun W => RSub_any hp a b W sa sb) ?_ ?_ (fun W => Compare_any a b W sa sb) (fun W => RCompare_any hp a b W sa sb)
      · intro W; refine (Neg_any a W sa).mono ?_; rintro e w' ⟨h, rfl⟩; exact ⟨h, Kp.refl _ _⟩
      · intro W; refine (RNeg_any a W sa).mono ?_; rintro e w' ⟨h, rfl⟩; exact ⟨h, Kp.refl _ _⟩
end Go.Proofs.Ytbhngccjacdlfaa
