/- Walk over WholeReads, where the listed variables of strconv hold what the row says. -/
import Derived.Test.YtobfboemgelmoaaDoorSmall
import Derived.Test.YtobfboemgelmoaaDoorM22
namespace Go.Proofs.YtobfboemgelmoaaDoor
open Go.RowKit
open Go.Lib (nDigits itoa decDigits)

set_option maxRecDepth 100000 in
set_option maxHeartbeats 1000000 in
theorem Reads_long (a : ByteArray) (n : Int) (w : World) (ha : (2048 : Int) < (a.size : Int)) :
    Calls Tryd.prog 3 #[.string a, .int .i64 n] w fun e w' => e = .returned (.bool true) ∧ Kp [] w w' := by
  go_enter Tryd.func3, Tryd.ntmps3
  go_wp2_with fail
  refine (awake_any _).mono ?_
  rintro e w2 ⟨rfl, hk2⟩
  go_wp2
  go_ret
  exact ⟨rfl, hk2⟩

set_option maxRecDepth 100000 in
set_option maxHeartbeats 4000000 in
theorem Reads_core (a t : ByteArray) (n v1 e1 s c : Int) (w : World) (ha : ¬ (2048 : Int) < (a.size : Int))
    (q1 : Hid (∀ W, Kp [] w W → Calls Tryd.prog 5 #[.string a] W fun e w' => e = .returned (.tuple #[.int .i64 v1, .int .i64 e1]) ∧ Kp [] W w'))
    (q2 : Says 6 #[.string a] (.tuple #[.int .i64 v1, .int .i64 e1]))
    (q3 : SaysS 7 #[.string a] (.tuple #[.int .i64 s, .int .i64 c]))
    (q4 : Says 8 #[.string a, .string ⟨#[48]⟩] (.tuple #[.int .i64 s, .int .i64 c]))
    (q5 : SaysS 9 #[.string a] (.int .i64 c)) (q6 : SaysS 10 #[.string a] (.int .i64 c))
    (q7 : Hid (∀ W, Kp [] w W → Calls Tryd.prog 11 #[.int .i64 n] W fun e w' => e = .returned (.string t) ∧ Kp [] W w'))
    (q8 : Says 12 #[.int .i64 n] (.string t)) :
    Calls Tryd.prog 3 #[.string a, .int .i64 n] w fun e w' => e = .returned (.bool true) ∧ Kp [] w w' := by
  have hk0 := Kp.refl [] w
  go_enter Tryd.func3, Tryd.ntmps3
  go_wp2_with fail
  refine (q1.out _ hk0).mono ?_
  rintro e w1 ⟨rfl, hk1⟩
  clear hk0
  go_wp2_with fail
  refine (q2.out _).mono ?_
  rintro e w2 ⟨rfl, k⟩
  have hk2 := hk1.trans k
  clear k hk1
  go_wp2_with fail
  refine (q3.out _).mono ?_
  rintro e w3 ⟨rfl, rfl⟩
  go_wp2_with fail
  refine (q4.out _).mono ?_
  rintro e w4 ⟨rfl, k⟩
  have hk4 := hk2.trans k
  clear k hk2
  go_wp2_with fail
  refine (q5.out _).mono ?_
  rintro e w5 ⟨rfl, rfl⟩
  go_wp2_with fail
  refine (q6.out _).mono ?_
  rintro e w6 ⟨rfl, rfl⟩
  go_wp2_with fail
  refine (q7.out _ hk4).mono ?_
  rintro e w7 ⟨rfl, k⟩
  have hk7 := hk4.trans k
  clear k hk4
  go_wp2_with fail
  refine (q8.out _).mono ?_
  rintro e w8 ⟨rfl, k⟩
  have hk8 := hk7.trans k
  clear k hk7
  go_wp2_with fail
  refine (awake_any _).mono ?_
  rintro e w9 ⟨rfl, k⟩
  have hk9 := hk8.trans k
  clear k hk8
  go_wp2
  go_ret
  exact ⟨rfl, hk9⟩

theorem cmp_zero (a : ByteArray) : cmpV a ⟨#[48]⟩ = signI a ∧ chkL [a, ⟨#[48]⟩] = chk a.data.toList := by
  have h0 : (⟨#[48]⟩ : ByteArray) = S 0 := S_zero.symm
  have hz : chk (S 0).data.toList = 0 := by rw [S_list]; exact chk_ok (by unfold Ok; rw [show (0 : Int).natAbs = 0 from rfl, Go.Lib.nDigits_small (by omega)]; omega)
  rw [h0]
  have hc : chkL [a, S 0] = chk a.data.toList := by
    unfold chkL
    by_cases h : chk a.data.toList = 0
    · rw [if_pos h, h]; unfold chkL; rw [if_pos hz]; rfl
    · rw [if_neg h]
  refine ⟨?_, hc⟩
  unfold cmpV signI
  rw [hc, valS_S]
  rfl

theorem Reads_any (a : ByteArray) (n : Int) (w : World) (hn : InI n) (hl : Lay w) :
    Calls Tryd.prog 3 #[.string a, .int .i64 n] w fun e w' => e = .returned (.bool true) ∧ Kp [] w w' := by
  by_cases ha : (2048 : Int) < (a.size : Int)
  · exact Reads_long a n w ha
  · obtain ⟨h1, h2⟩ := cmp_zero a
    have q4 : Says 8 #[.string a, .string ⟨#[48]⟩] (.tuple #[.int .i64 (signI a), .int .i64 (chk a.data.toList)]) := by
      intro W
      have := RCompare_any plus_all a ⟨#[48]⟩ W (by omega) (by decide)
      rwa [h1, h2] at this
    exact Reads_core a (S n) n (smV a) (smE a) (signI a) (chk a.data.toList) w ha
      (fun W k => Small_any a W (by omega) (hl.kp k)) (fun W => RSmall_any a W (by omega)) (fun W => Sign_any a W (by omega)) q4
      (fun W => check_any a W (by omega)) (fun W => rcheck_any a W (by omega)) (fun W k => Of_any n W hn (hl.kp k)) (fun W => of_any n W hn.1 (by have := hn.2; omega))
end Go.Proofs.YtobfboemgelmoaaDoor
