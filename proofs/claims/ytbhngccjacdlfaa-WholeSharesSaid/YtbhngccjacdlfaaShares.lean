/- Walk over WholeShares: greatest common divisors at short texts. -/
import Derived.Test.YtbhngccjacdlfaaDivides
import Derived.Test.YtbhngccjacdlfaaM19
namespace Go.Proofs.Ytbhngccjacdlfaa
open Go.RowKit
open Go.Lib (nDigits itoa decDigits)

set_option maxHeartbeats 1000000 in
theorem Shares_long (a b c : ByteArray) (w : World) (hsh : shL [a, b, c] = false) :
    Calls Try.prog 9 #[.string a, .string b, .string c] w fun e w' => e = .returned (.bool true) ∧ Kp [] w w' := by
  have hs := strs3 (made (w := w) (.cells #[.string a, .string b, .string c] 22 (0, 0)))
  have hk0 : Kp [] w (w.alloc (.cells #[.string a, .string b, .string c] 22 (0, 0))) := (Kp.refl _ _).alloc _
  have hq := Lib.hid (short_any w.heap.size 0 3 [a, b, c] _ hs (by simp))
  rw [hsh] at hq
  clear hs hsh
  go_enter Try.func9, Try.ntmps9
  go_wp2_with fail
  refine hq.out.mono ?_
  rintro e w' ⟨rfl, rfl⟩
  clear hq
  go_wp2_with fail
  refine (awake_any _).mono ?_
  rintro e w1 ⟨rfl, k⟩
  have hk1 := hk0.trans k
  clear k
  go_wp2
  go_ret
  exact ⟨rfl, hk1⟩

set_option maxHeartbeats 1000000 in
theorem Shares_zero (a b : ByteArray) (w : World) (hsh : shL [a, b, ⟨#[48]⟩] = true) :
    Calls Try.prog 9 #[.string a, .string b, .string ⟨#[48]⟩] w fun e w' => e = .returned (.bool true) ∧ Kp [] w w' := by
  have hs := strs3 (made (w := w) (.cells #[.string a, .string b, .string ⟨#[48]⟩] 22 (0, 0)))
  have hk0 : Kp [] w (w.alloc (.cells #[.string a, .string b, .string ⟨#[48]⟩] 22 (0, 0))) := (Kp.refl _ _).alloc _
  have hq := Lib.hid (short_any w.heap.size 0 3 [a, b, ⟨#[48]⟩] _ hs (by simp))
  rw [hsh] at hq
  clear hs hsh
  go_enter Try.func9, Try.ntmps9
  go_wp2_with fail
  refine hq.out.mono ?_
  rintro e w' ⟨rfl, rfl⟩
  clear hq
  go_wp2_with fail
  refine (awake_any _).mono ?_
  rintro e w1 ⟨rfl, k⟩
  have hk1 := hk0.trans k
  clear k
  go_wp2
  go_ret
  exact ⟨rfl, hk1⟩

set_option maxRecDepth 100000 in
set_option maxHeartbeats 4000000 in
theorem Shares_none (c : ByteArray) (w : World) (hsh : shL [⟨#[48]⟩, ⟨#[48]⟩, c] = true) (hc0 : (c.toList == [48]) = false)
    (q1 : Gives2 29 ⟨#[48]⟩ ⟨#[48]⟩ (.string ⟨#[48]⟩)) (q2 : Gives2 24 ⟨#[48]⟩ c (.string ⟨#[48]⟩)) :
    Calls Try.prog 9 #[.string ⟨#[48]⟩, .string ⟨#[48]⟩, .string c] w fun e w' => e = .returned (.bool true) ∧ Kp [] w w' := by
  have hs := strs3 (made (w := w) (.cells #[.string ⟨#[48]⟩, .string ⟨#[48]⟩, .string c] 22 (0, 0)))
  have hk0 : Kp [] w (w.alloc (.cells #[.string ⟨#[48]⟩, .string ⟨#[48]⟩, .string c] 22 (0, 0))) := (Kp.refl _ _).alloc _
  have hq := Lib.hid (short_any w.heap.size 0 3 [⟨#[48]⟩, ⟨#[48]⟩, c] _ hs (by simp))
  rw [hsh] at hq
  clear hs hsh
  go_enter Try.func9, Try.ntmps9
  go_wp2_with fail
  refine hq.out.mono ?_
  rintro e w' ⟨rfl, rfl⟩
  clear hq
  have q3 := q2
  have q4 := q1
  go_wp2_with fail
  refine (q1.out _).mono ?_
  rintro e w1 ⟨rfl, k⟩
  have hk1 := hk0.trans k
  clear k q1 hk0
  go_wp2_with fail
  refine (q2.out _).mono ?_
  rintro e w2 ⟨rfl, k⟩
  have hk2 := hk1.trans k
  clear k q2 hk1
  go_wp2_with fail
  refine (q3.out _).mono ?_
  rintro e w3 ⟨rfl, k⟩
  have hk3 := hk2.trans k
  clear k q3 hk2
  go_wp2_with fail
  refine (q4.out _).mono ?_
  rintro e w4 ⟨rfl, k⟩
  have hk4 := hk3.trans k
  clear k q4 hk3
  go_wp2_with fail
  refine (awake_any _).mono ?_
  rintro e w5 ⟨rfl, k⟩
  have hk5 := hk4.trans k
  clear k
  go_wp2
  go_ret
  exact ⟨rfl, hk5⟩

set_option maxRecDepth 100000 in
set_option maxHeartbeats 4000000 in
theorem Shares_pos (a b c g x y d gc : ByteArray) (s : Int) (w : World) (hsh : shL [a, b, c] = true) (hc0 : (c.toList == [48]) = false) (hg0 : (g.toList == [48]) = false) (hs0 : ¬ s < 0)
    (q1 : Gives2 29 a b (.string g)) (q2 : Gives2 24 a c (.string x)) (q3 : Gives2 24 b c (.string y)) (q4 : Gives2 29 x y (.string d))
    (q5 : Gives2 27 a g (.string ⟨#[48]⟩)) (q6 : Gives2 27 b g (.string ⟨#[48]⟩)) (q7 : Gives2 24 g c (.string gc)) (q8 : Gives1 36 gc (.int .i64 s))
    (hgc : gc = d) (q10 : Gives2 27 d c (.string ⟨#[48]⟩)) :
    Calls Try.prog 9 #[.string a, .string b, .string c] w fun e w' => e = .returned (.bool true) ∧ Kp [] w w' := by
  subst hgc
  have hs := strs3 (made (w := w) (.cells #[.string a, .string b, .string c] 22 (0, 0)))
  have hk0 : Kp [] w (w.alloc (.cells #[.string a, .string b, .string c] 22 (0, 0))) := (Kp.refl _ _).alloc _
  have hq := Lib.hid (short_any w.heap.size 0 3 [a, b, c] _ hs (by simp))
  rw [hsh] at hq
  clear hs hsh
  go_enter Try.func9, Try.ntmps9
  go_wp2_with fail
  refine hq.out.mono ?_
  rintro e w' ⟨rfl, rfl⟩
  clear hq
  go_wp2_with fail
  refine (q1.out _).mono ?_
  rintro e w1 ⟨rfl, k⟩
  have hk1 := hk0.trans k
  clear k q1 hk0
  go_wp2_with fail
  refine (q2.out _).mono ?_
  rintro e w2 ⟨rfl, k⟩
  have hk2 := hk1.trans k
  clear k q2 hk1
  go_wp2_with fail
  refine (q3.out _).mono ?_
  rintro e w3 ⟨rfl, k⟩
  have hk3 := hk2.trans k
  clear k q3 hk2
  go_wp2_with fail
  refine (q4.out _).mono ?_
  rintro e w4 ⟨rfl, k⟩
  have hk4 := hk3.trans k
  clear k q4 hk3
  go_wp2_with fail
  refine (q5.out _).mono ?_
  rintro e w5 ⟨rfl, k⟩
  have hk5 := hk4.trans k
  clear k q5 hk4
  go_wp2_with fail
  refine (q6.out _).mono ?_
  rintro e w6 ⟨rfl, k⟩
  have hk6 := hk5.trans k
  clear k q6 hk5
  go_wp2_with fail
  refine (q7.out _).mono ?_
  rintro e w7 ⟨rfl, k⟩
  have hk7 := hk6.trans k
  clear k q7 hk6
  go_wp2_with fail
  refine (q8.out _).mono ?_
  rintro e w8 ⟨rfl, k⟩
  have hk8 := hk7.trans k
  clear k q8 hk7
  go_wp2_with fail
  refine (q10.out _).mono ?_
  rintro e w9 ⟨rfl, k⟩
  have hk9 := hk8.trans k
  clear k q10 hk8
  go_wp2_with fail
  refine (awake_any _).mono ?_
  rintro e w10 ⟨rfl, k⟩
  have hk10 := hk9.trans k
  clear k
  go_wp2
  go_ret
  exact ⟨rfl, hk10⟩

set_option maxRecDepth 100000 in
set_option maxHeartbeats 4000000 in
theorem Shares_neg (a b c g x y d gc : ByteArray) (s : Int) (w : World) (hsh : shL [a, b, c] = true) (hc0 : (c.toList == [48]) = false) (hg0 : (g.toList == [48]) = false) (hs0 : s < 0)
    (q1 : Gives2 29 a b (.string g)) (q2 : Gives2 24 a c (.string x)) (q3 : Gives2 24 b c (.string y)) (q4 : Gives2 29 x y (.string d))
    (q5 : Gives2 27 a g (.string ⟨#[48]⟩)) (q6 : Gives2 27 b g (.string ⟨#[48]⟩)) (q7 : Gives2 24 g c (.string gc)) (q8 : Gives1 36 gc (.int .i64 s))
    (q9 : Gives1 16 gc (.string d)) (q10 : Gives2 27 d c (.string ⟨#[48]⟩)) :
    Calls Try.prog 9 #[.string a, .string b, .string c] w fun e w' => e = .returned (.bool true) ∧ Kp [] w w' := by
  have hs := strs3 (made (w := w) (.cells #[.string a, .string b, .string c] 22 (0, 0)))
  have hk0 : Kp [] w (w.alloc (.cells #[.string a, .string b, .string c] 22 (0, 0))) := (Kp.refl _ _).alloc _
  have hq := Lib.hid (short_any w.heap.size 0 3 [a, b, c] _ hs (by simp))
  rw [hsh] at hq
  clear hs hsh
  go_enter Try.func9, Try.ntmps9
  go_wp2_with fail
  refine hq.out.mono ?_
  rintro e w' ⟨rfl, rfl⟩
  clear hq
  go_wp2_with fail
  refine (q1.out _).mono ?_
  rintro e w1 ⟨rfl, k⟩
  have hk1 := hk0.trans k
  clear k q1 hk0
  go_wp2_with fail
  refine (q2.out _).mono ?_
  rintro e w2 ⟨rfl, k⟩
  have hk2 := hk1.trans k
  clear k q2 hk1
  go_wp2_with fail
  refine (q3.out _).mono ?_
  rintro e w3 ⟨rfl, k⟩
  have hk3 := hk2.trans k
  clear k q3 hk2
  go_wp2_with fail
  refine (q4.out _).mono ?_
  rintro e w4 ⟨rfl, k⟩
  have hk4 := hk3.trans k
  clear k q4 hk3
  go_wp2_with fail
  refine (q5.out _).mono ?_
  rintro e w5 ⟨rfl, k⟩
  have hk5 := hk4.trans k
  clear k q5 hk4
  go_wp2_with fail
  refine (q6.out _).mono ?_
  rintro e w6 ⟨rfl, k⟩
  have hk6 := hk5.trans k
  clear k q6 hk5
  go_wp2_with fail
  refine (q7.out _).mono ?_
  rintro e w7 ⟨rfl, k⟩
  have hk7 := hk6.trans k
  clear k q7 hk6
  go_wp2_with fail
  refine (q8.out _).mono ?_
  rintro e w8 ⟨rfl, k⟩
  have hk8 := hk7.trans k
  clear k q8 hk7
  go_wp2_with fail
  refine (q9.out _).mono ?_
  rintro e w9 ⟨rfl, k⟩
  have hk9 := hk8.trans k
  clear k q9 hk8
  go_wp2_with fail
  refine (q10.out _).mono ?_
  rintro e w10 ⟨rfl, k⟩
  have hk10 := hk9.trans k
  clear k q10 hk9
  go_wp2_with fail
  refine (awake_any _).mono ?_
  rintro e w11 ⟨rfl, k⟩
  have hk11 := hk10.trans k
  clear k
  go_wp2
  go_ret
  exact ⟨rfl, hk11⟩

theorem gcdS (x y : Int) (w : World) (hx : Ok x) (hy : Ok y) (h : Ok (gcdI x y)) :
    Calls Try.prog 29 #[.string (S x), .string (S y)] w fun e w' => e = .returned (.tuple #[.string (S (gcdI x y)), .int .i64 0]) ∧ Kp [] w w' := by
  have hc := chk_two hx hy
  have := Gcd_all (S x) (S y) w (Nat.le_trans hx.size (by decide)) (Nat.le_trans hy.size (by decide))
  rw [binB_S hc, binE_S hc, show resB (gcdI x y) = S (gcdI x y) from if_pos h, show resE (gcdI x y) = 0 from if_pos h] at this
  exact this
theorem gcdI_abs (x y : Int) : (gcdI x y).natAbs = Nat.gcd x.natAbs y.natAbs := rfl
theorem gcdI_sm {n : Nat} {x y : Int} (hx : Sm n x) (hy : Sm n y) : Sm n (gcdI x y) := by
  unfold Sm at *
  rw [gcdI_abs]
  by_cases h : x.natAbs = 0
  · rw [h, Nat.gcd_zero_left]; exact hy
  · exact Nat.lt_of_le_of_lt (Nat.gcd_le_left _ (Nat.pos_of_ne_zero h)) hx
theorem gcdI_mul (x y z : Int) : gcdI (x * z) (y * z) = gcdI x y * (z.natAbs : Int) := by
  unfold gcdI
  rw [Int.natAbs_mul, Int.natAbs_mul, Nat.gcd_mul_right, Int.natCast_mul]
theorem gcdI_left (x y : Int) : x.fmod (gcdI x y) = 0 := Int.fmod_eq_zero_of_dvd (by unfold gcdI; exact Int.ofNat_dvd_left.2 (Nat.gcd_dvd_left _ _))
theorem gcdI_right (x y : Int) : y.fmod (gcdI x y) = 0 := Int.fmod_eq_zero_of_dvd (by unfold gcdI; exact Int.ofNat_dvd_left.2 (Nat.gcd_dvd_right _ _))
theorem ok_zero : Ok 0 := ok_small (by decide)

theorem Shares_any (a b c : ByteArray) (w : World) :
    Calls Try.prog 9 #[.string a, .string b, .string c] w fun e w' => e = .returned (.bool true) ∧ Kp [] w w' := by
  cases hsh : shL [a, b, c] with
  | false => exact Shares_long a b c w hsh
  | true =>
    have h3 : sh1 a = true ∧ sh1 b = true ∧ sh1 c = true := by simpa [shL] using hsh
    have one : ∀ s, sh1 s = true → ∃ z, s = S z ∧ Sm 50 z := by
      intro s h
      unfold sh1 at h
      have h2 : s.size ≤ 50 ∧ chk s.data.toList = 0 := by simpa using h
      obtain ⟨z, rfl, _⟩ := of_chk_zero h2.2
      exact ⟨z, rfl, sm_of_short h2.1⟩
    obtain ⟨x, rfl, hx⟩ := one _ h3.1
    obtain ⟨y, rfl, hy⟩ := one _ h3.2.1
    obtain ⟨z, rfl, hz⟩ := one _ h3.2.2
    by_cases hz0 : z = 0
    · subst hz0
      rw [S_zero] at hsh ⊢
      exact Shares_zero _ _ w hsh
    have hc0 : ((S z).toList == [48]) = false := by
      rw [beq_eq_false_iff_ne]; intro e; exact hz0 (S_eq_zero.1 e)
    have ox := hx.ok (by decide) (by decide)
    have oy := hy.ok (by decide) (by decide)
    have oz := hz.ok (by decide) (by decide)
    have hxz := hx.mul hz
    have hyz := hy.mul hz
    have oxz := hxz.ok (by decide) (by decide)
    have oyz := hyz.ok (by decide) (by decide)
    have hg := gcdI_sm hx hy
    have og := hg.ok (by decide) (by decide)
    have hgz := hg.mul hz
    have ogz := hgz.ok (by decide) (by decide)
    have hd := gcdI_sm hxz hyz
    have od := hd.ok (by decide) (by decide)
    by_cases hg0 : gcdI x y = 0
    · have h00 : x = 0 ∧ y = 0 := by
        have h1 : Nat.gcd x.natAbs y.natAbs = 0 := by
          have h2 : ((Nat.gcd x.natAbs y.natAbs : Nat) : Int) = 0 := hg0
          omega
        have := Nat.gcd_eq_zero_iff.1 h1
        omega
      obtain ⟨rfl, rfl⟩ := h00
      rw [S_zero] at hsh ⊢
      refine Shares_none (S z) w hsh hc0 ?_ ?_
      · intro W; have := gcdS 0 0 W ok_zero ok_zero ok_zero; rwa [show gcdI 0 0 = 0 from rfl, S_zero] at this
      · intro W; have := mulS 0 z W ok_zero oz (by rw [Int.zero_mul]; exact ok_zero); rwa [Int.zero_mul, S_zero] at this
    have hg00 : ((S (gcdI x y)).toList == [48]) = false := by
      rw [beq_eq_false_iff_ne]; intro e; exact hg0 (S_eq_zero.1 e)
    have hgn : 0 ≤ gcdI x y := by unfold gcdI; omega
    have e5 := gcdI_left x y
    have e6 := gcdI_right x y
    have ed := gcdI_mul x y z
    have e10 : (gcdI (x * z) (y * z)).fmod z = 0 := by
      rw [ed]
      rcases Int.natAbs_eq z with h | h
      · rw [← h]; exact Int.mul_fmod_left _ _
      · have h2 : (z.natAbs : Int) = -z := by omega
        rw [h2, Int.mul_neg, ← Int.neg_mul]; exact Int.mul_fmod_left _ _
    have q1 : ∀ W, _ := fun W => gcdS x y W ox oy og
    have q2 : ∀ W, _ := fun W => mulS x z W ox oz oxz
    have q3 : ∀ W, _ := fun W => mulS y z W oy oz oyz
    have q4 : ∀ W, _ := fun W => gcdS (x * z) (y * z) W oxz oyz od
    have q5 : Gives2 27 (S x) (S (gcdI x y)) (.string ⟨#[48]⟩) := fun W => by
      have := remS x (gcdI x y) W ox og hg0 (by rw [e5]; exact ok_zero); rwa [e5, S_zero] at this
    have q6 : Gives2 27 (S y) (S (gcdI x y)) (.string ⟨#[48]⟩) := fun W => by
      have := remS y (gcdI x y) W oy og hg0 (by rw [e6]; exact ok_zero); rwa [e6, S_zero] at this
    have q10 : Gives2 27 (S (gcdI (x * z) (y * z))) (S z) (.string ⟨#[48]⟩) := fun W => by
      have := remS (gcdI (x * z) (y * z)) z W od oz hz0 (by rw [e10]; exact ok_zero); rwa [e10, S_zero] at this
    have q8 : Gives1 36 (S (gcdI x y * z)) (.int .i64 (sgn (gcdI x y * z))) := fun W => by
      refine (signS _ W ogz).mono ?_; rintro e w' ⟨h, rfl⟩; exact ⟨h, Kp.refl _ _⟩
    have hgp : 0 < gcdI x y := by omega
    by_cases hzn : z < 0
    · have hneg : gcdI x y * z < 0 := Int.mul_neg_of_pos_of_neg hgp hzn
      refine Shares_neg (S x) (S y) (S z) _ _ _ _ (S (gcdI x y * z)) (sgn (gcdI x y * z)) w hsh hc0 hg00 (by unfold sgn; rw [if_pos hneg]; decide)
        q1 q2 q3 q4 q5 q6 (fun W => mulS (gcdI x y) z W og oz ogz) q8 ?_ q10
      intro W
      refine (negS _ W ogz).mono ?_
      rw [ed, show (z.natAbs : Int) = -z by omega, Int.mul_neg]
      rintro e w' ⟨h, rfl⟩; exact ⟨h, Kp.refl _ _⟩
    · have hpos : ¬ gcdI x y * z < 0 := by have := Int.mul_nonneg hgn (show 0 ≤ z by omega); omega
      refine Shares_pos (S x) (S y) (S z) _ _ _ _ (S (gcdI x y * z)) (sgn (gcdI x y * z)) w hsh hc0 hg00 (by unfold sgn; rw [if_neg hpos]; split <;> decide)
        q1 q2 q3 q4 q5 q6 (fun W => mulS (gcdI x y) z W og oz ogz) q8 ?_ q10
      rw [ed, show (z.natAbs : Int) = z by omega]
end Go.Proofs.Ytbhngccjacdlfaa
