/- Walk over WholeDivides: products, quotients and remainders at short texts. -/
import Derived.Test.YtbhngccjacdlfaaM23
import Derived.Test.YtbhngccjacdlfaaM14
namespace Go.Proofs.Ytbhngccjacdlfaa
open Go.RowKit
open Go.Lib (nDigits itoa decDigits)

theorem strs2L {W : World} {g : Nat} {a b : ByteArray} {T : Nat} (hb : W.heap[g]? = some (.cells #[.string a, .string b] T (0, 0))) : Strs W g 0 [a, b] := by
  intro i h
  rw [cell_of hb]
  have h3 : i < 2 := h
  have : i = 0 ∨ i = 1 := by omega
  rcases this with rfl | rfl <;> rfl

set_option maxHeartbeats 1000000 in
theorem Divides_long (a b : ByteArray) (w : World) (hsh : shL [a, b] = false) :
    Calls Try.prog 8 #[.string a, .string b] w fun e w' => e = .returned (.bool true) ∧ Kp [] w w' := by
  have hs := strs2L (made (w := w) (.cells #[.string a, .string b] 22 (0, 0)))
  have hk0 : Kp [] w (w.alloc (.cells #[.string a, .string b] 22 (0, 0))) := (Kp.refl _ _).alloc _
  have hq := Lib.hid (short_any w.heap.size 0 2 [a, b] _ hs (by simp))
  rw [hsh] at hq
  clear hs hsh
  go_enter Try.func8, Try.ntmps8
  go_wp2_with fail
  refine hq.out.mono ?_
  rintro e w' ⟨rfl, rfl⟩
  clear hq
  go_wp2_with fail
  refine (awake_any _).mono ?_
  rintro e w2 ⟨rfl, hk2⟩
  go_wp2
  go_ret
  exact ⟨rfl, hk0.trans hk2⟩

set_option maxHeartbeats 1000000 in
theorem Divides_zero (a : ByteArray) (w : World) (hsh : shL [a, ⟨#[48]⟩] = true) :
    Calls Try.prog 8 #[.string a, .string ⟨#[48]⟩] w fun e w' => e = .returned (.bool true) ∧ Kp [] w w' := by
  have hs := strs2L (made (w := w) (.cells #[.string a, .string ⟨#[48]⟩] 22 (0, 0)))
  have hk0 : Kp [] w (w.alloc (.cells #[.string a, .string ⟨#[48]⟩] 22 (0, 0))) := (Kp.refl _ _).alloc _
  have hq := Lib.hid (short_any w.heap.size 0 2 [a, ⟨#[48]⟩] _ hs (by simp))
  rw [hsh] at hq
  clear hs hsh
  go_enter Try.func8, Try.ntmps8
  go_wp2_with fail
  refine hq.out.mono ?_
  rintro e w' ⟨rfl, rfl⟩
  clear hq
  go_wp2_with fail
  refine (awake_any _).mono ?_
  rintro e w2 ⟨rfl, hk2⟩
  go_wp2
  go_ret
  exact ⟨rfl, hk0.trans hk2⟩

set_option maxRecDepth 100000 in
set_option maxHeartbeats 4000000 in
theorem Divides_core (a b p q r y near : ByteArray) (s t : Int) (w : World) (hsh : shL [a, b] = true) (hb0 : (b.toList == [48]) = false)
    (q1 : Gives2 24 a b (.string p)) (q2 : Gives2 26 p b (.string a)) (q3 : Gives2 27 p b (.string ⟨#[48]⟩))
    (q4 : Gives2 26 a b (.string q)) (q5 : Gives2 27 a b (.string r)) (q6 : Gives2 24 q b (.string y))
    (q7 : Gives2 12 y r (.string a)) (q8 : Gives1 36 r (.int .i64 s)) (q9 : Gives1 36 b (.int .i64 t))
    (q10 : Gives2 14 b r (.string near)) (q11 : Gives1 36 near (.int .i64 t)) (hst : (s == 0) = true ∨ ((s == 0) = false ∧ (s == t) = true)) :
    Calls Try.prog 8 #[.string a, .string b] w fun e w' => e = .returned (.bool true) ∧ Kp [] w w' := by
  have hs := strs2L (made (w := w) (.cells #[.string a, .string b] 22 (0, 0)))
  have hk0 : Kp [] w (w.alloc (.cells #[.string a, .string b] 22 (0, 0))) := (Kp.refl _ _).alloc _
  have hq := Lib.hid (short_any w.heap.size 0 2 [a, b] _ hs (by simp))
  rw [hsh] at hq
  clear hs hsh
  have hst' := Lib.hid hst; clear hst
  go_enter Try.func8, Try.ntmps8
  go_wp2_with fail
  refine hq.out.mono ?_
  rintro e w' ⟨rfl, rfl⟩
  clear hq
  go_wp2_with fail
  refine (q1.out _).mono ?_
  rintro e w1 ⟨rfl, k⟩
  have hk1 := hk0.trans k
  clear k q1 hk0
  go_wp2_with fail
  refine (q2.out _).mono ?_
  rintro e w2 ⟨rfl, k⟩
  have hk2 := hk1.trans k
  clear k q2 hk1
  go_wp2_with fail
  refine (q3.out _).mono ?_
  rintro e w3 ⟨rfl, k⟩
  have hk3 := hk2.trans k
  clear k q3 hk2
  go_wp2_with fail
  refine (q4.out _).mono ?_
  rintro e w4 ⟨rfl, k⟩
  have hk4 := hk3.trans k
  clear k q4 hk3
  go_wp2_with fail
  refine (q5.out _).mono ?_
  rintro e w5 ⟨rfl, k⟩
  have hk5 := hk4.trans k
  clear k q5 hk4
  go_wp2_with fail
  refine (q6.out _).mono ?_
  rintro e w6 ⟨rfl, k⟩
  have hk6 := hk5.trans k
  clear k q6 hk5
  go_wp2_with fail
  refine (q7.out _).mono ?_
  rintro e w7 ⟨rfl, k⟩
  have hk7 := hk6.trans k
  clear k q7 hk6
  go_wp2_with fail
  refine (q8.out _).mono ?_
  rintro e w8 ⟨rfl, k⟩
  have hk8 := hk7.trans k
  clear k q8 hk7
  go_wp2_with fail
  refine (q9.out _).mono ?_
  rintro e w9 ⟨rfl, k⟩
  have hk9 := hk8.trans k
  clear k q9 hk8
  go_wp2_with fail
  refine (q10.out _).mono ?_
  rintro e w10 ⟨rfl, k⟩
  have hk10 := hk9.trans k
  clear k q10 hk9
  go_wp2_with fail
  refine (q11.out _).mono ?_
  rintro e w11 ⟨rfl, k⟩
  have hk11 := hk10.trans k
  clear k q11 hk10
  rcases hst'.out with h1 | ⟨h0, h1⟩
  · clear hst'
    go_wp2_with fail
    refine (awake_any _).mono ?_
    rintro e w13 ⟨rfl, k⟩
    have hk13 := hk11.trans k
    clear k
    go_wp2
    go_ret
    exact ⟨rfl, hk13⟩
  · clear hst'
    go_wp2_with fail
    refine (awake_any _).mono ?_
    rintro e w13 ⟨rfl, k⟩
    have hk13 := hk11.trans k
    clear k
    go_wp2
    go_ret
    exact ⟨rfl, hk13⟩

theorem fmod_sign {x y : Int} (hy : y ≠ 0) : (0 < y ∧ 0 ≤ x.fmod y ∧ x.fmod y < y) ∨ (y < 0 ∧ x.fmod y ≤ 0 ∧ y < x.fmod y) := by
  rcases Int.lt_or_gt_of_ne hy with h | h
  · have e := Int.neg_fmod_neg x y
    have h1 := Int.fmod_nonneg_of_pos (-x) (show 0 < -y by omega)
    have h2 := Int.fmod_lt_of_pos (-x) (show 0 < -y by omega)
    exact .inr ⟨h, by omega, by omega⟩
  · exact .inl ⟨h, Int.fmod_nonneg_of_pos x h, Int.fmod_lt_of_pos x h⟩
theorem fmod_abs {x y : Int} (hy : y ≠ 0) : (x.fmod y).natAbs < y.natAbs := by
  rcases fmod_sign (x := x) hy with h | h <;> omega
theorem fdiv_abs {x y : Int} (hy : y ≠ 0) : (x.fdiv y).natAbs ≤ x.natAbs + 1 := by
  have h := Int.mul_fdiv_add_fmod x y
  have hm := fmod_abs (x := x) hy
  have e : (y * x.fdiv y).natAbs = y.natAbs * (x.fdiv y).natAbs := Int.natAbs_mul _ _
  have h1 : y.natAbs * (x.fdiv y).natAbs ≤ x.natAbs + y.natAbs := by rw [← e]; omega
  rcases Nat.lt_or_ge (x.natAbs + 1) (x.fdiv y).natAbs with h2 | h2
  · have h3 := Nat.mul_le_mul_left y.natAbs (show x.natAbs + 2 ≤ (x.fdiv y).natAbs by omega)
    have h4 := Nat.mul_le_mul_right x.natAbs (show 1 ≤ y.natAbs by omega)
    rw [Nat.mul_add] at h3
    omega
  · exact h2
theorem Divides_any (a b : ByteArray) (w : World) :
    Calls Try.prog 8 #[.string a, .string b] w fun e w' => e = .returned (.bool true) ∧ Kp [] w w' := by
  cases hsh : shL [a, b] with
  | false => exact Divides_long a b w hsh
  | true =>
    have h3 : sh1 a = true ∧ sh1 b = true := by simpa [shL] using hsh
    have one : ∀ s, sh1 s = true → ∃ z, s = S z ∧ Sm 50 z := by
      intro s h
      unfold sh1 at h
      have h2 : s.size ≤ 50 ∧ chk s.data.toList = 0 := by simpa using h
      obtain ⟨z, rfl, _⟩ := of_chk_zero h2.2
      exact ⟨z, rfl, sm_of_short h2.1⟩
    obtain ⟨x, rfl, hx⟩ := one _ h3.1
    obtain ⟨y, rfl, hy⟩ := one _ h3.2
    by_cases h0 : y = 0
    · subst h0
      rw [S_zero] at hsh ⊢
      exact Divides_zero _ w hsh
    have hb0 : ((S y).toList == [48]) = false := by
      rw [beq_eq_false_iff_ne]; intro e; exact h0 (S_eq_zero.1 e)
    have ox := hx.ok (by decide) (by decide)
    have oy := hy.ok (by decide) (by decide)
    have hxy := hx.mul hy
    have oxy := hxy.ok (by decide) (by decide)
    have hr : Sm 50 (x.fmod y) := Nat.lt_trans (fmod_abs h0) hy
    have hq : Sm 51 (x.fdiv y) := by
      have h1 := fdiv_abs (x := x) h0
      have h2 : x.natAbs < 10 ^ 50 := hx
      show _ < 10 ^ 51
      rw [Nat.pow_succ]; omega
    have hyq := hq.mul hy
    have hnear := hy.sub hr
    have or := hr.ok (by decide) (by decide)
    have oq := hq.ok (by decide) (by decide)
    have oyq := hyq.ok (by decide) (by decide)
    have on := hnear.ok (by decide) (by decide)
    have e1 : (x * y).fdiv y = x := Int.mul_fdiv_cancel x h0
    have e2 : (x * y).fmod y = 0 := Int.mul_fmod_left x y
    have e3 : x.fdiv y * y + x.fmod y = x := by rw [Int.mul_comm]; exact Int.mul_fdiv_add_fmod x y
    have hsg := fmod_sign (x := x) h0
    have e4 : sgn (y - x.fmod y) = sgn y := by
      unfold sgn
      rcases hsg with ⟨h1, h2, h3⟩ | ⟨h1, h2, h3⟩
      · rw [if_neg (by omega), if_neg (by omega), if_neg (by omega), if_neg (by omega)]
      · rw [if_pos (by omega), if_pos (by omega)]
    refine Divides_core (S x) (S y) (S (x * y)) (S (x.fdiv y)) (S (x.fmod y)) (S (x.fdiv y * y)) (S (y - x.fmod y)) (sgn (x.fmod y)) (sgn y) w hsh hb0
      (fun W => mulS x y W ox oy oxy) ?_ ?_ (fun W => quoS x y W ox oy h0 oq) (fun W => remS x y W ox oy h0 or) (fun W => mulS _ y W oq oy oyq) ?_ ?_ ?_ (fun W => subS y _ W oy or on) ?_ ?_
    · intro W; have := quoS (x * y) y W oxy oy h0 (by rw [e1]; exact ox); rwa [e1] at this
    · intro W; have := remS (x * y) y W oxy oy h0 (by rw [e2]; exact ok_small (by decide)); rwa [e2, S_zero] at this
    · intro W; have := addS (x.fdiv y * y) (x.fmod y) W oyq or (by rw [e3]; exact ox); rwa [e3] at this
    · intro W; refine (signS _ W or).mono ?_; rintro e w' ⟨h, rfl⟩; exact ⟨h, Kp.refl _ _⟩
    · intro W; refine (signS _ W oy).mono ?_; rintro e w' ⟨h, rfl⟩; exact ⟨h, Kp.refl _ _⟩
    · intro W; refine (signS _ W on).mono ?_; rw [e4]; rintro e w' ⟨h, rfl⟩; exact ⟨h, Kp.refl _ _⟩
    · unfold sgn
      rcases hsg with ⟨h1, h2, h3⟩ | ⟨h1, h2, h3⟩
      · by_cases h4 : x.fmod y = 0
        · left; rw [h4]; rfl
        · right; rw [if_neg (by omega), if_neg h4, if_neg (by omega), if_neg h0]; exact ⟨rfl, rfl⟩
      · by_cases h4 : x.fmod y = 0
        · left; rw [h4]; rfl
        · right; rw [if_pos (by omega), if_pos h1]; exact ⟨rfl, rfl⟩
end Go.Proofs.Ytbhngccjacdlfaa
