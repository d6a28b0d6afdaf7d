/- Texts Ratio3, Ratio4: each says in its own first comment what it proves. -/
import Derived.Test.YtegamkilhgekjaaGreatDoorM38
/- The operations of package ratio on texts of rational numbers, as those of core's Rat. -/
namespace Go.Proofs.YtegamkilhgekjaaGreatDoor
open Go.RowKit
open Go.Lib (nDigits itoa decDigits)

theorem bin_S {f : Int → Int → Int} {x y : Int} (hx : Ok x) (hy : Ok y) : binB f (S x) (S y) = resB (f x y) ∧ binE f (S x) (S y) = resE (f x y) := by
  unfold binB binE
  rw [if_pos (chkL_S2 hx hy), if_pos (chkL_S2 hx hy), valS_S, valS_S]
  exact ⟨rfl, rfl⟩
theorem kp_11 (e : Int) : kp 11 e = 11 := if_neg (by decide)
theorem resE_ok {z : Int} (h : Ok z) : resE z = 0 := if_pos h
theorem resE_no {z : Int} (h : ¬ Ok z) : resE z = 11 := if_neg h
theorem resB_ok {z : Int} (h : Ok z) : resB z = S z := if_pos h
theorem rT_RS (q : Rat) : rT (S q.num) (S (q.den : Int)) 0 = RS q := by
  unfold rT RS
  rw [if_pos rfl, isOne_S]
  by_cases h : q.den = 1
  · rw [h, if_pos rfl]; rfl
  · rw [if_neg h, decide_eq_false (by omega)]; rfl
theorem rT_11 (N D : ByteArray) : rT N D 11 = ⟨#[]⟩ := if_neg (by decide)
theorem OkR.size {q : Rat} (h : OkR q) : (RS q).size ≤ 4000000000 := by
  have h1 := h.1.size
  have h2 := h.2.size
  unfold RS
  split
  · omega
  · rw [ByteArray.size_append, ByteArray.size_append]
    have : (⟨#[47]⟩ : ByteArray).size = 1 := rfl
    omega
theorem OkR.size9 {q : Rat} (h : OkR q) : (RS q).size ≤ 9223372036854775807 := Nat.le_trans h.size (by decide)
theorem red_RS {n d : Int} (hn : Ok n) (hd : Ok d) (h0 : d ≠ 0) (E : Int) (hE : E = redE (S n) (S d)) : E = 0 ∧ rT (redN (S n) (S d)) (redD (S n) (S d)) E = RS (Rat.divInt n d) := by
  obtain ⟨h1, h2, h3⟩ := red_S hn hd h0
  subst hE
  rw [h1, h2, h3]
  exact ⟨rfl, rT_RS _⟩
theorem den_nz (q r : Rat) : (q.den : Int) * (r.den : Int) ≠ 0 := Int.mul_ne_zero (by have := q.den_pos; omega) (by have := r.den_pos; omega)
theorem mul_RS (q r : Rat) : q * r = Rat.divInt (q.num * r.num) ((q.den : Int) * (r.den : Int)) := by
  conv => lhs; rw [← Rat.num_divInt_den q, ← Rat.num_divInt_den r]
  exact Rat.divInt_mul_divInt _ _
theorem add_RS (q r : Rat) : q + r = Rat.divInt (q.num * (r.den : Int) + r.num * (q.den : Int)) ((q.den : Int) * (r.den : Int)) := by
  conv => lhs; rw [← Rat.num_divInt_den q, ← Rat.num_divInt_den r]
  exact Rat.divInt_add_divInt _ _ (by have := q.den_pos; omega) (by have := r.den_pos; omega)
end Go.Proofs.YtegamkilhgekjaaGreatDoor

/- Opposites, signs, orders, floors, quotients and made numbers of package ratio, as core's Rat. -/
namespace Go.Proofs.YtegamkilhgekjaaGreatDoor
open Go.RowKit
open Go.Lib (nDigits itoa decDigits)

theorem sgn_ne {z : Int} (h : z ≠ 0) : sgn z ≠ 0 := by
  rcases Int.lt_or_gt_of_ne h with h | h
  · rw [sgn_neg h]; decide
  · rw [sgn_pos h]; decide
theorem OkR.neg {q : Rat} (h : OkR q) : OkR (-q) := ⟨h.1.neg, h.2⟩
/-- DIV -/
theorem div_RS {q r : Rat} : q / r = Rat.divInt (q.num * (r.den : Int)) ((q.den : Int) * r.num) := by
  rw [Rat.div_def, Rat.inv_def]
  conv => lhs; rw [← Rat.num_divInt_den q]
  exact Rat.divInt_mul_divInt _ _
theorem qDiv_RS {q r : Rat} (hq : OkR q) (hr : OkR r) :
    qDivE (RS q) (RS r) = (if r.num = 0 then 10 else if Ok (q.num * (r.den : Int)) ∧ Ok ((q.den : Int) * r.num) then 0 else 11) ∧
    qDivB (RS q) (RS r) = (if r.num = 0 then ⟨#[]⟩ else if Ok (q.num * (r.den : Int)) ∧ Ok ((q.den : Int) * r.num) then RS (q / r) else ⟨#[]⟩) := by
  obtain ⟨a1, a2, a3⟩ := sp_RS hq
  obtain ⟨b1, b2, b3⟩ := sp_RS hr
  have hE : qDivE (RS q) (RS r) = kp (if sgn r.num = 0 then 10 else 0) (kp (resE (q.num * (r.den : Int))) (kp (resE ((q.den : Int) * r.num)) (redE (resB (q.num * (r.den : Int))) (resB ((q.den : Int) * r.num))))) := by
    unfold qDivE dvE prE tM tME
    rw [a1, a2, a3, b1, b2, b3, kp_zero, kp_zero, chk_S0 hr.1, kp_zero, signI_S hr.1, (bin_S hq.1 hr.2).1, (bin_S hq.1 hr.2).2, (bin_S hq.2 hr.1).1, (bin_S hq.2 hr.1).2]
  have hB : qDivB (RS q) (RS r) = rT (redN (resB (q.num * (r.den : Int))) (resB ((q.den : Int) * r.num))) (redD (resB (q.num * (r.den : Int))) (resB ((q.den : Int) * r.num))) (qDivE (RS q) (RS r)) := by
    unfold qDivB prN prD tM
    rw [a1, a2, b1, b2, (bin_S hq.1 hr.2).1, (bin_S hq.2 hr.1).1]
  rw [hB]
  generalize qDivE (RS q) (RS r) = E at *
  by_cases h0 : r.num = 0
  · have hs : sgn r.num = 0 := by rw [h0]; rfl
    rw [if_pos hs, show ∀ e, kp 10 e = 10 from fun e => if_neg (by decide)] at hE
    rw [if_pos h0, if_pos h0, hE]
    exact ⟨rfl, if_neg (by decide)⟩
  · have hs : sgn r.num ≠ 0 := sgn_ne h0
    rw [if_neg hs, kp_zero] at hE
    rw [if_neg h0, if_neg h0]
    by_cases h1 : Ok (q.num * (r.den : Int))
    · by_cases h2 : Ok ((q.den : Int) * r.num)
      · rw [if_pos ⟨h1, h2⟩, if_pos ⟨h1, h2⟩, div_RS, resB_ok h1, resB_ok h2]
        rw [resE_ok h1, resE_ok h2, kp_zero, kp_zero, resB_ok h1, resB_ok h2] at hE
        exact red_RS h1 h2 (Int.mul_ne_zero (by have := q.den_pos; omega) h0) E hE
      · rw [resE_ok h1, resE_no h2, kp_zero, kp_11] at hE
        rw [if_neg (fun h => h2 h.2), if_neg (fun h => h2 h.2), hE]
        exact ⟨rfl, rT_11 _ _⟩
    · rw [resE_no h1, kp_11] at hE
      rw [if_neg (fun h => h1 h.1), if_neg (fun h => h1 h.1), hE]
      exact ⟨rfl, rT_11 _ _⟩
/-- MAKE -/
theorem qMake_RS {n d : Int} (hn : Ok n) (hd : Ok d) (h0 : d ≠ 0) : mkE (S n) (S d) = 0 ∧ rT (redN (S n) (S d)) (redD (S n) (S d)) (mkE (S n) (S d)) = RS (Rat.divInt n d) := by
  have hs : sgn d ≠ 0 := sgn_ne h0
  refine red_RS hn hd h0 _ ?_
  unfold mkE
  rw [chk_S0 hn, chk_S0 hd, signI_S hd, if_neg hs, kp_zero, kp_zero, kp_zero]
end Go.Proofs.YtegamkilhgekjaaGreatDoor
