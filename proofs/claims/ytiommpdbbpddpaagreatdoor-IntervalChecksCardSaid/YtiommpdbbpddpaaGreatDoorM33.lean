/- Texts Ratio3, Ratio4, Ratio5a: each says in its own first comment what it proves. -/
import Derived.Test.YtiommpdbbpddpaaGreatDoorM31
/- The operations of package ratio on texts of rational numbers, as those of core's Rat. -/
namespace Go.Proofs.YtiommpdbbpddpaaGreatDoor
open Go.RowKit
open Go.Lib (nDigits itoa decDigits)

theorem bin_S {f : Int → Int → Int} {x y : Int} (hx : Ok x) (hy : Ok y) : binB f (S x) (S y) = resB (f x y) ∧ binE f (S x) (S y) = resE (f x y) := by
  unfold binB binE
  rw [if_pos (chkL_S2 hx hy), if_pos (chkL_S2 hx hy), valS_S, valS_S]
  exact ⟨rfl, rfl⟩
theorem kp_11 (e : Int) : kp 11 e = 11 := if_neg (by decide)
theorem resE_ok {z : Int} (h : Ok z) : resE z = 0 := if_pos h
theorem resE_no {z : Int} (h : ¬ Ok z) : resE z = 11 := if_neg h
theorem resB_ok {z : Int} (h : Ok z) : resB z = S z := if_pos h
theorem rT_RS (q : Rat) : rT (S q.num) (S (q.den : Int)) 0 = RS q := by
  unfold rT RS
  rw [if_pos rfl, isOne_S]
  by_cases h : q.den = 1
  · rw [h, if_pos rfl]; rfl
  · rw [if_neg h, decide_eq_false (by omega)]; rfl
theorem rT_11 (N D : ByteArray) : rT N D 11 = ⟨#[]⟩ := if_neg (by decide)
theorem OkR.size {q : Rat} (h : OkR q) : (RS q).size ≤ 4000000000 := by
  have h1 := h.1.size
  have h2 := h.2.size
  unfold RS
  split
  · omega
  · rw [ByteArray.size_append, ByteArray.size_append]
    have : (⟨#[47]⟩ : ByteArray).size = 1 := rfl
    omega
theorem OkR.size9 {q : Rat} (h : OkR q) : (RS q).size ≤ 9223372036854775807 := Nat.le_trans h.size (by decide)
theorem red_RS {n d : Int} (hn : Ok n) (hd : Ok d) (h0 : d ≠ 0) (E : Int) (hE : E = redE (S n) (S d)) : E = 0 ∧ rT (redN (S n) (S d)) (redD (S n) (S d)) E = RS (Rat.divInt n d) := by
  obtain ⟨h1, h2, h3⟩ := red_S hn hd h0
  subst hE
  rw [h1, h2, h3]
  exact ⟨rfl, rT_RS _⟩
theorem den_nz (q r : Rat) : (q.den : Int) * (r.den : Int) ≠ 0 := Int.mul_ne_zero (by have := q.den_pos; omega) (by have := r.den_pos; omega)
theorem mul_RS (q r : Rat) : q * r = Rat.divInt (q.num * r.num) ((q.den : Int) * (r.den : Int)) := by
  conv => lhs; rw [← Rat.num_divInt_den q, ← Rat.num_divInt_den r]
  exact Rat.divInt_mul_divInt _ _
theorem add_RS (q r : Rat) : q + r = Rat.divInt (q.num * (r.den : Int) + r.num * (q.den : Int)) ((q.den : Int) * (r.den : Int)) := by
  conv => lhs; rw [← Rat.num_divInt_den q, ← Rat.num_divInt_den r]
  exact Rat.divInt_add_divInt _ _ (by have := q.den_pos; omega) (by have := r.den_pos; omega)
theorem sub_RS (q r : Rat) : q - r = Rat.divInt (q.num * (r.den : Int) - r.num * (q.den : Int)) ((q.den : Int) * (r.den : Int)) := by
  conv => lhs; rw [← Rat.num_divInt_den q, ← Rat.num_divInt_den r]
  exact Rat.divInt_sub_divInt _ _ (by have := q.den_pos; omega) (by have := r.den_pos; omega)

/-- MUL -/
theorem qMul_RS {q r : Rat} (hq : OkR q) (hr : OkR r) :
    qMulE (RS q) (RS r) = (if Ok (q.num * r.num) ∧ Ok ((q.den : Int) * (r.den : Int)) then 0 else 11) ∧
    qMulB (RS q) (RS r) = (if Ok (q.num * r.num) ∧ Ok ((q.den : Int) * (r.den : Int)) then RS (q * r) else ⟨#[]⟩) := by
  obtain ⟨a1, a2, a3⟩ := sp_RS hq
  obtain ⟨b1, b2, b3⟩ := sp_RS hr
  have hE : qMulE (RS q) (RS r) = kp (resE (q.num * r.num)) (kp (resE ((q.den : Int) * (r.den : Int))) (redE (resB (q.num * r.num)) (resB ((q.den : Int) * (r.den : Int))))) := by
    unfold qMulE prE tM tME
    rw [a1, a2, a3, b1, b2, b3, kp_zero, kp_zero, (bin_S hq.1 hr.1).1, (bin_S hq.1 hr.1).2, (bin_S hq.2 hr.2).1, (bin_S hq.2 hr.2).2]
  have hB : qMulB (RS q) (RS r) = rT (redN (resB (q.num * r.num)) (resB ((q.den : Int) * (r.den : Int)))) (redD (resB (q.num * r.num)) (resB ((q.den : Int) * (r.den : Int)))) (qMulE (RS q) (RS r)) := by
    unfold qMulB prN prD tM
    rw [a1, a2, b1, b2, (bin_S hq.1 hr.1).1, (bin_S hq.2 hr.2).1]
  rw [hB]
  generalize qMulE (RS q) (RS r) = E at *
  by_cases h1 : Ok (q.num * r.num)
  · by_cases h2 : Ok ((q.den : Int) * (r.den : Int))
    · rw [if_pos ⟨h1, h2⟩, if_pos ⟨h1, h2⟩, mul_RS, resB_ok h1, resB_ok h2]
      rw [resE_ok h1, resE_ok h2, kp_zero, kp_zero, resB_ok h1, resB_ok h2] at hE
      exact red_RS h1 h2 (den_nz q r) E hE
    · rw [resE_ok h1, resE_no h2, kp_zero, kp_11] at hE
      rw [if_neg (fun h => h2 h.2), if_neg (fun h => h2 h.2), hE]
      exact ⟨rfl, rT_11 _ _⟩
  · rw [resE_no h1, kp_11] at hE
    rw [if_neg (fun h => h1 h.1), if_neg (fun h => h1 h.1), hE]
    exact ⟨rfl, rT_11 _ _⟩

/-- ADD -/
theorem qAdd_RS {q r : Rat} (hq : OkR q) (hr : OkR r) :
    qAddE (RS q) (RS r) = (if (Ok (q.num * (r.den : Int)) ∧ Ok (r.num * (q.den : Int)) ∧ Ok (q.num * (r.den : Int) + r.num * (q.den : Int))) ∧ Ok ((q.den : Int) * (r.den : Int)) then 0 else 11) ∧
    qAddB (RS q) (RS r) = (if (Ok (q.num * (r.den : Int)) ∧ Ok (r.num * (q.den : Int)) ∧ Ok (q.num * (r.den : Int) + r.num * (q.den : Int))) ∧ Ok ((q.den : Int) * (r.den : Int)) then RS (q + r) else ⟨#[]⟩) := by
  obtain ⟨a1, a2, a3⟩ := sp_RS hq
  obtain ⟨b1, b2, b3⟩ := sp_RS hr
  have hE : qAddE (RS q) (RS r) = kp (resE (q.num * (r.den : Int))) (kp (resE (r.num * (q.den : Int))) (kp (binE (· + ·) (resB (q.num * (r.den : Int))) (resB (r.num * (q.den : Int)))) (kp (resE ((q.den : Int) * (r.den : Int))) (redE (binB (· + ·) (resB (q.num * (r.den : Int))) (resB (r.num * (q.den : Int)))) (resB ((q.den : Int) * (r.den : Int))))))) := by
    unfold qAddE suE tA tAE tM tME
    rw [a1, a2, a3, b1, b2, b3, kp_zero, kp_zero, (bin_S hq.1 hr.2).1, (bin_S hq.1 hr.2).2, (bin_S hr.1 hq.2).1, (bin_S hr.1 hq.2).2, (bin_S hq.2 hr.2).1, (bin_S hq.2 hr.2).2]
  have hB : qAddB (RS q) (RS r) = rT (redN (binB (· + ·) (resB (q.num * (r.den : Int))) (resB (r.num * (q.den : Int)))) (resB ((q.den : Int) * (r.den : Int)))) (redD (binB (· + ·) (resB (q.num * (r.den : Int))) (resB (r.num * (q.den : Int)))) (resB ((q.den : Int) * (r.den : Int)))) (qAddE (RS q) (RS r)) := by
    unfold qAddB suN suD tA tM
    rw [a1, a2, b1, b2, (bin_S hq.1 hr.2).1, (bin_S hr.1 hq.2).1, (bin_S hq.2 hr.2).1]
  rw [hB]
  generalize qAddE (RS q) (RS r) = E at *
  by_cases h1 : Ok (q.num * (r.den : Int))
  · by_cases h2 : Ok (r.num * (q.den : Int))
    · rw [resE_ok h1, resE_ok h2, kp_zero, kp_zero, resB_ok h1, resB_ok h2, (bin_S h1 h2).1, (bin_S h1 h2).2] at hE
      rw [resB_ok h1, resB_ok h2, (bin_S h1 h2).1]
      by_cases h3 : Ok (q.num * (r.den : Int) + r.num * (q.den : Int))
      · by_cases h4 : Ok ((q.den : Int) * (r.den : Int))
        · rw [if_pos ⟨⟨h1, h2, h3⟩, h4⟩, if_pos ⟨⟨h1, h2, h3⟩, h4⟩, add_RS, resB_ok h3, resB_ok h4]
          rw [resE_ok h3, resE_ok h4, kp_zero, kp_zero, resB_ok h3, resB_ok h4] at hE
          exact red_RS h3 h4 (den_nz q r) E hE
        · rw [resE_ok h3, resE_no h4, kp_zero, kp_11] at hE
          rw [if_neg (fun h => h4 h.2), if_neg (fun h => h4 h.2), hE]
          exact ⟨rfl, rT_11 _ _⟩
      · rw [resE_no h3, kp_11] at hE
        rw [if_neg (fun h => h3 h.1.2.2), if_neg (fun h => h3 h.1.2.2), hE]
        exact ⟨rfl, rT_11 _ _⟩
    · rw [resE_ok h1, resE_no h2, kp_zero, kp_11] at hE
      rw [if_neg (fun h => h2 h.1.2.1), if_neg (fun h => h2 h.1.2.1), hE]
      exact ⟨rfl, rT_11 _ _⟩
  · rw [resE_no h1, kp_11] at hE
    rw [if_neg (fun h => h1 h.1.1), if_neg (fun h => h1 h.1.1), hE]
    exact ⟨rfl, rT_11 _ _⟩

/-- SUB -/
theorem qSub_RS {q r : Rat} (hq : OkR q) (hr : OkR r) :
    qSubE (RS q) (RS r) = (if (Ok (q.num * (r.den : Int)) ∧ Ok (r.num * (q.den : Int)) ∧ Ok (q.num * (r.den : Int) - r.num * (q.den : Int))) ∧ Ok ((q.den : Int) * (r.den : Int)) then 0 else 11) ∧
    qSubB (RS q) (RS r) = (if (Ok (q.num * (r.den : Int)) ∧ Ok (r.num * (q.den : Int)) ∧ Ok (q.num * (r.den : Int) - r.num * (q.den : Int))) ∧ Ok ((q.den : Int) * (r.den : Int)) then RS (q - r) else ⟨#[]⟩) := by
  obtain ⟨a1, a2, a3⟩ := sp_RS hq
  obtain ⟨b1, b2, b3⟩ := sp_RS hr
  have hE : qSubE (RS q) (RS r) = kp (resE (q.num * (r.den : Int))) (kp (resE (r.num * (q.den : Int))) (kp (binE (· - ·) (resB (q.num * (r.den : Int))) (resB (r.num * (q.den : Int)))) (kp (resE ((q.den : Int) * (r.den : Int))) (redE (binB (· - ·) (resB (q.num * (r.den : Int))) (resB (r.num * (q.den : Int)))) (resB ((q.den : Int) * (r.den : Int))))))) := by
    unfold qSubE diE tS tSE tM tME
    rw [a1, a2, a3, b1, b2, b3, kp_zero, kp_zero, (bin_S hq.1 hr.2).1, (bin_S hq.1 hr.2).2, (bin_S hr.1 hq.2).1, (bin_S hr.1 hq.2).2, (bin_S hq.2 hr.2).1, (bin_S hq.2 hr.2).2]
  have hB : qSubB (RS q) (RS r) = rT (redN (binB (· - ·) (resB (q.num * (r.den : Int))) (resB (r.num * (q.den : Int)))) (resB ((q.den : Int) * (r.den : Int)))) (redD (binB (· - ·) (resB (q.num * (r.den : Int))) (resB (r.num * (q.den : Int)))) (resB ((q.den : Int) * (r.den : Int)))) (qSubE (RS q) (RS r)) := by
    unfold qSubB diN diD tS tM
    rw [a1, a2, b1, b2, (bin_S hq.1 hr.2).1, (bin_S hr.1 hq.2).1, (bin_S hq.2 hr.2).1]
  rw [hB]
  generalize qSubE (RS q) (RS r) = E at *
  by_cases h1 : Ok (q.num * (r.den : Int))
  · by_cases h2 : Ok (r.num * (q.den : Int))
    · rw [resE_ok h1, resE_ok h2, kp_zero, kp_zero, resB_ok h1, resB_ok h2, (bin_S h1 h2).1, (bin_S h1 h2).2] at hE
      rw [resB_ok h1, resB_ok h2, (bin_S h1 h2).1]
      by_cases h3 : Ok (q.num * (r.den : Int) - r.num * (q.den : Int))
      · by_cases h4 : Ok ((q.den : Int) * (r.den : Int))
        · rw [if_pos ⟨⟨h1, h2, h3⟩, h4⟩, if_pos ⟨⟨h1, h2, h3⟩, h4⟩, sub_RS, resB_ok h3, resB_ok h4]
          rw [resE_ok h3, resE_ok h4, kp_zero, kp_zero, resB_ok h3, resB_ok h4] at hE
          exact red_RS h3 h4 (den_nz q r) E hE
        · rw [resE_ok h3, resE_no h4, kp_zero, kp_11] at hE
          rw [if_neg (fun h => h4 h.2), if_neg (fun h => h4 h.2), hE]
          exact ⟨rfl, rT_11 _ _⟩
      · rw [resE_no h3, kp_11] at hE
        rw [if_neg (fun h => h3 h.1.2.2), if_neg (fun h => h3 h.1.2.2), hE]
        exact ⟨rfl, rT_11 _ _⟩
    · rw [resE_ok h1, resE_no h2, kp_zero, kp_11] at hE
      rw [if_neg (fun h => h2 h.1.2.1), if_neg (fun h => h2 h.1.2.1), hE]
      exact ⟨rfl, rT_11 _ _⟩
  · rw [resE_no h1, kp_11] at hE
    rw [if_neg (fun h => h1 h.1.1), if_neg (fun h => h1 h.1.1), hE]
    exact ⟨rfl, rT_11 _ _⟩
end Go.Proofs.YtiommpdbbpddpaaGreatDoor

/- Opposites, signs, orders, floors, quotients and made numbers of package ratio, as core's Rat. -/
namespace Go.Proofs.YtiommpdbbpddpaaGreatDoor
open Go.RowKit
open Go.Lib (nDigits itoa decDigits)

theorem sgn_ne {z : Int} (h : z ≠ 0) : sgn z ≠ 0 := by
  rcases Int.lt_or_gt_of_ne h with h | h
  · rw [sgn_neg h]; decide
  · rw [sgn_pos h]; decide
theorem OkR.neg {q : Rat} (h : OkR q) : OkR (-q) := ⟨h.1.neg, h.2⟩
/-- SIGN -/
theorem qSign_RS {q : Rat} (h : OkR q) : qSgE (RS q) = 0 ∧ qSgV (RS q) = sgn q.num := by
  obtain ⟨a1, a2, a3⟩ := sp_RS h
  have hE : qSgE (RS q) = 0 := by
    unfold qSgE
    rw [a3, a1, chk_S0 h.1]
    rfl
  refine ⟨hE, ?_⟩
  unfold qSgV
  rw [hE, if_pos rfl, a1, signI_S h.1]
/-- COMPARE -/
theorem qCompare_RS {q r : Rat} (hq : OkR q) (hr : OkR r) :
    qCmE (RS q) (RS r) = (if Ok (q.num * (r.den : Int)) ∧ Ok (r.num * (q.den : Int)) then 0 else 11) ∧
    qCmV (RS q) (RS r) = (if Ok (q.num * (r.den : Int)) ∧ Ok (r.num * (q.den : Int)) then cmpI (q.num * (r.den : Int)) (r.num * (q.den : Int)) else 0) := by
  obtain ⟨a1, a2, a3⟩ := sp_RS hq
  obtain ⟨b1, b2, b3⟩ := sp_RS hr
  have hE : qCmE (RS q) (RS r) = kp (resE (q.num * (r.den : Int))) (kp (resE (r.num * (q.den : Int))) (chkL [resB (q.num * (r.den : Int)), resB (r.num * (q.den : Int))])) := by
    unfold qCmE orE tM tME
    rw [a1, a2, a3, b1, b2, b3, kp_zero, kp_zero, (bin_S hq.1 hr.2).1, (bin_S hq.1 hr.2).2, (bin_S hr.1 hq.2).1, (bin_S hr.1 hq.2).2]
  have hV : qCmV (RS q) (RS r) = if qCmE (RS q) (RS r) = 0 then cmpV (resB (q.num * (r.den : Int))) (resB (r.num * (q.den : Int))) else 0 := by
    unfold qCmV orV tM
    rw [a1, a2, b1, b2, (bin_S hq.1 hr.2).1, (bin_S hr.1 hq.2).1]
  rw [hV]
  generalize qCmE (RS q) (RS r) = E at *
  by_cases h1 : Ok (q.num * (r.den : Int))
  · by_cases h2 : Ok (r.num * (q.den : Int))
    · have hc : Ok (q.num * (r.den : Int)) ∧ Ok (r.num * (q.den : Int)) := ⟨h1, h2⟩
      rw [if_pos hc, if_pos hc, resB_ok h1, resB_ok h2, cmpV_S h1 h2]
      rw [resE_ok h1, resE_ok h2, kp_zero, kp_zero, resB_ok h1, resB_ok h2, chkL_S2 h1 h2] at hE
      rw [hE]
      exact ⟨rfl, rfl⟩
    · have hc : ¬ (Ok (q.num * (r.den : Int)) ∧ Ok (r.num * (q.den : Int))) := fun h => h2 h.2
      rw [resE_ok h1, resE_no h2, kp_zero, kp_11] at hE
      rw [if_neg hc, if_neg hc, hE]
      exact ⟨rfl, rfl⟩
  · have hc : ¬ (Ok (q.num * (r.den : Int)) ∧ Ok (r.num * (q.den : Int))) := fun h => h1 h.1
    rw [resE_no h1, kp_11] at hE
    rw [if_neg hc, if_neg hc, hE]
    exact ⟨rfl, rfl⟩
/-- DIV -/
theorem div_RS {q r : Rat} : q / r = Rat.divInt (q.num * (r.den : Int)) ((q.den : Int) * r.num) := by
  rw [Rat.div_def, Rat.inv_def]
  conv => lhs; rw [← Rat.num_divInt_den q]
  exact Rat.divInt_mul_divInt _ _
theorem qDiv_RS {q r : Rat} (hq : OkR q) (hr : OkR r) :
    qDivE (RS q) (RS r) = (if r.num = 0 then 10 else if Ok (q.num * (r.den : Int)) ∧ Ok ((q.den : Int) * r.num) then 0 else 11) ∧
    qDivB (RS q) (RS r) = (if r.num = 0 then ⟨#[]⟩ else if Ok (q.num * (r.den : Int)) ∧ Ok ((q.den : Int) * r.num) then RS (q / r) else ⟨#[]⟩) := by
  obtain ⟨a1, a2, a3⟩ := sp_RS hq
  obtain ⟨b1, b2, b3⟩ := sp_RS hr
  have hE : qDivE (RS q) (RS r) = kp (if sgn r.num = 0 then 10 else 0) (kp (resE (q.num * (r.den : Int))) (kp (resE ((q.den : Int) * r.num)) (redE (resB (q.num * (r.den : Int))) (resB ((q.den : Int) * r.num))))) := by
    unfold qDivE dvE prE tM tME
    rw [a1, a2, a3, b1, b2, b3, kp_zero, kp_zero, chk_S0 hr.1, kp_zero, signI_S hr.1, (bin_S hq.1 hr.2).1, (bin_S hq.1 hr.2).2, (bin_S hq.2 hr.1).1, (bin_S hq.2 hr.1).2]
  have hB : qDivB (RS q) (RS r) = rT (redN (resB (q.num * (r.den : Int))) (resB ((q.den : Int) * r.num))) (redD (resB (q.num * (r.den : Int))) (resB ((q.den : Int) * r.num))) (qDivE (RS q) (RS r)) := by
    unfold qDivB prN prD tM
    rw [a1, a2, b1, b2, (bin_S hq.1 hr.2).1, (bin_S hq.2 hr.1).1]
  rw [hB]
  generalize qDivE (RS q) (RS r) = E at *
  by_cases h0 : r.num = 0
  · have hs : sgn r.num = 0 := by rw [h0]; rfl
    rw [if_pos hs, show ∀ e, kp 10 e = 10 from fun e => if_neg (by decide)] at hE
    rw [if_pos h0, if_pos h0, hE]
    exact ⟨rfl, if_neg (by decide)⟩
  · have hs : sgn r.num ≠ 0 := sgn_ne h0
    rw [if_neg hs, kp_zero] at hE
    rw [if_neg h0, if_neg h0]
    by_cases h1 : Ok (q.num * (r.den : Int))
    · by_cases h2 : Ok ((q.den : Int) * r.num)
      · rw [if_pos ⟨h1, h2⟩, if_pos ⟨h1, h2⟩, div_RS, resB_ok h1, resB_ok h2]
        rw [resE_ok h1, resE_ok h2, kp_zero, kp_zero, resB_ok h1, resB_ok h2] at hE
        exact red_RS h1 h2 (Int.mul_ne_zero (by have := q.den_pos; omega) h0) E hE
      · rw [resE_ok h1, resE_no h2, kp_zero, kp_11] at hE
        rw [if_neg (fun h => h2 h.2), if_neg (fun h => h2 h.2), hE]
        exact ⟨rfl, rT_11 _ _⟩
    · rw [resE_no h1, kp_11] at hE
      rw [if_neg (fun h => h1 h.1), if_neg (fun h => h1 h.1), hE]
      exact ⟨rfl, rT_11 _ _⟩
end Go.Proofs.YtiommpdbbpddpaaGreatDoor

/- Sums of two rational numbers: when they are short enough. -/
namespace Go.Proofs.YtiommpdbbpddpaaGreatDoor
open Go.RowKit
open Go.Lib (nDigits itoa decDigits)

/-- a sum whose terms are not too long -/
def SumOk (q r : Rat) : Prop := (Ok (q.num * (r.den : Int)) ∧ Ok (r.num * (q.den : Int)) ∧ Ok (q.num * (r.den : Int) + r.num * (q.den : Int))) ∧ Ok ((q.den : Int) * (r.den : Int))
end Go.Proofs.YtiommpdbbpddpaaGreatDoor
