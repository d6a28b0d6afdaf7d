/- Texts Ratio3, Ratio4, Ratio5a: each says in its own first comment what it proves. -/
import Derived.Test.YtiommpdbbpddpaaGreatM30
/- The operations of package ratio on texts of rational numbers, as those of core's Rat. -/
namespace Go.Proofs.YtiommpdbbpddpaaGreat
open Go.RowKit
open Go.Lib (nDigits itoa decDigits)

theorem bin_S {f : Int → Int → Int} {x y : Int} (hx : Ok x) (hy : Ok y) : binB f (S x) (S y) = resB (f x y) ∧ binE f (S x) (S y) = resE (f x y) := by
  unfold binB binE
  rw [if_pos (chkL_S2 hx hy), if_pos (chkL_S2 hx hy), valS_S, valS_S]
  exact ⟨rfl, rfl⟩
theorem kp_11 (e : Int) : kp 11 e = 11 := if_neg (by decide)
theorem resE_ok {z : Int} (h : Ok z) : resE z = 0 := if_pos h
theorem resE_no {z : Int} (h : ¬ Ok z) : resE z = 11 := if_neg h
theorem resB_ok {z : Int} (h : Ok z) : resB z = S z := if_pos h
theorem rT_RS (q : Rat) : rT (S q.num) (S (q.den : Int)) 0 = RS q := by
  unfold rT RS
  rw [if_pos rfl, isOne_S]
  by_cases h : q.den = 1
  · rw [h, if_pos rfl]; rfl
  · rw [if_neg h, decide_eq_false (by omega)]; rfl
theorem rT_11 (N D : ByteArray) : rT N D 11 = ⟨#[]⟩ := if_neg (by decide)
theorem OkR.size {q : Rat} (h : OkR q) : (RS q).size ≤ 4000000000 := by
  have h1 := h.1.size
  have h2 := h.2.size
  unfold RS
  split
  · omega
  · rw [ByteArray.size_append, ByteArray.size_append]
    have : (⟨#[47]⟩ : ByteArray).size = 1 := rfl
    omega
theorem OkR.size9 {q : Rat} (h : OkR q) : (RS q).size ≤ 9223372036854775807 := Nat.le_trans h.size (by decide)
theorem red_RS {n d : Int} (hn : Ok n) (hd : Ok d) (h0 : d ≠ 0) (E : Int) (hE : E = redE (S n) (S d)) : E = 0 ∧ rT (redN (S n) (S d)) (redD (S n) (S d)) E = RS (Rat.divInt n d) := by
  obtain ⟨h1, h2, h3⟩ := red_S hn hd h0
  subst hE
  rw [h1, h2, h3]
  exact ⟨rfl, rT_RS _⟩
theorem den_nz (q r : Rat) : (q.den : Int) * (r.den : Int) ≠ 0 := Int.mul_ne_zero (by have := q.den_pos; omega) (by have := r.den_pos; omega)
theorem add_RS (q r : Rat) : q + r = Rat.divInt (q.num * (r.den : Int) + r.num * (q.den : Int)) ((q.den : Int) * (r.den : Int)) := by
  conv => lhs; rw [← Rat.num_divInt_den q, ← Rat.num_divInt_den r]
  exact Rat.divInt_add_divInt _ _ (by have := q.den_pos; omega) (by have := r.den_pos; omega)
theorem sub_RS (q r : Rat) : q - r = Rat.divInt (q.num * (r.den : Int) - r.num * (q.den : Int)) ((q.den : Int) * (r.den : Int)) := by
  conv => lhs; rw [← Rat.num_divInt_den q, ← Rat.num_divInt_den r]
  exact Rat.divInt_sub_divInt _ _ (by have := q.den_pos; omega) (by have := r.den_pos; omega)

/-- ADD -/
theorem qAdd_RS {q r : Rat} (hq : OkR q) (hr : OkR r) :
    qAddE (RS q) (RS r) = (if (Ok (q.num * (r.den : Int)) ∧ Ok (r.num * (q.den : Int)) ∧ Ok (q.num * (r.den : Int) + r.num * (q.den : Int))) ∧ Ok ((q.den : Int) * (r.den : Int)) then 0 else 11) ∧
    qAddB (RS q) (RS r) = (if (Ok (q.num * (r.den : Int)) ∧ Ok (r.num * (q.den : Int)) ∧ Ok (q.num * (r.den : Int) + r.num * (q.den : Int))) ∧ Ok ((q.den : Int) * (r.den : Int)) then RS (q + r) else ⟨#[]⟩) := by
  obtain ⟨a1, a2, a3⟩ := sp_RS hq
  obtain ⟨b1, b2, b3⟩ := sp_RS hr
  have hE : qAddE (RS q) (RS r) = kp (resE (q.num * (r.den : Int))) (kp (resE (r.num * (q.den : Int))) (kp (binE (· + ·) (resB (q.num * (r.den : Int))) (resB (r.num * (q.den : Int)))) (kp (resE ((q.den : Int) * (r.den : Int))) (redE (binB (· + ·) (resB (q.num * (r.den : Int))) (resB (r.num * (q.den : Int)))) (resB ((q.den : Int) * (r.den : Int))))))) := by
    unfold qAddE suE tA tAE tM tME
    rw [a1, a2, a3, b1, b2, b3, kp_zero, kp_zero, (bin_S hq.1 hr.2).1, (bin_S hq.1 hr.2).2, (bin_S hr.1 hq.2).1, (bin_S hr.1 hq.2).2, (bin_S hq.2 hr.2).1, (bin_S hq.2 hr.2).2]
  have hB : qAddB (RS q) (RS r) = rT (redN (binB (· + ·) (resB (q.num * (r.den : Int))) (resB (r.num * (q.den : Int)))) (resB ((q.den : Int) * (r.den : Int)))) (redD (binB (· + ·) (resB (q.num * (r.den : Int))) (resB (r.num * (q.den : Int)))) (resB ((q.den : Int) * (r.den : Int)))) (qAddE (RS q) (RS r)) := by
    unfold qAddB suN suD tA tM
    rw [a1, a2, b1, b2, (bin_S hq.1 hr.2).1, (bin_S hr.1 hq.2).1, (bin_S hq.2 hr.2).1]
  rw [hB]
  generalize qAddE (RS q) (RS r) = E at *
  by_cases h1 : Ok (q.num * (r.den : Int))
  · by_cases h2 : Ok (r.num * (q.den : Int))
    · rw [resE_ok h1, resE_ok h2, kp_zero, kp_zero, resB_ok h1, resB_ok h2, (bin_S h1 h2).1, (bin_S h1 h2).2] at hE
      rw [resB_ok h1, resB_ok h2, (bin_S h1 h2).1]
      by_cases h3 : Ok (q.num * (r.den : Int) + r.num * (q.den : Int))
      · by_cases h4 : Ok ((q.den : Int) * (r.den : Int))
        · rw [if_pos ⟨⟨h1, h2, h3⟩, h4⟩, if_pos ⟨⟨h1, h2, h3⟩, h4⟩, add_RS, resB_ok h3, resB_ok h4]
          rw [resE_ok h3, resE_ok h4, kp_zero, kp_zero, resB_ok h3, resB_ok h4] at hE
          exact red_RS h3 h4 (den_nz q r) E hE
        · rw [resE_ok h3, resE_no h4, kp_zero, kp_11] at hE
          rw [if_neg (fun h => h4 h.2), if_neg (fun h => h4 h.2), hE]
          exact ⟨rfl, rT_11 _ _⟩
      · rw [resE_no h3, kp_11] at hE
        rw [if_neg (fun h => h3 h.1.2.2), if_neg (fun h => h3 h.1.2.2), hE]
        exact ⟨rfl, rT_11 _ _⟩
    · rw [resE_ok h1, resE_no h2, kp_zero, kp_11] at hE
      rw [if_neg (fun h => h2 h.1.2.1), if_neg (fun h => h2 h.1.2.1), hE]
      exact ⟨rfl, rT_11 _ _⟩
  · rw [resE_no h1, kp_11] at hE
    rw [if_neg (fun h => h1 h.1.1), if_neg (fun h => h1 h.1.1), hE]
    exact ⟨rfl, rT_11 _ _⟩

/-- SUB -/
theorem qSub_RS {q r : Rat} (hq : OkR q) (hr : OkR r) :
    qSubE (RS q) (RS r) = (if (Ok (q.num * (r.den : Int)) ∧ Ok (r.num * (q.den : Int)) ∧ Ok (q.num * (r.den : Int) - r.num * (q.den : Int))) ∧ Ok ((q.den : Int) * (r.den : Int)) then 0 else 11) ∧
    qSubB (RS q) (RS r) = (if (Ok (q.num * (r.den : Int)) ∧ Ok (r.num * (q.den : Int)) ∧ Ok (q.num * (r.den : Int) - r.num * (q.den : Int))) ∧ Ok ((q.den : Int) * (r.den : Int)) then RS (q - r) else ⟨#[]⟩) := by
  obtain ⟨a1, a2, a3⟩ := sp_RS hq
  obtain ⟨b1, b2, b3⟩ := sp_RS hr
  have hE : qSubE (RS q) (RS r) = kp (resE (q.num * (r.den : Int))) (kp (resE (r.num * (q.den : Int))) (kp (binE (· - ·) (resB (q.num * (r.den : Int))) (resB (r.num * (q.den : Int)))) (kp (resE ((q.den : Int) * (r.den : Int))) (redE (binB (· - ·) (resB (q.num * (r.den : Int))) (resB (r.num * (q.den : Int)))) (resB ((q.den : Int) * (r.den : Int))))))) := by
    unfold qSubE diE tS tSE tM tME
    rw [a1, a2, a3, b1, b2, b3, kp_zero, kp_zero, (bin_S hq.1 hr.2).1, (bin_S hq.1 hr.2).2, (bin_S hr.1 hq.2).1, (bin_S hr.1 hq.2).2, (bin_S hq.2 hr.2).1, (bin_S hq.2 hr.2).2]
  have hB : qSubB (RS q) (RS r) = rT (redN (binB (· - ·) (resB (q.num * (r.den : Int))) (resB (r.num * (q.den : Int)))) (resB ((q.den : Int) * (r.den : Int)))) (redD (binB (· - ·) (resB (q.num * (r.den : Int))) (resB (r.num * (q.den : Int)))) (resB ((q.den : Int) * (r.den : Int)))) (qSubE (RS q) (RS r)) := by
    unfold qSubB diN diD tS tM
    rw [a1, a2, b1, b2, (bin_S hq.1 hr.2).1, (bin_S hr.1 hq.2).1, (bin_S hq.2 hr.2).1]
  rw [hB]
  generalize qSubE (RS q) (RS r) = E at *
  by_cases h1 : Ok (q.num * (r.den : Int))
  · by_cases h2 : Ok (r.num * (q.den : Int))
    · rw [resE_ok h1, resE_ok h2, kp_zero, kp_zero, resB_ok h1, resB_ok h2, (bin_S h1 h2).1, (bin_S h1 h2).2] at hE
      rw [resB_ok h1, resB_ok h2, (bin_S h1 h2).1]
      by_cases h3 : Ok (q.num * (r.den : Int) - r.num * (q.den : Int))
      · by_cases h4 : Ok ((q.den : Int) * (r.den : Int))
        · rw [if_pos ⟨⟨h1, h2, h3⟩, h4⟩, if_pos ⟨⟨h1, h2, h3⟩, h4⟩, sub_RS, resB_ok h3, resB_ok h4]
          rw [resE_ok h3, resE_ok h4, kp_zero, kp_zero, resB_ok h3, resB_ok h4] at hE
          exact red_RS h3 h4 (den_nz q r) E hE
        · rw [resE_ok h3, resE_no h4, kp_zero, kp_11] at hE
          rw [if_neg (fun h => h4 h.2), if_neg (fun h => h4 h.2), hE]
          exact ⟨rfl, rT_11 _ _⟩
      · rw [resE_no h3, kp_11] at hE
        rw [if_neg (fun h => h3 h.1.2.2), if_neg (fun h => h3 h.1.2.2), hE]
        exact ⟨rfl, rT_11 _ _⟩
    · rw [resE_ok h1, resE_no h2, kp_zero, kp_11] at hE
      rw [if_neg (fun h => h2 h.1.2.1), if_neg (fun h => h2 h.1.2.1), hE]
      exact ⟨rfl, rT_11 _ _⟩
  · rw [resE_no h1, kp_11] at hE
    rw [if_neg (fun h => h1 h.1.1), if_neg (fun h => h1 h.1.1), hE]
    exact ⟨rfl, rT_11 _ _⟩
end Go.Proofs.YtiommpdbbpddpaaGreat

/- Opposites, signs, orders, floors, quotients and made numbers of package ratio, as core's Rat. -/
namespace Go.Proofs.YtiommpdbbpddpaaGreat
open Go.RowKit
open Go.Lib (nDigits itoa decDigits)

theorem OkR.neg {q : Rat} (h : OkR q) : OkR (-q) := ⟨h.1.neg, h.2⟩
/-- COMPARE -/
theorem qCompare_RS {q r : Rat} (hq : OkR q) (hr : OkR r) :
    qCmE (RS q) (RS r) = (if Ok (q.num * (r.den : Int)) ∧ Ok (r.num * (q.den : Int)) then 0 else 11) ∧
    qCmV (RS q) (RS r) = (if Ok (q.num * (r.den : Int)) ∧ Ok (r.num * (q.den : Int)) then cmpI (q.num * (r.den : Int)) (r.num * (q.den : Int)) else 0) := by
  obtain ⟨a1, a2, a3⟩ := sp_RS hq
  obtain ⟨b1, b2, b3⟩ := sp_RS hr
  have hE : qCmE (RS q) (RS r) = kp (resE (q.num * (r.den : Int))) (kp (resE (r.num * (q.den : Int))) (chkL [resB (q.num * (r.den : Int)), resB (r.num * (q.den : Int))])) := by
    unfold qCmE orE tM tME
    rw [a1, a2, a3, b1, b2, b3, kp_zero, kp_zero, (bin_S hq.1 hr.2).1, (bin_S hq.1 hr.2).2, (bin_S hr.1 hq.2).1, (bin_S hr.1 hq.2).2]
  have hV : qCmV (RS q) (RS r) = if qCmE (RS q) (RS r) = 0 then cmpV (resB (q.num * (r.den : Int))) (resB (r.num * (q.den : Int))) else 0 := by
    unfold qCmV orV tM
    rw [a1, a2, b1, b2, (bin_S hq.1 hr.2).1, (bin_S hr.1 hq.2).1]
  rw [hV]
  generalize qCmE (RS q) (RS r) = E at *
  by_cases h1 : Ok (q.num * (r.den : Int))
  · by_cases h2 : Ok (r.num * (q.den : Int))
    · have hc : Ok (q.num * (r.den : Int)) ∧ Ok (r.num * (q.den : Int)) := ⟨h1, h2⟩
      rw [if_pos hc, if_pos hc, resB_ok h1, resB_ok h2, cmpV_S h1 h2]
      rw [resE_ok h1, resE_ok h2, kp_zero, kp_zero, resB_ok h1, resB_ok h2, chkL_S2 h1 h2] at hE
      rw [hE]
      exact ⟨rfl, rfl⟩
    · have hc : ¬ (Ok (q.num * (r.den : Int)) ∧ Ok (r.num * (q.den : Int))) := fun h => h2 h.2
      rw [resE_ok h1, resE_no h2, kp_zero, kp_11] at hE
      rw [if_neg hc, if_neg hc, hE]
      exact ⟨rfl, rfl⟩
  · have hc : ¬ (Ok (q.num * (r.den : Int)) ∧ Ok (r.num * (q.den : Int))) := fun h => h1 h.1
    rw [resE_no h1, kp_11] at hE
    rw [if_neg hc, if_neg hc, hE]
    exact ⟨rfl, rfl⟩
end Go.Proofs.YtiommpdbbpddpaaGreat

/- Sums of two rational numbers: when they are short enough. -/
namespace Go.Proofs.YtiommpdbbpddpaaGreat
open Go.RowKit
open Go.Lib (nDigits itoa decDigits)

/-- a sum whose terms are not too long -/
def SumOk (q r : Rat) : Prop := (Ok (q.num * (r.den : Int)) ∧ Ok (r.num * (q.den : Int)) ∧ Ok (q.num * (r.den : Int) + r.num * (q.den : Int))) ∧ Ok ((q.den : Int) * (r.den : Int))
end Go.Proofs.YtiommpdbbpddpaaGreat
