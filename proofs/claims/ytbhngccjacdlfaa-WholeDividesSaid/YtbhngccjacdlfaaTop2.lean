/- Walk over whole.Mul, for all texts. -/
import Derived.Test.YtbhngccjacdlfaaTop
namespace Go.Proofs.Ytbhngccjacdlfaa
open Go.RowKit
open Go.Lib (nDigits itoa decDigits)

theorem NumZ.numF {w : World} {g : Nat} (h : NumZ w g 0) : NumF w g (fun _ => 0) 0 false := Num.zero_sign h
theorem mul_sign (x y : Int) : ((decide (x < 0) != decide (y < 0)) && decide (x.natAbs * y.natAbs ≠ 0)) = decide (x * y < 0) := by
  rw [Bool.eq_iff_iff]
  simp only [Bool.and_eq_true, bne_iff_ne, ne_eq, decide_eq_true_eq, decide_eq_decide, Nat.mul_eq_zero, Int.natAbs_eq_zero, not_or]
  constructor
  · rintro ⟨h1, h2, h3⟩
    rcases Int.lt_or_lt_of_ne h2 with hx | hx
    · exact Int.mul_neg_of_neg_of_pos hx (by omega)
    · exact Int.mul_neg_of_pos_of_neg hx (by omega)
  · intro h
    refine ⟨fun e => ?_, ?_, ?_⟩
    · by_cases hx : x < 0
      · have := e.1 hx
        have := Int.mul_pos_of_neg_of_neg hx this; omega
      · have hy : ¬ y < 0 := fun hy => hx (e.2 hy)
        have := Int.mul_nonneg (Int.not_lt.1 hx) (Int.not_lt.1 hy); omega
    · rintro rfl; simp at h
    · rintro rfl; simp at h
theorem mulZ (g a b : Nat) (x y : Int) (w : World) (hg : NumF w g (fun _ => 0) 0 false) (hA : NumZ w a x) (hB : NumZ w b y) (hga : g ≠ a) (hgb : g ≠ b) (hx : x.natAbs < B9 ^ 114) (hy : y.natAbs < B9 ^ 114) :
    Calls Try.prog 52 #[.pointer (some ⟨g, 0, none⟩), .pointer (some ⟨a, 0, none⟩), .pointer (some ⟨b, 0, none⟩)] w fun e w' => e = .returned (.tuple #[]) ∧ NumZ w' g (x * y) ∧ Kp [g] w w' := by
  refine (multiply_any g a b x.natAbs y.natAbs _ _ w hg hA hB hga hgb hx hy).mono ?_
  rintro e w' ⟨he, hn, hk⟩
  rw [mul_sign] at hn
  refine ⟨he, ?_, hk⟩
  show Num _ _ _ _
  rw [Int.natAbs_mul]; exact hn

set_option maxRecDepth 100000 in
set_option maxHeartbeats 1000000 in
theorem Mul_any (a b : ByteArray) (w : World) (ha : a.size ≤ 9223372036854775807) (hb : b.size ≤ 9223372036854775807) :
    Calls Try.prog 24 #[.string a, .string b] w fun e w' => e = .returned (.tuple #[.string (binB (· * ·) a b), .int .i64 (binE (· * ·) a b)]) ∧ Kp [] w w' := by
  have hc := check2 a b w ha hb
  by_cases h : chkL [a, b] = 0
  · obtain ⟨x, y, rfl, rfl, hx, hy⟩ := chkL2 h
    rw [binB_S h, binE_S h]
    rw [h] at hc
    have H := Lib.hid hc; clear hc h
    have k1 : Kp [] w (w.alloc (.cells #[.string (S x), .string (S y)] 22)) := (Kp.refl _ _).alloc _
    go_enter Try.func24, Try.ntmps24
    go_wp2_with fail
    refine H.out.mono ?_
    rintro e w' ⟨rfl, rfl⟩
    go_wp2_with fail
    have n1 := NumF.made (w.alloc (.cells #[.string (S x), .string (S y)] 22))
    have n2 := NumF.made ((w.alloc (.cells #[.string (S x), .string (S y)] 22)).alloc (.cells Try.zeroCells66 66))
    have n3 := NumF.made (((w.alloc (.cells #[.string (S x), .string (S y)] 22)).alloc (.cells Try.zeroCells66 66)).alloc (.cells Try.zeroCells66 66))
    simp only [World.size_alloc] at n1 n2 n3
    have k2 := ((k1.alloc (.cells Try.zeroCells66 66)).alloc (.cells Try.zeroCells66 66)).alloc (.cells Try.zeroCells66 66)
    refine (readZ (w.heap.size + 1) x _ ((n1.alloc _).alloc _) hx).mono ?_
    rintro e w1 ⟨rfl, hn1, hk1⟩
    have hn2 := (n2.alloc _).kp hk1 (by simp <;> omega)
    have hn3 := n3.kp hk1 (by simp <;> omega)
    go_wp2_with fail
    refine (readZ (w.heap.size + 1 + 1) y _ hn2 hy).mono ?_
    rintro e w2 ⟨rfl, hm2, hk2⟩
    have hm1 := hn1.kp hk2 (by simp <;> omega)
    have hm3 := hn3.kp hk2 (by simp <;> omega)
    go_wp2_with fail
    refine (mulZ (w.heap.size + 1 + 1 + 1) (w.heap.size + 1) (w.heap.size + 1 + 1) x y _ hm3 hm1 hm2 (by omega) (by omega) hx.lt hy.lt).mono ?_
    rintro e w3 ⟨rfl, hp, hk3⟩
    go_wp2_with fail
    refine (textZ _ _ _ hp).mono ?_
    rintro e w4 ⟨rfl, hk4⟩
    go_wp2
    go_ret2
    exact ⟨rfl, (((k2.step hk1 (by simp <;> omega)).step hk2 (by simp <;> omega)).step hk3 (by simp <;> omega)).trans hk4⟩
  · have hv : Hid (binB (· * ·) a b = ⟨#[]⟩) := if_neg h
    have hv2 : Hid (binE (· * ·) a b = chkL [a, b]) := if_neg h
    have hbb : (chkL [a, b] != 0) = true := bne_iff_ne.2 h
    have H := Lib.hid hc; clear hc h
    generalize chkL [a, b] = k at *
    go_enter Try.func24, Try.ntmps24
    go_wp2_with fail
    refine H.out.mono ?_
    rintro e w' ⟨rfl, rfl⟩
    go_wp2
    go_ret2
    exact ⟨by rw [hv.out, hv2.out]; rfl, (Kp.refl _ _).alloc _⟩
end Go.Proofs.Ytbhngccjacdlfaa
