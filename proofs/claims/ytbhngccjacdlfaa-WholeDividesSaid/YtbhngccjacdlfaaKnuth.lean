/- Division of numbers in words, as on paper: the guess of a word of the quotient, and what is left. No program is named here. -/
import Derived.Test.YtbhngccjacdlfaaKit
namespace Go.Proofs.Ytbhngccjacdlfaa

theorem wd_top_eq {X m : Nat} (h : X < B9 ^ (m + 1)) : wd X m = X / B9 ^ m := by
  unfold wd
  exact Nat.mod_eq_of_lt ((Nat.div_lt_iff_lt_mul (B9p_pos m)).2 (by rw [Nat.mul_comm, ← Nat.pow_succ]; exact h))

theorem guess_low {U V k : Nat} : U / V * (V / B9 ^ k) ≤ U / B9 ^ k := by
  rw [Nat.le_div_iff_mul_le (B9p_pos k), Nat.mul_assoc]
  exact Nat.le_trans (Nat.mul_le_mul_left _ (Nat.div_mul_le_self V _)) (Nat.div_mul_le_self U V)
/-- a guess that is too great for the leading words is too great -/
theorem guess_keep {U V k f s t u g rest : Nat} (hV2 : V / B9 ^ k = f * B9 + s) (hT : U / B9 ^ k = t * B9 + u) (hinv : g * f + rest = t) (hq : U / V ≤ g)
    (hgt : rest * B9 + u < g * s) : U / V ≤ g - 1 ∧ (g - 1) * f + (rest + f) = t ∧ 1 ≤ g := by
  have h1 : U / V * (V / B9 ^ k) ≤ U / B9 ^ k := guess_low
  have h2 : U / B9 ^ k < g * (V / B9 ^ k) := by
    rw [hT, hV2, ← hinv, Nat.add_mul, Nat.mul_add, Nat.mul_assoc]; omega
  have h3 : U / V < g := Nat.lt_of_mul_lt_mul_right (Nat.lt_of_le_of_lt h1 h2)
  clear h1 h2 hV2 hT
  generalize U / V = Q at *
  obtain ⟨g', rfl⟩ : ∃ g', g = g' + 1 := ⟨g - 1, by omega⟩
  refine ⟨by omega, ?_, by omega⟩
  rw [Nat.add_sub_cancel]
  rw [Nat.add_mul, Nat.one_mul] at hinv
  omega
/-- a guess that is not too great for the leading words is at most one too great -/
theorem guess_good {U V k f s t u g rest : Nat} (hV2 : V / B9 ^ k = f * B9 + s) (hT : U / B9 ^ k = t * B9 + u) (hinv : g * f + rest = t) (hg : g ≤ B9)
    (hV : B9 ^ (k + 1) ≤ V) (hle : ¬ rest * B9 + u < g * s) : g ≤ U / V + 1 := by
  have h2 : g * (V / B9 ^ k) ≤ U / B9 ^ k := by
    rw [hT, hV2, ← hinv, Nat.add_mul, Nat.mul_add, Nat.mul_assoc]; omega
  have h3 : g * (V / B9 ^ k) * B9 ^ k ≤ U := (Nat.le_div_iff_mul_le (B9p_pos k)).1 h2
  have hVp : 0 < V := Nat.lt_of_lt_of_le (B9p_pos _) hV
  have h4 : V = V / B9 ^ k * B9 ^ k + V % B9 ^ k := by have := Nat.div_add_mod V (B9 ^ k); rw [Nat.mul_comm] at this; exact this.symm
  have h5 : g * (V % B9 ^ k) ≤ V := by
    refine Nat.le_trans (Nat.mul_le_mul hg (Nat.le_of_lt (Nat.mod_lt V (B9p_pos k)))) ?_
    rw [Nat.mul_comm, ← Nat.pow_succ]; exact hV
  have h6 : g * V ≤ U + V := by
    have : g * V = g * (V / B9 ^ k) * B9 ^ k + g * (V % B9 ^ k) := by
      conv => lhs; rw [h4]
      rw [Nat.mul_add, Nat.mul_assoc]
    omega
  have h7 : g ≤ (U + V) / V := (Nat.le_div_iff_mul_le hVp).2 h6
  rwa [Nat.add_div_right U hVp] at h7
/-- the first guess is not too small -/
theorem guess_first {U V k f s t u : Nat} (hV2 : V / B9 ^ k = f * B9 + s) (hT : U / B9 ^ k = t * B9 + u) (hu : u < B9) (hf : 0 < f) : U / V ≤ t / f := by
  have h1 : U / V * (V / B9 ^ k) ≤ U / B9 ^ k := guess_low
  rw [hV2, hT, Nat.mul_add, ← Nat.mul_assoc] at h1
  rw [Nat.le_div_iff_mul_le hf]
  have h2 : U / V * f * B9 < (t + 1) * B9 := by rw [Nat.add_mul]; omega
  have := Nat.lt_of_mul_lt_mul_right h2
  omega
theorem quo_lt {U V : Nat} (h : U < V * B9) : U / V < B9 := by
  refine (Nat.div_lt_iff_lt_mul ?_).2 (by rwa [Nat.mul_comm])
  rcases Nat.eq_zero_or_pos V with h0 | h0
  · subst h0; simp at h
  · exact h0
/-- the leading words of U and V -/
theorem lead_V {V k : Nat} (h : V < B9 ^ (k + 2)) : V / B9 ^ k = wd V (k + 1) * B9 + wd V k := by
  rw [div_step V k, wd_top_eq h]
theorem lead_U {U k : Nat} (h : U < B9 ^ (k + 3)) : U / B9 ^ k = (wd U (k + 2) * B9 + wd U (k + 1)) * B9 + wd U k := by
  rw [div_step U k, div_step U (k + 1), wd_top_eq h]
theorem lead_lt {U V k : Nat} (h : U < V * B9) (hV : V < B9 ^ (k + 2)) : wd U (k + 2) * B9 + wd U (k + 1) < (wd V (k + 1) + 1) * B9 := by
  have hU : U < B9 ^ (k + 3) := Nat.lt_trans h (by rw [Nat.pow_succ B9 (k + 2)]; exact Nat.mul_lt_mul_of_pos_right hV B9_pos)
  have h1 : U / B9 ^ (k + 1) = wd U (k + 2) * B9 + wd U (k + 1) := by rw [div_step U (k + 1), wd_top_eq hU]
  rw [← h1, wd_top_eq hV]
  refine (Nat.div_lt_iff_lt_mul (B9p_pos (k + 1))).2 ?_
  have h4 := Nat.div_add_mod V (B9 ^ (k + 1))
  have h5 := Nat.mod_lt V (B9p_pos (k + 1))
  have h6 : V < (V / B9 ^ (k + 1) + 1) * B9 ^ (k + 1) := by
    rw [Nat.add_mul, Nat.mul_comm (V / _)]; omega
  refine Nat.lt_of_lt_of_le h ?_
  rw [Nat.mul_assoc, Nat.mul_comm B9, ← Nat.mul_assoc]
  exact Nat.mul_le_mul_right _ (Nat.le_of_lt h6)

/-- one word of taking g times V -/
theorem take_step {U V g i X c w' c' : Nat} (h : U % B9 ^ i + c * B9 ^ i = X + g * (V % B9 ^ i)) (hw : wd U i + c' * B9 = w' + (c + g * wd V i)) :
    U % B9 ^ (i + 1) + c' * B9 ^ (i + 1) = (X + B9 ^ i * w') + g * (V % B9 ^ (i + 1)) := by
  rw [mod_succ, mod_succ, Nat.pow_succ]
  have e := congrArg (B9 ^ i * ·) hw
  simp only [Nat.mul_add] at e ⊢
  rw [Nat.mul_left_comm c', Nat.mul_left_comm g (B9 ^ i)]
  rw [Nat.mul_comm c (B9 ^ i)] at h
  omega
theorem take_bound {U V g i X c : Nat} (h : U % B9 ^ i + c * B9 ^ i = X + g * (V % B9 ^ i)) (hX : X < B9 ^ i) : c ≤ g := by
  have h1 : g * (V % B9 ^ i) ≤ g * B9 ^ i := Nat.mul_le_mul_left _ (Nat.le_of_lt (Nat.mod_lt _ (B9p_pos i)))
  have h2 : c * B9 ^ i < (g + 1) * B9 ^ i := by
    rw [Nat.add_mul]
    generalize U % B9 ^ i = z at *
    omega
  have := Nat.lt_of_mul_lt_mul_right h2
  omega
theorem take_whole {U m : Nat} (h : U < B9 ^ (m + 1)) : U % B9 ^ m + B9 ^ m * wd U m = U := by
  rw [← mod_succ, Nat.mod_eq_of_lt h]
/-- taken once too often -/
theorem take_short {U V g m X c : Nat} (hU : U < B9 ^ (m + 1)) (hV : V < B9 ^ m) (hV0 : 0 < V) (hX : X < B9 ^ m) (h : U % B9 ^ m + c * B9 ^ m = X + g * (V % B9 ^ m))
    (hg : g ≤ U / V + 1) (hs : wd U m < c) : g = U / V + 1 ∧ X + V = U % V + B9 ^ m := by
  rw [Nat.mod_eq_of_lt hV] at h
  have hw := take_whole hU
  have hqr := Nat.div_add_mod U V
  have hr := Nat.mod_lt U hV0
  obtain ⟨d, rfl⟩ : ∃ d, c = wd U m + 1 + d := ⟨c - wd U m - 1, by omega⟩
  rw [Nat.add_mul, Nat.add_mul, Nat.one_mul, Nat.mul_comm (wd U m)] at h
  have h1 : U + B9 ^ m + d * B9 ^ m = X + g * V := by
    generalize U % B9 ^ m = z at *
    omega
  have h2 : U < g * V := by omega
  have h3 : U / V < g := (Nat.div_lt_iff_lt_mul hV0).2 h2
  clear h h2 hw
  generalize U / V = Q at *
  generalize U % V = r at *
  have hge : g = Q + 1 := by omega
  refine ⟨hge, ?_⟩
  rw [hge, Nat.add_mul, Nat.one_mul, Nat.mul_comm Q V] at h1
  have hd : d = 0 := by
    rcases Nat.eq_zero_or_pos d with h0 | h0
    · exact h0
    · have := Nat.mul_le_mul_right (B9 ^ m) h0; omega
  subst hd
  omega
/-- taken as often as it goes -/
theorem take_right {U V g m X c : Nat} (hU : U < B9 ^ (m + 1)) (hV : V < B9 ^ m) (hV0 : 0 < V) (h : U % B9 ^ m + c * B9 ^ m = X + g * (V % B9 ^ m))
    (hq : U / V ≤ g) (hs : ¬ wd U m < c) : g = U / V ∧ X = U % V := by
  rw [Nat.mod_eq_of_lt hV] at h
  have hw := take_whole hU
  have hqr := Nat.div_add_mod U V
  have hr := Nat.mod_lt U hV0
  obtain ⟨d, hd⟩ : ∃ d, wd U m = c + d := ⟨wd U m - c, by omega⟩
  rw [hd, Nat.mul_add, Nat.mul_comm _ c, Nat.mul_comm _ d] at hw
  have h1 : X + g * V + d * B9 ^ m = U := by
    generalize U % B9 ^ m = z at *
    omega
  have h3 : g ≤ U / V := (Nat.le_div_iff_mul_le hV0).2 (by omega)
  clear h hw
  generalize U / V = Q at *
  generalize U % V = r at *
  have hge : g = Q := by omega
  refine ⟨hge, ?_⟩
  rw [hge, Nat.mul_comm Q V] at h1
  have hd0 : d = 0 := by
    rcases Nat.eq_zero_or_pos d with h0 | h0
    · exact h0
    · have := Nat.mul_le_mul_right (B9 ^ m) h0; omega
  subst hd0
  omega
/-- a part of the words of R is replaced -/
theorem part_lt {R at_ i X : Nat} (hX : X < B9 ^ i) : R % B9 ^ at_ + B9 ^ at_ * X < B9 ^ (at_ + i) := by
  rw [Nat.pow_add]
  have h1 := Nat.mod_lt R (B9p_pos at_)
  have h2 := Nat.mul_le_mul_left (B9 ^ at_) (show X + 1 ≤ B9 ^ i from hX)
  rw [Nat.mul_add] at h2; omega
theorem part_word {R at_ i X : Nat} (hX : X < B9 ^ i) {w' : Nat} (hw : w' < B9) : wd (R % B9 ^ at_ + B9 ^ at_ * (X + B9 ^ i * w')) (at_ + i) = w' := by
  rw [Nat.mul_add, ← Nat.mul_assoc, ← Nat.pow_add, ← Nat.add_assoc, wd_eq, div_low, Nat.div_eq_of_lt (part_lt hX), Nat.zero_add, Nat.mod_eq_of_lt hw]
theorem part_low {R at_ i X : Nat} (w' n : Nat) (h : n < at_ + i) : wd (R % B9 ^ at_ + B9 ^ at_ * (X + B9 ^ i * w')) n = wd (R % B9 ^ at_ + B9 ^ at_ * X) n := by
  rw [Nat.mul_add, ← Nat.mul_assoc, ← Nat.pow_add, ← Nat.add_assoc, wd_low _ _ _ _ h]
/-- what is left of N at word at -/
theorem rest_div (N V at_ : Nat) : N % (B9 ^ (at_ + 1) * V) / B9 ^ at_ / V = wd (N / V) at_ := by
  rw [Nat.pow_succ, Nat.mul_assoc, Nat.mod_mul_right_div_self, Nat.mul_comm B9 V, Nat.mod_mul_right_div_self, wd_eq, Nat.div_div_eq_div_mul, Nat.div_div_eq_div_mul, Nat.mul_comm]
theorem rest_next (N V at_ : Nat) : N % (B9 ^ (at_ + 1) * V) % B9 ^ at_ + B9 ^ at_ * (N % (B9 ^ (at_ + 1) * V) / B9 ^ at_ % V) = N % (B9 ^ at_ * V) := by
  rw [← Nat.mod_mul]
  exact Nat.mod_mod_of_dvd N ⟨B9, by rw [Nat.pow_succ, Nat.mul_assoc, Nat.mul_assoc, Nat.mul_comm B9]⟩
theorem rest_lt (N V at_ : Nat) (hV : 0 < V) : N % (B9 ^ (at_ + 1) * V) / B9 ^ at_ < V * B9 := by
  refine (Nat.div_lt_iff_lt_mul (B9p_pos at_)).2 ?_
  have := Nat.mod_lt N (show 0 < B9 ^ (at_ + 1) * V from Nat.mul_pos (B9p_pos _) hV)
  rw [Nat.pow_succ] at this ⊢
  rwa [Nat.mul_comm V B9, Nat.mul_comm (B9 * V), ← Nat.mul_assoc]
end Go.Proofs.Ytbhngccjacdlfaa
