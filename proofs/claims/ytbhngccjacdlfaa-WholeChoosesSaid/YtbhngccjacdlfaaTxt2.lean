/- Decimal texts and words of nine digits. No program is named here. -/
import Derived.Test.YtbhngccjacdlfaaTxt
import Derived.Test.YtbhngccjacdlfaaWords2
namespace Go.Proofs.Ytbhngccjacdlfaa
open Go.Lib (itoa decDigits nDigits dg)

theorem valN_append (l : List UInt8) : ∀ m : List UInt8, valN (l ++ m) = valN l * 10 ^ m.length + valN m := by
  suffices h : ∀ n (m : List UInt8), m.length = n → valN (l ++ m) = valN l * 10 ^ m.length + valN m from fun m => h _ m rfl
  intro n
  induction n with
  | zero => intro m h; rw [List.eq_nil_of_length_eq_zero h]; simp [valN_nil]
  | succ n ih =>
    intro m h
    have hn : m ≠ [] := by rintro rfl; simp at h
    obtain ⟨e, c, rfl⟩ : ∃ e c, m = e ++ [c] := ⟨m.dropLast, m.getLast hn, (List.dropLast_concat_getLast hn).symm⟩
    have he : e.length = n := by simpa using h
    rw [← List.append_assoc, valN_snoc, ih e he, valN_snoc, List.length_append, List.length_singleton, Nat.pow_succ]
    rw [Nat.mul_add, ← Nat.add_assoc, ← Nat.mul_assoc, ← Nat.mul_assoc, Nat.mul_comm 10 (valN l), Nat.mul_assoc (valN l), Nat.mul_assoc (valN l), Nat.mul_comm 10 (10 ^ e.length)]
theorem valN_lt : ∀ (l : List UInt8), l.all isDig = true → valN l < 10 ^ l.length := by
  suffices h : ∀ n (m : List UInt8), m.length = n → m.all isDig = true → valN m < 10 ^ m.length from fun m => h _ m rfl
  intro n
  induction n with
  | zero => intro m h _; rw [List.eq_nil_of_length_eq_zero h]; decide
  | succ n ih =>
    intro m h ha
    have hn : m ≠ [] := by rintro rfl; simp at h
    obtain ⟨e, c, rfl⟩ : ∃ e c, m = e ++ [c] := ⟨m.dropLast, m.getLast hn, (List.dropLast_concat_getLast hn).symm⟩
    have he : e.length = n := by simpa using h
    rw [List.all_append] at ha
    simp only [Bool.and_eq_true, List.all_cons, List.all_nil, Bool.and_true] at ha
    have hc := (isDig_iff c).1 ha.2
    have := ih e he ha.1
    rw [valN_snoc, List.length_append, List.length_singleton, Nat.pow_succ]
    omega
theorem all_take {l : List UInt8} (h : l.all isDig = true) (n : Nat) : (l.take n).all isDig = true := by
  rw [List.all_eq_true] at h ⊢; exact fun x hx => h x (List.mem_of_mem_take hx)
theorem all_drop {l : List UInt8} (h : l.all isDig = true) (n : Nat) : (l.drop n).all isDig = true := by
  rw [List.all_eq_true] at h ⊢; exact fun x hx => h x (List.mem_of_mem_drop hx)
theorem valN_take {l : List UInt8} (h : l.all isDig = true) (e : Nat) (he : e ≤ l.length) : valN (l.take e) = valN l / 10 ^ (l.length - e) := by
  have h1 := valN_append (l.take e) (l.drop e)
  rw [List.take_append_drop, List.length_drop] at h1
  have h2 := valN_lt _ (all_drop h e)
  rw [List.length_drop] at h2
  rw [h1, Nat.mul_comm, Nat.mul_add_div (Nat.pow_pos (by decide)), Nat.div_eq_of_lt h2]; omega
theorem B9_ten (k : Nat) : B9 ^ k = 10 ^ (9 * k) := by rw [show B9 = 10 ^ 9 from rfl, ← Nat.pow_mul]
/-- the piece of nine digits that read takes for word k -/
theorem piece {l : List UInt8} (h : l.all isDig = true) (k : Nat) (hk : 9 * k < l.length) :
    valN ((l.take (l.length - 9 * k)).drop (l.length - 9 * k - 9)) = wd (valN l) k := by
  have h1 := valN_take h (l.length - 9 * k) (by omega)
  rw [show l.length - (l.length - 9 * k) = 9 * k by omega, ← B9_ten] at h1
  rw [wd_eq, ← h1]
  have h2 := valN_append ((l.take (l.length - 9 * k)).take (l.length - 9 * k - 9)) ((l.take (l.length - 9 * k)).drop (l.length - 9 * k - 9))
  rw [List.take_append_drop] at h2
  have h3 := valN_lt _ (all_drop (all_take h (l.length - 9 * k)) (l.length - 9 * k - 9))
  rw [List.length_drop, List.length_take, Nat.min_eq_left (by omega)] at h2 h3
  generalize valN ((l.take (l.length - 9 * k)).drop (l.length - 9 * k - 9)) = x at *
  by_cases h9 : 9 ≤ l.length - 9 * k
  · rw [show l.length - 9 * k - (l.length - 9 * k - 9) = 9 by omega] at h2 h3
    rw [h2, show (10 : Nat) ^ 9 = B9 from rfl, Nat.mul_comm, Nat.mul_add_mod]; exact (Nat.mod_eq_of_lt h3).symm
  · rw [show l.length - 9 * k - 9 = 0 by omega] at h2 h3
    simp only [List.take_zero, valN_nil, Nat.zero_mul, Nat.zero_add, Nat.sub_zero] at h2 h3
    rw [h2, Nat.mod_eq_of_lt]
    exact Nat.lt_of_lt_of_le h3 (by rw [show B9 = 10 ^ 9 from rfl]; exact Nat.pow_le_pow_right (by decide) (by omega))
theorem dec_val_lt {l : List UInt8} (h : l.all isDig = true) (c : Nat) (hc : l.length ≤ 9 * c) : valN l < B9 ^ c := by
  rw [B9_ten]; exact Nat.lt_of_lt_of_le (valN_lt l h) (Nat.pow_le_pow_right (by decide) hc)

/-- lengths -/
theorem nd_le {u k : Nat} (hk : 1 ≤ k) (h : u < 10 ^ k) : nDigits u ≤ k := by
  rcases Nat.lt_or_ge (nDigits u) (k + 1) with h1 | h1
  · omega
  · by_cases hu : u < 10
    · rw [Go.Lib.nDigits_small hu] at h1; omega
    · have := Go.Lib.nDigits_pos u
      have h2 : 10 ^ (nDigits u - 1) ≤ u := by
        rcases Nat.lt_or_ge u (10 ^ (nDigits u - 1)) with h3 | h3
        · exfalso
          have h4 : ∀ (n v : Nat), v < 10 ^ n → 1 ≤ n → nDigits v ≤ n := by
            intro n
            induction n with
            | zero => intro v _ h; omega
            | succ n ih =>
              intro v hv _
              by_cases hs : v < 10
              · rw [Go.Lib.nDigits_small hs]; omega
              · rw [Go.Lib.nDigits_big hs]
                have hn : 1 ≤ n := by
                  rcases Nat.eq_zero_or_pos n with rfl | h
                  · simp at hv; omega
                  · exact h
                have := ih (v / 10) (by rw [Nat.pow_succ] at hv; omega) hn
                omega
          have := h4 _ _ h3 (by omega)
          omega
        · exact h3
      have : 10 ^ k ≤ 10 ^ (nDigits u - 1) := Nat.pow_le_pow_right (by decide) (by omega)
      omega
theorem nd_gt {u k : Nat} (h : 10 ^ k ≤ u) : k < nDigits u := by
  rcases Nat.lt_or_ge k (nDigits u) with h1 | h1
  · exact h1
  · have h2 := Go.Lib.lt_pow_nDigits u
    have : 10 ^ nDigits u ≤ 10 ^ k := Nat.pow_le_pow_right (by decide) h1
    omega
theorem nd_pow_le {u : Nat} (h : 0 < u) : 10 ^ (nDigits u - 1) ≤ u := by
  rcases Nat.lt_or_ge u (10 ^ (nDigits u - 1)) with h3 | h3
  · have := Go.Lib.nDigits_pos u
    rcases Nat.eq_or_lt_of_le this with h1 | h1
    · rw [← h1] at h3; simp at h3; omega
    · have := nd_le (by omega) h3; omega
  · exact h3
theorem nd_le_iff {u k : Nat} (hk : 1 ≤ k) : nDigits u ≤ k ↔ u < 10 ^ k := by
  constructor
  · intro h; exact Nat.lt_of_lt_of_le (Go.Lib.lt_pow_nDigits u) (Nat.pow_le_pow_right (by decide) h)
  · exact nd_le hk
/-- digits and words: nine digits a word, the top word apart -/
theorem nd_words {u : Nat} (h : 0 < u) : nDigits u = 9 * (nw u - 1) + nDigits (wd u (nw u - 1)) := by
  have hn : 0 < nw u := by rw [nw_pos (by omega)]; omega
  have hu := lt_pow_nw u
  have ht := wd_top hn
  have hd := div_step u (nw u - 1)
  rw [show nw u - 1 + 1 = nw u by omega, Nat.div_eq_of_lt hu, Nat.zero_mul, Nat.zero_add] at hd
  generalize wd u (nw u - 1) = t at *
  have h1 := Go.Lib.lt_pow_nDigits t
  have h2 := nd_pow_le (u := t) (by omega)
  have h3 := Go.Lib.nDigits_pos t
  have hp := B9p_pos (nw u - 1)
  have b1 : t * B9 ^ (nw u - 1) ≤ u := by rw [← hd]; exact Nat.div_mul_le_self _ _
  have b2 : u < (t + 1) * B9 ^ (nw u - 1) := (Nat.div_lt_iff_lt_mul hp).1 (by omega)
  have e := Go.Lib.nDigits_unique (9 * (nw u - 1) + (nDigits t - 1)) u (by
    rw [Nat.pow_add, ← B9_ten, Nat.mul_comm]
    exact Nat.le_trans (Nat.mul_le_mul_right _ h2) b1) (by
    rw [show 9 * (nw u - 1) + (nDigits t - 1) + 1 = 9 * (nw u - 1) + nDigits t by omega, Nat.pow_add, ← B9_ten, Nat.mul_comm]
    exact Nat.lt_of_lt_of_le b2 (Nat.mul_le_mul_right _ h1))
  omega
end Go.Proofs.Ytbhngccjacdlfaa
