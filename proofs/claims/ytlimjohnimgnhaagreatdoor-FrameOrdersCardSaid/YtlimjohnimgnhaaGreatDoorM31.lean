/- Texts Qg6: each says in its own first comment what it proves. -/
import Derived.Test.YtlimjohnimgnhaaGreatDoorM07
import Derived.Test.YtlimjohnimgnhaaGreatDoorM47
/- Features: closed contracts of the program: Check, Inner, Maximum, Least, bounded. -/
namespace Go.Proofs.YtlimjohnimgnhaaGreatDoor
open Go.RowKit

theorem fcheckAxis (c : Int) : Ca 81 #[.int .i64 c] (.int .i64 (axE c)) := by
  have q := fcheckAxis_any c
  have e : (if c < 0 then (Value.int .i64 1) else (if 3 ≤ c then (.int .i64 1) else (.int .i64 0))) = .int .i64 (axE c) := by
    unfold axE fE
    by_cases h1 : c < 0
    · simp [h1]
    · by_cases h2 : 3 ≤ c <;> simp [h1, h2]
  rw [e] at q; exact q
theorem fcheckPlace (x y z : Int) : Ca 83 #[.agg #[.int .i64 x, .int .i64 y, .int .i64 z]] (.int .i64 (plE x y z)) := by
  have q := fcheckPlace_any x y z
  have hx : ∀ u : Int, inR u = (!(decide (u < -100000)) && !(decide (100000 < u))) := fun u => by
    unfold inR
    by_cases h1 : u < -100000 <;> by_cases h2 : 100000 < u <;> simp [h1, h2] <;> omega
  have e : (if x < (-100000) then (Value.int .i64 2) else (if 100000 < x then (.int .i64 2) else (if y < (-100000) then (.int .i64 2) else (if 100000 < y then (.int .i64 2) else (if z < (-100000) then (.int .i64 2) else (if 100000 < z then (.int .i64 2) else (.int .i64 0))))))) = .int .i64 (plE x y z) := by
    unfold plE fE
    rw [hx, hx, hx]
    by_cases h1 : x < -100000
    · simp [h1]
    by_cases h2 : 100000 < x
    · simp [h1, h2]
    by_cases h3 : y < -100000
    · simp [h1, h2, h3]
    by_cases h4 : 100000 < y
    · simp [h1, h2, h3, h4]
    by_cases h5 : z < -100000
    · simp [h1, h2, h3, h4, h5]
    by_cases h6 : 100000 < z <;> simp [h1, h2, h3, h4, h5, h6]
  rw [e] at q; exact q
theorem fcheckSize (n : ByteArray) (k a x y z lo hi : Int) (fp : Option Addr) (fl fc : Nat) : Ca 85 #[.agg #[.string n, .int .i64 k, .int .i64 a, .int .i64 x, .int .i64 y, .int .i64 z, .int .i64 lo, .int .i64 hi, .slice fp fl fc]] (.int .i64 (szE k lo hi)) := by
  have q := fcheckSize_any n k a x y z lo hi fp fl fc _ (dCheck lo hi)
  have e : (if (k == 0) = true then (if (lo == 0) = true then (if (hi == 0) = true then (Value.int .i64 0) else (.int .i64 3)) else (.int .i64 3)) else (.int .i64 (firstE [firstE [lmE lo hi], fE (decide (lo < 1)) 2]))) = .int .i64 (szE k lo hi) := by
    unfold szE
    by_cases h0 : k = 0
    · by_cases h1 : lo = 0
      · rcases Bool.eq_false_or_eq_true (hi == 0) with h2 | h2 <;> simp [h0, h1, h2] <;> decide
      · have h1' : (lo == 0) = false := by simpa using h1
        simp [h0, h1']; decide
    · simp [h0]
  rw [e] at q; exact q
theorem fCheck (n : ByteArray) (k a x y z lo hi : Int) (fp : Option Addr) (fl fc : Nat) (hn : n.size ≤ 1000000) : Ca 41 #[.agg #[.string n, .int .i64 k, .int .i64 a, .int .i64 x, .int .i64 y, .int .i64 z, .int .i64 lo, .int .i64 hi, .slice fp fl fc]] (.int .i64 (ftE n k a x y z lo hi)) :=
  fCheck_any n k a x y z lo hi fp fl fc _ _ _ _ (fcheckSize n k a x y z lo hi fp fl fc) (dName n hn) (fcheckAxis a) (fcheckPlace x y z)


theorem ft_k {n : ByteArray} {k a x y z lo hi : Int} (h : ftE n k a x y z lo hi = 0) : 0 ≤ k ∧ k < 5 := by
  unfold ftE at h
  by_cases e1 : nmE n = 0
  · rw [e1, firstE_one, fst_0] at h
    by_cases h1 : k < 0
    · rw [decide_eq_true h1, Bool.true_or, fE_t, fst_e (by decide)] at h; cases h
    · by_cases h2 : 5 ≤ k
      · rw [decide_eq_true h2, Bool.or_true, fE_t, fst_e (by decide)] at h; cases h
      · omega
  · rw [firstE_one, fst_e e1] at h; exact absurd h e1
theorem b_ne {e : Int} (h : (e != 0) = false) : e = 0 := by simpa using h
theorem five {k : Int} (h : 0 ≤ k ∧ k < 5) : k = 0 ∨ k = 1 ∨ k = 2 ∨ k = 3 ∨ k = 4 := by omega
theorem fInner (n : ByteArray) (k a x y z lo hi : Int) (fp : Option Addr) (fl fc : Nat) (hn : n.size ≤ 1000000) : Cg 32 #[.agg #[.string n, .int .i64 k, .int .i64 a, .int .i64 x, .int .i64 y, .int .i64 z, .int .i64 lo, .int .i64 hi, .slice fp fl fc]] (.tuple #[.bool (if (ftE n k a x y z lo hi) = 0 then holB k else false), .int .i64 (ftE n k a x y z lo hi)]) := by
  have q := fInner_any n k a x y z lo hi fp fl fc _ (fCheck n k a x y z lo hi fp fl fc hn) (fun h => ft_k (b_ne h))
  generalize he : (ftE n k a x y z lo hi) = e at q ⊢
  by_cases h : e = 0
  · subst h
    rw [if_neg (by decide)] at q
    rw [if_pos rfl]
    rcases five (ft_k he) with rfl | rfl | rfl | rfl | rfl <;> exact q
  · rw [if_pos (ne_b h)] at q
    rw [if_neg h]; exact q

theorem fMaximum (n : ByteArray) (k a x y z lo hi : Int) (fp : Option Addr) (fl fc : Nat) (hn : n.size ≤ 1000000) : Cg 101 #[.agg #[.string n, .int .i64 k, .int .i64 a, .int .i64 x, .int .i64 y, .int .i64 z, .int .i64 lo, .int .i64 hi, .slice fp fl fc]] (.tuple #[.int .i64 (zI (szdE (ftE n k a x y z lo hi) k) (if holB k = true then lo else hi)), .int .i64 (szdE (ftE n k a x y z lo hi) k)]) := by
  have q := fsizeT_any n k a x y z lo hi fp fl fc _ (fCheck n k a x y z lo hi fp fl fc hn) (fun h => ft_k (b_ne h))
  have key : ∃ u v, Cg 128 #[.agg #[.string n, .int .i64 k, .int .i64 a, .int .i64 x, .int .i64 y, .int .i64 z, .int .i64 lo, .int .i64 hi, .slice fp fl fc], .bool true] (.tuple #[.int .i64 u, .int .i64 v]) ∧ u = zI (szdE (ftE n k a x y z lo hi) k) (if holB k = true then lo else hi) ∧ v = szdE (ftE n k a x y z lo hi) k := by
    generalize he : (ftE n k a x y z lo hi) = e at q ⊢
    by_cases h : e = 0
    · subst h
      rw [if_neg (by decide)] at q
      rcases five (ft_k he) with rfl | rfl | rfl | rfl | rfl <;> exact ⟨_, _, q, rfl, rfl⟩
    · rw [if_pos (ne_b h)] at q
      unfold szdE
      rw [if_neg h, zI_e h]
      exact ⟨_, _, q, rfl, rfl⟩
  obtain ⟨u, v, h1, rfl, rfl⟩ := key
  exact fMaximum_any n k a x y z lo hi fp fl fc _ _ h1
theorem fLeast (n : ByteArray) (k a x y z lo hi : Int) (fp : Option Addr) (fl fc : Nat) (hn : n.size ≤ 1000000) : Cg 100 #[.agg #[.string n, .int .i64 k, .int .i64 a, .int .i64 x, .int .i64 y, .int .i64 z, .int .i64 lo, .int .i64 hi, .slice fp fl fc]] (.tuple #[.int .i64 (zI (szdE (ftE n k a x y z lo hi) k) (if holB k = true then hi else lo)), .int .i64 (szdE (ftE n k a x y z lo hi) k)]) := by
  have q := fsizeF_any n k a x y z lo hi fp fl fc _ (fCheck n k a x y z lo hi fp fl fc hn) (fun h => ft_k (b_ne h))
  have key : ∃ u v, Cg 128 #[.agg #[.string n, .int .i64 k, .int .i64 a, .int .i64 x, .int .i64 y, .int .i64 z, .int .i64 lo, .int .i64 hi, .slice fp fl fc], .bool false] (.tuple #[.int .i64 u, .int .i64 v]) ∧ u = zI (szdE (ftE n k a x y z lo hi) k) (if holB k = true then hi else lo) ∧ v = szdE (ftE n k a x y z lo hi) k := by
    generalize he : (ftE n k a x y z lo hi) = e at q ⊢
    by_cases h : e = 0
    · subst h
      rw [if_neg (by decide)] at q
      rcases five (ft_k he) with rfl | rfl | rfl | rfl | rfl <;> exact ⟨_, _, q, rfl, rfl⟩
    · rw [if_pos (ne_b h)] at q
      unfold szdE
      rw [if_neg h, zI_e h]
      exact ⟨_, _, q, rfl, rfl⟩
  obtain ⟨u, v, h1, rfl, rfl⟩ := key
  exact fLeast_any n k a x y z lo hi fp fl fc _ _ h1













end Go.Proofs.YtlimjohnimgnhaaGreatDoor
