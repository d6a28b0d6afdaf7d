/- What the walks over long numbers have in common: what trim makes of words; small lemmas. No program is named here but the walk of trim. -/
import Derived.Test.YtbhngccjacdlfaaTrim
namespace Go.Proofs.Ytbhngccjacdlfaa
open Go.RowKit

theorem tc_wd {X : Nat} : ∀ c : Nat, X < B9 ^ c → tc (wd X) c = nw X
  | 0, h => by have : X = 0 := by simpa using h
               subst this; rw [nw_zero]; rfl
  | c + 1, h => by
    show (if wd X c = 0 then tc (wd X) c else c + 1) = nw X
    have hd := div_step X c
    rw [Nat.div_eq_of_lt h, Nat.zero_mul, Nat.zero_add] at hd
    by_cases h0 : wd X c = 0
    · rw [if_pos h0]
      refine tc_wd c ?_
      rw [h0] at hd
      exact Nat.lt_of_not_le fun hle => by have := (Nat.one_le_div_iff (B9p_pos c)).2 hle; omega
    · rw [if_neg h0]
      have h1 : B9 ^ c ≤ X := by
        rcases Nat.lt_or_ge X (B9 ^ c) with hlt | hge
        · rw [Nat.div_eq_of_lt hlt] at hd; exact absurd hd.symm h0
        · exact hge
      exact (nw_eq h1 h).symm
theorem tc_congr {f f' : Nat → Nat} : ∀ c : Nat, (∀ i, i < c → f i = f' i) → tc f c = tc f' c
  | 0, _ => rfl
  | c + 1, h => by
    show (if f c = 0 then tc f c else c + 1) = (if f' c = 0 then tc f' c else c + 1)
    rw [h c (by omega), tc_congr c fun i hi => h i (by omega)]
/-- words of F below k, of G from k on -/
def mix (F G : Nat → Nat) (k : Nat) : Nat → Nat := fun i => if i < k then F i else G i
theorem mix_zero (F G : Nat → Nat) : mix F G 0 = G := by funext i; simp [mix]
theorem mix_ge (F G : Nat → Nat) {k i : Nat} (h : k ≤ i) : mix F G k i = G i := by unfold mix; rw [if_neg (by omega)]
theorem mix_lt (F G : Nat → Nat) {k i : Nat} (h : i < k) : mix F G k i = F i := by unfold mix; rw [if_pos h]
theorem mix_set (F G : Nat → Nat) (k : Nat) : upd (mix F G k) k (F k) = mix F G (k + 1) := by
  funext i
  unfold upd
  by_cases h1 : i = k
  · subst h1; rw [if_pos rfl, mix_lt F G (by omega)]
  · rw [if_neg h1]
    by_cases h2 : i < k
    · rw [mix_lt F G h2, mix_lt F G (by omega)]
    · rw [mix_ge F G (by omega), mix_ge F G (by omega)]
/-- words of F from k on (downwards), of G below -/
theorem mix_down (F G : Nat → Nat) (k : Nat) : upd (mix G F (k + 1)) k (F k) = mix G F k := by
  funext i
  unfold upd
  by_cases h1 : i = k
  · subst h1; rw [if_pos rfl, mix_ge G F (by omega)]
  · rw [if_neg h1]
    by_cases h2 : i < k
    · rw [mix_lt G F h2, mix_lt G F (by omega)]
    · rw [mix_ge G F (by omega), mix_ge G F (by omega)]
theorem nw_eq_zero {A : Nat} (h : nw A = 0) : A = 0 := by
  have := lt_pow_nw A; rw [h] at this; simpa using this
theorem nw_ne {A : Nat} (h : A ≠ 0) : nw A ≠ 0 := fun e => h (nw_eq_zero e)
theorem nw_229 {A : Nat} (h : A < B9 ^ 229) : nw A ≤ 229 := nw_le h
theorem val_i {k : IntKind} {a b : Int} (h : a = b) : Value.int k a = Value.int k b := by rw [h]
theorem NumF.setW' {w : World} {g c i : Nat} {f : Nat → Nat} {m : Bool} (h : NumF w g f c m) (hi : i < 229) {x : Nat} {y : Int} (e : y = (x : Int)) : NumF (w.setCell ⟨g, i, none⟩ (.int .u32 y)) g (upd f i x) c m := by
  rw [e]; exact h.setW hi x
theorem NumF.setC' {w : World} {g c : Nat} {f : Nat → Nat} {m : Bool} (h : NumF w g f c m) {x : Nat} {y : Int} (e : y = (x : Int)) : NumF (w.setCell ⟨g, 229, none⟩ (.int .i64 y)) g f x m := by
  rw [e]; exact h.setC x

/-- trim, where the words below the count are those of a number -/
theorem trim_num (g c X : Nat) (f : Nat → Nat) (m : Bool) (w : World) (hN : NumF w g f c m) (hc : c ≤ 229) (hX : X < B9 ^ c) (hf : ∀ i, i < 229 → f i = wd X i) :
    Calls Try.prog 75 #[.pointer (some ⟨g, 0, none⟩)] w fun e w' => e = .returned (.tuple #[]) ∧ Num w' g X (m && decide (X ≠ 0)) ∧ Kp [g] w w' := by
  refine (trim_any g c f m w hN hc).mono ?_
  rintro e w' ⟨he, hn, hk⟩
  rw [tc_congr c (f' := wd X) fun i hi => hf i (by omega), tc_wd c hX] at hn
  have e1 : decide (nw X ≠ 0) = decide (X ≠ 0) := by
    by_cases h0 : X = 0
    · subst h0; rw [nw_zero]
    · simp [h0, nw_ne h0]
  rw [e1] at hn
  exact ⟨he, ⟨hn.congr hf, Nat.lt_of_lt_of_le hX (pow_le hc)⟩, hk⟩
end Go.Proofs.Ytbhngccjacdlfaa
