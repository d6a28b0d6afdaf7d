/- Texts Trim, Kit, Arr, Knuth, Lehm: each says in its own first comment what it proves. -/
import Derived.Test.YtiommpdbbpddpaaGreatRows
import Derived.WalkKit
import Derived.WalkSpells
import Derived.WalkLawsBesides
import Derived.Lib.Hide
import Derived.Deep.LoopGhost
import Derived.Deep.QuietTactic
import Derived.BigQuiet
import Derived.Test.YtiommpdbbpddpaaGreatM01
/- Walk over (*number).trim: leading zero words are left out, and the minus of 0. -/
namespace Go.Proofs.YtiommpdbbpddpaaGreat
open Go.RowKit

def tc (f : Nat → Nat) : Nat → Nat
  | 0 => 0
  | c + 1 => if f c = 0 then tc f c else c + 1

set_option maxRecDepth 100000 in
set_option maxHeartbeats 1000000 in
theorem trim_any (g c : Nat) (f : Nat → Nat) (m : Bool) (w : World) (hN : NumF w g f c m) (hc : c ≤ 229) :
    Calls Tryz.prog 143 #[.pointer (some ⟨g, 0, none⟩)] w fun e w' => e = .returned (.tuple #[]) ∧ NumF w' g f (tc f c) (m && decide (tc f c ≠ 0)) ∧ Kp [g] w w' := by
  go_enter Tryz.func143, Tryz.ntmps143
  go_wp2
  go_loopg [] c (fun k wr => k ≤ c ∧ NumF wr g f k m ∧ Hid (tc f k = tc f c) ∧ Kp [g] w wr)
  case atStart => exact ⟨Nat.le_refl _, hN, rfl, Kp.refl _ _⟩
  case round =>
    obtain ⟨hk, hn, ht, hkp⟩ := hrel
    have hcnt := hn.cnt
    have hfr := hn.free 229
    have hfm := hn.free 230
    have hsg := hn.sgn
    cases gk with
    | zero =>
      go_wp2
      go_quiet (fail)
      go_wp2
      go_end0
      have e : tc f c = 0 := ht.out.symm
      exact ⟨rfl, by rw [e]; simpa using (hn.drewN nq).setM false, (hkp.drewN nq).setCell (.inl (by simp)) _⟩
    | succ j =>
      have hw := hn.word (i := j) (by omega)
      have hlo : (0 : Int) ≤ (j : Int) := by omega
      have hhi : (j : Int) < 229 := by omega
      rw [Int.natCast_succ] at hcnt
      go_wp2
      by_cases hz : f j = 0
      · have hb : ((f j : Int) == 0) = true := by simp [hz]
        have hg : decide ((0 : Int) < (j : Int) + 1) = true := decide_eq_true (by omega)
        have hz' := Lib.hid hz; clear hz
        go_quiet (fail)
        go_wp2
        go_roundg j
        case measure => omega
        case rel =>
          exact ⟨by omega, (hn.drewN nq).setC j, by rw [← ht.out]; show _ = if f j = 0 then _ else _; rw [if_pos hz'.out], (hkp.drewN nq).setCell (.inl (by simp)) _⟩
      · have hb : ((f j : Int) == 0) = false := by simp [hz]
        have hg : decide ((0 : Int) < (j : Int) + 1) = true := decide_eq_true (by omega)
        have hc0 : ((j : Int) + 1 == 0) = false := beq_eq_false_iff_ne.2 (by omega)
        have hz' := Lib.hid hz; clear hz
        go_quiet (fail)
        go_wp2
        go_end0
        have e : tc f c = j + 1 := by rw [← ht.out]; show (if f j = 0 then _ else _) = _; rw [if_neg hz'.out]
        exact ⟨rfl, by rw [e]; simpa using hn.drewN nq, hkp.drewN nq⟩
end Go.Proofs.YtiommpdbbpddpaaGreat

/- What the walks over long numbers have in common: what trim makes of words; small lemmas. No program is named here but the walk of trim. -/
namespace Go.Proofs.YtiommpdbbpddpaaGreat
open Go.RowKit

theorem tc_wd {X : Nat} : ∀ c : Nat, X < B9 ^ c → tc (wd X) c = nw X
  | 0, h => by have : X = 0 := by simpa using h
               subst this; rw [nw_zero]; rfl
  | c + 1, h => by
    show (if wd X c = 0 then tc (wd X) c else c + 1) = nw X
    have hd := div_step X c
    rw [Nat.div_eq_of_lt h, Nat.zero_mul, Nat.zero_add] at hd
    by_cases h0 : wd X c = 0
    · rw [if_pos h0]
      refine tc_wd c ?_
      rw [h0] at hd
      exact Nat.lt_of_not_le fun hle => by have := (Nat.one_le_div_iff (B9p_pos c)).2 hle; omega
    · rw [if_neg h0]
      have h1 : B9 ^ c ≤ X := by
        rcases Nat.lt_or_ge X (B9 ^ c) with hlt | hge
        · rw [Nat.div_eq_of_lt hlt] at hd; exact absurd hd.symm h0
        · exact hge
      exact (nw_eq h1 h).symm
theorem tc_congr {f f' : Nat → Nat} : ∀ c : Nat, (∀ i, i < c → f i = f' i) → tc f c = tc f' c
  | 0, _ => rfl
  | c + 1, h => by
    show (if f c = 0 then tc f c else c + 1) = (if f' c = 0 then tc f' c else c + 1)
    rw [h c (by omega), tc_congr c fun i hi => h i (by omega)]
/-- words of F below k, of G from k on -/
def mix (F G : Nat → Nat) (k : Nat) : Nat → Nat := fun i => if i < k then F i else G i
theorem mix_zero (F G : Nat → Nat) : mix F G 0 = G := by funext i; simp [mix]
theorem mix_ge (F G : Nat → Nat) {k i : Nat} (h : k ≤ i) : mix F G k i = G i := by unfold mix; rw [if_neg (by omega)]
theorem mix_lt (F G : Nat → Nat) {k i : Nat} (h : i < k) : mix F G k i = F i := by unfold mix; rw [if_pos h]
theorem mix_set (F G : Nat → Nat) (k : Nat) : upd (mix F G k) k (F k) = mix F G (k + 1) := by
  funext i
  unfold upd
  by_cases h1 : i = k
  · subst h1; rw [if_pos rfl, mix_lt F G (by omega)]
  · rw [if_neg h1]
    by_cases h2 : i < k
    · rw [mix_lt F G h2, mix_lt F G (by omega)]
    · rw [mix_ge F G (by omega), mix_ge F G (by omega)]
/-- words of F from k on (downwards), of G below -/
theorem mix_down (F G : Nat → Nat) (k : Nat) : upd (mix G F (k + 1)) k (F k) = mix G F k := by
  funext i
  unfold upd
  by_cases h1 : i = k
  · subst h1; rw [if_pos rfl, mix_ge G F (by omega)]
  · rw [if_neg h1]
    by_cases h2 : i < k
    · rw [mix_lt G F h2, mix_lt G F (by omega)]
    · rw [mix_ge G F (by omega), mix_ge G F (by omega)]
theorem nw_eq_zero {A : Nat} (h : nw A = 0) : A = 0 := by
  have := lt_pow_nw A; rw [h] at this; simpa using this
theorem nw_ne {A : Nat} (h : A ≠ 0) : nw A ≠ 0 := fun e => h (nw_eq_zero e)
theorem val_i {k : IntKind} {a b : Int} (h : a = b) : Value.int k a = Value.int k b := by rw [h]
theorem NumF.setW' {w : World} {g c i : Nat} {f : Nat → Nat} {m : Bool} (h : NumF w g f c m) (hi : i < 229) {x : Nat} {y : Int} (e : y = (x : Int)) : NumF (w.setCell ⟨g, i, none⟩ (.int .u32 y)) g (upd f i x) c m := by
  rw [e]; exact h.setW hi x
theorem NumF.setC' {w : World} {g c : Nat} {f : Nat → Nat} {m : Bool} (h : NumF w g f c m) {x : Nat} {y : Int} (e : y = (x : Int)) : NumF (w.setCell ⟨g, 229, none⟩ (.int .i64 y)) g f x m := by
  rw [e]; exact h.setC x

/-- trim, where the words below the count are those of a number -/
theorem trim_num (g c X : Nat) (f : Nat → Nat) (m : Bool) (w : World) (hN : NumF w g f c m) (hc : c ≤ 229) (hX : X < B9 ^ c) (hf : ∀ i, i < 229 → f i = wd X i) :
    Calls Tryz.prog 143 #[.pointer (some ⟨g, 0, none⟩)] w fun e w' => e = .returned (.tuple #[]) ∧ Num w' g X (m && decide (X ≠ 0)) ∧ Kp [g] w w' := by
  refine (trim_any g c f m w hN hc).mono ?_
  rintro e w' ⟨he, hn, hk⟩
  rw [tc_congr c (f' := wd X) fun i hi => hf i (by omega), tc_wd c hX] at hn
  have e1 : decide (nw X ≠ 0) = decide (X ≠ 0) := by
    by_cases h0 : X = 0
    · subst h0; rw [nw_zero]
    · simp [h0, nw_ne h0]
  rw [e1] at hn
  exact ⟨he, ⟨hn.congr hf, Nat.lt_of_lt_of_le hX (pow_le hc)⟩, hk⟩
end Go.Proofs.YtiommpdbbpddpaaGreat

/- Slices of the words of a long number. -/
namespace Go.Proofs.YtiommpdbbpddpaaGreat
open Go.RowKit

theorem sl_high (g h : Nat) (hh : h ≤ 229) (w : World) :
    (Instr.sliceAt 146 (.pointer (some ⟨g, 0, none⟩)) none (some (.int .i64 (h : Int))) none).run Tryz.prog w = .ok (.slice (some ⟨g, 0, none⟩) h 229) w := by
  have h2 : (0 : Int) ≤ (h : Int) ∧ (h : Int) ≤ (229 : Nat) := by omega
  simp [Instr.sliceAt, run_underlying Tryz.underlying146, Instr.sliceBounds, Instr.sliceBound, asIntOf, go_sem, h2]
  intro h3; omega
theorem sl_all (g : Nat) (w : World) :
    (Instr.sliceAt 146 (.pointer (some ⟨g, 0, none⟩)) none none none).run Tryz.prog w = .ok (.slice (some ⟨g, 0, none⟩) 229 229) w := by
  simp [Instr.sliceAt, run_underlying Tryz.underlying146, Instr.sliceBounds, go_sem]
end Go.Proofs.YtiommpdbbpddpaaGreat

/- Division of numbers in words, as on paper: the guess of a word of the quotient, and what is left. No program is named here. -/
namespace Go.Proofs.YtiommpdbbpddpaaGreat

theorem wd_top_eq {X m : Nat} (h : X < B9 ^ (m + 1)) : wd X m = X / B9 ^ m := by
  unfold wd
  exact Nat.mod_eq_of_lt ((Nat.div_lt_iff_lt_mul (B9p_pos m)).2 (by rw [Nat.mul_comm, ← Nat.pow_succ]; exact h))

theorem guess_low {U V k : Nat} : U / V * (V / B9 ^ k) ≤ U / B9 ^ k := by
  rw [Nat.le_div_iff_mul_le (B9p_pos k), Nat.mul_assoc]
  exact Nat.le_trans (Nat.mul_le_mul_left _ (Nat.div_mul_le_self V _)) (Nat.div_mul_le_self U V)
/-- a guess that is too great for the leading words is too great -/
theorem guess_keep {U V k f s t u g rest : Nat} (hV2 : V / B9 ^ k = f * B9 + s) (hT : U / B9 ^ k = t * B9 + u) (hinv : g * f + rest = t) (hq : U / V ≤ g)
    (hgt : rest * B9 + u < g * s) : U / V ≤ g - 1 ∧ (g - 1) * f + (rest + f) = t ∧ 1 ≤ g := by
  have h1 : U / V * (V / B9 ^ k) ≤ U / B9 ^ k := guess_low
  have h2 : U / B9 ^ k < g * (V / B9 ^ k) := by
    rw [hT, hV2, ← hinv, Nat.add_mul, Nat.mul_add, Nat.mul_assoc]; omega
  have h3 : U / V < g := Nat.lt_of_mul_lt_mul_right (Nat.lt_of_le_of_lt h1 h2)
  clear h1 h2 hV2 hT
  generalize U / V = Q at *
  obtain ⟨g', rfl⟩ : ∃ g', g = g' + 1 := ⟨g - 1, by omega⟩
  refine ⟨by omega, ?_, by omega⟩
  rw [Nat.add_sub_cancel]
  rw [Nat.add_mul, Nat.one_mul] at hinv
  omega
/-- a guess that is not too great for the leading words is at most one too great -/
theorem guess_good {U V k f s t u g rest : Nat} (hV2 : V / B9 ^ k = f * B9 + s) (hT : U / B9 ^ k = t * B9 + u) (hinv : g * f + rest = t) (hg : g ≤ B9)
    (hV : B9 ^ (k + 1) ≤ V) (hle : ¬ rest * B9 + u < g * s) : g ≤ U / V + 1 := by
  have h2 : g * (V / B9 ^ k) ≤ U / B9 ^ k := by
    rw [hT, hV2, ← hinv, Nat.add_mul, Nat.mul_add, Nat.mul_assoc]; omega
  have h3 : g * (V / B9 ^ k) * B9 ^ k ≤ U := (Nat.le_div_iff_mul_le (B9p_pos k)).1 h2
  have hVp : 0 < V := Nat.lt_of_lt_of_le (B9p_pos _) hV
  have h4 : V = V / B9 ^ k * B9 ^ k + V % B9 ^ k := by have := Nat.div_add_mod V (B9 ^ k); rw [Nat.mul_comm] at this; exact this.symm
  have h5 : g * (V % B9 ^ k) ≤ V := by
    refine Nat.le_trans (Nat.mul_le_mul hg (Nat.le_of_lt (Nat.mod_lt V (B9p_pos k)))) ?_
    rw [Nat.mul_comm, ← Nat.pow_succ]; exact hV
  have h6 : g * V ≤ U + V := by
    have : g * V = g * (V / B9 ^ k) * B9 ^ k + g * (V % B9 ^ k) := by
      conv => lhs; rw [h4]
      rw [Nat.mul_add, Nat.mul_assoc]
    omega
  have h7 : g ≤ (U + V) / V := (Nat.le_div_iff_mul_le hVp).2 h6
  rwa [Nat.add_div_right U hVp] at h7
/-- the first guess is not too small -/
theorem guess_first {U V k f s t u : Nat} (hV2 : V / B9 ^ k = f * B9 + s) (hT : U / B9 ^ k = t * B9 + u) (hu : u < B9) (hf : 0 < f) : U / V ≤ t / f := by
  have h1 : U / V * (V / B9 ^ k) ≤ U / B9 ^ k := guess_low
  rw [hV2, hT, Nat.mul_add, ← Nat.mul_assoc] at h1
  rw [Nat.le_div_iff_mul_le hf]
  have h2 : U / V * f * B9 < (t + 1) * B9 := by rw [Nat.add_mul]; omega
  have := Nat.lt_of_mul_lt_mul_right h2
  omega
theorem quo_lt {U V : Nat} (h : U < V * B9) : U / V < B9 := by
  refine (Nat.div_lt_iff_lt_mul ?_).2 (by rwa [Nat.mul_comm])
  rcases Nat.eq_zero_or_pos V with h0 | h0
  · subst h0; simp at h
  · exact h0
/-- the leading words of U and V -/
theorem lead_V {V k : Nat} (h : V < B9 ^ (k + 2)) : V / B9 ^ k = wd V (k + 1) * B9 + wd V k := by
  rw [div_step V k, wd_top_eq h]
theorem lead_U {U k : Nat} (h : U < B9 ^ (k + 3)) : U / B9 ^ k = (wd U (k + 2) * B9 + wd U (k + 1)) * B9 + wd U k := by
  rw [div_step U k, div_step U (k + 1), wd_top_eq h]
theorem lead_lt {U V k : Nat} (h : U < V * B9) (hV : V < B9 ^ (k + 2)) : wd U (k + 2) * B9 + wd U (k + 1) < (wd V (k + 1) + 1) * B9 := by
  have hU : U < B9 ^ (k + 3) := Nat.lt_trans h (by rw [Nat.pow_succ B9 (k + 2)]; exact Nat.mul_lt_mul_of_pos_right hV B9_pos)
  have h1 : U / B9 ^ (k + 1) = wd U (k + 2) * B9 + wd U (k + 1) := by rw [div_step U (k + 1), wd_top_eq hU]
  rw [← h1, wd_top_eq hV]
  refine (Nat.div_lt_iff_lt_mul (B9p_pos (k + 1))).2 ?_
  have h4 := Nat.div_add_mod V (B9 ^ (k + 1))
  have h5 := Nat.mod_lt V (B9p_pos (k + 1))
  have h6 : V < (V / B9 ^ (k + 1) + 1) * B9 ^ (k + 1) := by
    rw [Nat.add_mul, Nat.mul_comm (V / _)]; omega
  refine Nat.lt_of_lt_of_le h ?_
  rw [Nat.mul_assoc, Nat.mul_comm B9, ← Nat.mul_assoc]
  exact Nat.mul_le_mul_right _ (Nat.le_of_lt h6)

/-- one word of taking g times V -/
theorem take_step {U V g i X c w' c' : Nat} (h : U % B9 ^ i + c * B9 ^ i = X + g * (V % B9 ^ i)) (hw : wd U i + c' * B9 = w' + (c + g * wd V i)) :
    U % B9 ^ (i + 1) + c' * B9 ^ (i + 1) = (X + B9 ^ i * w') + g * (V % B9 ^ (i + 1)) := by
  rw [mod_succ, mod_succ, Nat.pow_succ]
  have e := congrArg (B9 ^ i * ·) hw
  simp only [Nat.mul_add] at e ⊢
  rw [Nat.mul_left_comm c', Nat.mul_left_comm g (B9 ^ i)]
  rw [Nat.mul_comm c (B9 ^ i)] at h
  omega
theorem take_bound {U V g i X c : Nat} (h : U % B9 ^ i + c * B9 ^ i = X + g * (V % B9 ^ i)) (hX : X < B9 ^ i) : c ≤ g := by
  have h1 : g * (V % B9 ^ i) ≤ g * B9 ^ i := Nat.mul_le_mul_left _ (Nat.le_of_lt (Nat.mod_lt _ (B9p_pos i)))
  have h2 : c * B9 ^ i < (g + 1) * B9 ^ i := by
    rw [Nat.add_mul]
    generalize U % B9 ^ i = z at *
    omega
  have := Nat.lt_of_mul_lt_mul_right h2
  omega
theorem take_whole {U m : Nat} (h : U < B9 ^ (m + 1)) : U % B9 ^ m + B9 ^ m * wd U m = U := by
  rw [← mod_succ, Nat.mod_eq_of_lt h]
/-- taken once too often -/
theorem take_short {U V g m X c : Nat} (hU : U < B9 ^ (m + 1)) (hV : V < B9 ^ m) (hV0 : 0 < V) (hX : X < B9 ^ m) (h : U % B9 ^ m + c * B9 ^ m = X + g * (V % B9 ^ m))
    (hg : g ≤ U / V + 1) (hs : wd U m < c) : g = U / V + 1 ∧ X + V = U % V + B9 ^ m := by
  rw [Nat.mod_eq_of_lt hV] at h
  have hw := take_whole hU
  have hqr := Nat.div_add_mod U V
  have hr := Nat.mod_lt U hV0
  obtain ⟨d, rfl⟩ : ∃ d, c = wd U m + 1 + d := ⟨c - wd U m - 1, by omega⟩
  rw [Nat.add_mul, Nat.add_mul, Nat.one_mul, Nat.mul_comm (wd U m)] at h
  have h1 : U + B9 ^ m + d * B9 ^ m = X + g * V := by
    generalize U % B9 ^ m = z at *
    omega
  have h2 : U < g * V := by omega
  have h3 : U / V < g := (Nat.div_lt_iff_lt_mul hV0).2 h2
  clear h h2 hw
  generalize U / V = Q at *
  generalize U % V = r at *
  have hge : g = Q + 1 := by omega
  refine ⟨hge, ?_⟩
  rw [hge, Nat.add_mul, Nat.one_mul, Nat.mul_comm Q V] at h1
  have hd : d = 0 := by
    rcases Nat.eq_zero_or_pos d with h0 | h0
    · exact h0
    · have := Nat.mul_le_mul_right (B9 ^ m) h0; omega
  subst hd
  omega
/-- taken as often as it goes -/
theorem take_right {U V g m X c : Nat} (hU : U < B9 ^ (m + 1)) (hV : V < B9 ^ m) (hV0 : 0 < V) (h : U % B9 ^ m + c * B9 ^ m = X + g * (V % B9 ^ m))
    (hq : U / V ≤ g) (hs : ¬ wd U m < c) : g = U / V ∧ X = U % V := by
  rw [Nat.mod_eq_of_lt hV] at h
  have hw := take_whole hU
  have hqr := Nat.div_add_mod U V
  have hr := Nat.mod_lt U hV0
  obtain ⟨d, hd⟩ : ∃ d, wd U m = c + d := ⟨wd U m - c, by omega⟩
  rw [hd, Nat.mul_add, Nat.mul_comm _ c, Nat.mul_comm _ d] at hw
  have h1 : X + g * V + d * B9 ^ m = U := by
    generalize U % B9 ^ m = z at *
    omega
  have h3 : g ≤ U / V := (Nat.le_div_iff_mul_le hV0).2 (by omega)
  clear h hw
  generalize U / V = Q at *
  generalize U % V = r at *
  have hge : g = Q := by omega
  refine ⟨hge, ?_⟩
  rw [hge, Nat.mul_comm Q V] at h1
  have hd0 : d = 0 := by
    rcases Nat.eq_zero_or_pos d with h0 | h0
    · exact h0
    · have := Nat.mul_le_mul_right (B9 ^ m) h0; omega
  subst hd0
  omega
/-- a part of the words of R is replaced -/
theorem part_lt {R at_ i X : Nat} (hX : X < B9 ^ i) : R % B9 ^ at_ + B9 ^ at_ * X < B9 ^ (at_ + i) := by
  rw [Nat.pow_add]
  have h1 := Nat.mod_lt R (B9p_pos at_)
  have h2 := Nat.mul_le_mul_left (B9 ^ at_) (show X + 1 ≤ B9 ^ i from hX)
  rw [Nat.mul_add] at h2; omega
theorem part_word {R at_ i X : Nat} (hX : X < B9 ^ i) {w' : Nat} (hw : w' < B9) : wd (R % B9 ^ at_ + B9 ^ at_ * (X + B9 ^ i * w')) (at_ + i) = w' := by
  rw [Nat.mul_add, ← Nat.mul_assoc, ← Nat.pow_add, ← Nat.add_assoc, wd_eq, div_low, Nat.div_eq_of_lt (part_lt hX), Nat.zero_add, Nat.mod_eq_of_lt hw]
theorem part_low {R at_ i X : Nat} (w' n : Nat) (h : n < at_ + i) : wd (R % B9 ^ at_ + B9 ^ at_ * (X + B9 ^ i * w')) n = wd (R % B9 ^ at_ + B9 ^ at_ * X) n := by
  rw [Nat.mul_add, ← Nat.mul_assoc, ← Nat.pow_add, ← Nat.add_assoc, wd_low _ _ _ _ h]
/-- what is left of N at word at -/
theorem rest_div (N V at_ : Nat) : N % (B9 ^ (at_ + 1) * V) / B9 ^ at_ / V = wd (N / V) at_ := by
  rw [Nat.pow_succ, Nat.mul_assoc, Nat.mod_mul_right_div_self, Nat.mul_comm B9 V, Nat.mod_mul_right_div_self, wd_eq, Nat.div_div_eq_div_mul, Nat.div_div_eq_div_mul, Nat.mul_comm]
theorem rest_next (N V at_ : Nat) : N % (B9 ^ (at_ + 1) * V) % B9 ^ at_ + B9 ^ at_ * (N % (B9 ^ (at_ + 1) * V) / B9 ^ at_ % V) = N % (B9 ^ at_ * V) := by
  rw [← Nat.mod_mul]
  exact Nat.mod_mod_of_dvd N ⟨B9, by rw [Nat.pow_succ, Nat.mul_assoc, Nat.mul_assoc, Nat.mul_comm B9]⟩
theorem rest_lt (N V at_ : Nat) (hV : 0 < V) : N % (B9 ^ (at_ + 1) * V) / B9 ^ at_ < V * B9 := by
  refine (Nat.div_lt_iff_lt_mul (B9p_pos at_)).2 ?_
  have := Nat.mod_lt N (show 0 < B9 ^ (at_ + 1) * V from Nat.mul_pos (B9p_pos _) hV)
  rw [Nat.pow_succ] at this ⊢
  rwa [Nat.mul_comm V B9, Nat.mul_comm (B9 * V), ← Nat.mul_assoc]
end Go.Proofs.YtiommpdbbpddpaaGreat

/- Lehmer's steps: what the factors of the leading digits keep. No program is named here. -/
namespace Go.Proofs.YtiommpdbbpddpaaGreat

/-- the factors a, b, c, d turn x0 and y0 into x and y; e tells even from odd numbers of steps -/
structure Lm (x0 y0 : Int) (e : Bool) (x y a b c d : Int) : Prop where
  hx : x = a * x0 + b * y0
  hy : y = c * x0 + d * y0
  det : a * d - b * c = if e then 1 else -1
  sg : if e then 1 ≤ a ∧ b ≤ 0 ∧ c ≤ 0 ∧ 1 ≤ d else a ≤ 0 ∧ 1 ≤ b ∧ 1 ≤ c ∧ d ≤ 0
  p1 : 0 ≤ x + a
  p2 : 0 ≤ x + b
  p3 : 0 ≤ y + c
  p4 : 0 ≤ y + d
  u1 : x + a ≤ x0 + 1
  u2 : x + b ≤ x0 + 1
  u3 : y + c ≤ y0
  u4 : y + d ≤ y0 + 1
/-- a step was made -/
structure Ls (y0 x y a b c d : Int) : Prop where
  s1 : y + c < x + a
  s2 : y + d < x + b
  s3 : y + c < y0
  s4 : y + d ≤ y0

theorem Lm.start {x0 y0 : Int} (h : y0 ≤ x0) (h0 : 0 ≤ y0) : Lm x0 y0 true x0 y0 1 0 0 1 :=
  ⟨by omega, by omega, rfl, by show (1:Int) ≤ 1 ∧ _; omega, by omega, by omega, by omega, by omega, by omega, by omega, by omega, by omega⟩

theorem Lm.step {x0 y0 x y a b c d q : Int} {e : Bool} (h : Lm x0 y0 e x y a b c d) (h0 : y0 ≤ x0) (hc : y + c ≠ 0) (hd : y + d ≠ 0)
    (q1 : (x + a) / (y + c) = q) (q2 : (x + b) / (y + d) = q) :
    Lm x0 y0 (!e) y (x - q * y) c d (a - q * c) (b - q * d) ∧ Ls y0 y (x - q * y) c d (a - q * c) (b - q * d) := by
  obtain ⟨hx, hy, det, sg, p1, p2, p3, p4, u1, u2, u3, u4⟩ := h
  have hcp : 0 < y + c := by omega
  have hdp : 0 < y + d := by omega
  have hq0 : 0 ≤ q := by rw [← q1]; exact Int.ediv_nonneg p1 p3
  have m1 : (x + a) - q * (y + c) = (x + a) % (y + c) := by rw [← q1, Int.emod_def, Int.mul_comm]
  have m2 : (x + b) - q * (y + d) = (x + b) % (y + d) := by rw [← q2, Int.emod_def, Int.mul_comm]
  have n1 := Int.emod_nonneg (x + a) hc
  have n2 := Int.emod_nonneg (x + b) hd
  have l1 := Int.emod_lt_of_pos (x + a) hcp
  have l2 := Int.emod_lt_of_pos (x + b) hdp
  rw [Int.mul_add] at m1 m2
  have hy' : x - q * y = (a - q * c) * x0 + (b - q * d) * y0 := by
    rw [hx, hy]; simp only [Int.mul_add, Int.sub_mul, Int.mul_assoc]; omega
  have hdet : c * (b - q * d) - d * (a - q * c) = -(a * d - b * c) := by
    simp only [Int.mul_sub]
    rw [Int.mul_comm c b, Int.mul_comm d a, Int.mul_left_comm c q d, Int.mul_left_comm d q c, Int.mul_comm d c]; omega
  refine ⟨⟨hy, hy', ?_, ?_, p3, p4, by omega, by omega, by omega, by omega, by omega, by omega⟩, by omega, by omega, by omega, by omega⟩
  · rw [hdet, det]; cases e <;> rfl
  · cases e with
    | true =>
      obtain ⟨s1, s2, s3, s4⟩ : 1 ≤ a ∧ b ≤ 0 ∧ c ≤ 0 ∧ 1 ≤ d := sg
      show c ≤ 0 ∧ 1 ≤ d ∧ 1 ≤ a - q * c ∧ b - q * d ≤ 0
      have t1 : 0 ≤ q * (-c) := Int.mul_nonneg hq0 (by omega)
      have t2 : 0 ≤ q * d := Int.mul_nonneg hq0 (by omega)
      rw [Int.mul_neg] at t1
      omega
    | false =>
      obtain ⟨s1, s2, s3, s4⟩ : a ≤ 0 ∧ 1 ≤ b ∧ 1 ≤ c ∧ d ≤ 0 := sg
      show 1 ≤ c ∧ d ≤ 0 ∧ a - q * c ≤ 0 ∧ 1 ≤ b - q * d
      have t1 : 0 ≤ q * c := Int.mul_nonneg hq0 (by omega)
      have t2 : 0 ≤ q * (-d) := Int.mul_nonneg hq0 (by omega)
      rw [Int.mul_neg] at t2
      omega

theorem sq_le {D Q x M : Int} (h1 : D * Q ≤ x) (h2 : D ≤ Q) (hM : 0 ≤ M) (hx : x ≤ M * M) : D ≤ M := by
  rcases Int.lt_or_le M D with h | h
  · have : M * M < D * Q := by
      have a1 : M * M ≤ M * D := Int.mul_le_mul_of_nonneg_left (by omega) hM
      have a2 : M * D < D * D := Int.mul_lt_mul_of_pos_right h (by omega)
      have a3 : D * D ≤ D * Q := Int.mul_le_mul_of_nonneg_left h2 (by omega)
      omega
    omega
  · exact h

/-- the factors stay near the root of the leading digits -/
theorem Lm.bound {x0 y0 x y a b c d M : Int} {e : Bool} (h : Lm x0 y0 e x y a b c d) (s : Ls y0 x y a b c d) (h0 : y0 ≤ x0) (hM : 0 ≤ M) (hx0 : x0 + 1 ≤ M * M) :
    -M ≤ c ∧ c ≤ M ∧ -M ≤ d ∧ d ≤ M := by
  obtain ⟨hx, hy, det, sg, p1, p2, p3, p4, u1, u2, u3, u4⟩ := h
  obtain ⟨s1, s2, s3, s4⟩ := s
  have ex : d * x - b * y = (a * d - b * c) * x0 := by
    rw [hx, hy]; simp only [Int.mul_add, Int.sub_mul]
    rw [Int.mul_left_comm d a, Int.mul_left_comm b c, Int.mul_left_comm d b, Int.mul_left_comm b d, Int.mul_assoc a, Int.mul_assoc b, Int.mul_left_comm b c]; 
    omega
  have ey : a * y - c * x = (a * d - b * c) * y0 := by
    rw [hx, hy]; simp only [Int.mul_add, Int.sub_mul]
    rw [Int.mul_left_comm a c, Int.mul_left_comm c b, Int.mul_assoc a, Int.mul_assoc b]
    omega
  cases e with
  | true =>
    obtain ⟨g1, g2, g3, g4⟩ : 1 ≤ a ∧ b ≤ 0 ∧ c ≤ 0 ∧ 1 ≤ d := sg
    rw [det] at ex ey
    have det1 : a * d - b * c = 1 := det
    have k1 : d * (x + b) + (-b) * (y + d) = x0 := by
      simp only [Int.mul_add, Int.neg_mul] at *
      have := Int.mul_comm d b
      simp at ex; omega
    have k2 : a * (y + d) + (-c) * (x + b) = y0 + 1 := by
      simp only [Int.mul_add, Int.neg_mul] at *
      have := Int.mul_comm b c
      simp at ey; omega
    have t1 : 0 ≤ (-b) * (y + d) := Int.mul_nonneg (by omega) p4
    have t2 : 0 ≤ a * (y + d) := Int.mul_nonneg (by omega) p4
    have r1 : d ≤ M := sq_le (Q := x + b) (x := x0) (by omega) (by omega) hM (by omega)
    have r2 : -c ≤ M := sq_le (Q := x + b) (x := y0 + 1) (by omega) (by omega) hM (by omega)
    omega
  | false =>
    obtain ⟨g1, g2, g3, g4⟩ : a ≤ 0 ∧ 1 ≤ b ∧ 1 ≤ c ∧ d ≤ 0 := sg
    rw [det] at ex ey
    have det1 : a * d - b * c = -1 := det
    have k1 : (-d) * (x + a) + b * (y + c) = x0 + 1 := by
      simp only [Int.mul_add, Int.neg_mul] at *
      have := Int.mul_comm d a
      simp at ex; omega
    have k2 : c * (x + a) + (-a) * (y + c) = y0 := by
      simp only [Int.mul_add, Int.neg_mul] at *
      have := Int.mul_comm c a
      simp at ey; omega
    have t1 : 0 ≤ b * (y + c) := Int.mul_nonneg (by omega) p3
    have t2 : 0 ≤ (-a) * (y + c) := Int.mul_nonneg (by omega) p3
    have r1 : -d ≤ M := sq_le (Q := x + a) (x := x0 + 1) (by omega) (by omega) hM (by omega)
    have r2 : c ≤ M := sq_le (Q := x + a) (x := y0) (by omega) (by omega) hM (by omega)
    omega

theorem mul_le_l {a u v : Int} (ha : 0 ≤ a) (h : u ≤ v) : a * u ≤ a * v := Int.mul_le_mul_of_nonneg_left h ha
theorem mul_le_n {a u v : Int} (ha : a ≤ 0) (h : u ≤ v) : a * v ≤ a * u := Int.mul_le_mul_of_nonpos_left ha h

/-- what the factors make of numbers with these leading digits -/
theorem Lm.made {x0 y0 x y a b c d X Y T : Int} {e : Bool} (h : Lm x0 y0 e x y a b c d) (s : Ls y0 x y a b c d) (hT : 0 < T)
    (hX : x0 * T ≤ X) (hX' : X < (x0 + 1) * T) (hY : y0 * T ≤ Y) (hY' : Y < (y0 + 1) * T) :
    0 ≤ c * X + d * Y ∧ c * X + d * Y < Y ∧ c * X + d * Y ≤ a * X + b * Y ∧ a * X + b * Y < (x0 + 1) * T := by
  obtain ⟨hx, hy, det, sg, p1, p2, p3, p4, u1, u2, u3, u4⟩ := h
  obtain ⟨s1, s2, s3, s4⟩ := s
  have hX1 : X ≤ (x0 + 1) * T - 1 := by omega
  have hY1 : Y ≤ (y0 + 1) * T - 1 := by omega
  rw [Int.add_mul, Int.one_mul] at hX1 hY1
  have v : ∀ {p q : Int}, p ≤ q → p * T ≤ q * T := fun h => Int.mul_le_mul_of_nonneg_right h (by omega)
  have e1 : ∀ p q z k : Int, z = p * x0 + q * y0 → p * (x0 * T) + q * (y0 * T) + k * T = (z + k) * T := by
    intro p q z k hz
    rw [hz, Int.add_mul, Int.add_mul, Int.mul_assoc, Int.mul_assoc]
  have v4 := v s4
  have v3 := v (show y + c + 1 ≤ y0 by omega)
  have w1 := v (show y + c + 1 ≤ x + a by omega)
  have w2 := v (show y + d + 1 ≤ x + b by omega)
  have z3 := v p3
  have z4 := v p4
  have t1 := v u1
  have t2 := v u2
  rw [Int.zero_mul] at z3 z4
  cases e with
  | true =>
    obtain ⟨g1, g2, g3, g4⟩ : 1 ≤ a ∧ b ≤ 0 ∧ c ≤ 0 ∧ 1 ≤ d := sg
    have a1 := mul_le_l (a := a) (by omega) hX
    have a2 := mul_le_l (a := a) (by omega) hX1
    have b1 := mul_le_n (a := b) (by omega) hY
    have b2 := mul_le_n (a := b) (by omega) hY1
    have c1 := mul_le_n (a := c) (by omega) hX
    have c2 := mul_le_n (a := c) (by omega) hX1
    have d1 := mul_le_l (a := d) (by omega) hY
    have d2 := mul_le_l (a := d) (by omega) hY1
    have f1 := e1 a b x a hx
    have f2 := e1 a b x b hx
    have f3 := e1 c d y c hy
    have f4 := e1 c d y d hy
    simp only [Int.mul_sub, Int.mul_add, Int.mul_one, Int.add_mul, Int.one_mul] at *
    refine ⟨by omega, by omega, by omega, by omega⟩
  | false =>
    obtain ⟨g1, g2, g3, g4⟩ : a ≤ 0 ∧ 1 ≤ b ∧ 1 ≤ c ∧ d ≤ 0 := sg
    have a1 := mul_le_n (a := a) (by omega) hX
    have a2 := mul_le_n (a := a) (by omega) hX1
    have b1 := mul_le_l (a := b) (by omega) hY
    have b2 := mul_le_l (a := b) (by omega) hY1
    have c1 := mul_le_l (a := c) (by omega) hX
    have c2 := mul_le_l (a := c) (by omega) hX1
    have d1 := mul_le_n (a := d) (by omega) hY
    have d2 := mul_le_n (a := d) (by omega) hY1
    have f1 := e1 a b x a hx
    have f2 := e1 a b x b hx
    have f3 := e1 c d y c hy
    have f4 := e1 c d y d hy
    simp only [Int.mul_sub, Int.mul_add, Int.mul_one, Int.add_mul, Int.one_mul] at *
    refine ⟨by omega, by omega, by omega, by omega⟩

/-- the greatest common divisor stays -/
theorem Lm.gcd {x0 y0 x y a b c d X Y : Int} {e : Bool} (h : Lm x0 y0 e x y a b c d) : Int.gcd (a * X + b * Y) (c * X + d * Y) = Int.gcd X Y := by
  have ex : d * (a * X + b * Y) - b * (c * X + d * Y) = (a * d - b * c) * X := by
    simp only [Int.mul_add, Int.sub_mul]
    rw [Int.mul_left_comm d a, Int.mul_left_comm b c, Int.mul_left_comm d b, Int.mul_left_comm b d, Int.mul_assoc a, Int.mul_assoc b, Int.mul_left_comm b c]
    omega
  have ey : a * (c * X + d * Y) - c * (a * X + b * Y) = (a * d - b * c) * Y := by
    simp only [Int.mul_add, Int.sub_mul]
    rw [Int.mul_left_comm a c, Int.mul_left_comm c b, Int.mul_assoc a, Int.mul_assoc b]
    omega
  have hsq : ∀ z : Int, (a * d - b * c) * ((a * d - b * c) * z) = z := by
    intro z; rw [h.det]; cases e <;> simp
  apply Nat.dvd_antisymm
  · apply Int.natCast_dvd_natCast.1
    have g1 := Int.gcd_dvd_left (a * X + b * Y) (c * X + d * Y)
    have g2 := Int.gcd_dvd_right (a * X + b * Y) (c * X + d * Y)
    apply Int.dvd_coe_gcd
    · have t := Int.dvd_mul_of_dvd_right (b := a * d - b * c) (Int.dvd_sub (Int.dvd_mul_of_dvd_right (b := d) g1) (Int.dvd_mul_of_dvd_right (b := b) g2))
      rw [ex, hsq] at t
      exact t
    · have t := Int.dvd_mul_of_dvd_right (b := a * d - b * c) (Int.dvd_sub (Int.dvd_mul_of_dvd_right (b := a) g2) (Int.dvd_mul_of_dvd_right (b := c) g1))
      rw [ey, hsq] at t
      exact t
  · apply Int.natCast_dvd_natCast.1
    have g1 := Int.gcd_dvd_left X Y
    have g2 := Int.gcd_dvd_right X Y
    apply Int.dvd_coe_gcd
    · exact Int.dvd_add (Int.dvd_mul_of_dvd_right g1) (Int.dvd_mul_of_dvd_right g2)
    · exact Int.dvd_add (Int.dvd_mul_of_dvd_right g1) (Int.dvd_mul_of_dvd_right g2)
end Go.Proofs.YtiommpdbbpddpaaGreat
