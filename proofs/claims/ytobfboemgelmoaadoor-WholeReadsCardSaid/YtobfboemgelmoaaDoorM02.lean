/- Texts Trim, Kit, Arr: each says in its own first comment what it proves. -/
import Derived.Test.YtobfboemgelmoaaDoorRows
import Derived.WalkKit
import Derived.WalkSpells
import Derived.WalkLawsBesides
import Derived.Lib.Hide
import Derived.Deep.LoopGhost
import Derived.Deep.QuietTactic
import Derived.BigQuiet
import Derived.Test.YtobfboemgelmoaaDoorM01
/- Walk over (*number).trim: leading zero words are left out, and the minus of 0. -/
namespace Go.Proofs.YtobfboemgelmoaaDoor
open Go.RowKit

def tc (f : Nat → Nat) : Nat → Nat
  | 0 => 0
  | c + 1 => if f c = 0 then tc f c else c + 1

set_option maxRecDepth 100000 in
set_option maxHeartbeats 1000000 in
theorem trim_any (g c : Nat) (f : Nat → Nat) (m : Bool) (w : World) (hN : NumF w g f c m) (hc : c ≤ 229) :
    Calls Tryd.prog 45 #[.pointer (some ⟨g, 0, none⟩)] w fun e w' => e = .returned (.tuple #[]) ∧ NumF w' g f (tc f c) (m && decide (tc f c ≠ 0)) ∧ Kp [g] w w' := by
  go_enter Tryd.func45, Tryd.ntmps45
  go_wp2
  go_loopg [] c (fun k wr => k ≤ c ∧ NumF wr g f k m ∧ Hid (tc f k = tc f c) ∧ Kp [g] w wr)
  case atStart => exact ⟨Nat.le_refl _, hN, rfl, Kp.refl _ _⟩
  case round =>
    obtain ⟨hk, hn, ht, hkp⟩ := hrel
    have hcnt := hn.cnt
    have hfr := hn.free 229
    have hfm := hn.free 230
    have hsg := hn.sgn
    cases gk with
    | zero =>
      go_wp2
      go_quiet (fail)
      go_wp2
      go_end0
      have e : tc f c = 0 := ht.out.symm
      exact ⟨rfl, by rw [e]; simpa using (hn.drewN nq).setM false, (hkp.drewN nq).setCell (.inl (by simp)) _⟩
    | succ j =>
      have hw := hn.word (i := j) (by omega)
      have hlo : (0 : Int) ≤ (j : Int) := by omega
      have hhi : (j : Int) < 229 := by omega
      rw [Int.natCast_succ] at hcnt
      go_wp2
      by_cases hz : f j = 0
      · have hb : ((f j : Int) == 0) = true := by simp [hz]
        have hg : decide ((0 : Int) < (j : Int) + 1) = true := decide_eq_true (by omega)
        have hz' := Lib.hid hz; clear hz
        go_quiet (fail)
        go_wp2
        go_roundg j
        case measure => omega
        case rel =>
          exact ⟨by omega, (hn.drewN nq).setC j, by rw [← ht.out]; show _ = if f j = 0 then _ else _; rw [if_pos hz'.out], (hkp.drewN nq).setCell (.inl (by simp)) _⟩
      · have hb : ((f j : Int) == 0) = false := by simp [hz]
        have hg : decide ((0 : Int) < (j : Int) + 1) = true := decide_eq_true (by omega)
        have hc0 : ((j : Int) + 1 == 0) = false := beq_eq_false_iff_ne.2 (by omega)
        have hz' := Lib.hid hz; clear hz
        go_quiet (fail)
        go_wp2
        go_end0
        have e : tc f c = j + 1 := by rw [← ht.out]; show (if f j = 0 then _ else _) = _; rw [if_neg hz'.out]
        exact ⟨rfl, by rw [e]; simpa using hn.drewN nq, hkp.drewN nq⟩
end Go.Proofs.YtobfboemgelmoaaDoor

/- What the walks over long numbers have in common: what trim makes of words; small lemmas. No program is named here but the walk of trim. -/
namespace Go.Proofs.YtobfboemgelmoaaDoor
open Go.RowKit

theorem tc_wd {X : Nat} : ∀ c : Nat, X < B9 ^ c → tc (wd X) c = nw X
  | 0, h => by have : X = 0 := by simpa using h
               subst this; rw [nw_zero]; rfl
  | c + 1, h => by
    show (if wd X c = 0 then tc (wd X) c else c + 1) = nw X
    have hd := div_step X c
    rw [Nat.div_eq_of_lt h, Nat.zero_mul, Nat.zero_add] at hd
    by_cases h0 : wd X c = 0
    · rw [if_pos h0]
      refine tc_wd c ?_
      rw [h0] at hd
      exact Nat.lt_of_not_le fun hle => by have := (Nat.one_le_div_iff (B9p_pos c)).2 hle; omega
    · rw [if_neg h0]
      have h1 : B9 ^ c ≤ X := by
        rcases Nat.lt_or_ge X (B9 ^ c) with hlt | hge
        · rw [Nat.div_eq_of_lt hlt] at hd; exact absurd hd.symm h0
        · exact hge
      exact (nw_eq h1 h).symm
theorem tc_congr {f f' : Nat → Nat} : ∀ c : Nat, (∀ i, i < c → f i = f' i) → tc f c = tc f' c
  | 0, _ => rfl
  | c + 1, h => by
    show (if f c = 0 then tc f c else c + 1) = (if f' c = 0 then tc f' c else c + 1)
    rw [h c (by omega), tc_congr c fun i hi => h i (by omega)]
/-- words of F below k, of G from k on -/
def mix (F G : Nat → Nat) (k : Nat) : Nat → Nat := fun i => if i < k then F i else G i
theorem mix_zero (F G : Nat → Nat) : mix F G 0 = G := by funext i; simp [mix]
theorem mix_ge (F G : Nat → Nat) {k i : Nat} (h : k ≤ i) : mix F G k i = G i := by unfold mix; rw [if_neg (by omega)]
theorem mix_lt (F G : Nat → Nat) {k i : Nat} (h : i < k) : mix F G k i = F i := by unfold mix; rw [if_pos h]
theorem mix_set (F G : Nat → Nat) (k : Nat) : upd (mix F G k) k (F k) = mix F G (k + 1) := by
  funext i
  unfold upd
  by_cases h1 : i = k
  · subst h1; rw [if_pos rfl, mix_lt F G (by omega)]
  · rw [if_neg h1]
    by_cases h2 : i < k
    · rw [mix_lt F G h2, mix_lt F G (by omega)]
    · rw [mix_ge F G (by omega), mix_ge F G (by omega)]
/-- words of F from k on (downwards), of G below -/
theorem mix_down (F G : Nat → Nat) (k : Nat) : upd (mix G F (k + 1)) k (F k) = mix G F k := by
  funext i
  unfold upd
  by_cases h1 : i = k
  · subst h1; rw [if_pos rfl, mix_ge G F (by omega)]
  · rw [if_neg h1]
    by_cases h2 : i < k
    · rw [mix_lt G F h2, mix_lt G F (by omega)]
    · rw [mix_ge G F (by omega), mix_ge G F (by omega)]
theorem nw_eq_zero {A : Nat} (h : nw A = 0) : A = 0 := by
  have := lt_pow_nw A; rw [h] at this; simpa using this
theorem nw_ne {A : Nat} (h : A ≠ 0) : nw A ≠ 0 := fun e => h (nw_eq_zero e)
theorem nw_229 {A : Nat} (h : A < B9 ^ 229) : nw A ≤ 229 := nw_le h
theorem val_i {k : IntKind} {a b : Int} (h : a = b) : Value.int k a = Value.int k b := by rw [h]
theorem NumF.setW' {w : World} {g c i : Nat} {f : Nat → Nat} {m : Bool} (h : NumF w g f c m) (hi : i < 229) {x : Nat} {y : Int} (e : y = (x : Int)) : NumF (w.setCell ⟨g, i, none⟩ (.int .u32 y)) g (upd f i x) c m := by
  rw [e]; exact h.setW hi x
theorem NumF.setC' {w : World} {g c : Nat} {f : Nat → Nat} {m : Bool} (h : NumF w g f c m) {x : Nat} {y : Int} (e : y = (x : Int)) : NumF (w.setCell ⟨g, 229, none⟩ (.int .i64 y)) g f x m := by
  rw [e]; exact h.setC x

/-- trim, where the words below the count are those of a number -/
theorem trim_num (g c X : Nat) (f : Nat → Nat) (m : Bool) (w : World) (hN : NumF w g f c m) (hc : c ≤ 229) (hX : X < B9 ^ c) (hf : ∀ i, i < 229 → f i = wd X i) :
    Calls Tryd.prog 45 #[.pointer (some ⟨g, 0, none⟩)] w fun e w' => e = .returned (.tuple #[]) ∧ Num w' g X (m && decide (X ≠ 0)) ∧ Kp [g] w w' := by
  refine (trim_any g c f m w hN hc).mono ?_
  rintro e w' ⟨he, hn, hk⟩
  rw [tc_congr c (f' := wd X) fun i hi => hf i (by omega), tc_wd c hX] at hn
  have e1 : decide (nw X ≠ 0) = decide (X ≠ 0) := by
    by_cases h0 : X = 0
    · subst h0; rw [nw_zero]
    · simp [h0, nw_ne h0]
  rw [e1] at hn
  exact ⟨he, ⟨hn.congr hf, Nat.lt_of_lt_of_le hX (pow_le hc)⟩, hk⟩
end Go.Proofs.YtobfboemgelmoaaDoor

/- Slices of the words of a long number. -/
namespace Go.Proofs.YtobfboemgelmoaaDoor
open Go.RowKit

theorem elem_size (w : World) : (sizeOf 52).run Tryd.prog w = .ok 1 w := by kernel_rfl
theorem sl_high (g h : Nat) (hh : h ≤ 229) (w : World) :
    (Instr.sliceAt 53 (.pointer (some ⟨g, 0, none⟩)) none (some (.int .i64 (h : Int))) none).run Tryd.prog w = .ok (.slice (some ⟨g, 0, none⟩) h 229) w := by
  have h2 : (0 : Int) ≤ (h : Int) ∧ (h : Int) ≤ (229 : Nat) := by omega
  simp [Instr.sliceAt, run_underlying Tryd.underlying53, Instr.sliceBounds, Instr.sliceBound, asIntOf, elem_size, go_sem, h2]
  intro h3; omega
theorem sl_all (g : Nat) (w : World) :
    (Instr.sliceAt 53 (.pointer (some ⟨g, 0, none⟩)) none none none).run Tryd.prog w = .ok (.slice (some ⟨g, 0, none⟩) 229 229) w := by
  simp [Instr.sliceAt, run_underlying Tryd.underlying53, Instr.sliceBounds, elem_size, go_sem]
end Go.Proofs.YtobfboemgelmoaaDoor
