/- Texts Of1, Qf3, Qf4, Qf5: each says in its own first comment what it proves. -/
import Derived.Test.YtlimjohnimgnhaaGreatDoorM33
import Derived.Test.YtlimjohnimgnhaaGreatDoorM30
/- The reference of package dimension: limits. -/
namespace Go.Proofs.YtlimjohnimgnhaaGreatDoor
open Go.RowKit

theorem lmE_eq (l h : Int) : lmE l h = if inR l = true ∧ inR h = true then (if h < l then 9 else 0) else 2 := by
  unfold lmE inAll
  simp only [List.all_cons, List.all_nil, Bool.and_true]
  cases inR l <;> cases inR h <;> by_cases e : h < l <;> simp [firstE, e]
theorem inR_f1 {z : Int} (h : z < -100000) : inR z = false := by unfold inR; rw [decide_eq_false (by omega)]; rfl
theorem inR_f2 {z : Int} (h : 100000 < z) : inR z = false := by unfold inR; rw [decide_eq_false (show ¬ z ≤ 100000 by omega), Bool.and_false]
theorem inR_t {z : Int} (h : -100000 ≤ z) (h2 : z ≤ 100000) : inR z = true := by unfold inR; rw [decide_eq_true h, decide_eq_true h2]; rfl
set_option maxRecDepth 100000 in
set_option maxHeartbeats 1000000 in
theorem rIn (z : Int) : Ca 89 #[.int .i64 z] (.bool (inR z)) := Lib.hid fun w => by
  by_cases h1 : z < -100000
  · rw [inR_f1 h1]
    go_enter Tryz.func89, Tryz.ntmps89
    go_wp2
    go_ret
    exact ⟨rfl, Kb.refl _⟩
  · by_cases h2 : 100000 < z
    · rw [inR_f2 h2]
      go_enter Tryz.func89, Tryz.ntmps89
      have hd : decide (z ≤ 100000) = false := decide_eq_false (by omega)
      go_wp2
      go_ret
      exact ⟨rfl, Kb.refl _⟩
    · rw [inR_t (by omega) (by omega)]
      go_enter Tryz.func89, Tryz.ntmps89
      have hd : decide (z ≤ 100000) = true := decide_eq_true (by omega)
      go_wp2
      go_ret
      exact ⟨rfl, Kb.refl _⟩

set_option maxRecDepth 100000 in
set_option maxHeartbeats 1000000 in
theorem rCheck_1 (l h : Int) (q1 : Ca 89 #[.int .i64 l] (.bool false)) (w : World) : Calls Tryz.prog 90 #[.agg #[.int .i64 l, .int .i64 h]] w fun r W' => r = .returned (.int .i64 2) ∧ Kb w W' := by
  have kx := Kb.refl w
  unfold Ca at *
  have b0 := Is.made w #[.int .i64 l, .int .i64 h] 25
  replace kx := kx.alloc (.cells #[.int .i64 l, .int .i64 h] 25 (0, 0))
  have b0_0 := b0.c (i := 0) rfl
  have b0_1 := b0.c (i := 1) rfl
  go_enter Tryz.func90, Tryz.ntmps90
  go_wp2_with fail
  (with_reducible refine (q1.out _).mono ?_)
  rintro r w1 ⟨rfl, k1⟩
  clear b0_0 b0_1
  replace b0 := b0.kb k1
  replace kx := kx.trans k1
  clear k1
  have b0_0 := b0.c (i := 0) rfl
  have b0_1 := b0.c (i := 1) rfl
  go_wp2
  go_ret
  exact ⟨rfl, kx⟩
set_option maxRecDepth 100000 in
set_option maxHeartbeats 1000000 in
theorem rCheck_2 (l h : Int) (q1 : Ca 89 #[.int .i64 l] (.bool true)) (q2 : Ca 89 #[.int .i64 h] (.bool false)) (w : World) : Calls Tryz.prog 90 #[.agg #[.int .i64 l, .int .i64 h]] w fun r W' => r = .returned (.int .i64 2) ∧ Kb w W' := by
  have kx := Kb.refl w
  unfold Ca at *
  have b0 := Is.made w #[.int .i64 l, .int .i64 h] 25
  replace kx := kx.alloc (.cells #[.int .i64 l, .int .i64 h] 25 (0, 0))
  have b0_0 := b0.c (i := 0) rfl
  have b0_1 := b0.c (i := 1) rfl
  go_enter Tryz.func90, Tryz.ntmps90
  go_wp2_with fail
  (with_reducible refine (q1.out _).mono ?_)
  rintro r w1 ⟨rfl, k1⟩
  clear b0_0 b0_1
  replace b0 := b0.kb k1
  replace kx := kx.trans k1
  clear k1
  have b0_0 := b0.c (i := 0) rfl
  have b0_1 := b0.c (i := 1) rfl
  go_wp2_with fail
  (with_reducible refine (q2.out _).mono ?_)
  rintro r w2 ⟨rfl, k2⟩
  clear b0_0 b0_1
  replace b0 := b0.kb k2
  replace kx := kx.trans k2
  clear k2
  have b0_0 := b0.c (i := 0) rfl
  have b0_1 := b0.c (i := 1) rfl
  go_wp2
  go_ret
  exact ⟨rfl, kx⟩
set_option maxRecDepth 100000 in
set_option maxHeartbeats 1000000 in
theorem rCheck_3 (l h : Int) (ho : h < l) (q1 : Ca 89 #[.int .i64 l] (.bool true)) (q2 : Ca 89 #[.int .i64 h] (.bool true)) (w : World) : Calls Tryz.prog 90 #[.agg #[.int .i64 l, .int .i64 h]] w fun r W' => r = .returned (.int .i64 9) ∧ Kb w W' := by
  have kx := Kb.refl w
  unfold Ca at *
  have b0 := Is.made w #[.int .i64 l, .int .i64 h] 25
  replace kx := kx.alloc (.cells #[.int .i64 l, .int .i64 h] 25 (0, 0))
  have b0_0 := b0.c (i := 0) rfl
  have b0_1 := b0.c (i := 1) rfl
  go_enter Tryz.func90, Tryz.ntmps90
  go_wp2_with fail
  (with_reducible refine (q1.out _).mono ?_)
  rintro r w1 ⟨rfl, k1⟩
  clear b0_0 b0_1
  replace b0 := b0.kb k1
  replace kx := kx.trans k1
  clear k1
  have b0_0 := b0.c (i := 0) rfl
  have b0_1 := b0.c (i := 1) rfl
  go_wp2_with fail
  (with_reducible refine (q2.out _).mono ?_)
  rintro r w2 ⟨rfl, k2⟩
  clear b0_0 b0_1
  replace b0 := b0.kb k2
  replace kx := kx.trans k2
  clear k2
  have b0_0 := b0.c (i := 0) rfl
  have b0_1 := b0.c (i := 1) rfl
  go_wp2
  go_ret
  exact ⟨rfl, kx⟩
set_option maxRecDepth 100000 in
set_option maxHeartbeats 1000000 in
theorem rCheck_4 (l h : Int) (ho : ¬ h < l) (q1 : Ca 89 #[.int .i64 l] (.bool true)) (q2 : Ca 89 #[.int .i64 h] (.bool true)) (w : World) : Calls Tryz.prog 90 #[.agg #[.int .i64 l, .int .i64 h]] w fun r W' => r = .returned (.int .i64 0) ∧ Kb w W' := by
  have kx := Kb.refl w
  unfold Ca at *
  have b0 := Is.made w #[.int .i64 l, .int .i64 h] 25
  replace kx := kx.alloc (.cells #[.int .i64 l, .int .i64 h] 25 (0, 0))
  have b0_0 := b0.c (i := 0) rfl
  have b0_1 := b0.c (i := 1) rfl
  go_enter Tryz.func90, Tryz.ntmps90
  go_wp2_with fail
  (with_reducible refine (q1.out _).mono ?_)
  rintro r w1 ⟨rfl, k1⟩
  clear b0_0 b0_1
  replace b0 := b0.kb k1
  replace kx := kx.trans k1
  clear k1
  have b0_0 := b0.c (i := 0) rfl
  have b0_1 := b0.c (i := 1) rfl
  go_wp2_with fail
  (with_reducible refine (q2.out _).mono ?_)
  rintro r w2 ⟨rfl, k2⟩
  clear b0_0 b0_1
  replace b0 := b0.kb k2
  replace kx := kx.trans k2
  clear k2
  have b0_0 := b0.c (i := 0) rfl
  have b0_1 := b0.c (i := 1) rfl
  go_wp2
  go_ret
  exact ⟨rfl, kx⟩
theorem rCheck (l h : Int) : Ca 90 #[.agg #[.int .i64 l, .int .i64 h]] (.int .i64 (lmE l h)) := Lib.hid fun w => by
  have q1 := rIn l
  have q2 := rIn h
  rw [lmE_eq]
  rcases Bool.eq_false_or_eq_true (inR l) with e1 | e1
  · rcases Bool.eq_false_or_eq_true (inR h) with e2 | e2
    · rw [if_pos ⟨e1, e2⟩]
      rw [e1] at q1
      rw [e2] at q2
      by_cases ho : h < l
      · rw [if_pos ho]; exact rCheck_3 l h ho q1 q2 w
      · rw [if_neg ho]; exact rCheck_4 l h ho q1 q2 w
    · rw [if_neg (fun x => by rw [e2] at x; cases x.2)]
      rw [e1] at q1
      rw [e2] at q2
      exact rCheck_2 l h q1 q2 w
  · rw [if_neg (fun x => by rw [e1] at x; cases x.1)]
    rw [e1] at q1
    exact rCheck_1 l h q1 w












































































theorem ne_b {e : Int} (h : e ≠ 0) : (e != 0) = true := by simpa using h
theorem zI_e {e : Int} (h : e ≠ 0) (z : Int) : zI e z = 0 := if_neg h
end Go.Proofs.YtlimjohnimgnhaaGreatDoor

/- Features: the error of Check, and the reference's contract. -/
namespace Go.Proofs.YtlimjohnimgnhaaGreatDoor
open Go.RowKit

theorem fst_e {e : Int} (h : e ≠ 0) (l : List Int) : firstE (e :: l) = e := if_neg h
theorem fst_0 (l : List Int) : firstE (0 :: l) = firstE l := if_pos rfl
theorem fE_t (e : Int) : fE true e = e := if_pos rfl
theorem fE_f (e : Int) : fE false e = 0 := if_neg (by decide)
def axE (a : Int) : Int := fE (decide (a < 0) || decide (3 ≤ a)) 1
def plE (x y z : Int) : Int := fE (!(inR x && inR y && inR z)) 2
def szE (k lo hi : Int) : Int := if k = 0 then firstE [fE (!((lo == 0) && (hi == 0))) 3] else firstE [firstE [lmE lo hi], fE (decide (lo < 1)) 2]
/-- the error of a feature -/
def ftE (n : ByteArray) (k a x y z lo hi : Int) : Int := firstE [firstE [nmE n], fE (decide (k < 0) || decide (5 ≤ k)) 1, firstE [axE a], fE ((k == 4) && (a != 0)) 3, firstE [plE x y z], szE k lo hi]
theorem rfCheck (n : ByteArray) (k a x y z lo hi : Int) (fr : Value) (hn : n.size ≤ 1000000) : Ca 45 #[.agg #[.string n, .int .i64 k, .int .i64 a, .int .i64 x, .int .i64 y, .int .i64 z, .int .i64 lo, .int .i64 hi, fr]] (.int .i64 (ftE n k a x y z lo hi)) := Lib.hid fun w => by
  have q1 := rName n hn
  unfold ftE
  by_cases e1 : nmE n = 0
  · rw [e1] at q1
    rw [e1, firstE_one, fst_0]
    by_cases h1 : k < 0
    · rw [decide_eq_true h1, Bool.true_or, fE_t, fst_e (by decide)]; exact rfCheck_2a n k a x y z lo hi fr h1 q1 w
    by_cases h2 : 5 ≤ k
    · rw [decide_eq_true h2, Bool.or_true, fE_t, fst_e (by decide)]; exact rfCheck_2b n k a x y z lo hi fr h1 h2 q1 w
    rw [decide_eq_false h1, decide_eq_false h2, Bool.or_false, fE_f, fst_0, firstE_one]
    unfold axE
    by_cases h3 : a < 0
    · rw [decide_eq_true h3, Bool.true_or, fE_t, fst_e (by decide)]; exact rfCheck_2c n k a x y z lo hi fr h1 h2 h3 q1 w
    by_cases h4 : 3 ≤ a
    · rw [decide_eq_true h4, Bool.or_true, fE_t, fst_e (by decide)]; exact rfCheck_2d n k a x y z lo hi fr h1 h2 h3 h4 q1 w
    rw [decide_eq_false h3, decide_eq_false h4, Bool.or_false, fE_f, fst_0]
    have q2 := rIn x
    have q3 := rIn y
    have q4 := rIn z
    have q5 := rCheck lo hi
    unfold plE szE
    rcases Bool.eq_false_or_eq_true (k == 4) with k4 | k4
    · have k0 : (k == 0) = false := by
        have : k = 4 := by simpa using k4
        subst this; rfl
      have k0' : ¬ k = 0 := by simpa using k0
      rcases Bool.eq_false_or_eq_true (a != 0) with ha | ha
      · rw [k4, ha, Bool.and_true, fE_t, fst_e (by decide)]; exact rfCheck_3 n k a x y z lo hi fr h1 h2 h3 h4 k4 ha q1 w
      rw [k4, ha, Bool.and_false, fE_f, fst_0, firstE_one, if_neg k0']
      rcases Bool.eq_false_or_eq_true (inR x) with ix | ix <;> rw [ix] at q2
      rotate_left
      · rw [ix, Bool.false_and, Bool.false_and, Bool.not_false, fE_t, fst_e (by decide)]; exact rfCheck_4xb n k a x y z lo hi fr h1 h2 h3 h4 k4 ha q1 q2 w
      rcases Bool.eq_false_or_eq_true (inR y) with iy | iy <;> rw [iy] at q3
      rotate_left
      · rw [ix, iy, Bool.and_false, Bool.false_and, Bool.not_false, fE_t, fst_e (by decide)]; exact rfCheck_4yb n k a x y z lo hi fr h1 h2 h3 h4 k4 ha q1 q2 q3 w
      rcases Bool.eq_false_or_eq_true (inR z) with iz | iz <;> rw [iz] at q4
      rotate_left
      · rw [ix, iy, iz, Bool.and_false, Bool.not_false, fE_t, fst_e (by decide)]; exact rfCheck_4zb n k a x y z lo hi fr h1 h2 h3 h4 k4 ha q1 q2 q3 q4 w
      rw [ix, iy, iz, Bool.and_true, Bool.and_true, Bool.not_true, fE_f, fst_0, firstE_one]
      by_cases e5 : lmE lo hi = 0
      · rw [e5] at q5
        rw [e5, firstE_one, fst_0, firstE_one]
        by_cases hl : lo < 1
        · rw [decide_eq_true hl, fE_t]; exact rfCheck_6bb n k a x y z lo hi fr h1 h2 h3 h4 k4 ha q1 q2 q3 q4 k0 hl q5 w
        · rw [decide_eq_false hl, fE_f]; exact rfCheck_6cb n k a x y z lo hi fr h1 h2 h3 h4 k4 ha q1 q2 q3 q4 k0 hl q5 w
      · rw [firstE_one, fst_e e5]; exact rfCheck_6ab n k a x y z lo hi fr _ (ne_b e5) h1 h2 h3 h4 k4 ha q1 q2 q3 q4 k0 q5 w
    · rw [k4, Bool.false_and, fE_f, fst_0, firstE_one]
      rcases Bool.eq_false_or_eq_true (inR x) with ix | ix <;> rw [ix] at q2
      rotate_left
      · rw [ix, Bool.false_and, Bool.false_and, Bool.not_false, fE_t, fst_e (by decide)]; exact rfCheck_4xp n k a x y z lo hi fr h1 h2 h3 h4 k4 q1 q2 w
      rcases Bool.eq_false_or_eq_true (inR y) with iy | iy <;> rw [iy] at q3
      rotate_left
      · rw [ix, iy, Bool.and_false, Bool.false_and, Bool.not_false, fE_t, fst_e (by decide)]; exact rfCheck_4yp n k a x y z lo hi fr h1 h2 h3 h4 k4 q1 q2 q3 w
      rcases Bool.eq_false_or_eq_true (inR z) with iz | iz <;> rw [iz] at q4
      rotate_left
      · rw [ix, iy, iz, Bool.and_false, Bool.not_false, fE_t, fst_e (by decide)]; exact rfCheck_4zp n k a x y z lo hi fr h1 h2 h3 h4 k4 q1 q2 q3 q4 w
      rw [ix, iy, iz, Bool.and_true, Bool.and_true, Bool.not_true, fE_f, fst_0, firstE_one]
      by_cases k0 : k = 0
      · rw [if_pos k0, firstE_one]
        have k0b : (k == 0) = true := by simp [k0]
        rcases Bool.eq_false_or_eq_true (lo == 0) with hl | hl
        · rcases Bool.eq_false_or_eq_true (hi == 0) with hh | hh
          · rw [hl, hh, Bool.and_true, Bool.not_true, fE_f]; exact rfCheck_5c n k a x y z lo hi fr h1 h2 h3 h4 k4 q1 q2 q3 q4 k0b hl hh w
          · rw [hl, hh, Bool.and_false, Bool.not_false, fE_t]; exact rfCheck_5b n k a x y z lo hi fr h1 h2 h3 h4 k4 q1 q2 q3 q4 k0b hl hh w
        · rw [hl, Bool.false_and, Bool.not_false, fE_t]; exact rfCheck_5a n k a x y z lo hi fr h1 h2 h3 h4 k4 q1 q2 q3 q4 k0b hl w
      · rw [if_neg k0]
        have k0b : (k == 0) = false := by simp [k0]
        by_cases e5 : lmE lo hi = 0
        · rw [e5] at q5
          rw [e5, firstE_one, fst_0, firstE_one]
          by_cases hl : lo < 1
          · rw [decide_eq_true hl, fE_t]; exact rfCheck_6bp n k a x y z lo hi fr h1 h2 h3 h4 k4 q1 q2 q3 q4 k0b hl q5 w
          · rw [decide_eq_false hl, fE_f]; exact rfCheck_6cp n k a x y z lo hi fr h1 h2 h3 h4 k4 q1 q2 q3 q4 k0b hl q5 w
        · rw [firstE_one, fst_e e5]; exact rfCheck_6ap n k a x y z lo hi fr _ (ne_b e5) h1 h2 h3 h4 k4 q1 q2 q3 q4 k0b q5 w
  · rw [firstE_one, fst_e e1]; exact rfCheck_1 n k a x y z lo hi fr _ (ne_b e1) q1 w
end Go.Proofs.YtlimjohnimgnhaaGreatDoor

/- Features: the reference's Inner, Maximum, Least. -/
namespace Go.Proofs.YtlimjohnimgnhaaGreatDoor
open Go.RowKit

/-- inner features: holes and slots -/
def holB (k : Int) : Bool := (k == 1) || (k == 3)
def szdE (e k : Int) : Int := if e = 0 then (if k = 0 then 14 else 0) else e
end Go.Proofs.YtlimjohnimgnhaaGreatDoor

/- Features: the reference's Coordinates, Along, Bounded, given, Reach. -/
namespace Go.Proofs.YtlimjohnimgnhaaGreatDoor
open Go.RowKit






















/-- half of the greatest size, rounded up -/
def hf (hi : Int) : Int := (hi + 1) / 2

































































































































































































































































































end Go.Proofs.YtlimjohnimgnhaaGreatDoor
