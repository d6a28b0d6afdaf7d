/- Texts Qf3, Qf4, Qf5: each says in its own first comment what it proves. -/
import Derived.Test.YtlimjohnimgnhaaGreatDoorM11
import Derived.Test.YtlimjohnimgnhaaGreatDoorM30
/- Features: the error of Check, and the reference's contract. -/
namespace Go.Proofs.YtlimjohnimgnhaaGreatDoor
open Go.RowKit

theorem fst_e {e : Int} (h : e ≠ 0) (l : List Int) : firstE (e :: l) = e := if_neg h
theorem fst_0 (l : List Int) : firstE (0 :: l) = firstE l := if_pos rfl
theorem fE_t (e : Int) : fE true e = e := if_pos rfl
theorem fE_f (e : Int) : fE false e = 0 := if_neg (by decide)
def axE (a : Int) : Int := fE (decide (a < 0) || decide (3 ≤ a)) 1
def plE (x y z : Int) : Int := fE (!(inR x && inR y && inR z)) 2
def szE (k lo hi : Int) : Int := if k = 0 then firstE [fE (!((lo == 0) && (hi == 0))) 3] else firstE [firstE [lmE lo hi], fE (decide (lo < 1)) 2]
/-- the error of a feature -/
def ftE (n : ByteArray) (k a x y z lo hi : Int) : Int := firstE [firstE [nmE n], fE (decide (k < 0) || decide (5 ≤ k)) 1, firstE [axE a], fE ((k == 4) && (a != 0)) 3, firstE [plE x y z], szE k lo hi]
theorem rfCheck (n : ByteArray) (k a x y z lo hi : Int) (fr : Value) (hn : n.size ≤ 1000000) : Ca 45 #[.agg #[.string n, .int .i64 k, .int .i64 a, .int .i64 x, .int .i64 y, .int .i64 z, .int .i64 lo, .int .i64 hi, fr]] (.int .i64 (ftE n k a x y z lo hi)) := Lib.hid fun w => by
  have q1 := rName n hn
  unfold ftE
  by_cases e1 : nmE n = 0
  · rw [e1] at q1
    rw [e1, firstE_one, fst_0]
    by_cases h1 : k < 0
    · rw [decide_eq_true h1, Bool.true_or, fE_t, fst_e (by decide)]; exact rfCheck_2a n k a x y z lo hi fr h1 q1 w
    by_cases h2 : 5 ≤ k
    · rw [decide_eq_true h2, Bool.or_true, fE_t, fst_e (by decide)]; exact rfCheck_2b n k a x y z lo hi fr h1 h2 q1 w
    rw [decide_eq_false h1, decide_eq_false h2, Bool.or_false, fE_f, fst_0, firstE_one]
    unfold axE
    by_cases h3 : a < 0
    · rw [decide_eq_true h3, Bool.true_or, fE_t, fst_e (by decide)]; exact rfCheck_2c n k a x y z lo hi fr h1 h2 h3 q1 w
    by_cases h4 : 3 ≤ a
    · rw [decide_eq_true h4, Bool.or_true, fE_t, fst_e (by decide)]; exact rfCheck_2d n k a x y z lo hi fr h1 h2 h3 h4 q1 w
    rw [decide_eq_false h3, decide_eq_false h4, Bool.or_false, fE_f, fst_0]
    have q2 := rIn x
    have q3 := rIn y
    have q4 := rIn z
    have q5 := rCheck lo hi
    unfold plE szE
    rcases Bool.eq_false_or_eq_true (k == 4) with k4 | k4
    · have k0 : (k == 0) = false := by
        have : k = 4 := by simpa using k4
        subst this; rfl
      have k0' : ¬ k = 0 := by simpa using k0
      rcases Bool.eq_false_or_eq_true (a != 0) with ha | ha
      · rw [k4, ha, Bool.and_true, fE_t, fst_e (by decide)]; exact rfCheck_3 n k a x y z lo hi fr h1 h2 h3 h4 k4 ha q1 w
      rw [k4, ha, Bool.and_false, fE_f, fst_0, firstE_one, if_neg k0']
      rcases Bool.eq_false_or_eq_true (inR x) with ix | ix <;> rw [ix] at q2
      rotate_left
      · rw [ix, Bool.false_and, Bool.false_and, Bool.not_false, fE_t, fst_e (by decide)]; exact rfCheck_4xb n k a x y z lo hi fr h1 h2 h3 h4 k4 ha q1 q2 w
      rcases Bool.eq_false_or_eq_true (inR y) with iy | iy <;> rw [iy] at q3
      rotate_left
      · rw [ix, iy, Bool.and_false, Bool.false_and, Bool.not_false, fE_t, fst_e (by decide)]; exact rfCheck_4yb n k a x y z lo hi fr h1 h2 h3 h4 k4 ha q1 q2 q3 w
      rcases Bool.eq_false_or_eq_true (inR z) with iz | iz <;> rw [iz] at q4
      rotate_left
      · rw [ix, iy, iz, Bool.and_false, Bool.not_false, fE_t, fst_e (by decide)]; exact rfCheck_4zb n k a x y z lo hi fr h1 h2 h3 h4 k4 ha q1 q2 q3 q4 w
      rw [ix, iy, iz, Bool.and_true, Bool.and_true, Bool.not_true, fE_f, fst_0, firstE_one]
      by_cases e5 : lmE lo hi = 0
      · rw [e5] at q5
        rw [e5, firstE_one, fst_0, firstE_one]
        by_cases hl : lo < 1
        · rw [decide_eq_true hl, fE_t]; exact rfCheck_6bb n k a x y z lo hi fr h1 h2 h3 h4 k4 ha q1 q2 q3 q4 k0 hl q5 w
        · rw [decide_eq_false hl, fE_f]; exact rfCheck_6cb n k a x y z lo hi fr h1 h2 h3 h4 k4 ha q1 q2 q3 q4 k0 hl q5 w
      · rw [firstE_one, fst_e e5]; exact rfCheck_6ab n k a x y z lo hi fr _ (ne_b e5) h1 h2 h3 h4 k4 ha q1 q2 q3 q4 k0 q5 w
    · rw [k4, Bool.false_and, fE_f, fst_0, firstE_one]
      rcases Bool.eq_false_or_eq_true (inR x) with ix | ix <;> rw [ix] at q2
      rotate_left
      · rw [ix, Bool.false_and, Bool.false_and, Bool.not_false, fE_t, fst_e (by decide)]; exact rfCheck_4xp n k a x y z lo hi fr h1 h2 h3 h4 k4 q1 q2 w
      rcases Bool.eq_false_or_eq_true (inR y) with iy | iy <;> rw [iy] at q3
      rotate_left
      · rw [ix, iy, Bool.and_false, Bool.false_and, Bool.not_false, fE_t, fst_e (by decide)]; exact rfCheck_4yp n k a x y z lo hi fr h1 h2 h3 h4 k4 q1 q2 q3 w
      rcases Bool.eq_false_or_eq_true (inR z) with iz | iz <;> rw [iz] at q4
      rotate_left
      · rw [ix, iy, iz, Bool.and_false, Bool.not_false, fE_t, fst_e (by decide)]; exact rfCheck_4zp n k a x y z lo hi fr h1 h2 h3 h4 k4 q1 q2 q3 q4 w
      rw [ix, iy, iz, Bool.and_true, Bool.and_true, Bool.not_true, fE_f, fst_0, firstE_one]
      by_cases k0 : k = 0
      · rw [if_pos k0, firstE_one]
        have k0b : (k == 0) = true := by simp [k0]
        rcases Bool.eq_false_or_eq_true (lo == 0) with hl | hl
        · rcases Bool.eq_false_or_eq_true (hi == 0) with hh | hh
          · rw [hl, hh, Bool.and_true, Bool.not_true, fE_f]; exact rfCheck_5c n k a x y z lo hi fr h1 h2 h3 h4 k4 q1 q2 q3 q4 k0b hl hh w
          · rw [hl, hh, Bool.and_false, Bool.not_false, fE_t]; exact rfCheck_5b n k a x y z lo hi fr h1 h2 h3 h4 k4 q1 q2 q3 q4 k0b hl hh w
        · rw [hl, Bool.false_and, Bool.not_false, fE_t]; exact rfCheck_5a n k a x y z lo hi fr h1 h2 h3 h4 k4 q1 q2 q3 q4 k0b hl w
      · rw [if_neg k0]
        have k0b : (k == 0) = false := by simp [k0]
        by_cases e5 : lmE lo hi = 0
        · rw [e5] at q5
          rw [e5, firstE_one, fst_0, firstE_one]
          by_cases hl : lo < 1
          · rw [decide_eq_true hl, fE_t]; exact rfCheck_6bp n k a x y z lo hi fr h1 h2 h3 h4 k4 q1 q2 q3 q4 k0b hl q5 w
          · rw [decide_eq_false hl, fE_f]; exact rfCheck_6cp n k a x y z lo hi fr h1 h2 h3 h4 k4 q1 q2 q3 q4 k0b hl q5 w
        · rw [firstE_one, fst_e e5]; exact rfCheck_6ap n k a x y z lo hi fr _ (ne_b e5) h1 h2 h3 h4 k4 q1 q2 q3 q4 k0b q5 w
  · rw [firstE_one, fst_e e1]; exact rfCheck_1 n k a x y z lo hi fr _ (ne_b e1) q1 w
end Go.Proofs.YtlimjohnimgnhaaGreatDoor

/- Features: the reference's Inner, Maximum, Least. -/
namespace Go.Proofs.YtlimjohnimgnhaaGreatDoor
open Go.RowKit

/-- inner features: holes and slots -/
def holB (k : Int) : Bool := (k == 1) || (k == 3)
def szdE (e k : Int) : Int := if e = 0 then (if k = 0 then 14 else 0) else e
end Go.Proofs.YtlimjohnimgnhaaGreatDoor

/- Features: the reference's Coordinates, Along, Bounded, given, Reach. -/
namespace Go.Proofs.YtlimjohnimgnhaaGreatDoor
open Go.RowKit






















/-- half of the greatest size, rounded up -/
def hf (hi : Int) : Int := (hi + 1) / 2

































































































































































































































































































end Go.Proofs.YtlimjohnimgnhaaGreatDoor
