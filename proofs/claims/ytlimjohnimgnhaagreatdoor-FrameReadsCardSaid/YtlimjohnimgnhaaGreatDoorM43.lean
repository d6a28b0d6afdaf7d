/- Texts Qf3, Od6, Qf4, OpenK, Qf5, Qg1: each says in its own first comment what it proves. -/
import Derived.Test.YtlimjohnimgnhaaGreatDoorM31
import Derived.Test.YtlimjohnimgnhaaGreatDoorM45
import Derived.Test.YtlimjohnimgnhaaGreatDoorRows
import Derived.ProofKit
import Derived.ChangeMaps5
import Derived.Carry
import Derived.Test.YtlimjohnimgnhaaGreatDoorM14
import Derived.Test.YtlimjohnimgnhaaGreatDoorM17
import Derived.LoopN
/- Features: the error of Check, and the reference's contract. -/
namespace Go.Proofs.YtlimjohnimgnhaaGreatDoor
open Go.RowKit

theorem fst_e {e : Int} (h : e ≠ 0) (l : List Int) : firstE (e :: l) = e := if_neg h
theorem fst_0 (l : List Int) : firstE (0 :: l) = firstE l := if_pos rfl
theorem fE_t (e : Int) : fE true e = e := if_pos rfl
theorem fE_f (e : Int) : fE false e = 0 := if_neg (by decide)
def axE (a : Int) : Int := fE (decide (a < 0) || decide (3 ≤ a)) 1
def plE (x y z : Int) : Int := fE (!(inR x && inR y && inR z)) 2
def szE (k lo hi : Int) : Int := if k = 0 then firstE [fE (!((lo == 0) && (hi == 0))) 3] else firstE [firstE [lmE lo hi], fE (decide (lo < 1)) 2]
/-- the error of a feature -/
def ftE (n : ByteArray) (k a x y z lo hi : Int) : Int := firstE [firstE [nmE n], fE (decide (k < 0) || decide (5 ≤ k)) 1, firstE [axE a], fE ((k == 4) && (a != 0)) 3, firstE [plE x y z], szE k lo hi]
theorem rfCheck (n : ByteArray) (k a x y z lo hi : Int) (fr : Value) (hn : n.size ≤ 1000000) : Ca 45 #[.agg #[.string n, .int .i64 k, .int .i64 a, .int .i64 x, .int .i64 y, .int .i64 z, .int .i64 lo, .int .i64 hi, fr]] (.int .i64 (ftE n k a x y z lo hi)) := Lib.hid fun w => by
  have q1 := rName n hn
  unfold ftE
  by_cases e1 : nmE n = 0
  · rw [e1] at q1
    rw [e1, firstE_one, fst_0]
    by_cases h1 : k < 0
    · rw [decide_eq_true h1, Bool.true_or, fE_t, fst_e (by decide)]; exact rfCheck_2a n k a x y z lo hi fr h1 q1 w
    by_cases h2 : 5 ≤ k
    · rw [decide_eq_true h2, Bool.or_true, fE_t, fst_e (by decide)]; exact rfCheck_2b n k a x y z lo hi fr h1 h2 q1 w
    rw [decide_eq_false h1, decide_eq_false h2, Bool.or_false, fE_f, fst_0, firstE_one]
    unfold axE
    by_cases h3 : a < 0
    · rw [decide_eq_true h3, Bool.true_or, fE_t, fst_e (by decide)]; exact rfCheck_2c n k a x y z lo hi fr h1 h2 h3 q1 w
    by_cases h4 : 3 ≤ a
    · rw [decide_eq_true h4, Bool.or_true, fE_t, fst_e (by decide)]; exact rfCheck_2d n k a x y z lo hi fr h1 h2 h3 h4 q1 w
    rw [decide_eq_false h3, decide_eq_false h4, Bool.or_false, fE_f, fst_0]
    have q2 := rIn x
    have q3 := rIn y
    have q4 := rIn z
    have q5 := rCheck lo hi
    unfold plE szE
    rcases Bool.eq_false_or_eq_true (k == 4) with k4 | k4
    · have k0 : (k == 0) = false := by
        have : k = 4 := by simpa using k4
        subst this; rfl
      have k0' : ¬ k = 0 := by simpa using k0
      rcases Bool.eq_false_or_eq_true (a != 0) with ha | ha
      · rw [k4, ha, Bool.and_true, fE_t, fst_e (by decide)]; exact rfCheck_3 n k a x y z lo hi fr h1 h2 h3 h4 k4 ha q1 w
      rw [k4, ha, Bool.and_false, fE_f, fst_0, firstE_one, if_neg k0']
      rcases Bool.eq_false_or_eq_true (inR x) with ix | ix <;> rw [ix] at q2
      rotate_left
      · rw [ix, Bool.false_and, Bool.false_and, Bool.not_false, fE_t, fst_e (by decide)]; exact rfCheck_4xb n k a x y z lo hi fr h1 h2 h3 h4 k4 ha q1 q2 w
      rcases Bool.eq_false_or_eq_true (inR y) with iy | iy <;> rw [iy] at q3
      rotate_left
      · rw [ix, iy, Bool.and_false, Bool.false_and, Bool.not_false, fE_t, fst_e (by decide)]; exact rfCheck_4yb n k a x y z lo hi fr h1 h2 h3 h4 k4 ha q1 q2 q3 w
      rcases Bool.eq_false_or_eq_true (inR z) with iz | iz <;> rw [iz] at q4
      rotate_left
      · rw [ix, iy, iz, Bool.and_false, Bool.not_false, fE_t, fst_e (by decide)]; exact rfCheck_4zb n k a x y z lo hi fr h1 h2 h3 h4 k4 ha q1 q2 q3 q4 w
      rw [ix, iy, iz, Bool.and_true, Bool.and_true, Bool.not_true, fE_f, fst_0, firstE_one]
      by_cases e5 : lmE lo hi = 0
      · rw [e5] at q5
        rw [e5, firstE_one, fst_0, firstE_one]
        by_cases hl : lo < 1
        · rw [decide_eq_true hl, fE_t]; exact rfCheck_6bb n k a x y z lo hi fr h1 h2 h3 h4 k4 ha q1 q2 q3 q4 k0 hl q5 w
        · rw [decide_eq_false hl, fE_f]; exact rfCheck_6cb n k a x y z lo hi fr h1 h2 h3 h4 k4 ha q1 q2 q3 q4 k0 hl q5 w
      · rw [firstE_one, fst_e e5]; exact rfCheck_6ab n k a x y z lo hi fr _ (ne_b e5) h1 h2 h3 h4 k4 ha q1 q2 q3 q4 k0 q5 w
    · rw [k4, Bool.false_and, fE_f, fst_0, firstE_one]
      rcases Bool.eq_false_or_eq_true (inR x) with ix | ix <;> rw [ix] at q2
      rotate_left
      · rw [ix, Bool.false_and, Bool.false_and, Bool.not_false, fE_t, fst_e (by decide)]; exact rfCheck_4xp n k a x y z lo hi fr h1 h2 h3 h4 k4 q1 q2 w
      rcases Bool.eq_false_or_eq_true (inR y) with iy | iy <;> rw [iy] at q3
      rotate_left
      · rw [ix, iy, Bool.and_false, Bool.false_and, Bool.not_false, fE_t, fst_e (by decide)]; exact rfCheck_4yp n k a x y z lo hi fr h1 h2 h3 h4 k4 q1 q2 q3 w
      rcases Bool.eq_false_or_eq_true (inR z) with iz | iz <;> rw [iz] at q4
      rotate_left
      · rw [ix, iy, iz, Bool.and_false, Bool.not_false, fE_t, fst_e (by decide)]; exact rfCheck_4zp n k a x y z lo hi fr h1 h2 h3 h4 k4 q1 q2 q3 q4 w
      rw [ix, iy, iz, Bool.and_true, Bool.and_true, Bool.not_true, fE_f, fst_0, firstE_one]
      by_cases k0 : k = 0
      · rw [if_pos k0, firstE_one]
        have k0b : (k == 0) = true := by simp [k0]
        rcases Bool.eq_false_or_eq_true (lo == 0) with hl | hl
        · rcases Bool.eq_false_or_eq_true (hi == 0) with hh | hh
          · rw [hl, hh, Bool.and_true, Bool.not_true, fE_f]; exact rfCheck_5c n k a x y z lo hi fr h1 h2 h3 h4 k4 q1 q2 q3 q4 k0b hl hh w
          · rw [hl, hh, Bool.and_false, Bool.not_false, fE_t]; exact rfCheck_5b n k a x y z lo hi fr h1 h2 h3 h4 k4 q1 q2 q3 q4 k0b hl hh w
        · rw [hl, Bool.false_and, Bool.not_false, fE_t]; exact rfCheck_5a n k a x y z lo hi fr h1 h2 h3 h4 k4 q1 q2 q3 q4 k0b hl w
      · rw [if_neg k0]
        have k0b : (k == 0) = false := by simp [k0]
        by_cases e5 : lmE lo hi = 0
        · rw [e5] at q5
          rw [e5, firstE_one, fst_0, firstE_one]
          by_cases hl : lo < 1
          · rw [decide_eq_true hl, fE_t]; exact rfCheck_6bp n k a x y z lo hi fr h1 h2 h3 h4 k4 q1 q2 q3 q4 k0b hl q5 w
          · rw [decide_eq_false hl, fE_f]; exact rfCheck_6cp n k a x y z lo hi fr h1 h2 h3 h4 k4 q1 q2 q3 q4 k0b hl q5 w
        · rw [firstE_one, fst_e e5]; exact rfCheck_6ap n k a x y z lo hi fr _ (ne_b e5) h1 h2 h3 h4 k4 q1 q2 q3 q4 k0b q5 w
  · rw [firstE_one, fst_e e1]; exact rfCheck_1 n k a x y z lo hi fr _ (ne_b e1) q1 w
end Go.Proofs.YtlimjohnimgnhaaGreatDoor

/- The laws' examples of package dimension: awake returns true. -/
namespace Go.Proofs.YtlimjohnimgnhaaGreatDoor
open Go.RowKit

theorem Ca.out {n : Nat} {args : Array Value} {v : Value} (h : Ca n args v) (W : World) : Calls Tryz.prog n args W fun r w' => r = .returned v ∧ Kb W w' := h W






























end Go.Proofs.YtlimjohnimgnhaaGreatDoor

/- Features: the reference's Inner, Maximum, Least. -/
namespace Go.Proofs.YtlimjohnimgnhaaGreatDoor
open Go.RowKit

/-- inner features: holes and slots -/
def holB (k : Int) : Bool := (k == 1) || (k == 3)
def szdE (e k : Int) : Int := if e = 0 then (if k = 0 then 14 else 0) else e
end Go.Proofs.YtlimjohnimgnhaaGreatDoor

/- Structs and arrays of numbers, texts and booleans, opened: their cells are of these kinds. -/
namespace Go.Proofs.YtlimjohnimgnhaaGreatDoor
open Go.ChangeShapes Go.WideShapes Go.ChangeAt Go.RowKit

structure inI (z : Int) : Prop where
  lo : -9223372036854775808 ≤ z
  hi : z ≤ 9223372036854775807
structure inW (z : Int) : Prop where
  lo : 0 ≤ z
  hi : z ≤ 65535
structure inB (z : Int) : Prop where
  lo : 0 ≤ z
  hi : z ≤ 255
structure szM (s : ByteArray) : Prop where
  le : s.size ≤ 9223372036854775807
inductive Kd where
  | i64 | u16 | u8 | str | bool
end Go.Proofs.YtlimjohnimgnhaaGreatDoor

/- Features: the reference's Coordinates, Along, Bounded, given, Reach. -/
namespace Go.Proofs.YtlimjohnimgnhaaGreatDoor
open Go.RowKit






















/-- half of the greatest size, rounded up -/
def hf (hi : Int) : Int := (hi + 1) / 2

































































































































































































































































































end Go.Proofs.YtlimjohnimgnhaaGreatDoor

/- Features: the closures that read and write coordinates. -/
namespace Go.Proofs.YtlimjohnimgnhaaGreatDoor
open Go.RowKit

set_option maxRecDepth 100000 in
set_option maxHeartbeats 1000000 in
theorem cCoord0_1 (b : Nat) (w : World)  : Calls Tryz.prog 121 #[.pointer (some ⟨b, 0, none⟩)] w fun r W' => ∃ g, r = .returned (.tuple #[.func (.func 139) #[] #[.pointer (some ⟨g, 0, none⟩)], .func (.func 140) #[] #[.pointer (some ⟨g, 0, none⟩)]]) ∧ Is W' g #[.pointer (some ⟨b, 0, none⟩), .pointer (some ⟨b, 1, none⟩), .pointer (some ⟨b, 2, none⟩)] 178 ∧ w.heap.size ≤ g ∧ Kb w W' := by
  have kx := Kb.refl w
  go_enter Tryz.func121, Tryz.ntmps121
  go_wp2_with fail
  rw [oF_lit]
  refine o_law (⟨17, [some 5, some 6, some 7, some 8, some 9, some 10, some 11, some 12, some 13, some 14, some 4, none], [5, 6, 7, 8, 9, 10, 11, 12, 13, 14, 4, 4], [[], [0], [1], [], [3], [4], [], [6], [7], [2, 5, 8], [], [10, 9]], [[0], [], [], [0], [], [], [0], [], [], [], [], []]⟩ : OT) (Gn w.heap.size #[.pointer none, .pointer none, .pointer none] #[.pointer (some ⟨b, 0, none⟩), .pointer (some ⟨b, 1, none⟩), .pointer (some ⟨b, 2, none⟩)] 178) (RL [fun vv _ => vv = .pointer (some ⟨b, 0, none⟩), fun vv _ => vv = .pointer (some ⟨b, 0, none⟩), fun vv _ => vv = .pointer (some ⟨b, 0, none⟩), fun vv _ => vv = .pointer (some ⟨b, 0, none⟩), fun vv _ => vv = .pointer (some ⟨b, 0, none⟩), fun vv _ => vv = .pointer (some ⟨b, 1, none⟩), fun vv _ => vv = .pointer (some ⟨b, 0, none⟩), fun vv _ => vv = .pointer (some ⟨b, 0, none⟩), fun vv _ => vv = .pointer (some ⟨b, 2, none⟩), fun vv _ => vv = .agg #[.pointer (some ⟨b, 0, none⟩), .pointer (some ⟨b, 1, none⟩), .pointer (some ⟨b, 2, none⟩)], An w.heap.size #[.pointer none, .pointer none, .pointer none] #[.pointer (some ⟨b, 0, none⟩), .pointer (some ⟨b, 1, none⟩), .pointer (some ⟨b, 2, none⟩)] 178, Sn w.heap.size #[.pointer (some ⟨b, 0, none⟩), .pointer (some ⟨b, 1, none⟩), .pointer (some ⟨b, 2, none⟩)] 178]) (by kernel_rfl) ?hk ?hR ?fin
  case hk => kernel_rfl
  case hR =>
    refine ⟨fun _ => (Gn.refl _ _ _ _ _), fun _ _ _ => Gn.trans, rl_stab ⟨fun _ _ _ _ h => h, fun _ _ _ _ h => h, fun _ _ _ _ h => h, fun _ _ _ _ h => h, fun _ _ _ _ h => h, fun _ _ _ _ h => h, fun _ _ _ _ h => h, fun _ _ _ _ h => h, fun _ _ _ _ h => h, fun _ _ _ _ h => h, (fun v w w' k h => h.gn k), (fun v w w' k h => h.gn k), trivial⟩, ?_⟩
    refine allO_cons ?_ (allO_cons ?_ (allO_cons ?_ (allO_cons ?_ (allO_cons ?_ (allO_cons ?_ (allO_cons ?_ (allO_cons ?_ (allO_cons ?_ (allO_cons ?_ (allO_cons ?_ (allO_cons ?_ (allO_nil))))))))))))
    · intro T w9 hG hD hO Q
      have q0 := hO.1
      have e0 : (oF 17 T).eval (.tmp 0) = .pointer (some ⟨b, 0, none⟩) := (oF_eval (by decide)).trans (show T 0 = _ from q0)
      refine og_none rfl ?_
      exact o_val (v := .pointer (some ⟨b, 0, none⟩)) (w' := w9) (by generalize (oF 17 T).eval = rr at *; simp [execOp, go_sem, e0]) rfl rfl (Gn.refl _ _ _ _ _)
    · intro T w9 hG hD hO Q
      have d0 := hD.1
      have e0 : (oF 17 T).eval (.tmp 5) = .pointer (some ⟨b, 0, none⟩) := (oF_eval (by decide)).trans (show T 5 = _ from d0)
      refine og_none rfl ?_
      exact o_val (v := .pointer (some ⟨b, 0, none⟩)) (w' := w9) (by generalize (oF 17 T).eval = rr at *; simp [execOp, go_sem, e0]) rfl rfl (Gn.refl _ _ _ _ _)
    · intro T w9 hG hD hO Q
      have d0 := hD.1
      have e0 : (oF 17 T).eval (.tmp 6) = .pointer (some ⟨b, 0, none⟩) := (oF_eval (by decide)).trans (show T 6 = _ from d0)
      refine og_none rfl ?_
      exact o_val (v := .pointer (some ⟨b, 0, none⟩)) (w' := w9) (by generalize (oF 17 T).eval = rr at *; simp [execOp, go_sem, e0]) rfl rfl (Gn.refl _ _ _ _ _)
    · intro T w9 hG hD hO Q
      have q0 := hO.1
      have e0 : (oF 17 T).eval (.tmp 0) = .pointer (some ⟨b, 0, none⟩) := (oF_eval (by decide)).trans (show T 0 = _ from q0)
      refine og_none rfl ?_
      exact o_val (v := .pointer (some ⟨b, 0, none⟩)) (w' := w9) (by generalize (oF 17 T).eval = rr at *; simp [execOp, go_sem, e0]) rfl rfl (Gn.refl _ _ _ _ _)
    · intro T w9 hG hD hO Q
      have d0 := hD.1
      have e0 : (oF 17 T).eval (.tmp 8) = .pointer (some ⟨b, 0, none⟩) := (oF_eval (by decide)).trans (show T 8 = _ from d0)
      refine og_none rfl ?_
      exact o_val (v := .pointer (some ⟨b, 0, none⟩)) (w' := w9) (by generalize (oF 17 T).eval = rr at *; simp [execOp, go_sem, e0]) rfl rfl (Gn.refl _ _ _ _ _)
    · intro T w9 hG hD hO Q
      have d0 := hD.1
      have e0 : (oF 17 T).eval (.tmp 9) = .pointer (some ⟨b, 0, none⟩) := (oF_eval (by decide)).trans (show T 9 = _ from d0)
      refine og_none rfl ?_
      exact o_val (v := .pointer (some ⟨b, 1, none⟩)) (w' := w9) (by generalize (oF 17 T).eval = rr at *; simp [execOp, go_sem, e0]) rfl rfl (Gn.refl _ _ _ _ _)
    · intro T w9 hG hD hO Q
      have q0 := hO.1
      have e0 : (oF 17 T).eval (.tmp 0) = .pointer (some ⟨b, 0, none⟩) := (oF_eval (by decide)).trans (show T 0 = _ from q0)
      refine og_none rfl ?_
      exact o_val (v := .pointer (some ⟨b, 0, none⟩)) (w' := w9) (by generalize (oF 17 T).eval = rr at *; simp [execOp, go_sem, e0]) rfl rfl (Gn.refl _ _ _ _ _)
    · intro T w9 hG hD hO Q
      have d0 := hD.1
      have e0 : (oF 17 T).eval (.tmp 11) = .pointer (some ⟨b, 0, none⟩) := (oF_eval (by decide)).trans (show T 11 = _ from d0)
      refine og_none rfl ?_
      exact o_val (v := .pointer (some ⟨b, 0, none⟩)) (w' := w9) (by generalize (oF 17 T).eval = rr at *; simp [execOp, go_sem, e0]) rfl rfl (Gn.refl _ _ _ _ _)
    · intro T w9 hG hD hO Q
      have d0 := hD.1
      have e0 : (oF 17 T).eval (.tmp 12) = .pointer (some ⟨b, 0, none⟩) := (oF_eval (by decide)).trans (show T 12 = _ from d0)
      refine og_none rfl ?_
      exact o_val (v := .pointer (some ⟨b, 2, none⟩)) (w' := w9) (by generalize (oF 17 T).eval = rr at *; simp [execOp, go_sem, e0]) rfl rfl (Gn.refl _ _ _ _ _)
    · intro T w9 hG hD hO Q
      have d0 := hD.1
      have d1 := hD.2.1
      have d2 := hD.2.2.1
      have e0 : (oF 17 T).eval (.tmp 7) = .pointer (some ⟨b, 0, none⟩) := (oF_eval (by decide)).trans (show T 7 = _ from d0)
      have e1 : (oF 17 T).eval (.tmp 10) = .pointer (some ⟨b, 1, none⟩) := (oF_eval (by decide)).trans (show T 10 = _ from d1)
      have e2 : (oF 17 T).eval (.tmp 13) = .pointer (some ⟨b, 2, none⟩) := (oF_eval (by decide)).trans (show T 13 = _ from d2)
      refine og_none rfl ?_
      exact o_val (v := .agg #[.pointer (some ⟨b, 0, none⟩), .pointer (some ⟨b, 1, none⟩), .pointer (some ⟨b, 2, none⟩)]) (w' := w9) (by generalize (oF 17 T).eval = rr at *; simp [execOp, go_sem, e0, e1, e2]) rfl rfl (Gn.refl _ _ _ _ _)
    · intro T w9 hG hD hO Q
      refine og_none rfl ?_
      have kz : Kb w9 (w9.alloc (.cells #[.pointer none, .pointer none, .pointer none] 178 (0, 0))) := (Kb.refl w9).alloc _
      exact o_val (v := .pointer (some ⟨w9.heap.size, 0, none⟩)) (w' := w9.alloc (.cells #[.pointer none, .pointer none, .pointer none] 178 (0, 0))) (by simp [execOp, go_sem]) rfl ⟨_, rfl, (by have := hG.2.2.2.1; simp only [World.size_drew] at *; (try simp only [World.size_alloc] at *); omega), .inl (Is.made w9 _ _)⟩ kz.gn
    · intro T w9 hG hD hO Q
      have d0 := hD.1
      have d1 := hD.2.1
      have e0 : (oF 17 T).eval (.tmp 4) = T 4 := oF_eval (by decide)
      have p0 : (An w.heap.size #[.pointer none, .pointer none, .pointer none] #[.pointer (some ⟨b, 0, none⟩), .pointer (some ⟨b, 1, none⟩), .pointer (some ⟨b, 2, none⟩)] 178) (T 4) w9 := d0
      have e1 : (oF 17 T).eval (.tmp 14) = .agg #[.pointer (some ⟨b, 0, none⟩), .pointer (some ⟨b, 1, none⟩), .pointer (some ⟨b, 2, none⟩)] := (oF_eval (by decide)).trans (show T 14 = _ from d1)
      refine og_none rfl ?_
      obtain ⟨g, hg, hge, io⟩ := p0
      rw [hg] at e0
      rcases io with io | io
      · have zn := io
        replace zn : Is (w9.setCell ⟨g, 0, none⟩ (.pointer (some ⟨b, 0, none⟩))) (g) #[.pointer (some ⟨b, 0, none⟩), .pointer none, .pointer none] 178 := zn.set 0 _
        replace zn : Is ((w9.setCell ⟨g, 0, none⟩ (.pointer (some ⟨b, 0, none⟩))).setCell ⟨g, 1, none⟩ (.pointer (some ⟨b, 1, none⟩))) (g) #[.pointer (some ⟨b, 0, none⟩), .pointer (some ⟨b, 1, none⟩), .pointer none] 178 := zn.set 1 _
        replace zn : Is (((w9.setCell ⟨g, 0, none⟩ (.pointer (some ⟨b, 0, none⟩))).setCell ⟨g, 1, none⟩ (.pointer (some ⟨b, 1, none⟩))).setCell ⟨g, 2, none⟩ (.pointer (some ⟨b, 2, none⟩))) (g) #[.pointer (some ⟨b, 0, none⟩), .pointer (some ⟨b, 1, none⟩), .pointer (some ⟨b, 2, none⟩)] 178 := zn.set 2 _
        have pt := ((((Pt.refl g w9).set 0 (.pointer (some ⟨b, 0, none⟩))).set 1 (.pointer (some ⟨b, 1, none⟩))).set 2 (.pointer (some ⟨b, 2, none⟩)))
        have gn : Gn w.heap.size #[.pointer none, .pointer none, .pointer none] #[.pointer (some ⟨b, 0, none⟩), .pointer (some ⟨b, 1, none⟩), .pointer (some ⟨b, 2, none⟩)] 178 w9 _ := pt.gn zn (.inl io) hge
        have m0 := io.c (i := 0) rfl
        have f0 := io.f 0
        have m1 := io.c (i := 1) rfl
        have f1 := io.f 1
        have m2 := io.c (i := 2) rfl
        have f2 := io.f 2
        clear io
        exact o_skip (w' := (((w9.setCell ⟨g, 0, none⟩ (.pointer (some ⟨b, 0, none⟩))).setCell ⟨g, 1, none⟩ (.pointer (some ⟨b, 1, none⟩))).setCell ⟨g, 2, none⟩ (.pointer (some ⟨b, 2, none⟩)))) (by generalize (oF 17 T).eval = rr at *; simp [execOp, go_sem, e0, e1, m0, f0, m1, f1, m2, f2]) rfl ⟨g, hg, hge, zn⟩ gn
      · have zn := io
        replace zn : Is (w9.setCell ⟨g, 0, none⟩ (.pointer (some ⟨b, 0, none⟩))) (g) #[.pointer (some ⟨b, 0, none⟩), .pointer (some ⟨b, 1, none⟩), .pointer (some ⟨b, 2, none⟩)] 178 := zn.set 0 _
        replace zn : Is ((w9.setCell ⟨g, 0, none⟩ (.pointer (some ⟨b, 0, none⟩))).setCell ⟨g, 1, none⟩ (.pointer (some ⟨b, 1, none⟩))) (g) #[.pointer (some ⟨b, 0, none⟩), .pointer (some ⟨b, 1, none⟩), .pointer (some ⟨b, 2, none⟩)] 178 := zn.set 1 _
        replace zn : Is (((w9.setCell ⟨g, 0, none⟩ (.pointer (some ⟨b, 0, none⟩))).setCell ⟨g, 1, none⟩ (.pointer (some ⟨b, 1, none⟩))).setCell ⟨g, 2, none⟩ (.pointer (some ⟨b, 2, none⟩))) (g) #[.pointer (some ⟨b, 0, none⟩), .pointer (some ⟨b, 1, none⟩), .pointer (some ⟨b, 2, none⟩)] 178 := zn.set 2 _
        have pt := ((((Pt.refl g w9).set 0 (.pointer (some ⟨b, 0, none⟩))).set 1 (.pointer (some ⟨b, 1, none⟩))).set 2 (.pointer (some ⟨b, 2, none⟩)))
        have gn : Gn w.heap.size #[.pointer none, .pointer none, .pointer none] #[.pointer (some ⟨b, 0, none⟩), .pointer (some ⟨b, 1, none⟩), .pointer (some ⟨b, 2, none⟩)] 178 w9 _ := pt.gn zn (.inr io) hge
        have m0 := io.c (i := 0) rfl
        have f0 := io.f 0
        have m1 := io.c (i := 1) rfl
        have f1 := io.f 1
        have m2 := io.c (i := 2) rfl
        have f2 := io.f 2
        clear io
        exact o_skip (w' := (((w9.setCell ⟨g, 0, none⟩ (.pointer (some ⟨b, 0, none⟩))).setCell ⟨g, 1, none⟩ (.pointer (some ⟨b, 1, none⟩))).setCell ⟨g, 2, none⟩ (.pointer (some ⟨b, 2, none⟩)))) (by generalize (oF 17 T).eval = rr at *; simp [execOp, go_sem, e0, e1, m0, f0, m1, f1, m2, f2]) rfl ⟨g, hg, hge, zn⟩ gn
  case fin =>
    intro T w1 hout hval hG
    have s1 := hG.2.2.2.1
    simp only [World.size_drew] at s1
    rw [show oF 17 T = (⟨#[T 0, T 1, T 2, T 3, T 4, T 5, T 6, T 7, T 8, T 9, T 10, T 11, T 12, T 13, T 14, T 15, T 16], []⟩ : Act) from oF_list 17 T]
    rw [show T 2 = .nilFunc from hout 2 rfl]
    rw [show T 3 = .nilFunc from hout 3 rfl]
    obtain ⟨g1, eg, hg1, b4⟩ := hval 11 (by decide)
    replace eg : T 4 = _ := eg
    rw [eg]
    replace kx := hG.old kx.drew kx.size
    clear hout hval hG eg
    go_wp2
    go_ret2
    exact ⟨_, rfl, b4, by omega, kx⟩
set_option maxRecDepth 100000 in
theorem cRead_0 (g : Nat) (p0 p1 p2 : Addr) (v : Int) (w : World) (hg : Is w g #[.pointer (some p0), .pointer (some p1), .pointer (some p2)] 178) (hc : w.cell? p0 = some (.int .i64 v)) : Calls Tryz.prog 139 #[.int .i64 0, .pointer (some ⟨g, 0, none⟩)] w fun r W' => r = .returned (.int .i64 v) ∧ Kb w W' := by
  have kx := Kb.refl w
  have f0 := hg.c (i := 0) rfl
  clear hg
  go_enter Tryz.func139, Tryz.ntmps139
  go_wp2
  go_ret
  exact ⟨rfl, kx⟩
set_option maxRecDepth 100000 in
theorem cRead_1 (g : Nat) (p0 p1 p2 : Addr) (v : Int) (w : World) (hg : Is w g #[.pointer (some p0), .pointer (some p1), .pointer (some p2)] 178) (hc : w.cell? p1 = some (.int .i64 v)) : Calls Tryz.prog 139 #[.int .i64 1, .pointer (some ⟨g, 0, none⟩)] w fun r W' => r = .returned (.int .i64 v) ∧ Kb w W' := by
  have kx := Kb.refl w
  have f0 := hg.c (i := 1) rfl
  clear hg
  go_enter Tryz.func139, Tryz.ntmps139
  go_wp2
  go_ret
  exact ⟨rfl, kx⟩
set_option maxRecDepth 100000 in
theorem cRead_2 (g : Nat) (p0 p1 p2 : Addr) (v : Int) (w : World) (hg : Is w g #[.pointer (some p0), .pointer (some p1), .pointer (some p2)] 178) (hc : w.cell? p2 = some (.int .i64 v)) : Calls Tryz.prog 139 #[.int .i64 2, .pointer (some ⟨g, 0, none⟩)] w fun r W' => r = .returned (.int .i64 v) ∧ Kb w W' := by
  have kx := Kb.refl w
  have f0 := hg.c (i := 2) rfl
  clear hg
  go_enter Tryz.func139, Tryz.ntmps139
  go_wp2
  go_ret
  exact ⟨rfl, kx⟩
end Go.Proofs.YtlimjohnimgnhaaGreatDoor
