/- Texts Ref2a: each says in its own first comment what it proves. -/
import Derived.Test.YtminjcknmhgpiaaGreatDoorM47
import Derived.Test.YtminjcknmhgpiaaGreatDoorM46
import Derived.Test.YtminjcknmhgpiaaGreatDoorM42
import Derived.Test.YtminjcknmhgpiaaGreatDoorM43
import Derived.Test.YtminjcknmhgpiaaGreatDoorM44
/- Parts, Sign, Neg and Floor of the reference of layer 2. -/
namespace Go.Proofs.YtminjcknmhgpiaaGreatDoor
open Go.RowKit
open Go.Lib (nDigits itoa decDigits)

set_option maxRecDepth 100000 in
set_option maxHeartbeats 4000000 in
theorem rParts_e (a : ByteArray) (e : Int) (w : World) (he : (e == 0) = false) (c : Hid (Gw w 21 #[.string a] (.int .i64 e))) :
    Calls Tryz.prog 13 #[.string a] w fun r0 w' => r0 = .returned (.tuple #[.string ⟨#[]⟩, .string ⟨#[]⟩, .int .i64 e]) ∧ Kp [] w w' := by
  unfold Gw at c
  have kk := Kp.refl [] w
  go_enter Tryz.func13, Tryz.ntmps13
  go_wp2_with fail
  with_reducible refine (c.out _ kk).mono ?_
  rintro e w1 ⟨rfl, k⟩
  replace kk := kk.trans k; clear k
  go_wp2
  go_ret3
  exact ⟨rfl, kk⟩

set_option maxRecDepth 100000 in
set_option maxHeartbeats 4000000 in
theorem rParts_0 (a n d : ByteArray) (v : Int) (w : World) (c : Hid (Gw w 21 #[.string a] (.int .i64 0))) (s : Hid (Gw w 55 #[.string a] (.tuple #[.string n, .string d]))) :
    Calls Tryz.prog 13 #[.string a] w fun r0 w' => r0 = .returned (.tuple #[.string n, .string d, .int .i64 0]) ∧ Kp [] w w' := by
  unfold Gw at c s
  have kk := Kp.refl [] w
  go_enter Tryz.func13, Tryz.ntmps13
  go_wp2_with fail
  with_reducible refine (c.out _ kk).mono ?_
  rintro e w1 ⟨rfl, k⟩
  replace kk := kk.trans k; clear k
  go_wp2_with fail
  with_reducible refine (s.out _ kk).mono ?_
  rintro e w2 ⟨rfl, k⟩
  replace kk := kk.trans k; clear k
  go_wp2
  go_ret3
  exact ⟨rfl, kk⟩

set_option maxRecDepth 100000 in
set_option maxHeartbeats 4000000 in
theorem rSign_e (a : ByteArray) (e : Int) (w : World) (he : (e == 0) = false) (c : Hid (Gw w 21 #[.string a] (.int .i64 e))) :
    Calls Tryz.prog 15 #[.string a] w fun r0 w' => r0 = .returned (.tuple #[.int .i64 0, .int .i64 e]) ∧ Kp [] w w' := by
  unfold Gw at c
  have kk := Kp.refl [] w
  go_enter Tryz.func15, Tryz.ntmps15
  go_wp2_with fail
  with_reducible refine (c.out _ kk).mono ?_
  rintro e w1 ⟨rfl, k⟩
  replace kk := kk.trans k; clear k
  go_wp2
  go_ret2
  exact ⟨rfl, kk⟩

set_option maxRecDepth 100000 in
set_option maxHeartbeats 4000000 in
theorem rSign_0 (a n d : ByteArray) (v : Int) (w : World) (c : Hid (Gw w 21 #[.string a] (.int .i64 0))) (u : Hid (Gw w 60 #[.string a] (.int .i64 v))) :
    Calls Tryz.prog 15 #[.string a] w fun r0 w' => r0 = .returned (.tuple #[.int .i64 v, .int .i64 0]) ∧ Kp [] w w' := by
  unfold Gw at c u
  have kk := Kp.refl [] w
  go_enter Tryz.func15, Tryz.ntmps15
  go_wp2_with fail
  with_reducible refine (c.out _ kk).mono ?_
  rintro e w1 ⟨rfl, k⟩
  replace kk := kk.trans k; clear k
  go_wp2_with fail
  with_reducible refine (u.out _ kk).mono ?_
  rintro e w2 ⟨rfl, k⟩
  replace kk := kk.trans k; clear k
  go_wp2
  go_ret2
  exact ⟨rfl, kk⟩

set_option maxRecDepth 100000 in
set_option maxHeartbeats 4000000 in
theorem rNeg_e (a : ByteArray) (e : Int) (w : World) (he : (e == 0) = false) (c : Hid (Gw w 21 #[.string a] (.int .i64 e))) :
    Calls Tryz.prog 17 #[.string a] w fun r0 w' => r0 = .returned (.tuple #[.string ⟨#[]⟩, .int .i64 e]) ∧ Kp [] w w' := by
  unfold Gw at c
  have kk := Kp.refl [] w
  go_enter Tryz.func17, Tryz.ntmps17
  go_wp2_with fail
  with_reducible refine (c.out _ kk).mono ?_
  rintro e w1 ⟨rfl, k⟩
  replace kk := kk.trans k; clear k
  go_wp2
  go_ret2
  exact ⟨rfl, kk⟩

set_option maxRecDepth 100000 in
set_option maxHeartbeats 4000000 in
theorem rNeg_0 (a n d : ByteArray) (v : Int) (w : World) (c : Hid (Gw w 21 #[.string a] (.int .i64 0))) (u : Hid (Gw w 64 #[.string a] (.string n))) :
    Calls Tryz.prog 17 #[.string a] w fun r0 w' => r0 = .returned (.tuple #[.string n, .int .i64 0]) ∧ Kp [] w w' := by
  unfold Gw at c u
  have kk := Kp.refl [] w
  go_enter Tryz.func17, Tryz.ntmps17
  go_wp2_with fail
  with_reducible refine (c.out _ kk).mono ?_
  rintro e w1 ⟨rfl, k⟩
  replace kk := kk.trans k; clear k
  go_wp2_with fail
  with_reducible refine (u.out _ kk).mono ?_
  rintro e w2 ⟨rfl, k⟩
  replace kk := kk.trans k; clear k
  go_wp2
  go_ret2
  exact ⟨rfl, kk⟩

set_option maxRecDepth 100000 in
set_option maxHeartbeats 4000000 in
theorem rFloor_e (a : ByteArray) (e : Int) (w : World) (he : (e == 0) = false) (c : Hid (Gw w 21 #[.string a] (.int .i64 e))) :
    Calls Tryz.prog 19 #[.string a] w fun r0 w' => r0 = .returned (.tuple #[.string ⟨#[]⟩, .int .i64 e]) ∧ Kp [] w w' := by
  unfold Gw at c
  have kk := Kp.refl [] w
  go_enter Tryz.func19, Tryz.ntmps19
  go_wp2_with fail
  with_reducible refine (c.out _ kk).mono ?_
  rintro e w1 ⟨rfl, k⟩
  replace kk := kk.trans k; clear k
  go_wp2
  go_ret2
  exact ⟨rfl, kk⟩

set_option maxRecDepth 100000 in
set_option maxHeartbeats 4000000 in
theorem rFloor_0 (a n d : ByteArray) (v : Int) (w : World) (c : Hid (Gw w 21 #[.string a] (.int .i64 0))) (u : Hid (Gw w 66 #[.string a] (.string n))) :
    Calls Tryz.prog 19 #[.string a] w fun r0 w' => r0 = .returned (.tuple #[.string n, .int .i64 0]) ∧ Kp [] w w' := by
  unfold Gw at c u
  have kk := Kp.refl [] w
  go_enter Tryz.func19, Tryz.ntmps19
  go_wp2_with fail
  with_reducible refine (c.out _ kk).mono ?_
  rintro e w1 ⟨rfl, k⟩
  replace kk := kk.trans k; clear k
  go_wp2_with fail
  with_reducible refine (u.out _ kk).mono ?_
  rintro e w2 ⟨rfl, k⟩
  replace kk := kk.trans k; clear k
  go_wp2
  go_ret2
  exact ⟨rfl, kk⟩

set_option maxRecDepth 100000 in
set_option maxHeartbeats 4000000 in
theorem rSignum_core (a n d : ByteArray) (v : Int) (w : World) (s : Hid (Gw w 55 #[.string a] (.tuple #[.string n, .string d]))) (o : Hid (Gw w 69 #[.string n, .string ⟨#[48]⟩] (.int .i64 v))) :
    Calls Tryz.prog 60 #[.string a] w fun r0 w' => r0 = .returned (.int .i64 v) ∧ Kp [] w w' := by
  unfold Gw at s o
  have kk := Kp.refl [] w
  go_enter Tryz.func60, Tryz.ntmps60
  go_wp2_with fail
  with_reducible refine (s.out _ kk).mono ?_
  rintro e w1 ⟨rfl, k⟩
  replace kk := kk.trans k; clear k
  go_wp2_with fail
  with_reducible refine (o.out _ kk).mono ?_
  rintro e w2 ⟨rfl, k⟩
  replace kk := kk.trans k; clear k
  go_wp2
  go_ret
  exact ⟨rfl, kk⟩

set_option maxRecDepth 100000 in
set_option maxHeartbeats 4000000 in
theorem rTurned_core (a n : ByteArray) (w : World) (o : Hid (Gw w 88 #[.string ⟨#[48]⟩, .string a] (.string n))) :
    Calls Tryz.prog 64 #[.string a] w fun r0 w' => r0 = .returned (.string n) ∧ Kp [] w w' := by
  unfold Gw at o
  have kk := Kp.refl [] w
  go_enter Tryz.func64, Tryz.ntmps64
  go_wp2_with fail
  with_reducible refine (o.out _ kk).mono ?_
  rintro e w1 ⟨rfl, k⟩
  replace kk := kk.trans k; clear k
  go_wp2
  go_ret
  exact ⟨rfl, kk⟩

set_option maxRecDepth 100000 in
set_option maxHeartbeats 4000000 in
theorem rDown_core (a n d f m : ByteArray) (w : World) (s : Hid (Gw w 55 #[.string a] (.tuple #[.string n, .string d]))) (o : Hid (Gw w 118 #[.string n, .string d] (.tuple #[.string f, .string m]))) :
    Calls Tryz.prog 66 #[.string a] w fun r0 w' => r0 = .returned (.string f) ∧ Kp [] w w' := by
  unfold Gw at s o
  have kk := Kp.refl [] w
  go_enter Tryz.func66, Tryz.ntmps66
  go_wp2_with fail
  with_reducible refine (s.out _ kk).mono ?_
  rintro e w1 ⟨rfl, k⟩
  replace kk := kk.trans k; clear k
  go_wp2_with fail
  with_reducible refine (o.out _ kk).mono ?_
  rintro e w2 ⟨rfl, k⟩
  replace kk := kk.trans k; clear k
  go_wp2
  go_ret
  exact ⟨rfl, kk⟩

section
variable {j : Nat} {q : Rat}
theorem ref_check {a : ByteArray} {w : World} (ha : a.size ≤ 9223372036854775807) : Hid (Gw w 21 #[.string a] (.int .i64 (spE a))) := gw_of fun W => rCheck2_any a W ha
theorem ref_ok {w : World} (h : OkR q) : Hid (Gw w 21 #[.string (RS q)] (.int .i64 0)) := by
  have := ref_check (w := w) h.size9
  rwa [(sp_RS h).2.2] at this
theorem ref_split {w : World} (h : OkR q) : Hid (Gw w 55 #[.string (RS q)] (.tuple #[.string (S q.num), .string (S (q.den : Int))])) := gw_of fun W => by
  have c := Split_any (RS q) W (Nat.le_trans h.size (by omega))
  rwa [(sp_RS h).1, (sp_RS h).2.1] at c
theorem rSignum_c (h : OkR q) (w : World) : Calls Tryz.prog 60 #[.string (RS q)] w fun e w' => e = .returned (.int .i64 (sgR q)) ∧ Kp [] w w' := by
  refine rSignum_core _ _ _ _ w (ref_split h) (gw_of fun W => ?_)
  have c := rorder_any plus_all q.num 0 W h.1 (ok_pow (k := 1) (by decide) (by omega))
  rw [S_zero] at c
  have e : cmpI q.num 0 = sgR q := by rw [← sgn_num]; rfl
  rwa [e] at c
theorem rDown_c (h : OkR q) (w : World) : Calls Tryz.prog 66 #[.string (RS q)] w fun e w' => e = .returned (.string (S (q.num.fdiv (q.den : Int)))) ∧ Kp [] w w' :=
  rDown_core _ _ _ _ _ w (ref_split h) (gw_of fun W => parted_any q.num (q.den : Int) W (by have := q.den_pos; omega) h.1 h.2)
theorem rTurned_c (h : Sm j q) (hj : j < 1000) (w : World) : Calls Tryz.prog 64 #[.string (RS q)] w fun e w' => e = .returned (.string (RS (-q))) ∧ Kp [] w w' := by
  refine rTurned_core _ _ w (gw_of fun W => ?_)
  have c := rminus2 (sm_lit (q := 0) (by decide)) h (by omega) W
  rwa [l_0, show (0 : Rat) - q = -q by grind] at c
end
/-! the operations with one text, for texts that are wrong or small: what the program says -/
theorem rParts_any (a : ByteArray) (w : World) (ha : a.size ≤ 9223372036854775807) : Calls Tryz.prog 13 #[.string a] w fun r0 w' => r0 = .returned (.tuple #[.string (qPn a), .string (qPd a), .int .i64 (spE a)]) ∧ Kp [] w w' := by
  by_cases h : spE a = 0
  · obtain ⟨q, rfl, hq⟩ := RS_of_sp h
    have e1 : qPn (RS q) = S q.num := by unfold qPn; rw [if_pos h, (sp_RS hq).1]
    have e2 : qPd (RS q) = S (q.den : Int) := by unfold qPd; rw [if_pos h, (sp_RS hq).2.1]
    rw [e1, e2, h]
    exact rParts_0 _ _ _ 0 w (ref_ok hq) (ref_split hq)
  · have e1 : qPn a = ⟨#[]⟩ := if_neg h
    have e2 : qPd a = ⟨#[]⟩ := if_neg h
    rw [e1, e2]
    exact rParts_e a _ w (beq_eq_false_iff_ne.2 h) (ref_check ha)
theorem kp_z (f : Int) : kp 0 f = f := if_pos rfl
theorem rT_ne {N D : ByteArray} {E : Int} (h : E ≠ 0) : rT N D E = ⟨#[]⟩ := if_neg h
theorem rSign_any (a : ByteArray) (w : World) (ha : a.size ≤ 9223372036854775807) : Calls Tryz.prog 15 #[.string a] w fun r0 w' => r0 = .returned (.tuple #[.int .i64 (qSgV a), .int .i64 (qSgE a)]) ∧ Kp [] w w' := by
  by_cases h : spE a = 0
  · obtain ⟨q, rfl, hq⟩ := RS_of_sp h
    obtain ⟨e1, e2⟩ := qSign_RS hq
    rw [e1, e2, sgn_num]
    exact rSign_0 _ ⟨#[]⟩ ⟨#[]⟩ _ w (ref_ok hq) (gw_of fun W => rSignum_c hq W)
  · have e1 : qSgE a = spE a := kp_ne h _
    have e2 : qSgV a = 0 := by unfold qSgV; rw [e1, if_neg h]
    rw [e1, e2]
    exact rSign_e a _ w (beq_eq_false_iff_ne.2 h) (ref_check ha)
theorem rFloor_any (a : ByteArray) (w : World) (ha : a.size ≤ 9223372036854775807) : Calls Tryz.prog 19 #[.string a] w fun r0 w' => r0 = .returned (.tuple #[.string (qFlB a), .int .i64 (qFlE a)]) ∧ Kp [] w w' := by
  by_cases h : spE a = 0
  · obtain ⟨q, rfl, hq⟩ := RS_of_sp h
    obtain ⟨e1, e2⟩ := qFloor_RS hq
    rw [e1, e2]
    exact rFloor_0 _ _ ⟨#[]⟩ 0 w (ref_ok hq) (gw_of fun W => rDown_c hq W)
  · have e1 : qFlE a = spE a := kp_ne h _
    have e2 : qFlB a = ⟨#[]⟩ := by unfold qFlB; rw [e1, if_neg h]
    rw [e1, e2]
    exact rFloor_e a _ w (beq_eq_false_iff_ne.2 h) (ref_check ha)
theorem rNeg_few (a : ByteArray) (w : World) (hf : fewB a = true) (ha : a.size ≤ 9223372036854775807) : Calls Tryz.prog 17 #[.string a] w fun r0 w' => r0 = .returned (.tuple #[.string (qNgB a), .int .i64 (qNgE a)]) ∧ Kp [] w w' := by
  rcases few_cases hf with ⟨h, _⟩ | ⟨q, rfl, hs, _, _⟩
  · have e1 : qNgE a = spE a := kp_ne h _
    have e2 : qNgB a = ⟨#[]⟩ := by unfold qNgB; rw [e1]; exact rT_ne h
    rw [e1, e2]
    exact rNeg_e a _ w (beq_eq_false_iff_ne.2 h) (ref_check ha)
  · have hq := hs.ok (by omega)
    obtain ⟨e1, e2⟩ := qNeg_RS hq
    rw [e1, e2]
    exact rNeg_0 _ _ ⟨#[]⟩ 0 w (ref_ok hq) (gw_of fun W => rTurned_c hs (by omega) W)
theorem few_size {a : ByteArray} (hf : fewB a = true) : a.size ≤ 5000 := by
  have hcut := cut_size a
  unfold fewB at hf
  simp only [Bool.or_eq_true, Bool.and_eq_true, decide_eq_true_eq] at hf
  omega

end Go.Proofs.YtminjcknmhgpiaaGreatDoor
