/- RatioComputes returns true for every input. -/
import Derived.Test.YtminjcknmhgpiaaGreatDoorM50
import Derived.Test.YtminjcknmhgpiaaGreatDoorM45
namespace Go.Proofs.YtminjcknmhgpiaaGreatDoor
open Go.RowKit
open Go.Lib (nDigits itoa decDigits)

section
variable {w : World} {g : Nat} {z0 z1 z2 z3 z4 : Int}
theorem strs_01 (h : B5 w g (S z0) (S z1) (S z2) (S z3) (S z4)) : Strs w g 0 ([z0, z1].map S) := by
  intro i hi
  rcases i with _ | _ | i
  · exact (h.c 0).trans rfl
  · exact (h.c 1).trans rfl
  · exact absurd hi (by simp)
theorem strs_012 (h : B5 w g (S z0) (S z1) (S z2) (S z3) (S z4)) : Strs w g 0 ([z0, z1, z2].map S) := by
  intro i hi
  rcases i with _ | _ | _ | i
  · exact (h.c 0).trans rfl
  · exact (h.c 1).trans rfl
  · exact (h.c 2).trans rfl
  · exact absurd hi (by simp)
theorem strs_23 (h : B5 w g (S z0) (S z1) (S z2) (S z3) (S z4)) : Strs w g 2 ([z2, z3].map S) := by
  intro i hi
  rcases i with _ | _ | i
  · exact (h.c 2).trans rfl
  · exact (h.c 3).trans rfl
  · exact absurd hi (by simp)
theorem strs_1 {T : Nat} (h : w.heap[g]? = some (.cells #[.string (S z0)] T (0, 0))) : Strs w g 0 ([z0].map S) := by
  intro i hi
  rcases i with _ | i
  · simp [World.cell?, h]
  · exact absurd hi (by simp)
theorem strs_2 {T : Nat} (h : w.heap[g]? = some (.cells #[.string (S z0), .string (S z1)] T (0, 0))) : Strs w g 0 ([z0, z1].map S) := by
  intro i hi
  rcases i with _ | _ | i
  · simp [World.cell?, h]
  · simp [World.cell?, h]
  · exact absurd hi (by simp)
theorem blk_in {x : Obj} (h : w.heap[g]? = some x) : g < w.heap.size := (Array.getElem?_eq_some_iff.1 h).1
end
theorem few_two {a b : ByteArray} (ha : fewB a = true) (hb : fewB b = true) :
    (spE a ≠ 0 ∨ (spE a = 0 ∧ spE b ≠ 0)) ∨ ∃ q r, a = RS q ∧ b = RS r ∧ Sm 120 q ∧ Sm 120 r := by
  rcases few_cases ha with ⟨h, _⟩ | ⟨q, rfl, hq, _, _⟩
  · exact .inl (.inl h)
  · rcases few_cases hb with ⟨h, _⟩ | ⟨r, rfl, hr, _, _⟩
    · exact .inl (.inr ⟨(sp_RS (hq.ok (by omega))).2.2, h⟩)
    · exact .inr ⟨q, r, rfl, rfl, hq, hr⟩
theorem pair_bad {a b : ByteArray} {w : World} (ha : a.size ≤ 4000000000) (hb : b.size ≤ 4000000000) (h : spE a ≠ 0 ∨ (spE a = 0 ∧ spE b ≠ 0)) (X : Int) :
    kp (spE a) (kp (spE b) X) ≠ 0 ∧ Hid (Gw w 81 #[.string a, .string b] (.int .i64 (kp (spE a) (kp (spE b) X)))) := by
  rcases h with h | ⟨h0, h⟩
  · rw [kp_ne h]
    exact ⟨h, gw_of fun W => rpair_e a b _ W (beq_eq_false_iff_ne.2 h) (ref_check (le9 ha))⟩
  · rw [h0, kp_zero, kp_ne h]
    refine ⟨h, gw_of fun W => rpair_0 a b _ W ?_ (ref_check (le9 hb))⟩
    have := ref_check (w := W) (le9 ha)
    rwa [h0] at this
theorem pair_ok {j k : Nat} {q r : Rat} {w : World} (hq : Sm j q) (hr : Sm k r) (hj : j ≤ 1024) (hk : k ≤ 1024) : Hid (Gw w 81 #[.string (RS q), .string (RS r)] (.int .i64 0)) :=
  gw_of fun W => rpair_0 _ _ 0 W (ref_ok (hq.ok hj)) (ref_ok (hr.ok hk))

theorem RS_zero_list0 (r : Rat) (h : OkR r) : ((RS r).toList == [48]) = decide (r = 0) := by
  have e : (RS (0 : Rat)).toList = [48] := by rw [l_0]; decide +kernel
  rw [← e]
  exact RS_beq h ((sm_lit (q := 0) (by decide)).ok (by omega))
section
variable {j k : Nat} {q r : Rat}

theorem rCompare_c (hq : Sm j q) (hr : Sm k r) (h : j + k < 1024) (w : World) :
    Calls Tryz.prog 38 #[.string (RS q), .string (RS r)] w fun r0 w' => r0 = .returned (.tuple #[.int .i64 (cmR q r), .int .i64 0]) ∧ Kp [] w w' := by
  have o1 := ok_pow (hq.nd hr) (by omega)
  have o2 := ok_pow (hq.dn hr) (by omega)
  have o3 := ok_pow (hq.dd hr) (by omega)
  have o4 := ok_pow (hq.nn hr) (by omega)
  have o5 := ok_pow (hq.dn' hr) (by omega)
  exact rCompare_0 _ _ _ _ _ _ _ _ w (pair_ok hq hr (by omega) (by omega)) (fun W => crossed_c hq hr (by omega) W)
    (fun W g h => long_S g 0 5 [_, _] W (strs_01 h) h.lt (by simp) (by intro z hz; simp at hz; rcases hz with rfl | rfl <;> assumption))
    (gw_of fun W => rorder2 hq hr (by omega) W)

theorem rMul_c (hq : Sm j q) (hr : Sm k r) (h : j + k < 1024) (w : World) :
    Calls Tryz.prog 34 #[.string (RS q), .string (RS r)] w fun r0 w' => r0 = .returned (.tuple #[.string (RS (q * r)), .int .i64 0]) ∧ Kp [] w w' := by
  have o1 := ok_pow (hq.nd hr) (by omega)
  have o2 := ok_pow (hq.dn hr) (by omega)
  have o3 := ok_pow (hq.dd hr) (by omega)
  have o4 := ok_pow (hq.nn hr) (by omega)
  have o5 := ok_pow (hq.dn' hr) (by omega)
  exact rMul_0 _ _ _ _ _ _ _ _ w (pair_ok hq hr (by omega) (by omega)) (fun W => crossed_c hq hr (by omega) W)
    (fun W g h => long_S g 2 3 [_, _] W (strs_23 h) h.lt (by simp) (by intro z hz; simp at hz; rcases hz with rfl | rfl <;> assumption))
    (gw_of fun W => rtimes2 hq hr (by omega) W)

theorem rAdd_c (hq : Sm j q) (hr : Sm k r) (h : j + k < 1024) (w : World) :
    Calls Tryz.prog 30 #[.string (RS q), .string (RS r)] w fun r0 w' => r0 = .returned (.tuple #[.string (RS (q + r)), .int .i64 0]) ∧ Kp [] w w' := by
  have o1 := ok_pow (hq.nd hr) (by omega)
  have o2 := ok_pow (hq.dn hr) (by omega)
  have o3 := ok_pow (hq.dd hr) (by omega)
  have o4 := ok_pow (hq.nn hr) (by omega)
  have o5 := ok_pow (hq.dn' hr) (by omega)
  exact rAdd_0 _ _ _ _ _ _ _ _ _ w (pair_ok hq hr (by omega) (by omega)) (fun W => crossed_c hq hr (by omega) W)
    (fun W g h => long_S g 0 5 [_, _, _] W (strs_012 h) h.lt (by simp) (by intro z hz; simp at hz; rcases hz with rfl | rfl | rfl <;> assumption))
    (fun W => plus_all.out _ _ W o1 o2) (fun W g h => long_S g 0 1 [_] W (strs_1 h) (blk_in h) (by simp) (by intro z hz; simp at hz; subst hz; exact ok_pow (addI_lt (hq.nd hr) (hq.dn hr)) (by omega)))
    (gw_of fun W => rplus2 hq hr (by omega) W)

theorem rSub_c (hq : Sm j q) (hr : Sm k r) (h : j + k < 1024) (w : World) :
    Calls Tryz.prog 32 #[.string (RS q), .string (RS r)] w fun r0 w' => r0 = .returned (.tuple #[.string (RS (q - r)), .int .i64 0]) ∧ Kp [] w w' := by
  have o1 := ok_pow (hq.nd hr) (by omega)
  have o2 := ok_pow (hq.dn hr) (by omega)
  have o3 := ok_pow (hq.dd hr) (by omega)
  have o4 := ok_pow (hq.nn hr) (by omega)
  have o5 := ok_pow (hq.dn' hr) (by omega)
  exact rSub_0 _ _ _ _ _ _ _ _ _ w (pair_ok hq hr (by omega) (by omega)) (fun W => crossed_c hq hr (by omega) W)
    (fun W g h => long_S g 0 5 [_, _, _] W (strs_012 h) h.lt (by simp) (by intro z hz; simp at hz; rcases hz with rfl | rfl | rfl <;> assumption))
    (fun W => minus_any plus_all _ _ W o1 o2) (fun W g h => long_S g 0 1 [_] W (strs_1 h) (blk_in h) (by simp) (by intro z hz; simp at hz; subst hz; exact ok_pow (subI_lt (hq.nd hr) (hq.dn hr)) (by omega)))
    (gw_of fun W => rminus2 hq hr (by omega) W)

theorem rDiv_c (hq : Sm j q) (hr : Sm k r) (h : j + k < 1024) (h0 : r ≠ 0) (w : World) :
    Calls Tryz.prog 36 #[.string (RS q), .string (RS r)] w fun r0 w' => r0 = .returned (.tuple #[.string (RS (q / r)), .int .i64 0]) ∧ Kp [] w w' := by
  have o1 := ok_pow (hq.nd hr) (by omega)
  have o2 := ok_pow (hq.dn hr) (by omega)
  have o3 := ok_pow (hq.dd hr) (by omega)
  have o4 := ok_pow (hq.nn hr) (by omega)
  have o5 := ok_pow (hq.dn' hr) (by omega)
  exact rDiv_0 _ _ _ _ _ _ _ _ w (by rw [RS_zero_list0 _ (hr.ok (by omega)), decide_eq_false h0]) (pair_ok hq hr (by omega) (by omega)) (fun W => crossed_c hq hr (by omega) W)
    (fun W g h => long_S g 0 2 [_, _] W (strs_2 h) (blk_in h) (by simp) (by intro z hz; simp at hz; rcases hz with rfl | rfl <;> assumption))
    (gw_of fun W => rby2 hq hr (by omega) h0 W)

theorem rDiv_zc (hq : Sm j q) (h : j < 1024) (w : World) :
    Calls Tryz.prog 36 #[.string (RS q), .string (RS 0)] w fun r0 w' => r0 = .returned (.tuple #[.string ⟨#[]⟩, .int .i64 10]) ∧ Kp [] w w' :=
  rDiv_z _ _ w (by rw [RS_zero_list0 _ ((sm_lit (q := 0) (by decide)).ok (by omega))]; rfl) (pair_ok hq (sm_lit (q := 0) (by decide)) (by omega) (by omega))

end
section
variable {a b : ByteArray} {w : World}
theorem rCompare_few (hfa : fewB a = true) (hfb : fewB b = true) (W : World) :
    Calls Tryz.prog 38 #[.string a, .string b] W fun r0 w' => r0 = .returned (.tuple #[.int .i64 (qCmV a b), .int .i64 (qCmE a b)]) ∧ Kp [] W w' := by
  have ha : a.size ≤ 4000000000 := Nat.le_trans (few_size hfa) (by omega)
  have hb : b.size ≤ 4000000000 := Nat.le_trans (few_size hfb) (by omega)
  rcases few_two hfa hfb with h | ⟨q, r, rfl, rfl, hq, hr⟩
  · skip
    have e2 : qCmV a b = 0 := if_neg (pair_bad (w := W) ha hb h _).1
    rw [e2]
    exact rCompare_e a b _ W (beq_eq_false_iff_ne.2 (pair_bad (w := W) ha hb h _).1) (pair_bad (w := W) ha hb h _).2
  · have oq := hq.ok (by omega)
    have or := hr.ok (by omega)
    have o1 := ok_pow (hq.nd hr) (by omega)
    have o2 := ok_pow (hq.dn hr) (by omega)
    have o3 := ok_pow (hq.dd hr) (by omega)
    have o4 := ok_pow (hq.nn hr) (by omega)
    have o5 := ok_pow (hq.dn' hr) (by omega)
    have hc : Ok (q.num * (r.den : Int)) ∧ Ok (r.num * (q.den : Int)) := ⟨o1, o2⟩
    rw [(qCompare_RS oq or).1, (qCompare_RS oq or).2, if_pos hc, if_pos hc, cmp_num]
    exact rCompare_c hq hr (by omega) W

theorem rAdd_few (hfa : fewB a = true) (hfb : fewB b = true) (W : World) :
    Calls Tryz.prog 30 #[.string a, .string b] W fun r0 w' => r0 = .returned (.tuple #[.string (qAddB a b), .int .i64 (qAddE a b)]) ∧ Kp [] W w' := by
  have ha : a.size ≤ 4000000000 := Nat.le_trans (few_size hfa) (by omega)
  have hb : b.size ≤ 4000000000 := Nat.le_trans (few_size hfb) (by omega)
  rcases few_two hfa hfb with h | ⟨q, r, rfl, rfl, hq, hr⟩
  · skip
    have e2 : qAddB a b = ⟨#[]⟩ := rT_ne (pair_bad (w := W) ha hb h _).1
    rw [e2]
    exact rAdd_e a b _ W (beq_eq_false_iff_ne.2 (pair_bad (w := W) ha hb h _).1) (pair_bad (w := W) ha hb h _).2
  · have oq := hq.ok (by omega)
    have or := hr.ok (by omega)
    have o1 := ok_pow (hq.nd hr) (by omega)
    have o2 := ok_pow (hq.dn hr) (by omega)
    have o3 := ok_pow (hq.dd hr) (by omega)
    have o4 := ok_pow (hq.nn hr) (by omega)
    have o5 := ok_pow (hq.dn' hr) (by omega)
    have hc : (Ok (q.num * (r.den : Int)) ∧ Ok (r.num * (q.den : Int)) ∧ Ok (q.num * (r.den : Int) + r.num * (q.den : Int))) ∧ Ok ((q.den : Int) * (r.den : Int)) := ⟨⟨o1, o2, ok_pow (addI_lt (hq.nd hr) (hq.dn hr)) (by omega)⟩, o3⟩
    rw [(qAdd_RS oq or).1, (qAdd_RS oq or).2, if_pos hc, if_pos hc]
    exact rAdd_c hq hr (by omega) W

theorem rSub_few (hfa : fewB a = true) (hfb : fewB b = true) (W : World) :
    Calls Tryz.prog 32 #[.string a, .string b] W fun r0 w' => r0 = .returned (.tuple #[.string (qSubB a b), .int .i64 (qSubE a b)]) ∧ Kp [] W w' := by
  have ha : a.size ≤ 4000000000 := Nat.le_trans (few_size hfa) (by omega)
  have hb : b.size ≤ 4000000000 := Nat.le_trans (few_size hfb) (by omega)
  rcases few_two hfa hfb with h | ⟨q, r, rfl, rfl, hq, hr⟩
  · skip
    have e2 : qSubB a b = ⟨#[]⟩ := rT_ne (pair_bad (w := W) ha hb h _).1
    rw [e2]
    exact rSub_e a b _ W (beq_eq_false_iff_ne.2 (pair_bad (w := W) ha hb h _).1) (pair_bad (w := W) ha hb h _).2
  · have oq := hq.ok (by omega)
    have or := hr.ok (by omega)
    have o1 := ok_pow (hq.nd hr) (by omega)
    have o2 := ok_pow (hq.dn hr) (by omega)
    have o3 := ok_pow (hq.dd hr) (by omega)
    have o4 := ok_pow (hq.nn hr) (by omega)
    have o5 := ok_pow (hq.dn' hr) (by omega)
    have hc : (Ok (q.num * (r.den : Int)) ∧ Ok (r.num * (q.den : Int)) ∧ Ok (q.num * (r.den : Int) - r.num * (q.den : Int))) ∧ Ok ((q.den : Int) * (r.den : Int)) := ⟨⟨o1, o2, ok_pow (subI_lt (hq.nd hr) (hq.dn hr)) (by omega)⟩, o3⟩
    rw [(qSub_RS oq or).1, (qSub_RS oq or).2, if_pos hc, if_pos hc]
    exact rSub_c hq hr (by omega) W

theorem rMul_few (hfa : fewB a = true) (hfb : fewB b = true) (W : World) :
    Calls Tryz.prog 34 #[.string a, .string b] W fun r0 w' => r0 = .returned (.tuple #[.string (qMulB a b), .int .i64 (qMulE a b)]) ∧ Kp [] W w' := by
  have ha : a.size ≤ 4000000000 := Nat.le_trans (few_size hfa) (by omega)
  have hb : b.size ≤ 4000000000 := Nat.le_trans (few_size hfb) (by omega)
  rcases few_two hfa hfb with h | ⟨q, r, rfl, rfl, hq, hr⟩
  · skip
    have e2 : qMulB a b = ⟨#[]⟩ := rT_ne (pair_bad (w := W) ha hb h _).1
    rw [e2]
    exact rMul_e a b _ W (beq_eq_false_iff_ne.2 (pair_bad (w := W) ha hb h _).1) (pair_bad (w := W) ha hb h _).2
  · have oq := hq.ok (by omega)
    have or := hr.ok (by omega)
    have o1 := ok_pow (hq.nd hr) (by omega)
    have o2 := ok_pow (hq.dn hr) (by omega)
    have o3 := ok_pow (hq.dd hr) (by omega)
    have o4 := ok_pow (hq.nn hr) (by omega)
    have o5 := ok_pow (hq.dn' hr) (by omega)
    have hc : Ok (q.num * r.num) ∧ Ok ((q.den : Int) * (r.den : Int)) := ⟨o4, o3⟩
    rw [(qMul_RS oq or).1, (qMul_RS oq or).2, if_pos hc, if_pos hc]
    exact rMul_c hq hr (by omega) W

theorem rDiv_few (hfa : fewB a = true) (hfb : fewB b = true) (W : World) :
    Calls Tryz.prog 36 #[.string a, .string b] W fun r0 w' => r0 = .returned (.tuple #[.string (qDivB a b), .int .i64 (qDivE a b)]) ∧ Kp [] W w' := by
  have ha : a.size ≤ 4000000000 := Nat.le_trans (few_size hfa) (by omega)
  have hb : b.size ≤ 4000000000 := Nat.le_trans (few_size hfb) (by omega)
  rcases few_two hfa hfb with h | ⟨q, r, rfl, rfl, hq, hr⟩
  · skip
    have e2 : qDivB a b = ⟨#[]⟩ := rT_ne (pair_bad (w := W) ha hb h _).1
    rw [e2]
    exact rDiv_e a b _ W (beq_eq_false_iff_ne.2 (pair_bad (w := W) ha hb h _).1) (pair_bad (w := W) ha hb h _).2
  · have oq := hq.ok (by omega)
    have or := hr.ok (by omega)
    have o1 := ok_pow (hq.nd hr) (by omega)
    have o2 := ok_pow (hq.dn hr) (by omega)
    have o3 := ok_pow (hq.dd hr) (by omega)
    have o4 := ok_pow (hq.nn hr) (by omega)
    have o5 := ok_pow (hq.dn' hr) (by omega)
    have hc : Ok (q.num * (r.den : Int)) ∧ Ok ((q.den : Int) * r.num) := ⟨o1, o5⟩
    rw [(qDiv_RS oq or).1, (qDiv_RS oq or).2]
    by_cases h0 : r = 0
    · subst h0
      have hz : (0 : Rat).num = 0 := rfl
      rw [if_pos hz, if_pos hz]
      exact rDiv_zc hq (by omega) W
    · have hn : ¬ r.num = 0 := fun e => h0 (Rat.num_eq_zero.1 e)
      rw [if_neg hn, if_neg hn, if_pos hc, if_pos hc]
      exact rDiv_c hq hr (by omega) h0 W

end
set_option maxRecDepth 100000 in
set_option maxHeartbeats 4000000 in
theorem comp_no1 (a b : ByteArray) (w : World) (f : Hid (Gw w 10 #[.string a] (.bool false))) (aw : Hid (Gw w 11 #[] (.bool true))) :
    Calls Tryz.prog 5 #[.string a, .string b] w fun r0 w' => r0 = .returned (.bool true) ∧ Kp [] w w' := by
  unfold Gw at f aw
  have kk := Kp.refl [] w
  go_enter Tryz.func5, Tryz.ntmps5
  go_wp2_with fail
  with_reducible refine (f.out _ kk).mono ?_
  rintro e w1 ⟨rfl, k⟩
  replace kk := kk.trans k; clear k
  go_wp2_with fail
  with_reducible refine (aw.out _ kk).mono ?_
  rintro e w2 ⟨rfl, k⟩
  replace kk := kk.trans k; clear k
  go_wp2
  go_ret
  exact ⟨rfl, kk⟩

set_option maxRecDepth 100000 in
set_option maxHeartbeats 4000000 in
theorem comp_no2 (a b : ByteArray) (w : World) (f : Hid (Gw w 10 #[.string a] (.bool true))) (g : Hid (Gw w 10 #[.string b] (.bool false))) (aw : Hid (Gw w 11 #[] (.bool true))) :
    Calls Tryz.prog 5 #[.string a, .string b] w fun r0 w' => r0 = .returned (.bool true) ∧ Kp [] w w' := by
  unfold Gw at f g aw
  have kk := Kp.refl [] w
  go_enter Tryz.func5, Tryz.ntmps5
  go_wp2_with fail
  with_reducible refine (f.out _ kk).mono ?_
  rintro e w1 ⟨rfl, k⟩
  replace kk := kk.trans k; clear k
  go_wp2_with fail
  with_reducible refine (g.out _ kk).mono ?_
  rintro e w2 ⟨rfl, k⟩
  replace kk := kk.trans k; clear k
  go_wp2_with fail
  with_reducible refine (aw.out _ kk).mono ?_
  rintro e w3 ⟨rfl, k⟩
  replace kk := kk.trans k; clear k
  go_wp2
  go_ret
  exact ⟨rfl, kk⟩

set_option maxRecDepth 100000 in
set_option maxHeartbeats 4000000 in
theorem comp_core (a b x0 x1 x2 x3 : ByteArray) (e0 e1 e2 e3 e4 c : Int) (w : World)
    (f : Hid (Gw w 10 #[.string a] (.bool true)))
    (g : Hid (Gw w 10 #[.string b] (.bool true)))
    (p1 : Hid (Gw w 29 #[.string a, .string b] (.tuple #[.string x0, .int .i64 e0])))
    (p2 : Hid (Gw w 30 #[.string a, .string b] (.tuple #[.string x0, .int .i64 e0])))
    (s1 : Hid (Gw w 31 #[.string a, .string b] (.tuple #[.string x1, .int .i64 e1])))
    (s2 : Hid (Gw w 32 #[.string a, .string b] (.tuple #[.string x1, .int .i64 e1])))
    (t1 : Hid (Gw w 33 #[.string a, .string b] (.tuple #[.string x2, .int .i64 e2])))
    (t2 : Hid (Gw w 34 #[.string a, .string b] (.tuple #[.string x2, .int .i64 e2])))
    (u1 : Hid (Gw w 35 #[.string a, .string b] (.tuple #[.string x3, .int .i64 e3])))
    (u2 : Hid (Gw w 36 #[.string a, .string b] (.tuple #[.string x3, .int .i64 e3])))
    (v1 : Hid (Gw w 37 #[.string a, .string b] (.tuple #[.int .i64 c, .int .i64 e4])))
    (v2 : Hid (Gw w 38 #[.string a, .string b] (.tuple #[.int .i64 c, .int .i64 e4])))
    (aw : Hid (Gw w 11 #[] (.bool true))) :
    Calls Tryz.prog 5 #[.string a, .string b] w fun r0 w' => r0 = .returned (.bool true) ∧ Kp [] w w' := by
  unfold Gw at f g p1 p2 s1 s2 t1 t2 u1 u2 v1 v2 aw
  have kk := Kp.refl [] w
  go_enter Tryz.func5, Tryz.ntmps5
  go_wp2_with fail
  with_reducible refine (f.out _ kk).mono ?_
  rintro e w1 ⟨rfl, k⟩
  replace kk := kk.trans k; clear k
  go_wp2_with fail
  with_reducible refine (g.out _ kk).mono ?_
  rintro e w2 ⟨rfl, k⟩
  replace kk := kk.trans k; clear k
  go_wp2_with fail
  with_reducible refine (p1.out _ kk).mono ?_
  rintro e w3 ⟨rfl, k⟩
  replace kk := kk.trans k; clear k
  go_wp2_with fail
  with_reducible refine (p2.out _ kk).mono ?_
  rintro e w4 ⟨rfl, k⟩
  replace kk := kk.trans k; clear k
  go_wp2_with fail
  with_reducible refine (s1.out _ kk).mono ?_
  rintro e w5 ⟨rfl, k⟩
  replace kk := kk.trans k; clear k
  go_wp2_with fail
  with_reducible refine (s2.out _ kk).mono ?_
  rintro e w6 ⟨rfl, k⟩
  replace kk := kk.trans k; clear k
  go_wp2_with fail
  with_reducible refine (t1.out _ kk).mono ?_
  rintro e w7 ⟨rfl, k⟩
  replace kk := kk.trans k; clear k
  go_wp2_with fail
  with_reducible refine (t2.out _ kk).mono ?_
  rintro e w8 ⟨rfl, k⟩
  replace kk := kk.trans k; clear k
  go_wp2_with fail
  with_reducible refine (u1.out _ kk).mono ?_
  rintro e w9 ⟨rfl, k⟩
  replace kk := kk.trans k; clear k
  go_wp2_with fail
  with_reducible refine (u2.out _ kk).mono ?_
  rintro e w10 ⟨rfl, k⟩
  replace kk := kk.trans k; clear k
  go_wp2_with fail
  with_reducible refine (v1.out _ kk).mono ?_
  rintro e w11 ⟨rfl, k⟩
  replace kk := kk.trans k; clear k
  go_wp2_with fail
  with_reducible refine (v2.out _ kk).mono ?_
  rintro e w12 ⟨rfl, k⟩
  replace kk := kk.trans k; clear k
  go_wp2_with fail
  with_reducible refine (aw.out _ kk).mono ?_
  rintro e w13 ⟨rfl, k⟩
  replace kk := kk.trans k; clear k
  go_wp2
  go_ret
  exact ⟨rfl, kk⟩

theorem Comp2_any (a b : ByteArray) (w : World) (ha : a.size ≤ 9223372036854775807) (hb : b.size ≤ 9223372036854775807) (hl : Tab w) :
    Calls Tryz.prog 5 #[.string a, .string b] w fun r0 w' => r0 = .returned (.bool true) ∧ Kp [] w w' := by
  have f : Hid (Gw w 10 #[.string a] (.bool (fewB a))) := gw_of fun W => few_any a W ha
  have g : Hid (Gw w 10 #[.string b] (.bool (fewB b))) := gw_of fun W => few_any b W hb
  cases hf : fewB a with
  | false =>
    rw [hf] at f
    exact comp_no1 a b w f (gw_awake hl)
  | true =>
    rw [hf] at f
    cases hg : fewB b with
    | false =>
      rw [hg] at g
      exact comp_no2 a b w f g (gw_awake hl)
    | true =>
      rw [hg] at g
      have hz := few_size hf
      have hy := few_size hg
      exact comp_core a b _ _ _ _ _ _ _ _ _ _ w f g (gw_of fun W => qAdd_any a b W (by omega) (by omega)) (gw_of fun W => rAdd_few hf hg W) (gw_of fun W => qSub_any a b W (by omega) (by omega)) (gw_of fun W => rSub_few hf hg W)
        (gw_of fun W => qMul_any a b W (by omega) (by omega)) (gw_of fun W => rMul_few hf hg W) (gw_of fun W => qDiv_any a b W (by omega) (by omega)) (gw_of fun W => rDiv_few hf hg W)
        (gw_of fun W => qCompare_any a b W (by omega) (by omega)) (gw_of fun W => rCompare_few hf hg W) (gw_awake hl)

end Go.Proofs.YtminjcknmhgpiaaGreatDoor
