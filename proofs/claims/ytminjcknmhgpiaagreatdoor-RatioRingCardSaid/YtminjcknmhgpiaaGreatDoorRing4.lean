/- RatioRing returns true for every input. -/
import Derived.Test.YtminjcknmhgpiaaGreatDoorM55
import Derived.Test.YtminjcknmhgpiaaGreatDoorM51
import Derived.Test.YtminjcknmhgpiaaGreatDoorM49
import Derived.Test.YtminjcknmhgpiaaGreatDoorM45
import Derived.Test.YtminjcknmhgpiaaGreatDoorM47
namespace Go.Proofs.YtminjcknmhgpiaaGreatDoor
open Go.RowKit
open Go.Lib (nDigits itoa decDigits)

set_option maxRecDepth 100000 in
set_option maxHeartbeats 4000000 in
theorem ring_bad (a b c : ByteArray) (w : World) (ha : a.size ≤ 9223372036854775807) (hb : b.size ≤ 9223372036854775807) (hcc : c.size ≤ 9223372036854775807) (hsh : [a, b, c].any badB = true) (hl : Tab w) :
    Calls Tryz.prog 8 #[.string a, .string b, .string c] w fun e w' => e = .returned (.bool true) ∧ Kp [] w w' := by
  have hs := strs3Q (heap_alloc_new w (.cells #[.string a, .string b, .string c] 22 (0, 0)))
  have hk0 : Kp [] w (w.alloc (.cells #[.string a, .string b, .string c] 22 (0, 0))) := (Kp.refl _ _).alloc _
  have hq := Lib.hid (right_any w.heap.size 0 3 [a, b, c] _ hs (by simp) (by simp) (by intro s h; simp at h; rcases h with rfl | rfl | rfl <;> assumption))
  rw [hsh] at hq
  simp only [List.length_cons, List.length_nil, Nat.zero_add, Nat.reduceAdd] at hq
  have qa := gw_awake hl
  unfold Gw at qa
  clear hs hsh ha hb hcc hl
  go_enter Tryz.func8, Tryz.ntmps8
  go_wp2_with fail
  with_reducible refine hq.out.mono ?_
  rintro e w1 ⟨rfl, k⟩
  have k1 := hk0.trans k; clear k
  go_wp2_with fail
  with_reducible refine (qa.out _ k1).mono ?_
  rintro e w2 ⟨rfl, k⟩
  go_wp2
  go_ret
  exact ⟨rfl, k1.trans k⟩

section
variable {j k : Nat} {x y : Rat}
theorem ra_add {s : Rat} (hx : Sm j x) (hy : Sm k y) (h : j + k < 1024) (e : x + y = s) : Hid (RA 50 (RS x) (RS y) (RS s)) := fun W b g hb hg => by
  subst e
  exact ring1_any b g _ _ _ W hb hg (fun W' _ => add_c hx hy h W')
theorem ra_mul {s : Rat} (hx : Sm j x) (hy : Sm k y) (h : j + k ≤ 1024) (e : x * y = s) : Hid (RA 52 (RS x) (RS y) (RS s)) := fun W b g hb hg => by
  subst e
  exact ring2_any b g _ _ _ W hb hg (fun W' _ => mul_c hx hy h W')
end
/-- the sum of three -/
theorem sum3_c {q r t : Rat} (hq : Sm 30 q) (hr : Sm 30 r) (ht : Sm 30 t) : Hid (R3 (RS q) (RS r) (RS t) (RS (q + r + t))) := fun W g hs hg => by
  have oq := hq.ok (by omega)
  have or := hr.ok (by omega)
  have ot := ht.ok (by omega)
  have c := qSum_any g 0 3 [RS q, RS r, RS t] W hs hg (by intro s h; simp at h; rcases h with rfl | rfl | rfl <;> first | exact oq.size9 | exact or.size9 | exact ot.size9) (by simp)
  have hm := (smT_RS [q, r, t] (by intro s h; simp at h; rcases h with rfl | rfl | rfl <;> assumption)).1 (q + r + t) (by
    have h0 : Sm 2 (0 : Rat) := sm_lit (by decide)
    have hq' : Sm 33 (0 + q) := h0.add hq
    have hr' : Sm 64 (0 + q + r) := hq'.add hr
    simp only [List.foldl_cons, List.foldl_nil, sumO, Option.bind_some]
    rw [if_pos (h0.sumOk hq (by omega))]
    simp only [Option.bind_some]
    rw [if_pos (hq'.sumOk hr (by omega))]
    simp only [Option.bind_some]
    rw [if_pos (hr'.sumOk ht (by omega)), Rat.zero_add])
  have e1 : qSumE [RS q, RS r, RS t] = 0 := by
    unfold qSumE
    rw [if_neg (by simp), show [RS q, RS r, RS t] = [q, r, t].map RS from rfl, hm.1]
  have e2 : qSumB [RS q, RS r, RS t] = RS (q + r + t) := by
    unfold qSumB
    rw [if_neg (by simp), show [RS q, RS r, RS t] = [q, r, t].map RS from rfl, hm.1]
    exact rT_RS _
  rw [e1, e2] at c
  exact c
theorem RS_zero_list (r : Rat) (h : OkR r) : ((RS r).toList == [48]) = decide (r = 0) := by
  have e : (RS (0 : Rat)).toList = [48] := by rw [l_0]; decide +kernel
  rw [← e]
  exact RS_beq h ((sm_lit (q := 0) (by decide)).ok (by omega))

theorem Ring_any (a b c : ByteArray) (w : World) (ha : a.size ≤ 9223372036854775807) (hb : b.size ≤ 9223372036854775807) (hcc : c.size ≤ 9223372036854775807) (hl : Tab w) :
    Calls Tryz.prog 8 #[.string a, .string b, .string c] w fun e w' => e = .returned (.bool true) ∧ Kp [] w w' := by
  cases hsh : [a, b, c].any badB with
  | true => exact ring_bad a b c w ha hb hcc hsh hl
  | false =>
    have h2 := hsh
    simp only [List.any_cons, List.any_nil, Bool.or_false, Bool.or_eq_false_iff] at h2
    obtain ⟨q, rfl, hq⟩ := good_RS h2.1
    obtain ⟨r, rfl, hr⟩ := good_RS h2.2.1
    obtain ⟨t, rfl, ht⟩ := good_RS h2.2.2
    have hqr := hq.add hr
    have hrt := hr.add ht
    have mqr := hq.mul hr
    have mrt := hr.mul ht
    have mqt := hq.mul ht
    have hs3 := hqr.add ht
    have hp3 := mqr.mul ht
    have hd := hq.mul hrt
    have or := hr.ok (by omega)
    have ck : ∀ {j : Nat} {x : Rat}, Sm j x → j ≤ 1024 → ∀ W : World, Calls Tryz.prog 20 #[.string (RS x)] W fun e w' => e = .returned (.int .i64 0) ∧ Kp [] W w' := fun h hj W => check_c h hj W
    have z0 : Sm 2 (0 : Rat) := sm_lit (by decide)
    have hz0 : Hid (RA 50 (RS q) (RS (-q)) ⟨#[48]⟩) := by
      have c := ra_add (s := 0) hq hq.neg (by omega) (by grind)
      rwa [l_0] at c
    by_cases h0 : r = 0
    · subst h0
      refine ringZ (RS q) (RS 0) (RS t) (RS (q + 0)) (RS (0 + t)) (RS (q * 0)) (RS (0 * t)) (RS (q + 0 + t)) (RS (q * 0 * t)) (RS (q * (0 + t))) (RS (q * t)) (RS (-q)) w ha hb hcc hsh (by rw [RS_zero_list _ or]; rfl)
        (ra_add hq hr (by omega) rfl) (ra_add hr hq (by omega) (by grind)) (ra_mul hq hr (by omega) rfl) (ra_mul hr hq (by omega) (by grind))
        (ra_add hqr ht (by omega) rfl) (ra_add hr ht (by omega) rfl) (ra_add hq hrt (by omega) (by grind)) (ra_mul mqr ht (by omega) rfl) (ra_mul hr ht (by omega) rfl) (ra_mul hq mrt (by omega) (by grind))
        (ra_mul hq hrt (by omega) rfl) (ra_mul hq ht (by omega) rfl) (ra_add mqr mqt (by omega) (by grind)) (fun W => by
          have c := sub_c hqr hr (by omega) W
          rwa [show q + 0 - 0 = q by grind] at c) (fun W => neg_c hq (by omega) W) hz0 (sum3_c hq hr ht) (fun W => div_z hq (by omega) W) ?_ (gw_awake hl)
      intro x hx W
      simp only [List.mem_cons, List.not_mem_nil, or_false] at hx
      rcases hx with rfl | rfl | rfl | rfl | rfl | rfl | rfl | rfl
      · exact ck hqr (by omega) W
      · exact ck mqr (by omega) W
      · exact ck hs3 (by omega) W
      · exact ck hp3 (by omega) W
      · exact ck hd (by omega) W
      · exact ck hq (by omega) W
      · have c := ck z0 (by omega) W
        rwa [l_0] at c
      · exact ck hs3 (by omega) W
    · refine ringN (RS q) (RS r) (RS t) (RS (q + r)) (RS (r + t)) (RS (q * r)) (RS (r * t)) (RS (q + r + t)) (RS (q * r * t)) (RS (q * (r + t))) (RS (q * t)) (RS (-q)) w ha hb hcc hsh (by rw [RS_zero_list _ or, decide_eq_false h0])
        (ra_add hq hr (by omega) rfl) (ra_add hr hq (by omega) (by grind)) (ra_mul hq hr (by omega) rfl) (ra_mul hr hq (by omega) (by grind))
        (ra_add hqr ht (by omega) rfl) (ra_add hr ht (by omega) rfl) (ra_add hq hrt (by omega) (by grind)) (ra_mul mqr ht (by omega) rfl) (ra_mul hr ht (by omega) rfl) (ra_mul hq mrt (by omega) (by grind))
        (ra_mul hq hrt (by omega) rfl) (ra_mul hq ht (by omega) rfl) (ra_add mqr mqt (by omega) (by grind)) (fun W => by
          have c := sub_c hqr hr (by omega) W
          rwa [show q + r - r = q by grind] at c) (fun W => neg_c hq (by omega) W) hz0 (sum3_c hq hr ht) (fun W => by
          have c := div_c mqr hr (by omega) h0 W
          rwa [show q * r / r = q by grind] at c) ?_ (gw_awake hl)
      intro x hx W
      simp only [List.mem_cons, List.not_mem_nil, or_false] at hx
      rcases hx with rfl | rfl | rfl | rfl | rfl | rfl | rfl | rfl | rfl
      · exact ck hqr (by omega) W
      · exact ck mqr (by omega) W
      · exact ck hs3 (by omega) W
      · exact ck hp3 (by omega) W
      · exact ck hd (by omega) W
      · exact ck hq (by omega) W
      · have c := ck z0 (by omega) W
        rwa [l_0] at c
      · exact ck hs3 (by omega) W
      · exact ck hq (by omega) W
end Go.Proofs.YtminjcknmhgpiaaGreatDoor
