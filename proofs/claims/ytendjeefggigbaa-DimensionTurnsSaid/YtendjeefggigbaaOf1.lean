/- The reference of package dimension: limits. -/
import Derived.Test.YtendjeefggigbaaOd2
namespace Go.Proofs.Ytendjeefggigbaa
open Go.RowKit

theorem lmE_eq (l h : Int) : lmE l h = if inR l = true ∧ inR h = true then (if h < l then 9 else 0) else 2 := by
  unfold lmE inAll
  simp only [List.all_cons, List.all_nil, Bool.and_true]
  cases inR l <;> cases inR h <;> by_cases e : h < l <;> simp [firstE, e]
theorem inR_f1 {z : Int} (h : z < -100000) : inR z = false := by unfold inR; rw [decide_eq_false (by omega)]; rfl
theorem inR_f2 {z : Int} (h : 100000 < z) : inR z = false := by unfold inR; rw [decide_eq_false (show ¬ z ≤ 100000 by omega), Bool.and_false]
theorem inR_t {z : Int} (h : -100000 ≤ z) (h2 : z ≤ 100000) : inR z = true := by unfold inR; rw [decide_eq_true h, decide_eq_true h2]; rfl
theorem inR_iff {z : Int} : inR z = true ↔ -100000 ≤ z ∧ z ≤ 100000 := by unfold inR; simp
set_option maxRecDepth 100000 in
set_option maxHeartbeats 1000000 in
theorem rIn (z : Int) : Ca 43 #[.int .i64 z] (.bool (inR z)) := Lib.hid fun w => by
  by_cases h1 : z < -100000
  · rw [inR_f1 h1]
    go_enter Try.func43, Try.ntmps43
    go_wp2
    go_ret
    exact ⟨rfl, Kb.refl _⟩
  · by_cases h2 : 100000 < z
    · rw [inR_f2 h2]
      go_enter Try.func43, Try.ntmps43
      have hd : decide (z ≤ 100000) = false := decide_eq_false (by omega)
      go_wp2
      go_ret
      exact ⟨rfl, Kb.refl _⟩
    · rw [inR_t (by omega) (by omega)]
      go_enter Try.func43, Try.ntmps43
      have hd : decide (z ≤ 100000) = true := decide_eq_true (by omega)
      go_wp2
      go_ret
      exact ⟨rfl, Kb.refl _⟩

set_option maxRecDepth 100000 in
set_option maxHeartbeats 1000000 in
theorem rCheck_1 (l h : Int) (q1 : Ca 43 #[.int .i64 l] (.bool false)) (w : World) : Calls Try.prog 17 #[.agg #[.int .i64 l, .int .i64 h]] w fun r W' => r = .returned (.int .i64 2) ∧ Kb w W' := by
  have kx := Kb.refl w
  unfold Ca at *
  have b0 := Is.made w #[.int .i64 l, .int .i64 h] 23
  replace kx := kx.alloc (.cells #[.int .i64 l, .int .i64 h] 23 (0, 0))
  have b0_0 := b0.c (i := 0) rfl
  have b0_1 := b0.c (i := 1) rfl
  go_enter Try.func17, Try.ntmps17
  go_wp2_with fail
  (with_reducible refine (q1.out _).mono ?_)
  rintro r w1 ⟨rfl, k1⟩
  clear b0_0 b0_1
  replace b0 := b0.kb k1
  replace kx := kx.trans k1
  clear k1
  have b0_0 := b0.c (i := 0) rfl
  have b0_1 := b0.c (i := 1) rfl
  go_wp2
  go_ret
  exact ⟨rfl, kx⟩
set_option maxRecDepth 100000 in
set_option maxHeartbeats 1000000 in
theorem rCheck_2 (l h : Int) (q1 : Ca 43 #[.int .i64 l] (.bool true)) (q2 : Ca 43 #[.int .i64 h] (.bool false)) (w : World) : Calls Try.prog 17 #[.agg #[.int .i64 l, .int .i64 h]] w fun r W' => r = .returned (.int .i64 2) ∧ Kb w W' := by
  have kx := Kb.refl w
  unfold Ca at *
  have b0 := Is.made w #[.int .i64 l, .int .i64 h] 23
  replace kx := kx.alloc (.cells #[.int .i64 l, .int .i64 h] 23 (0, 0))
  have b0_0 := b0.c (i := 0) rfl
  have b0_1 := b0.c (i := 1) rfl
  go_enter Try.func17, Try.ntmps17
  go_wp2_with fail
  (with_reducible refine (q1.out _).mono ?_)
  rintro r w1 ⟨rfl, k1⟩
  clear b0_0 b0_1
  replace b0 := b0.kb k1
  replace kx := kx.trans k1
  clear k1
  have b0_0 := b0.c (i := 0) rfl
  have b0_1 := b0.c (i := 1) rfl
  go_wp2_with fail
  (with_reducible refine (q2.out _).mono ?_)
  rintro r w2 ⟨rfl, k2⟩
  clear b0_0 b0_1
  replace b0 := b0.kb k2
  replace kx := kx.trans k2
  clear k2
  have b0_0 := b0.c (i := 0) rfl
  have b0_1 := b0.c (i := 1) rfl
  go_wp2
  go_ret
  exact ⟨rfl, kx⟩
set_option maxRecDepth 100000 in
set_option maxHeartbeats 1000000 in
theorem rCheck_3 (l h : Int) (ho : h < l) (q1 : Ca 43 #[.int .i64 l] (.bool true)) (q2 : Ca 43 #[.int .i64 h] (.bool true)) (w : World) : Calls Try.prog 17 #[.agg #[.int .i64 l, .int .i64 h]] w fun r W' => r = .returned (.int .i64 9) ∧ Kb w W' := by
  have kx := Kb.refl w
  unfold Ca at *
  have b0 := Is.made w #[.int .i64 l, .int .i64 h] 23
  replace kx := kx.alloc (.cells #[.int .i64 l, .int .i64 h] 23 (0, 0))
  have b0_0 := b0.c (i := 0) rfl
  have b0_1 := b0.c (i := 1) rfl
  go_enter Try.func17, Try.ntmps17
  go_wp2_with fail
  (with_reducible refine (q1.out _).mono ?_)
  rintro r w1 ⟨rfl, k1⟩
  clear b0_0 b0_1
  replace b0 := b0.kb k1
  replace kx := kx.trans k1
  clear k1
  have b0_0 := b0.c (i := 0) rfl
  have b0_1 := b0.c (i := 1) rfl
  go_wp2_with fail
  (with_reducible refine (q2.out _).mono ?_)
  rintro r w2 ⟨rfl, k2⟩
  clear b0_0 b0_1
  replace b0 := b0.kb k2
  replace kx := kx.trans k2
  clear k2
  have b0_0 := b0.c (i := 0) rfl
  have b0_1 := b0.c (i := 1) rfl
  go_wp2
  go_ret
  exact ⟨rfl, kx⟩
set_option maxRecDepth 100000 in
set_option maxHeartbeats 1000000 in
theorem rCheck_4 (l h : Int) (ho : ¬ h < l) (q1 : Ca 43 #[.int .i64 l] (.bool true)) (q2 : Ca 43 #[.int .i64 h] (.bool true)) (w : World) : Calls Try.prog 17 #[.agg #[.int .i64 l, .int .i64 h]] w fun r W' => r = .returned (.int .i64 0) ∧ Kb w W' := by
  have kx := Kb.refl w
  unfold Ca at *
  have b0 := Is.made w #[.int .i64 l, .int .i64 h] 23
  replace kx := kx.alloc (.cells #[.int .i64 l, .int .i64 h] 23 (0, 0))
  have b0_0 := b0.c (i := 0) rfl
  have b0_1 := b0.c (i := 1) rfl
  go_enter Try.func17, Try.ntmps17
  go_wp2_with fail
  (with_reducible refine (q1.out _).mono ?_)
  rintro r w1 ⟨rfl, k1⟩
  clear b0_0 b0_1
  replace b0 := b0.kb k1
  replace kx := kx.trans k1
  clear k1
  have b0_0 := b0.c (i := 0) rfl
  have b0_1 := b0.c (i := 1) rfl
  go_wp2_with fail
  (with_reducible refine (q2.out _).mono ?_)
  rintro r w2 ⟨rfl, k2⟩
  clear b0_0 b0_1
  replace b0 := b0.kb k2
  replace kx := kx.trans k2
  clear k2
  have b0_0 := b0.c (i := 0) rfl
  have b0_1 := b0.c (i := 1) rfl
  go_wp2
  go_ret
  exact ⟨rfl, kx⟩
theorem rCheck (l h : Int) : Ca 17 #[.agg #[.int .i64 l, .int .i64 h]] (.int .i64 (lmE l h)) := Lib.hid fun w => by
  have q1 := rIn l
  have q2 := rIn h
  rw [lmE_eq]
  rcases Bool.eq_false_or_eq_true (inR l) with e1 | e1
  · rcases Bool.eq_false_or_eq_true (inR h) with e2 | e2
    · rw [if_pos ⟨e1, e2⟩]
      rw [e1] at q1
      rw [e2] at q2
      by_cases ho : h < l
      · rw [if_pos ho]; exact rCheck_3 l h ho q1 q2 w
      · rw [if_neg ho]; exact rCheck_4 l h ho q1 q2 w
    · rw [if_neg (fun x => by rw [e2] at x; cases x.2)]
      rw [e1] at q1
      rw [e2] at q2
      exact rCheck_2 l h q1 q2 w
  · rw [if_neg (fun x => by rw [e1] at x; cases x.1)]
    rw [e1] at q1
    exact rCheck_1 l h q1 w
set_option maxRecDepth 100000 in
set_option maxHeartbeats 1000000 in
theorem rchecked_e (l h : Int) (e : Int) (he : (e != 0) = true) (q1 : Ca 17 #[.agg #[.int .i64 l, .int .i64 h]] (.int .i64 e)) (w : World) : Calls Try.prog 44 #[.agg #[.int .i64 l, .int .i64 h]] w fun r W' => r = .returned (.tuple #[.agg #[.int .i64 0, .int .i64 0], .int .i64 e]) ∧ Kb w W' := by
  have kx := Kb.refl w
  unfold Ca at *
  have b0 := Is.made w #[.int .i64 l, .int .i64 h] 23
  replace kx := kx.alloc (.cells #[.int .i64 l, .int .i64 h] 23 (0, 0))
  replace b0 := b0.alloc (.cells #[.int .i64 0, .int .i64 0] 23 (0, 0))
  have b1 := Is.made (w.alloc (.cells #[.int .i64 l, .int .i64 h] 23 (0, 0))) #[.int .i64 0, .int .i64 0] 23
  replace kx := kx.alloc (.cells #[.int .i64 0, .int .i64 0] 23 (0, 0))
  rw [World.size_alloc] at b1
  have b0_0 := b0.c (i := 0) rfl
  have b0_1 := b0.c (i := 1) rfl
  have b1_0 := b1.c (i := 0) rfl
  have b1_1 := b1.c (i := 1) rfl
  go_enter Try.func44, Try.ntmps44
  go_wp2_with fail
  (with_reducible refine (q1.out _).mono ?_)
  rintro r w1 ⟨rfl, k1⟩
  clear b0_0 b0_1 b1_0 b1_1
  replace b0 := b0.kb k1
  replace b1 := b1.kb k1
  replace kx := kx.trans k1
  clear k1
  obtain ⟨zn, pt⟩ := put2 b1 (.int .i64 0) (.int .i64 0)
  have kz := pt.kb kx (by omega)
  have b0_0 := b0.c (i := 0) rfl
  have b0_1 := b0.c (i := 1) rfl
  have b1_0 := b1.c (i := 0) rfl
  have b1_1 := b1.c (i := 1) rfl
  have b1_ff := b1.f
  have b1_f0 := b1_ff 0
  have b1_f1 := b1_ff 1
  clear b1_ff
  clear b0 b1 kx pt
  go_wp2
  refine ret_row2 Try.results44 rfl rfl rfl zn Try.underlying23 rfl (by kernel_rfl) ?_
  exact ⟨rfl, kz⟩
set_option maxRecDepth 100000 in
set_option maxHeartbeats 1000000 in
theorem rchecked_0 (l h : Int) (q1 : Ca 17 #[.agg #[.int .i64 l, .int .i64 h]] (.int .i64 0)) (w : World) : Calls Try.prog 44 #[.agg #[.int .i64 l, .int .i64 h]] w fun r W' => r = .returned (.tuple #[.agg #[.int .i64 l, .int .i64 h], .int .i64 0]) ∧ Kb w W' := by
  have kx := Kb.refl w
  unfold Ca at *
  have b0 := Is.made w #[.int .i64 l, .int .i64 h] 23
  replace kx := kx.alloc (.cells #[.int .i64 l, .int .i64 h] 23 (0, 0))
  replace b0 := b0.alloc (.cells #[.int .i64 0, .int .i64 0] 23 (0, 0))
  have b1 := Is.made (w.alloc (.cells #[.int .i64 l, .int .i64 h] 23 (0, 0))) #[.int .i64 0, .int .i64 0] 23
  replace kx := kx.alloc (.cells #[.int .i64 0, .int .i64 0] 23 (0, 0))
  rw [World.size_alloc] at b1
  have b0_0 := b0.c (i := 0) rfl
  have b0_1 := b0.c (i := 1) rfl
  have b1_0 := b1.c (i := 0) rfl
  have b1_1 := b1.c (i := 1) rfl
  go_enter Try.func44, Try.ntmps44
  go_wp2_with fail
  (with_reducible refine (q1.out _).mono ?_)
  rintro r w1 ⟨rfl, k1⟩
  clear b0_0 b0_1 b1_0 b1_1
  replace b0 := b0.kb k1
  replace b1 := b1.kb k1
  replace kx := kx.trans k1
  clear k1
  obtain ⟨zn, pt⟩ := put2 b1 (.int .i64 l) (.int .i64 h)
  have kz := pt.kb kx (by omega)
  have b0_0 := b0.c (i := 0) rfl
  have b0_1 := b0.c (i := 1) rfl
  have b1_0 := b1.c (i := 0) rfl
  have b1_1 := b1.c (i := 1) rfl
  have b1_ff := b1.f
  have b1_f0 := b1_ff 0
  have b1_f1 := b1_ff 1
  clear b1_ff
  clear b0 b1 kx pt
  go_wp2
  refine ret_row2 Try.results44 rfl rfl rfl zn Try.underlying23 rfl (by kernel_rfl) ?_
  exact ⟨rfl, kz⟩
theorem ne_b {e : Int} (h : e ≠ 0) : (e != 0) = true := by simpa using h
theorem zI_0 (z : Int) : zI 0 z = z := if_pos rfl
theorem zI_e {e : Int} (h : e ≠ 0) (z : Int) : zI e z = 0 := if_neg h
theorem zS_0 (s : ByteArray) : zS 0 s = s := if_pos rfl
theorem zS_e {e : Int} (h : e ≠ 0) (s : ByteArray) : zS e s = ⟨#[]⟩ := if_neg h
theorem zB_0 (b : Bool) : zB 0 b = b := if_pos rfl
theorem zB_e {e : Int} (h : e ≠ 0) (b : Bool) : zB e b = false := if_neg h
theorem rchecked (l h : Int) : Ca 44 #[.agg #[.int .i64 l, .int .i64 h]] (.tuple #[.agg #[.int .i64 (zI (lmE l h) l), .int .i64 (zI (lmE l h) h)], .int .i64 (lmE l h)]) := Lib.hid fun w => by
  have q := rCheck l h
  by_cases h0 : lmE l h = 0
  · rw [h0] at q ⊢
    rw [zI_0, zI_0]; exact rchecked_0 l h q w
  · rw [zI_e h0, zI_e h0]; exact rchecked_e l h _ (ne_b h0) q w
set_option maxRecDepth 100000 in
set_option maxHeartbeats 1000000 in
theorem rboth_e (l h m k : Int) (e : Int) (he : (e != 0) = true) (q1 : Ca 17 #[.agg #[.int .i64 l, .int .i64 h]] (.int .i64 e)) (w : World) : Calls Try.prog 50 #[.agg #[.int .i64 l, .int .i64 h], .agg #[.int .i64 m, .int .i64 k]] w fun r W' => r = .returned (.int .i64 e) ∧ Kb w W' := by
  have kx := Kb.refl w
  unfold Ca at *
  have b0 := Is.made w #[.int .i64 l, .int .i64 h] 23
  replace kx := kx.alloc (.cells #[.int .i64 l, .int .i64 h] 23 (0, 0))
  replace b0 := b0.alloc (.cells #[.int .i64 m, .int .i64 k] 23 (0, 0))
  have b1 := Is.made (w.alloc (.cells #[.int .i64 l, .int .i64 h] 23 (0, 0))) #[.int .i64 m, .int .i64 k] 23
  replace kx := kx.alloc (.cells #[.int .i64 m, .int .i64 k] 23 (0, 0))
  rw [World.size_alloc] at b1
  have b0_0 := b0.c (i := 0) rfl
  have b0_1 := b0.c (i := 1) rfl
  have b1_0 := b1.c (i := 0) rfl
  have b1_1 := b1.c (i := 1) rfl
  go_enter Try.func50, Try.ntmps50
  go_wp2_with fail
  (with_reducible refine (q1.out _).mono ?_)
  rintro r w1 ⟨rfl, k1⟩
  clear b0_0 b0_1 b1_0 b1_1
  replace b0 := b0.kb k1
  replace b1 := b1.kb k1
  replace kx := kx.trans k1
  clear k1
  have b0_0 := b0.c (i := 0) rfl
  have b0_1 := b0.c (i := 1) rfl
  have b1_0 := b1.c (i := 0) rfl
  have b1_1 := b1.c (i := 1) rfl
  go_wp2
  go_ret
  exact ⟨rfl, kx⟩
set_option maxRecDepth 100000 in
set_option maxHeartbeats 1000000 in
theorem rboth_0 (l h m k : Int) (e : Int) (q1 : Ca 17 #[.agg #[.int .i64 l, .int .i64 h]] (.int .i64 0)) (q2 : Ca 17 #[.agg #[.int .i64 m, .int .i64 k]] (.int .i64 e)) (w : World) : Calls Try.prog 50 #[.agg #[.int .i64 l, .int .i64 h], .agg #[.int .i64 m, .int .i64 k]] w fun r W' => r = .returned (.int .i64 e) ∧ Kb w W' := by
  have kx := Kb.refl w
  unfold Ca at *
  have b0 := Is.made w #[.int .i64 l, .int .i64 h] 23
  replace kx := kx.alloc (.cells #[.int .i64 l, .int .i64 h] 23 (0, 0))
  replace b0 := b0.alloc (.cells #[.int .i64 m, .int .i64 k] 23 (0, 0))
  have b1 := Is.made (w.alloc (.cells #[.int .i64 l, .int .i64 h] 23 (0, 0))) #[.int .i64 m, .int .i64 k] 23
  replace kx := kx.alloc (.cells #[.int .i64 m, .int .i64 k] 23 (0, 0))
  rw [World.size_alloc] at b1
  have b0_0 := b0.c (i := 0) rfl
  have b0_1 := b0.c (i := 1) rfl
  have b1_0 := b1.c (i := 0) rfl
  have b1_1 := b1.c (i := 1) rfl
  go_enter Try.func50, Try.ntmps50
  go_wp2_with fail
  (with_reducible refine (q1.out _).mono ?_)
  rintro r w1 ⟨rfl, k1⟩
  clear b0_0 b0_1 b1_0 b1_1
  replace b0 := b0.kb k1
  replace b1 := b1.kb k1
  replace kx := kx.trans k1
  clear k1
  have b0_0 := b0.c (i := 0) rfl
  have b0_1 := b0.c (i := 1) rfl
  have b1_0 := b1.c (i := 0) rfl
  have b1_1 := b1.c (i := 1) rfl
  go_wp2_with fail
  (with_reducible refine (q2.out _).mono ?_)
  rintro r w2 ⟨rfl, k2⟩
  clear b0_0 b0_1 b1_0 b1_1
  replace b0 := b0.kb k2
  replace b1 := b1.kb k2
  replace kx := kx.trans k2
  clear k2
  have b0_0 := b0.c (i := 0) rfl
  have b0_1 := b0.c (i := 1) rfl
  have b1_0 := b1.c (i := 0) rfl
  have b1_1 := b1.c (i := 1) rfl
  go_wp2
  go_ret
  exact ⟨rfl, kx⟩
theorem lm2_e {l h m k : Int} (h0 : lmE l h ≠ 0) : lm2 l h m k = lmE l h := if_neg h0
theorem lm2_0 {l h m k : Int} (h0 : lmE l h = 0) : lm2 l h m k = lmE m k := (if_pos h0).trans (firstE_one _)
theorem rboth (l h m k : Int) : Ca 50 #[.agg #[.int .i64 l, .int .i64 h], .agg #[.int .i64 m, .int .i64 k]] (.int .i64 (lm2 l h m k)) := Lib.hid fun w => by
  have q := rCheck l h
  by_cases h0 : lmE l h = 0
  · rw [lm2_0 h0]
    rw [h0] at q
    exact rboth_0 l h m k _ q (rCheck m k) w
  · rw [lm2_e h0]; exact rboth_e l h m k _ (ne_b h0) q w
set_option maxRecDepth 100000 in
set_option maxHeartbeats 1000000 in
theorem rHas_a (l h v : Int) (h1 : v < l) (w : World) : Calls Try.prog 49 #[.agg #[.int .i64 l, .int .i64 h], .int .i64 v] w fun r W' => r = .returned (.bool false) ∧ Kb w W' := by
  have kx := Kb.refl w
  have b0 := Is.made w #[.int .i64 l, .int .i64 h] 23
  replace kx := kx.alloc (.cells #[.int .i64 l, .int .i64 h] 23 (0, 0))
  have d1 : decide (l ≤ v) = false := decide_eq_false (by omega)
  have b0_0 := b0.c (i := 0) rfl
  have b0_1 := b0.c (i := 1) rfl
  go_enter Try.func49, Try.ntmps49
  go_wp2
  go_ret
  exact ⟨rfl, kx⟩
set_option maxRecDepth 100000 in
set_option maxHeartbeats 1000000 in
theorem rHas_b (l h v : Int) (h1 : ¬ v < l) (h2 : h < v) (w : World) : Calls Try.prog 49 #[.agg #[.int .i64 l, .int .i64 h], .int .i64 v] w fun r W' => r = .returned (.bool false) ∧ Kb w W' := by
  have kx := Kb.refl w
  have b0 := Is.made w #[.int .i64 l, .int .i64 h] 23
  replace kx := kx.alloc (.cells #[.int .i64 l, .int .i64 h] 23 (0, 0))
  have d1 : decide (l ≤ v) = true := decide_eq_true (by omega)
  have d2 : decide (v ≤ h) = false := decide_eq_false (by omega)
  have b0_0 := b0.c (i := 0) rfl
  have b0_1 := b0.c (i := 1) rfl
  go_enter Try.func49, Try.ntmps49
  go_wp2
  go_ret
  exact ⟨rfl, kx⟩
set_option maxRecDepth 100000 in
set_option maxHeartbeats 1000000 in
theorem rHas_c (l h v : Int) (h1 : ¬ v < l) (h2 : ¬ h < v) (w : World) : Calls Try.prog 49 #[.agg #[.int .i64 l, .int .i64 h], .int .i64 v] w fun r W' => r = .returned (.bool true) ∧ Kb w W' := by
  have kx := Kb.refl w
  have b0 := Is.made w #[.int .i64 l, .int .i64 h] 23
  replace kx := kx.alloc (.cells #[.int .i64 l, .int .i64 h] 23 (0, 0))
  have d1 : decide (l ≤ v) = true := decide_eq_true (by omega)
  have d2 : decide (v ≤ h) = true := decide_eq_true (by omega)
  have b0_0 := b0.c (i := 0) rfl
  have b0_1 := b0.c (i := 1) rfl
  go_enter Try.func49, Try.ntmps49
  go_wp2
  go_ret
  exact ⟨rfl, kx⟩
def hasB (l h v : Int) : Bool := decide (l ≤ v) && decide (v ≤ h)
theorem rHas (l h v : Int) : Ca 49 #[.agg #[.int .i64 l, .int .i64 h], .int .i64 v] (.bool (hasB l h v)) := Lib.hid fun w => by
  unfold hasB
  by_cases h1 : v < l
  · rw [decide_eq_false (by omega)]; exact rHas_a l h v h1 w
  · by_cases h2 : h < v
    · rw [decide_eq_false (show ¬ v ≤ h by omega), Bool.and_false]; exact rHas_b l h v h1 h2 w
    · rw [decide_eq_true (by omega), decide_eq_true (by omega)]; exact rHas_c l h v h1 h2 w
set_option maxRecDepth 100000 in
set_option maxHeartbeats 1000000 in
theorem rContains_e (l h v : Int) (e : Int) (he : (e != 0) = true) (q1 : Ca 17 #[.agg #[.int .i64 l, .int .i64 h]] (.int .i64 e)) (w : World) : Calls Try.prog 19 #[.agg #[.int .i64 l, .int .i64 h], .int .i64 v] w fun r W' => r = .returned (.tuple #[.bool false, .int .i64 e]) ∧ Kb w W' := by
  have kx := Kb.refl w
  unfold Ca at *
  have b0 := Is.made w #[.int .i64 l, .int .i64 h] 23
  replace kx := kx.alloc (.cells #[.int .i64 l, .int .i64 h] 23 (0, 0))
  have b0_0 := b0.c (i := 0) rfl
  have b0_1 := b0.c (i := 1) rfl
  go_enter Try.func19, Try.ntmps19
  go_wp2_with fail
  (with_reducible refine (q1.out _).mono ?_)
  rintro r w1 ⟨rfl, k1⟩
  clear b0_0 b0_1
  replace b0 := b0.kb k1
  replace kx := kx.trans k1
  clear k1
  have b0_0 := b0.c (i := 0) rfl
  have b0_1 := b0.c (i := 1) rfl
  go_wp2
  go_ret2
  exact ⟨rfl, kx⟩
set_option maxRecDepth 100000 in
set_option maxHeartbeats 1000000 in
theorem rContains_0 (l h v : Int) (b : Bool) (q1 : Ca 17 #[.agg #[.int .i64 l, .int .i64 h]] (.int .i64 0)) (q2 : Ca 49 #[.agg #[.int .i64 l, .int .i64 h], .int .i64 v] (.bool b)) (w : World) : Calls Try.prog 19 #[.agg #[.int .i64 l, .int .i64 h], .int .i64 v] w fun r W' => r = .returned (.tuple #[.bool b, .int .i64 0]) ∧ Kb w W' := by
  have kx := Kb.refl w
  unfold Ca at *
  have b0 := Is.made w #[.int .i64 l, .int .i64 h] 23
  replace kx := kx.alloc (.cells #[.int .i64 l, .int .i64 h] 23 (0, 0))
  have b0_0 := b0.c (i := 0) rfl
  have b0_1 := b0.c (i := 1) rfl
  go_enter Try.func19, Try.ntmps19
  go_wp2_with fail
  (with_reducible refine (q1.out _).mono ?_)
  rintro r w1 ⟨rfl, k1⟩
  clear b0_0 b0_1
  replace b0 := b0.kb k1
  replace kx := kx.trans k1
  clear k1
  have b0_0 := b0.c (i := 0) rfl
  have b0_1 := b0.c (i := 1) rfl
  go_wp2_with fail
  (with_reducible refine (q2.out _).mono ?_)
  rintro r w2 ⟨rfl, k2⟩
  clear b0_0 b0_1
  replace b0 := b0.kb k2
  replace kx := kx.trans k2
  clear k2
  have b0_0 := b0.c (i := 0) rfl
  have b0_1 := b0.c (i := 1) rfl
  go_wp2
  go_ret2
  exact ⟨rfl, kx⟩
theorem rContains (l h v : Int) : Ca 19 #[.agg #[.int .i64 l, .int .i64 h], .int .i64 v] (.tuple #[.bool (zB (lmE l h) (hasB l h v)), .int .i64 (lmE l h)]) := Lib.hid fun w => by
  have q := rCheck l h
  by_cases h0 : lmE l h = 0
  · rw [h0] at q ⊢
    rw [zB_0]; exact rContains_0 l h v _ q (rHas l h v) w
  · rw [zB_e h0]; exact rContains_e l h v _ (ne_b h0) q w
set_option maxRecDepth 100000 in
set_option maxHeartbeats 1000000 in
theorem rInside_e (l h m k : Int) (e : Int) (he : (e != 0) = true) (q1 : Ca 50 #[.agg #[.int .i64 l, .int .i64 h], .agg #[.int .i64 m, .int .i64 k]] (.int .i64 e)) (w : World) : Calls Try.prog 21 #[.agg #[.int .i64 l, .int .i64 h], .agg #[.int .i64 m, .int .i64 k]] w fun r W' => r = .returned (.tuple #[.bool false, .int .i64 e]) ∧ Kb w W' := by
  have kx := Kb.refl w
  unfold Ca at *
  have b0 := Is.made w #[.int .i64 l, .int .i64 h] 23
  replace kx := kx.alloc (.cells #[.int .i64 l, .int .i64 h] 23 (0, 0))
  replace b0 := b0.alloc (.cells #[.int .i64 m, .int .i64 k] 23 (0, 0))
  have b1 := Is.made (w.alloc (.cells #[.int .i64 l, .int .i64 h] 23 (0, 0))) #[.int .i64 m, .int .i64 k] 23
  replace kx := kx.alloc (.cells #[.int .i64 m, .int .i64 k] 23 (0, 0))
  rw [World.size_alloc] at b1
  have b0_0 := b0.c (i := 0) rfl
  have b0_1 := b0.c (i := 1) rfl
  have b1_0 := b1.c (i := 0) rfl
  have b1_1 := b1.c (i := 1) rfl
  go_enter Try.func21, Try.ntmps21
  go_wp2_with fail
  (with_reducible refine (q1.out _).mono ?_)
  rintro r w1 ⟨rfl, k1⟩
  clear b0_0 b0_1 b1_0 b1_1
  replace b0 := b0.kb k1
  replace b1 := b1.kb k1
  replace kx := kx.trans k1
  clear k1
  have b0_0 := b0.c (i := 0) rfl
  have b0_1 := b0.c (i := 1) rfl
  have b1_0 := b1.c (i := 0) rfl
  have b1_1 := b1.c (i := 1) rfl
  go_wp2
  go_ret2
  exact ⟨rfl, kx⟩
set_option maxRecDepth 100000 in
set_option maxHeartbeats 1000000 in
theorem rInside_f (l h m k : Int) (q1 : Ca 50 #[.agg #[.int .i64 l, .int .i64 h], .agg #[.int .i64 m, .int .i64 k]] (.int .i64 0)) (q2 : Ca 49 #[.agg #[.int .i64 m, .int .i64 k], .int .i64 l] (.bool false)) (w : World) : Calls Try.prog 21 #[.agg #[.int .i64 l, .int .i64 h], .agg #[.int .i64 m, .int .i64 k]] w fun r W' => r = .returned (.tuple #[.bool false, .int .i64 0]) ∧ Kb w W' := by
  have kx := Kb.refl w
  unfold Ca at *
  have b0 := Is.made w #[.int .i64 l, .int .i64 h] 23
  replace kx := kx.alloc (.cells #[.int .i64 l, .int .i64 h] 23 (0, 0))
  replace b0 := b0.alloc (.cells #[.int .i64 m, .int .i64 k] 23 (0, 0))
  have b1 := Is.made (w.alloc (.cells #[.int .i64 l, .int .i64 h] 23 (0, 0))) #[.int .i64 m, .int .i64 k] 23
  replace kx := kx.alloc (.cells #[.int .i64 m, .int .i64 k] 23 (0, 0))
  rw [World.size_alloc] at b1
  have b0_0 := b0.c (i := 0) rfl
  have b0_1 := b0.c (i := 1) rfl
  have b1_0 := b1.c (i := 0) rfl
  have b1_1 := b1.c (i := 1) rfl
  go_enter Try.func21, Try.ntmps21
  go_wp2_with fail
  (with_reducible refine (q1.out _).mono ?_)
  rintro r w1 ⟨rfl, k1⟩
  clear b0_0 b0_1 b1_0 b1_1
  replace b0 := b0.kb k1
  replace b1 := b1.kb k1
  replace kx := kx.trans k1
  clear k1
  have b0_0 := b0.c (i := 0) rfl
  have b0_1 := b0.c (i := 1) rfl
  have b1_0 := b1.c (i := 0) rfl
  have b1_1 := b1.c (i := 1) rfl
  go_wp2_with fail
  (with_reducible refine (q2.out _).mono ?_)
  rintro r w2 ⟨rfl, k2⟩
  clear b0_0 b0_1 b1_0 b1_1
  replace b0 := b0.kb k2
  replace b1 := b1.kb k2
  replace kx := kx.trans k2
  clear k2
  have b0_0 := b0.c (i := 0) rfl
  have b0_1 := b0.c (i := 1) rfl
  have b1_0 := b1.c (i := 0) rfl
  have b1_1 := b1.c (i := 1) rfl
  go_wp2
  go_ret2
  exact ⟨rfl, kx⟩
set_option maxRecDepth 100000 in
set_option maxHeartbeats 1000000 in
theorem rInside_t (l h m k : Int) (b : Bool) (q1 : Ca 50 #[.agg #[.int .i64 l, .int .i64 h], .agg #[.int .i64 m, .int .i64 k]] (.int .i64 0)) (q2 : Ca 49 #[.agg #[.int .i64 m, .int .i64 k], .int .i64 l] (.bool true)) (q3 : Ca 49 #[.agg #[.int .i64 m, .int .i64 k], .int .i64 h] (.bool b)) (w : World) : Calls Try.prog 21 #[.agg #[.int .i64 l, .int .i64 h], .agg #[.int .i64 m, .int .i64 k]] w fun r W' => r = .returned (.tuple #[.bool b, .int .i64 0]) ∧ Kb w W' := by
  have kx := Kb.refl w
  unfold Ca at *
  have b0 := Is.made w #[.int .i64 l, .int .i64 h] 23
  replace kx := kx.alloc (.cells #[.int .i64 l, .int .i64 h] 23 (0, 0))
  replace b0 := b0.alloc (.cells #[.int .i64 m, .int .i64 k] 23 (0, 0))
  have b1 := Is.made (w.alloc (.cells #[.int .i64 l, .int .i64 h] 23 (0, 0))) #[.int .i64 m, .int .i64 k] 23
  replace kx := kx.alloc (.cells #[.int .i64 m, .int .i64 k] 23 (0, 0))
  rw [World.size_alloc] at b1
  have b0_0 := b0.c (i := 0) rfl
  have b0_1 := b0.c (i := 1) rfl
  have b1_0 := b1.c (i := 0) rfl
  have b1_1 := b1.c (i := 1) rfl
  go_enter Try.func21, Try.ntmps21
  go_wp2_with fail
  (with_reducible refine (q1.out _).mono ?_)
  rintro r w1 ⟨rfl, k1⟩
  clear b0_0 b0_1 b1_0 b1_1
  replace b0 := b0.kb k1
  replace b1 := b1.kb k1
  replace kx := kx.trans k1
  clear k1
  have b0_0 := b0.c (i := 0) rfl
  have b0_1 := b0.c (i := 1) rfl
  have b1_0 := b1.c (i := 0) rfl
  have b1_1 := b1.c (i := 1) rfl
  go_wp2_with fail
  (with_reducible refine (q2.out _).mono ?_)
  rintro r w2 ⟨rfl, k2⟩
  clear b0_0 b0_1 b1_0 b1_1
  replace b0 := b0.kb k2
  replace b1 := b1.kb k2
  replace kx := kx.trans k2
  clear k2
  have b0_0 := b0.c (i := 0) rfl
  have b0_1 := b0.c (i := 1) rfl
  have b1_0 := b1.c (i := 0) rfl
  have b1_1 := b1.c (i := 1) rfl
  go_wp2_with fail
  (with_reducible refine (q3.out _).mono ?_)
  rintro r w3 ⟨rfl, k3⟩
  clear b0_0 b0_1 b1_0 b1_1
  replace b0 := b0.kb k3
  replace b1 := b1.kb k3
  replace kx := kx.trans k3
  clear k3
  have b0_0 := b0.c (i := 0) rfl
  have b0_1 := b0.c (i := 1) rfl
  have b1_0 := b1.c (i := 0) rfl
  have b1_1 := b1.c (i := 1) rfl
  go_wp2
  go_ret2
  exact ⟨rfl, kx⟩
theorem rInside (l h m k : Int) : Ca 21 #[.agg #[.int .i64 l, .int .i64 h], .agg #[.int .i64 m, .int .i64 k]] (.tuple #[.bool (zB (lm2 l h m k) (hasB m k l && hasB m k h)), .int .i64 (lm2 l h m k)]) := Lib.hid fun w => by
  have q := rboth l h m k
  by_cases h0 : lm2 l h m k = 0
  · rw [h0] at q ⊢
    rw [zB_0]
    have q2 := rHas m k l
    rcases Bool.eq_false_or_eq_true (hasB m k l) with e | e
    · rw [e] at q2 ⊢; rw [Bool.true_and]; exact rInside_t l h m k _ q q2 (rHas m k h) w
    · rw [e] at q2 ⊢; exact rInside_f l h m k q q2 w
  · rw [zB_e h0]; exact rInside_e l h m k _ (ne_b h0) q w
set_option maxRecDepth 100000 in
set_option maxHeartbeats 1000000 in
theorem rOf_1 (n l h : Int) (q1 : Ca 43 #[.int .i64 n] (.bool false)) (w : World) : Calls Try.prog 13 #[.int .i64 n, .int .i64 l, .int .i64 h] w fun r W' => r = .returned (.tuple #[.agg #[.int .i64 0, .int .i64 0], .int .i64 2]) ∧ Kb w W' := by
  have kx := Kb.refl w
  unfold Ca at *
  have b0 := Is.made w #[.int .i64 0, .int .i64 0] 23
  replace kx := kx.alloc (.cells #[.int .i64 0, .int .i64 0] 23 (0, 0))
  have b0_0 := b0.c (i := 0) rfl
  have b0_1 := b0.c (i := 1) rfl
  go_enter Try.func13, Try.ntmps13
  go_wp2_with fail
  (with_reducible refine (q1.out _).mono ?_)
  rintro r w1 ⟨rfl, k1⟩
  clear b0_0 b0_1
  replace b0 := b0.kb k1
  replace kx := kx.trans k1
  clear k1
  obtain ⟨zn, pt⟩ := put2 b0 (.int .i64 0) (.int .i64 0)
  have kz := pt.kb kx (by omega)
  have b0_0 := b0.c (i := 0) rfl
  have b0_1 := b0.c (i := 1) rfl
  have b0_ff := b0.f
  have b0_f0 := b0_ff 0
  have b0_f1 := b0_ff 1
  clear b0_ff
  clear b0 kx pt
  go_wp2
  refine ret_row2 Try.results13 rfl rfl rfl zn Try.underlying23 rfl (by kernel_rfl) ?_
  exact ⟨rfl, kz⟩
set_option maxRecDepth 100000 in
set_option maxHeartbeats 1000000 in
theorem rOf_2 (n l h : Int) (q1 : Ca 43 #[.int .i64 n] (.bool true)) (q2 : Ca 43 #[.int .i64 l] (.bool false)) (w : World) : Calls Try.prog 13 #[.int .i64 n, .int .i64 l, .int .i64 h] w fun r W' => r = .returned (.tuple #[.agg #[.int .i64 0, .int .i64 0], .int .i64 2]) ∧ Kb w W' := by
  have kx := Kb.refl w
  unfold Ca at *
  have b0 := Is.made w #[.int .i64 0, .int .i64 0] 23
  replace kx := kx.alloc (.cells #[.int .i64 0, .int .i64 0] 23 (0, 0))
  have b0_0 := b0.c (i := 0) rfl
  have b0_1 := b0.c (i := 1) rfl
  go_enter Try.func13, Try.ntmps13
  go_wp2_with fail
  (with_reducible refine (q1.out _).mono ?_)
  rintro r w1 ⟨rfl, k1⟩
  clear b0_0 b0_1
  replace b0 := b0.kb k1
  replace kx := kx.trans k1
  clear k1
  have b0_0 := b0.c (i := 0) rfl
  have b0_1 := b0.c (i := 1) rfl
  go_wp2_with fail
  (with_reducible refine (q2.out _).mono ?_)
  rintro r w2 ⟨rfl, k2⟩
  clear b0_0 b0_1
  replace b0 := b0.kb k2
  replace kx := kx.trans k2
  clear k2
  obtain ⟨zn, pt⟩ := put2 b0 (.int .i64 0) (.int .i64 0)
  have kz := pt.kb kx (by omega)
  have b0_0 := b0.c (i := 0) rfl
  have b0_1 := b0.c (i := 1) rfl
  have b0_ff := b0.f
  have b0_f0 := b0_ff 0
  have b0_f1 := b0_ff 1
  clear b0_ff
  clear b0 kx pt
  go_wp2
  refine ret_row2 Try.results13 rfl rfl rfl zn Try.underlying23 rfl (by kernel_rfl) ?_
  exact ⟨rfl, kz⟩
set_option maxRecDepth 100000 in
set_option maxHeartbeats 1000000 in
theorem rOf_3 (n l h : Int) (q1 : Ca 43 #[.int .i64 n] (.bool true)) (q2 : Ca 43 #[.int .i64 l] (.bool true)) (q3 : Ca 43 #[.int .i64 h] (.bool false)) (w : World) : Calls Try.prog 13 #[.int .i64 n, .int .i64 l, .int .i64 h] w fun r W' => r = .returned (.tuple #[.agg #[.int .i64 0, .int .i64 0], .int .i64 2]) ∧ Kb w W' := by
  have kx := Kb.refl w
  unfold Ca at *
  have b0 := Is.made w #[.int .i64 0, .int .i64 0] 23
  replace kx := kx.alloc (.cells #[.int .i64 0, .int .i64 0] 23 (0, 0))
  have b0_0 := b0.c (i := 0) rfl
  have b0_1 := b0.c (i := 1) rfl
  go_enter Try.func13, Try.ntmps13
  go_wp2_with fail
  (with_reducible refine (q1.out _).mono ?_)
  rintro r w1 ⟨rfl, k1⟩
  clear b0_0 b0_1
  replace b0 := b0.kb k1
  replace kx := kx.trans k1
  clear k1
  have b0_0 := b0.c (i := 0) rfl
  have b0_1 := b0.c (i := 1) rfl
  go_wp2_with fail
  (with_reducible refine (q2.out _).mono ?_)
  rintro r w2 ⟨rfl, k2⟩
  clear b0_0 b0_1
  replace b0 := b0.kb k2
  replace kx := kx.trans k2
  clear k2
  have b0_0 := b0.c (i := 0) rfl
  have b0_1 := b0.c (i := 1) rfl
  go_wp2_with fail
  (with_reducible refine (q3.out _).mono ?_)
  rintro r w3 ⟨rfl, k3⟩
  clear b0_0 b0_1
  replace b0 := b0.kb k3
  replace kx := kx.trans k3
  clear k3
  obtain ⟨zn, pt⟩ := put2 b0 (.int .i64 0) (.int .i64 0)
  have kz := pt.kb kx (by omega)
  have b0_0 := b0.c (i := 0) rfl
  have b0_1 := b0.c (i := 1) rfl
  have b0_ff := b0.f
  have b0_f0 := b0_ff 0
  have b0_f1 := b0_ff 1
  clear b0_ff
  clear b0 kx pt
  go_wp2
  refine ret_row2 Try.results13 rfl rfl rfl zn Try.underlying23 rfl (by kernel_rfl) ?_
  exact ⟨rfl, kz⟩
set_option maxRecDepth 100000 in
set_option maxHeartbeats 1000000 in
theorem rOf_4 (n l h x y e : Int) (q1 : Ca 43 #[.int .i64 n] (.bool true)) (q2 : Ca 43 #[.int .i64 l] (.bool true)) (q3 : Ca 43 #[.int .i64 h] (.bool true)) (q4 : Ca 44 #[.agg #[.int .i64 (wrap64 (n + l)), .int .i64 (wrap64 (n + h))]] (.tuple #[.agg #[.int .i64 x, .int .i64 y], .int .i64 e])) (w : World) : Calls Try.prog 13 #[.int .i64 n, .int .i64 l, .int .i64 h] w fun r W' => r = .returned (.tuple #[.agg #[.int .i64 x, .int .i64 y], .int .i64 e]) ∧ Kb w W' := by
  have kx := Kb.refl w
  unfold Ca at *
  have b0 := Is.made w #[.int .i64 0, .int .i64 0] 23
  replace kx := kx.alloc (.cells #[.int .i64 0, .int .i64 0] 23 (0, 0))
  have b0_0 := b0.c (i := 0) rfl
  have b0_1 := b0.c (i := 1) rfl
  go_enter Try.func13, Try.ntmps13
  go_wp2_with fail
  (with_reducible refine (q1.out _).mono ?_)
  rintro r w1 ⟨rfl, k1⟩
  clear b0_0 b0_1
  replace b0 := b0.kb k1
  replace kx := kx.trans k1
  clear k1
  have b0_0 := b0.c (i := 0) rfl
  have b0_1 := b0.c (i := 1) rfl
  go_wp2_with fail
  (with_reducible refine (q2.out _).mono ?_)
  rintro r w2 ⟨rfl, k2⟩
  clear b0_0 b0_1
  replace b0 := b0.kb k2
  replace kx := kx.trans k2
  clear k2
  have b0_0 := b0.c (i := 0) rfl
  have b0_1 := b0.c (i := 1) rfl
  go_wp2_with fail
  (with_reducible refine (q3.out _).mono ?_)
  rintro r w3 ⟨rfl, k3⟩
  clear b0_0 b0_1
  replace b0 := b0.kb k3
  replace kx := kx.trans k3
  clear k3
  have b0_0 := b0.c (i := 0) rfl
  have b0_1 := b0.c (i := 1) rfl
  go_wp2_with fail
  (with_reducible refine (q4.out _).mono ?_)
  rintro r w4 ⟨rfl, k4⟩
  clear b0_0 b0_1
  replace b0 := b0.kb k4
  replace kx := kx.trans k4
  clear k4
  obtain ⟨zn, pt⟩ := put2 b0 (.int .i64 x) (.int .i64 y)
  have kz := pt.kb kx (by omega)
  have b0_0 := b0.c (i := 0) rfl
  have b0_1 := b0.c (i := 1) rfl
  have b0_ff := b0.f
  have b0_f0 := b0_ff 0
  have b0_f1 := b0_ff 1
  clear b0_ff
  clear b0 kx pt
  go_wp2
  refine ret_row2 Try.results13 rfl rfl rfl zn Try.underlying23 rfl (by kernel_rfl) ?_
  exact ⟨rfl, kz⟩
theorem ofE_eq (n l h : Int) : ofE n l h = if inR n = true ∧ inR l = true ∧ inR h = true then lmE (wrap64 (n + l)) (wrap64 (n + h)) else 2 := by
  unfold ofE inAll
  simp only [List.all_cons, List.all_nil, Bool.and_true]
  cases inR n <;> cases inR l <;> cases inR h <;> simp [firstE]
  intro e; exact e.symm
theorem rOf (n l h : Int) : Ca 13 #[.int .i64 n, .int .i64 l, .int .i64 h] (.tuple #[.agg #[.int .i64 (zI (ofE n l h) (wrap64 (n + l))), .int .i64 (zI (ofE n l h) (wrap64 (n + h)))], .int .i64 (ofE n l h)]) := Lib.hid fun w => by
  have q1 := rIn n
  have q2 := rIn l
  have q3 := rIn h
  rw [ofE_eq]
  rcases Bool.eq_false_or_eq_true (inR n) with e1 | e1
  · rw [e1] at q1
    rcases Bool.eq_false_or_eq_true (inR l) with e2 | e2
    · rw [e2] at q2
      rcases Bool.eq_false_or_eq_true (inR h) with e3 | e3
      · rw [e3] at q3
        rw [if_pos ⟨e1, e2, e3⟩]
        exact rOf_4 n l h _ _ _ q1 q2 q3 (rchecked _ _) w
      · rw [e3] at q3
        rw [if_neg (fun x => by rw [e3] at x; cases x.2.2), zI_e (by decide), zI_e (by decide)]
        exact rOf_3 n l h q1 q2 q3 w
    · rw [e2] at q2
      rw [if_neg (fun x => by rw [e2] at x; cases x.2.1), zI_e (by decide), zI_e (by decide)]
      exact rOf_2 n l h q1 q2 w
  · rw [e1] at q1
    rw [if_neg (fun x => by rw [e1] at x; cases x.1), zI_e (by decide), zI_e (by decide)]
    exact rOf_1 n l h q1 w
set_option maxRecDepth 100000 in
set_option maxHeartbeats 1000000 in
theorem rNeg_e (l h : Int) (e : Int) (he : (e != 0) = true) (q1 : Ca 17 #[.agg #[.int .i64 l, .int .i64 h]] (.int .i64 e)) (w : World) : Calls Try.prog 23 #[.agg #[.int .i64 l, .int .i64 h]] w fun r W' => r = .returned (.tuple #[.agg #[.int .i64 0, .int .i64 0], .int .i64 e]) ∧ Kb w W' := by
  have kx := Kb.refl w
  unfold Ca at *
  have b0 := Is.made w #[.int .i64 l, .int .i64 h] 23
  replace kx := kx.alloc (.cells #[.int .i64 l, .int .i64 h] 23 (0, 0))
  replace b0 := b0.alloc (.cells #[.int .i64 0, .int .i64 0] 23 (0, 0))
  have b1 := Is.made (w.alloc (.cells #[.int .i64 l, .int .i64 h] 23 (0, 0))) #[.int .i64 0, .int .i64 0] 23
  replace kx := kx.alloc (.cells #[.int .i64 0, .int .i64 0] 23 (0, 0))
  rw [World.size_alloc] at b1
  have b0_0 := b0.c (i := 0) rfl
  have b0_1 := b0.c (i := 1) rfl
  have b1_0 := b1.c (i := 0) rfl
  have b1_1 := b1.c (i := 1) rfl
  go_enter Try.func23, Try.ntmps23
  go_wp2_with fail
  (with_reducible refine (q1.out _).mono ?_)
  rintro r w1 ⟨rfl, k1⟩
  clear b0_0 b0_1 b1_0 b1_1
  replace b0 := b0.kb k1
  replace b1 := b1.kb k1
  replace kx := kx.trans k1
  clear k1
  obtain ⟨zn, pt⟩ := put2 b1 (.int .i64 0) (.int .i64 0)
  have kz := pt.kb kx (by omega)
  have b0_0 := b0.c (i := 0) rfl
  have b0_1 := b0.c (i := 1) rfl
  have b1_0 := b1.c (i := 0) rfl
  have b1_1 := b1.c (i := 1) rfl
  have b1_ff := b1.f
  have b1_f0 := b1_ff 0
  have b1_f1 := b1_ff 1
  clear b1_ff
  clear b0 b1 kx pt
  go_wp2
  refine ret_row2 Try.results23 rfl rfl rfl zn Try.underlying23 rfl (by kernel_rfl) ?_
  exact ⟨rfl, kz⟩
set_option maxRecDepth 100000 in
set_option maxHeartbeats 1000000 in
theorem rNeg_0 (l h : Int) (q1 : Ca 17 #[.agg #[.int .i64 l, .int .i64 h]] (.int .i64 0)) (w : World) : Calls Try.prog 23 #[.agg #[.int .i64 l, .int .i64 h]] w fun r W' => r = .returned (.tuple #[.agg #[.int .i64 (wrap64 (-h)), .int .i64 (wrap64 (-l))], .int .i64 0]) ∧ Kb w W' := by
  have kx := Kb.refl w
  unfold Ca at *
  have b0 := Is.made w #[.int .i64 l, .int .i64 h] 23
  replace kx := kx.alloc (.cells #[.int .i64 l, .int .i64 h] 23 (0, 0))
  replace b0 := b0.alloc (.cells #[.int .i64 0, .int .i64 0] 23 (0, 0))
  have b1 := Is.made (w.alloc (.cells #[.int .i64 l, .int .i64 h] 23 (0, 0))) #[.int .i64 0, .int .i64 0] 23
  replace kx := kx.alloc (.cells #[.int .i64 0, .int .i64 0] 23 (0, 0))
  rw [World.size_alloc] at b1
  have b0_0 := b0.c (i := 0) rfl
  have b0_1 := b0.c (i := 1) rfl
  have b1_0 := b1.c (i := 0) rfl
  have b1_1 := b1.c (i := 1) rfl
  go_enter Try.func23, Try.ntmps23
  go_wp2_with fail
  (with_reducible refine (q1.out _).mono ?_)
  rintro r w1 ⟨rfl, k1⟩
  clear b0_0 b0_1 b1_0 b1_1
  replace b0 := b0.kb k1
  replace b1 := b1.kb k1
  replace kx := kx.trans k1
  clear k1
  obtain ⟨zn, pt⟩ := put2 b1 (.int .i64 (wrap64 (-h))) (.int .i64 (wrap64 (-l)))
  have kz := pt.kb kx (by omega)
  have b0_0 := b0.c (i := 0) rfl
  have b0_1 := b0.c (i := 1) rfl
  have b1_0 := b1.c (i := 0) rfl
  have b1_1 := b1.c (i := 1) rfl
  have b1_ff := b1.f
  have b1_f0 := b1_ff 0
  have b1_f1 := b1_ff 1
  clear b1_ff
  clear b0 b1 kx pt
  go_wp2
  refine ret_row2 Try.results23 rfl rfl rfl zn Try.underlying23 rfl (by kernel_rfl) ?_
  exact ⟨rfl, kz⟩
theorem rNeg (l h : Int) : Ca 23 #[.agg #[.int .i64 l, .int .i64 h]] (.tuple #[.agg #[.int .i64 (zI (lmE l h) (wrap64 (-h))), .int .i64 (zI (lmE l h) (wrap64 (-l)))], .int .i64 (lmE l h)]) := Lib.hid fun w => by
  have q := rCheck l h
  by_cases h0 : lmE l h = 0
  · rw [h0] at q ⊢
    rw [zI_0, zI_0]; exact rNeg_0 l h q w
  · rw [zI_e h0, zI_e h0]; exact rNeg_e l h _ (ne_b h0) q w
set_option maxRecDepth 100000 in
set_option maxHeartbeats 1000000 in
theorem rAdd_e (l h m k : Int) (e : Int) (he : (e != 0) = true) (q1 : Ca 50 #[.agg #[.int .i64 l, .int .i64 h], .agg #[.int .i64 m, .int .i64 k]] (.int .i64 e)) (w : World) : Calls Try.prog 27 #[.agg #[.int .i64 l, .int .i64 h], .agg #[.int .i64 m, .int .i64 k]] w fun r W' => r = .returned (.tuple #[.agg #[.int .i64 0, .int .i64 0], .int .i64 e]) ∧ Kb w W' := by
  have kx := Kb.refl w
  unfold Ca at *
  have b0 := Is.made w #[.int .i64 l, .int .i64 h] 23
  replace kx := kx.alloc (.cells #[.int .i64 l, .int .i64 h] 23 (0, 0))
  replace b0 := b0.alloc (.cells #[.int .i64 m, .int .i64 k] 23 (0, 0))
  have b1 := Is.made (w.alloc (.cells #[.int .i64 l, .int .i64 h] 23 (0, 0))) #[.int .i64 m, .int .i64 k] 23
  replace kx := kx.alloc (.cells #[.int .i64 m, .int .i64 k] 23 (0, 0))
  replace b0 := b0.alloc (.cells #[.int .i64 0, .int .i64 0] 23 (0, 0))
  replace b1 := b1.alloc (.cells #[.int .i64 0, .int .i64 0] 23 (0, 0))
  have b2 := Is.made ((w.alloc (.cells #[.int .i64 l, .int .i64 h] 23 (0, 0))).alloc (.cells #[.int .i64 m, .int .i64 k] 23 (0, 0))) #[.int .i64 0, .int .i64 0] 23
  replace kx := kx.alloc (.cells #[.int .i64 0, .int .i64 0] 23 (0, 0))
  rw [World.size_alloc] at b1
  rw [World.size_alloc, World.size_alloc] at b2
  have b0_0 := b0.c (i := 0) rfl
  have b0_1 := b0.c (i := 1) rfl
  have b1_0 := b1.c (i := 0) rfl
  have b1_1 := b1.c (i := 1) rfl
  have b2_0 := b2.c (i := 0) rfl
  have b2_1 := b2.c (i := 1) rfl
  go_enter Try.func27, Try.ntmps27
  go_wp2_with fail
  (with_reducible refine (q1.out _).mono ?_)
  rintro r w1 ⟨rfl, k1⟩
  clear b0_0 b0_1 b1_0 b1_1 b2_0 b2_1
  replace b0 := b0.kb k1
  replace b1 := b1.kb k1
  replace b2 := b2.kb k1
  replace kx := kx.trans k1
  clear k1
  obtain ⟨zn, pt⟩ := put2 b2 (.int .i64 0) (.int .i64 0)
  have kz := pt.kb kx (by omega)
  have b0_0 := b0.c (i := 0) rfl
  have b0_1 := b0.c (i := 1) rfl
  have b1_0 := b1.c (i := 0) rfl
  have b1_1 := b1.c (i := 1) rfl
  have b2_0 := b2.c (i := 0) rfl
  have b2_1 := b2.c (i := 1) rfl
  have b2_ff := b2.f
  have b2_f0 := b2_ff 0
  have b2_f1 := b2_ff 1
  clear b2_ff
  clear b0 b1 b2 kx pt
  go_wp2
  refine ret_row2 Try.results27 rfl rfl rfl zn Try.underlying23 rfl (by kernel_rfl) ?_
  exact ⟨rfl, kz⟩
set_option maxRecDepth 100000 in
set_option maxHeartbeats 1000000 in
theorem rAdd_0 (l h m k x y e : Int) (q1 : Ca 50 #[.agg #[.int .i64 l, .int .i64 h], .agg #[.int .i64 m, .int .i64 k]] (.int .i64 0)) (q2 : Ca 44 #[.agg #[.int .i64 (wrap64 (l + m)), .int .i64 (wrap64 (h + k))]] (.tuple #[.agg #[.int .i64 x, .int .i64 y], .int .i64 e])) (w : World) : Calls Try.prog 27 #[.agg #[.int .i64 l, .int .i64 h], .agg #[.int .i64 m, .int .i64 k]] w fun r W' => r = .returned (.tuple #[.agg #[.int .i64 x, .int .i64 y], .int .i64 e]) ∧ Kb w W' := by
  have kx := Kb.refl w
  unfold Ca at *
  have b0 := Is.made w #[.int .i64 l, .int .i64 h] 23
  replace kx := kx.alloc (.cells #[.int .i64 l, .int .i64 h] 23 (0, 0))
  replace b0 := b0.alloc (.cells #[.int .i64 m, .int .i64 k] 23 (0, 0))
  have b1 := Is.made (w.alloc (.cells #[.int .i64 l, .int .i64 h] 23 (0, 0))) #[.int .i64 m, .int .i64 k] 23
  replace kx := kx.alloc (.cells #[.int .i64 m, .int .i64 k] 23 (0, 0))
  replace b0 := b0.alloc (.cells #[.int .i64 0, .int .i64 0] 23 (0, 0))
  replace b1 := b1.alloc (.cells #[.int .i64 0, .int .i64 0] 23 (0, 0))
  have b2 := Is.made ((w.alloc (.cells #[.int .i64 l, .int .i64 h] 23 (0, 0))).alloc (.cells #[.int .i64 m, .int .i64 k] 23 (0, 0))) #[.int .i64 0, .int .i64 0] 23
  replace kx := kx.alloc (.cells #[.int .i64 0, .int .i64 0] 23 (0, 0))
  rw [World.size_alloc] at b1
  rw [World.size_alloc, World.size_alloc] at b2
  have b0_0 := b0.c (i := 0) rfl
  have b0_1 := b0.c (i := 1) rfl
  have b1_0 := b1.c (i := 0) rfl
  have b1_1 := b1.c (i := 1) rfl
  have b2_0 := b2.c (i := 0) rfl
  have b2_1 := b2.c (i := 1) rfl
  go_enter Try.func27, Try.ntmps27
  go_wp2_with fail
  (with_reducible refine (q1.out _).mono ?_)
  rintro r w1 ⟨rfl, k1⟩
  clear b0_0 b0_1 b1_0 b1_1 b2_0 b2_1
  replace b0 := b0.kb k1
  replace b1 := b1.kb k1
  replace b2 := b2.kb k1
  replace kx := kx.trans k1
  clear k1
  have b0_0 := b0.c (i := 0) rfl
  have b0_1 := b0.c (i := 1) rfl
  have b1_0 := b1.c (i := 0) rfl
  have b1_1 := b1.c (i := 1) rfl
  have b2_0 := b2.c (i := 0) rfl
  have b2_1 := b2.c (i := 1) rfl
  go_wp2_with fail
  (with_reducible refine (q2.out _).mono ?_)
  rintro r w2 ⟨rfl, k2⟩
  clear b0_0 b0_1 b1_0 b1_1 b2_0 b2_1
  replace b0 := b0.kb k2
  replace b1 := b1.kb k2
  replace b2 := b2.kb k2
  replace kx := kx.trans k2
  clear k2
  obtain ⟨zn, pt⟩ := put2 b2 (.int .i64 x) (.int .i64 y)
  have kz := pt.kb kx (by omega)
  have b0_0 := b0.c (i := 0) rfl
  have b0_1 := b0.c (i := 1) rfl
  have b1_0 := b1.c (i := 0) rfl
  have b1_1 := b1.c (i := 1) rfl
  have b2_0 := b2.c (i := 0) rfl
  have b2_1 := b2.c (i := 1) rfl
  have b2_ff := b2.f
  have b2_f0 := b2_ff 0
  have b2_f1 := b2_ff 1
  clear b2_ff
  clear b0 b1 b2 kx pt
  go_wp2
  refine ret_row2 Try.results27 rfl rfl rfl zn Try.underlying23 rfl (by kernel_rfl) ?_
  exact ⟨rfl, kz⟩
def adE (l h m k : Int) : Int := firstE [firstE [lmE l h, lmE m k, lmE (wrap64 (l + m)) (wrap64 (h + k))]]
theorem adE_e {l h m k : Int} (h0 : lm2 l h m k ≠ 0) : adE l h m k = lm2 l h m k := by
  unfold adE lm2 at *
  rw [firstE_one]
  by_cases a : lmE l h = 0 <;> by_cases b : lmE m k = 0 <;> simp_all [firstE]
theorem adE_0 {l h m k : Int} (h0 : lm2 l h m k = 0) : adE l h m k = lmE (wrap64 (l + m)) (wrap64 (h + k)) := by
  unfold adE
  rw [firstE_one]
  have a : lmE l h = 0 := by
    by_cases a : lmE l h = 0
    · exact a
    · rw [lm2_e a] at h0; exact h0
  rw [lm2_0 a] at h0
  simp [firstE, a, h0]
  intro e; exact e.symm
theorem rAdd (l h m k : Int) : Ca 27 #[.agg #[.int .i64 l, .int .i64 h], .agg #[.int .i64 m, .int .i64 k]] (.tuple #[.agg #[.int .i64 (zI (adE l h m k) (wrap64 (l + m))), .int .i64 (zI (adE l h m k) (wrap64 (h + k)))], .int .i64 (adE l h m k)]) := Lib.hid fun w => by
  have q := rboth l h m k
  by_cases h0 : lm2 l h m k = 0
  · rw [h0] at q
    rw [adE_0 h0]
    exact rAdd_0 l h m k _ _ _ q (rchecked _ _) w
  · rw [adE_e h0, zI_e h0, zI_e h0]; exact rAdd_e l h m k _ (ne_b h0) q w
end Go.Proofs.Ytendjeefggigbaa
