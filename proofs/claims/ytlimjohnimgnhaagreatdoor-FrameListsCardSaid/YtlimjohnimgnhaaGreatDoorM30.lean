/- Texts Of1: each says in its own first comment what it proves. -/
import Derived.Test.YtlimjohnimgnhaaGreatDoorM06
/- The reference of package dimension: limits. -/
namespace Go.Proofs.YtlimjohnimgnhaaGreatDoor
open Go.RowKit

theorem lmE_eq (l h : Int) : lmE l h = if inR l = true ∧ inR h = true then (if h < l then 9 else 0) else 2 := by
  unfold lmE inAll
  simp only [List.all_cons, List.all_nil, Bool.and_true]
  cases inR l <;> cases inR h <;> by_cases e : h < l <;> simp [firstE, e]
theorem inR_f1 {z : Int} (h : z < -100000) : inR z = false := by unfold inR; rw [decide_eq_false (by omega)]; rfl
theorem inR_f2 {z : Int} (h : 100000 < z) : inR z = false := by unfold inR; rw [decide_eq_false (show ¬ z ≤ 100000 by omega), Bool.and_false]
theorem inR_t {z : Int} (h : -100000 ≤ z) (h2 : z ≤ 100000) : inR z = true := by unfold inR; rw [decide_eq_true h, decide_eq_true h2]; rfl
set_option maxRecDepth 100000 in
set_option maxHeartbeats 1000000 in
theorem rIn (z : Int) : Ca 89 #[.int .i64 z] (.bool (inR z)) := Lib.hid fun w => by
  by_cases h1 : z < -100000
  · rw [inR_f1 h1]
    go_enter Tryz.func89, Tryz.ntmps89
    go_wp2
    go_ret
    exact ⟨rfl, Kb.refl _⟩
  · by_cases h2 : 100000 < z
    · rw [inR_f2 h2]
      go_enter Tryz.func89, Tryz.ntmps89
      have hd : decide (z ≤ 100000) = false := decide_eq_false (by omega)
      go_wp2
      go_ret
      exact ⟨rfl, Kb.refl _⟩
    · rw [inR_t (by omega) (by omega)]
      go_enter Tryz.func89, Tryz.ntmps89
      have hd : decide (z ≤ 100000) = true := decide_eq_true (by omega)
      go_wp2
      go_ret
      exact ⟨rfl, Kb.refl _⟩

set_option maxRecDepth 100000 in
set_option maxHeartbeats 1000000 in
theorem rCheck_1 (l h : Int) (q1 : Ca 89 #[.int .i64 l] (.bool false)) (w : World) : Calls Tryz.prog 90 #[.agg #[.int .i64 l, .int .i64 h]] w fun r W' => r = .returned (.int .i64 2) ∧ Kb w W' := by
  have kx := Kb.refl w
  unfold Ca at *
  have b0 := Is.made w #[.int .i64 l, .int .i64 h] 25
  replace kx := kx.alloc (.cells #[.int .i64 l, .int .i64 h] 25 (0, 0))
  have b0_0 := b0.c (i := 0) rfl
  have b0_1 := b0.c (i := 1) rfl
  go_enter Tryz.func90, Tryz.ntmps90
  go_wp2_with fail
  (with_reducible refine (q1.out _).mono ?_)
  rintro r w1 ⟨rfl, k1⟩
  clear b0_0 b0_1
  replace b0 := b0.kb k1
  replace kx := kx.trans k1
  clear k1
  have b0_0 := b0.c (i := 0) rfl
  have b0_1 := b0.c (i := 1) rfl
  go_wp2
  go_ret
  exact ⟨rfl, kx⟩
set_option maxRecDepth 100000 in
set_option maxHeartbeats 1000000 in
theorem rCheck_2 (l h : Int) (q1 : Ca 89 #[.int .i64 l] (.bool true)) (q2 : Ca 89 #[.int .i64 h] (.bool false)) (w : World) : Calls Tryz.prog 90 #[.agg #[.int .i64 l, .int .i64 h]] w fun r W' => r = .returned (.int .i64 2) ∧ Kb w W' := by
  have kx := Kb.refl w
  unfold Ca at *
  have b0 := Is.made w #[.int .i64 l, .int .i64 h] 25
  replace kx := kx.alloc (.cells #[.int .i64 l, .int .i64 h] 25 (0, 0))
  have b0_0 := b0.c (i := 0) rfl
  have b0_1 := b0.c (i := 1) rfl
  go_enter Tryz.func90, Tryz.ntmps90
  go_wp2_with fail
  (with_reducible refine (q1.out _).mono ?_)
  rintro r w1 ⟨rfl, k1⟩
  clear b0_0 b0_1
  replace b0 := b0.kb k1
  replace kx := kx.trans k1
  clear k1
  have b0_0 := b0.c (i := 0) rfl
  have b0_1 := b0.c (i := 1) rfl
  go_wp2_with fail
  (with_reducible refine (q2.out _).mono ?_)
  rintro r w2 ⟨rfl, k2⟩
  clear b0_0 b0_1
  replace b0 := b0.kb k2
  replace kx := kx.trans k2
  clear k2
  have b0_0 := b0.c (i := 0) rfl
  have b0_1 := b0.c (i := 1) rfl
  go_wp2
  go_ret
  exact ⟨rfl, kx⟩
set_option maxRecDepth 100000 in
set_option maxHeartbeats 1000000 in
theorem rCheck_3 (l h : Int) (ho : h < l) (q1 : Ca 89 #[.int .i64 l] (.bool true)) (q2 : Ca 89 #[.int .i64 h] (.bool true)) (w : World) : Calls Tryz.prog 90 #[.agg #[.int .i64 l, .int .i64 h]] w fun r W' => r = .returned (.int .i64 9) ∧ Kb w W' := by
  have kx := Kb.refl w
  unfold Ca at *
  have b0 := Is.made w #[.int .i64 l, .int .i64 h] 25
  replace kx := kx.alloc (.cells #[.int .i64 l, .int .i64 h] 25 (0, 0))
  have b0_0 := b0.c (i := 0) rfl
  have b0_1 := b0.c (i := 1) rfl
  go_enter Tryz.func90, Tryz.ntmps90
  go_wp2_with fail
  (with_reducible refine (q1.out _).mono ?_)
  rintro r w1 ⟨rfl, k1⟩
  clear b0_0 b0_1
  replace b0 := b0.kb k1
  replace kx := kx.trans k1
  clear k1
  have b0_0 := b0.c (i := 0) rfl
  have b0_1 := b0.c (i := 1) rfl
  go_wp2_with fail
  (with_reducible refine (q2.out _).mono ?_)
  rintro r w2 ⟨rfl, k2⟩
  clear b0_0 b0_1
  replace b0 := b0.kb k2
  replace kx := kx.trans k2
  clear k2
  have b0_0 := b0.c (i := 0) rfl
  have b0_1 := b0.c (i := 1) rfl
  go_wp2
  go_ret
  exact ⟨rfl, kx⟩
set_option maxRecDepth 100000 in
set_option maxHeartbeats 1000000 in
theorem rCheck_4 (l h : Int) (ho : ¬ h < l) (q1 : Ca 89 #[.int .i64 l] (.bool true)) (q2 : Ca 89 #[.int .i64 h] (.bool true)) (w : World) : Calls Tryz.prog 90 #[.agg #[.int .i64 l, .int .i64 h]] w fun r W' => r = .returned (.int .i64 0) ∧ Kb w W' := by
  have kx := Kb.refl w
  unfold Ca at *
  have b0 := Is.made w #[.int .i64 l, .int .i64 h] 25
  replace kx := kx.alloc (.cells #[.int .i64 l, .int .i64 h] 25 (0, 0))
  have b0_0 := b0.c (i := 0) rfl
  have b0_1 := b0.c (i := 1) rfl
  go_enter Tryz.func90, Tryz.ntmps90
  go_wp2_with fail
  (with_reducible refine (q1.out _).mono ?_)
  rintro r w1 ⟨rfl, k1⟩
  clear b0_0 b0_1
  replace b0 := b0.kb k1
  replace kx := kx.trans k1
  clear k1
  have b0_0 := b0.c (i := 0) rfl
  have b0_1 := b0.c (i := 1) rfl
  go_wp2_with fail
  (with_reducible refine (q2.out _).mono ?_)
  rintro r w2 ⟨rfl, k2⟩
  clear b0_0 b0_1
  replace b0 := b0.kb k2
  replace kx := kx.trans k2
  clear k2
  have b0_0 := b0.c (i := 0) rfl
  have b0_1 := b0.c (i := 1) rfl
  go_wp2
  go_ret
  exact ⟨rfl, kx⟩
theorem rCheck (l h : Int) : Ca 90 #[.agg #[.int .i64 l, .int .i64 h]] (.int .i64 (lmE l h)) := Lib.hid fun w => by
  have q1 := rIn l
  have q2 := rIn h
  rw [lmE_eq]
  rcases Bool.eq_false_or_eq_true (inR l) with e1 | e1
  · rcases Bool.eq_false_or_eq_true (inR h) with e2 | e2
    · rw [if_pos ⟨e1, e2⟩]
      rw [e1] at q1
      rw [e2] at q2
      by_cases ho : h < l
      · rw [if_pos ho]; exact rCheck_3 l h ho q1 q2 w
      · rw [if_neg ho]; exact rCheck_4 l h ho q1 q2 w
    · rw [if_neg (fun x => by rw [e2] at x; cases x.2)]
      rw [e1] at q1
      rw [e2] at q2
      exact rCheck_2 l h q1 q2 w
  · rw [if_neg (fun x => by rw [e1] at x; cases x.1)]
    rw [e1] at q1
    exact rCheck_1 l h q1 w












































































theorem ne_b {e : Int} (h : e ≠ 0) : (e != 0) = true := by simpa using h
theorem zI_e {e : Int} (h : e ≠ 0) (z : Int) : zI e z = 0 := if_neg h
end Go.Proofs.YtlimjohnimgnhaaGreatDoor
