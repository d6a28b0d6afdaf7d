/- The reference of package dimension: Valid, Turned, Reverse, Join. -/
import Derived.Test.YtendjeefggigbaaOd6
import Derived.Test.YtendjeefggigbaaOf3
namespace Go.Proofs.Ytendjeefggigbaa
open Go.RowKit

set_option maxRecDepth 100000 in
set_option maxHeartbeats 1000000 in
theorem rValid_1 (f t : ByteArray) (a l h : Int) (e : Int) (he : (e != 0) = true) (q1 : Ca 15 #[.string f] (.int .i64 e)) (w : World) : Calls Try.prog 34 #[.agg #[.string f, .string t, .int .i64 a, .int .i64 l, .int .i64 h]] w fun r W' => r = .returned (.int .i64 e) ∧ Kb w W' := by
  have kx := Kb.refl w
  unfold Ca at *
  have b0 := Is.made w #[.string f, .string t, .int .i64 a, .int .i64 l, .int .i64 h] 49
  replace kx := kx.alloc (.cells #[.string f, .string t, .int .i64 a, .int .i64 l, .int .i64 h] 49 (0, 0))
  have b0_0 := b0.c (i := 0) rfl
  have b0_1 := b0.c (i := 1) rfl
  have b0_2 := b0.c (i := 2) rfl
  have b0_3 := b0.c (i := 3) rfl
  have b0_4 := b0.c (i := 4) rfl
  go_enter Try.func34, Try.ntmps34
  go_wp2_with fail
  (with_reducible refine (q1.out _).mono ?_)
  rintro r w1 ⟨rfl, k1⟩
  clear b0_0 b0_1 b0_2 b0_3 b0_4
  replace b0 := b0.kb k1
  replace kx := kx.trans k1
  clear k1
  have b0_0 := b0.c (i := 0) rfl
  have b0_1 := b0.c (i := 1) rfl
  have b0_2 := b0.c (i := 2) rfl
  have b0_3 := b0.c (i := 3) rfl
  have b0_4 := b0.c (i := 4) rfl
  go_wp2
  go_ret
  exact ⟨rfl, kx⟩
set_option maxRecDepth 100000 in
set_option maxHeartbeats 1000000 in
theorem rValid_2 (f t : ByteArray) (a l h : Int) (e : Int) (he : (e != 0) = true) (q1 : Ca 15 #[.string f] (.int .i64 0)) (q2 : Ca 15 #[.string t] (.int .i64 e)) (w : World) : Calls Try.prog 34 #[.agg #[.string f, .string t, .int .i64 a, .int .i64 l, .int .i64 h]] w fun r W' => r = .returned (.int .i64 e) ∧ Kb w W' := by
  have kx := Kb.refl w
  unfold Ca at *
  have b0 := Is.made w #[.string f, .string t, .int .i64 a, .int .i64 l, .int .i64 h] 49
  replace kx := kx.alloc (.cells #[.string f, .string t, .int .i64 a, .int .i64 l, .int .i64 h] 49 (0, 0))
  have b0_0 := b0.c (i := 0) rfl
  have b0_1 := b0.c (i := 1) rfl
  have b0_2 := b0.c (i := 2) rfl
  have b0_3 := b0.c (i := 3) rfl
  have b0_4 := b0.c (i := 4) rfl
  go_enter Try.func34, Try.ntmps34
  go_wp2_with fail
  (with_reducible refine (q1.out _).mono ?_)
  rintro r w1 ⟨rfl, k1⟩
  clear b0_0 b0_1 b0_2 b0_3 b0_4
  replace b0 := b0.kb k1
  replace kx := kx.trans k1
  clear k1
  have b0_0 := b0.c (i := 0) rfl
  have b0_1 := b0.c (i := 1) rfl
  have b0_2 := b0.c (i := 2) rfl
  have b0_3 := b0.c (i := 3) rfl
  have b0_4 := b0.c (i := 4) rfl
  go_wp2_with fail
  (with_reducible refine (q2.out _).mono ?_)
  rintro r w2 ⟨rfl, k2⟩
  clear b0_0 b0_1 b0_2 b0_3 b0_4
  replace b0 := b0.kb k2
  replace kx := kx.trans k2
  clear k2
  have b0_0 := b0.c (i := 0) rfl
  have b0_1 := b0.c (i := 1) rfl
  have b0_2 := b0.c (i := 2) rfl
  have b0_3 := b0.c (i := 3) rfl
  have b0_4 := b0.c (i := 4) rfl
  go_wp2
  go_ret
  exact ⟨rfl, kx⟩
set_option maxRecDepth 100000 in
set_option maxHeartbeats 1000000 in
theorem rValid_3 (f t : ByteArray) (a l h : Int) (hs : (f.toList == t.toList) = true) (q1 : Ca 15 #[.string f] (.int .i64 0)) (q2 : Ca 15 #[.string t] (.int .i64 0)) (w : World) : Calls Try.prog 34 #[.agg #[.string f, .string t, .int .i64 a, .int .i64 l, .int .i64 h]] w fun r W' => r = .returned (.int .i64 7) ∧ Kb w W' := by
  have kx := Kb.refl w
  unfold Ca at *
  have b0 := Is.made w #[.string f, .string t, .int .i64 a, .int .i64 l, .int .i64 h] 49
  replace kx := kx.alloc (.cells #[.string f, .string t, .int .i64 a, .int .i64 l, .int .i64 h] 49 (0, 0))
  have b0_0 := b0.c (i := 0) rfl
  have b0_1 := b0.c (i := 1) rfl
  have b0_2 := b0.c (i := 2) rfl
  have b0_3 := b0.c (i := 3) rfl
  have b0_4 := b0.c (i := 4) rfl
  go_enter Try.func34, Try.ntmps34
  go_wp2_with fail
  (with_reducible refine (q1.out _).mono ?_)
  rintro r w1 ⟨rfl, k1⟩
  clear b0_0 b0_1 b0_2 b0_3 b0_4
  replace b0 := b0.kb k1
  replace kx := kx.trans k1
  clear k1
  have b0_0 := b0.c (i := 0) rfl
  have b0_1 := b0.c (i := 1) rfl
  have b0_2 := b0.c (i := 2) rfl
  have b0_3 := b0.c (i := 3) rfl
  have b0_4 := b0.c (i := 4) rfl
  go_wp2_with fail
  (with_reducible refine (q2.out _).mono ?_)
  rintro r w2 ⟨rfl, k2⟩
  clear b0_0 b0_1 b0_2 b0_3 b0_4
  replace b0 := b0.kb k2
  replace kx := kx.trans k2
  clear k2
  have b0_0 := b0.c (i := 0) rfl
  have b0_1 := b0.c (i := 1) rfl
  have b0_2 := b0.c (i := 2) rfl
  have b0_3 := b0.c (i := 3) rfl
  have b0_4 := b0.c (i := 4) rfl
  go_wp2
  go_ret
  exact ⟨rfl, kx⟩
set_option maxRecDepth 100000 in
set_option maxHeartbeats 1000000 in
theorem rValid_4 (f t : ByteArray) (a l h : Int) (hs : (f.toList == t.toList) = false) (ha : a < 0) (q1 : Ca 15 #[.string f] (.int .i64 0)) (q2 : Ca 15 #[.string t] (.int .i64 0)) (w : World) : Calls Try.prog 34 #[.agg #[.string f, .string t, .int .i64 a, .int .i64 l, .int .i64 h]] w fun r W' => r = .returned (.int .i64 1) ∧ Kb w W' := by
  have kx := Kb.refl w
  unfold Ca at *
  have b0 := Is.made w #[.string f, .string t, .int .i64 a, .int .i64 l, .int .i64 h] 49
  replace kx := kx.alloc (.cells #[.string f, .string t, .int .i64 a, .int .i64 l, .int .i64 h] 49 (0, 0))
  have b0_0 := b0.c (i := 0) rfl
  have b0_1 := b0.c (i := 1) rfl
  have b0_2 := b0.c (i := 2) rfl
  have b0_3 := b0.c (i := 3) rfl
  have b0_4 := b0.c (i := 4) rfl
  go_enter Try.func34, Try.ntmps34
  go_wp2_with fail
  (with_reducible refine (q1.out _).mono ?_)
  rintro r w1 ⟨rfl, k1⟩
  clear b0_0 b0_1 b0_2 b0_3 b0_4
  replace b0 := b0.kb k1
  replace kx := kx.trans k1
  clear k1
  have b0_0 := b0.c (i := 0) rfl
  have b0_1 := b0.c (i := 1) rfl
  have b0_2 := b0.c (i := 2) rfl
  have b0_3 := b0.c (i := 3) rfl
  have b0_4 := b0.c (i := 4) rfl
  go_wp2_with fail
  (with_reducible refine (q2.out _).mono ?_)
  rintro r w2 ⟨rfl, k2⟩
  clear b0_0 b0_1 b0_2 b0_3 b0_4
  replace b0 := b0.kb k2
  replace kx := kx.trans k2
  clear k2
  have b0_0 := b0.c (i := 0) rfl
  have b0_1 := b0.c (i := 1) rfl
  have b0_2 := b0.c (i := 2) rfl
  have b0_3 := b0.c (i := 3) rfl
  have b0_4 := b0.c (i := 4) rfl
  go_wp2
  go_ret
  exact ⟨rfl, kx⟩
set_option maxRecDepth 100000 in
set_option maxHeartbeats 1000000 in
theorem rValid_5 (f t : ByteArray) (a l h : Int) (hs : (f.toList == t.toList) = false) (ha : ¬ a < 0) (hb : 3 ≤ a) (q1 : Ca 15 #[.string f] (.int .i64 0)) (q2 : Ca 15 #[.string t] (.int .i64 0)) (w : World) : Calls Try.prog 34 #[.agg #[.string f, .string t, .int .i64 a, .int .i64 l, .int .i64 h]] w fun r W' => r = .returned (.int .i64 1) ∧ Kb w W' := by
  have kx := Kb.refl w
  unfold Ca at *
  have b0 := Is.made w #[.string f, .string t, .int .i64 a, .int .i64 l, .int .i64 h] 49
  replace kx := kx.alloc (.cells #[.string f, .string t, .int .i64 a, .int .i64 l, .int .i64 h] 49 (0, 0))
  have b0_0 := b0.c (i := 0) rfl
  have b0_1 := b0.c (i := 1) rfl
  have b0_2 := b0.c (i := 2) rfl
  have b0_3 := b0.c (i := 3) rfl
  have b0_4 := b0.c (i := 4) rfl
  go_enter Try.func34, Try.ntmps34
  go_wp2_with fail
  (with_reducible refine (q1.out _).mono ?_)
  rintro r w1 ⟨rfl, k1⟩
  clear b0_0 b0_1 b0_2 b0_3 b0_4
  replace b0 := b0.kb k1
  replace kx := kx.trans k1
  clear k1
  have b0_0 := b0.c (i := 0) rfl
  have b0_1 := b0.c (i := 1) rfl
  have b0_2 := b0.c (i := 2) rfl
  have b0_3 := b0.c (i := 3) rfl
  have b0_4 := b0.c (i := 4) rfl
  go_wp2_with fail
  (with_reducible refine (q2.out _).mono ?_)
  rintro r w2 ⟨rfl, k2⟩
  clear b0_0 b0_1 b0_2 b0_3 b0_4
  replace b0 := b0.kb k2
  replace kx := kx.trans k2
  clear k2
  have b0_0 := b0.c (i := 0) rfl
  have b0_1 := b0.c (i := 1) rfl
  have b0_2 := b0.c (i := 2) rfl
  have b0_3 := b0.c (i := 3) rfl
  have b0_4 := b0.c (i := 4) rfl
  go_wp2
  go_ret
  exact ⟨rfl, kx⟩
set_option maxRecDepth 100000 in
set_option maxHeartbeats 1000000 in
theorem rValid_6 (f t : ByteArray) (a l h : Int) (e : Int) (hs : (f.toList == t.toList) = false) (ha : ¬ a < 0) (hb : ¬ 3 ≤ a) (q1 : Ca 15 #[.string f] (.int .i64 0)) (q2 : Ca 15 #[.string t] (.int .i64 0)) (q3 : Ca 17 #[.agg #[.int .i64 l, .int .i64 h]] (.int .i64 e)) (w : World) : Calls Try.prog 34 #[.agg #[.string f, .string t, .int .i64 a, .int .i64 l, .int .i64 h]] w fun r W' => r = .returned (.int .i64 e) ∧ Kb w W' := by
  have kx := Kb.refl w
  unfold Ca at *
  have b0 := Is.made w #[.string f, .string t, .int .i64 a, .int .i64 l, .int .i64 h] 49
  replace kx := kx.alloc (.cells #[.string f, .string t, .int .i64 a, .int .i64 l, .int .i64 h] 49 (0, 0))
  have b0_0 := b0.c (i := 0) rfl
  have b0_1 := b0.c (i := 1) rfl
  have b0_2 := b0.c (i := 2) rfl
  have b0_3 := b0.c (i := 3) rfl
  have b0_4 := b0.c (i := 4) rfl
  go_enter Try.func34, Try.ntmps34
  go_wp2_with fail
  (with_reducible refine (q1.out _).mono ?_)
  rintro r w1 ⟨rfl, k1⟩
  clear b0_0 b0_1 b0_2 b0_3 b0_4
  replace b0 := b0.kb k1
  replace kx := kx.trans k1
  clear k1
  have b0_0 := b0.c (i := 0) rfl
  have b0_1 := b0.c (i := 1) rfl
  have b0_2 := b0.c (i := 2) rfl
  have b0_3 := b0.c (i := 3) rfl
  have b0_4 := b0.c (i := 4) rfl
  go_wp2_with fail
  (with_reducible refine (q2.out _).mono ?_)
  rintro r w2 ⟨rfl, k2⟩
  clear b0_0 b0_1 b0_2 b0_3 b0_4
  replace b0 := b0.kb k2
  replace kx := kx.trans k2
  clear k2
  have b0_0 := b0.c (i := 0) rfl
  have b0_1 := b0.c (i := 1) rfl
  have b0_2 := b0.c (i := 2) rfl
  have b0_3 := b0.c (i := 3) rfl
  have b0_4 := b0.c (i := 4) rfl
  go_wp2_with fail
  (with_reducible refine (q3.out _).mono ?_)
  rintro r w3 ⟨rfl, k3⟩
  clear b0_0 b0_1 b0_2 b0_3 b0_4
  replace b0 := b0.kb k3
  replace kx := kx.trans k3
  clear k3
  have b0_0 := b0.c (i := 0) rfl
  have b0_1 := b0.c (i := 1) rfl
  have b0_2 := b0.c (i := 2) rfl
  have b0_3 := b0.c (i := 3) rfl
  have b0_4 := b0.c (i := 4) rfl
  go_wp2
  go_ret
  exact ⟨rfl, kx⟩
theorem fE_t (e : Int) : fE true e = e := if_pos rfl
theorem fE_f (e : Int) : fE false e = 0 := if_neg (by decide)
theorem fst_e {e : Int} (h : e ≠ 0) (l : List Int) : firstE (e :: l) = e := if_neg h
theorem fst_0 (l : List Int) : firstE (0 :: l) = firstE l := if_pos rfl
theorem rValid (f t : ByteArray) (a l h : Int) (hf : f.size ≤ 1000000) (ht : t.size ≤ 1000000) : Ca 34 #[.agg #[.string f, .string t, .int .i64 a, .int .i64 l, .int .i64 h]] (.int .i64 (vdE f t a l h)) := Lib.hid fun w => by
  have q1 := rName f hf
  have q2 := rName t ht
  unfold vdE
  by_cases e1 : nmE f = 0
  · rw [e1] at q1
    by_cases e2 : nmE t = 0
    · rw [e2] at q2
      rw [e1, e2, fst_0, firstE_one, fst_0]
      rcases Bool.eq_false_or_eq_true (f.toList == t.toList) with es | es
      · rw [es, fE_t, fst_e (by decide)]
        exact rValid_3 f t a l h es q1 q2 w
      · rw [es, fE_f, fst_0]
        by_cases ha : a < 0
        · rw [decide_eq_true ha, Bool.true_or, fE_t, fst_e (by decide)]
          exact rValid_4 f t a l h es ha q1 q2 w
        · by_cases hb : 3 ≤ a
          · rw [decide_eq_true hb, Bool.or_true, fE_t, fst_e (by decide)]
            exact rValid_5 f t a l h es ha hb q1 q2 w
          · rw [decide_eq_false ha, decide_eq_false hb, Bool.or_false, fE_f, fst_0, firstE_one, firstE_one]
            exact rValid_6 f t a l h _ es ha hb q1 q2 (rCheck l h) w
    · rw [e1, fst_0, firstE_one, fst_e e2]
      exact rValid_2 f t a l h _ (ne_b e2) q1 q2 w
  · rw [fst_e e1, fst_e e1]
    exact rValid_1 f t a l h _ (ne_b e1) q1 w
theorem vdE_0 {f t : ByteArray} {a l h : Int} (e : vdE f t a l h = 0) : nmE f = 0 ∧ nmE t = 0 ∧ (f.toList == t.toList) = false ∧ 0 ≤ a ∧ a < 3 ∧ lmE l h = 0 := by
  unfold vdE at e
  by_cases e1 : nmE f = 0
  · by_cases e2 : nmE t = 0
    · rw [e1, e2, fst_0, firstE_one, fst_0] at e
      rcases Bool.eq_false_or_eq_true (f.toList == t.toList) with es | es
      · rw [es, fE_t, fst_e (by decide)] at e; cases e
      · rw [es, fE_f, fst_0] at e
        by_cases ha : a < 0
        · rw [decide_eq_true ha, Bool.true_or, fE_t, fst_e (by decide)] at e; cases e
        · by_cases hb : 3 ≤ a
          · rw [decide_eq_true hb, Bool.or_true, fE_t, fst_e (by decide)] at e; cases e
          · rw [decide_eq_false ha, decide_eq_false hb, Bool.or_false, fE_f, fst_0, firstE_one, firstE_one] at e
            exact ⟨e1, e2, es, by omega, by omega, e⟩
    · rw [e1, fst_0, firstE_one, fst_e e2] at e; exact absurd e e2
  · rw [fst_e e1, fst_e e1] at e; exact absurd e e1
set_option maxRecDepth 100000 in
set_option maxHeartbeats 1000000 in
theorem rTurned (f t : ByteArray) (a l h : Int) : Ca 55 #[.agg #[.string f, .string t, .int .i64 a, .int .i64 l, .int .i64 h]] (.agg #[.string t, .string f, .int .i64 a, .int .i64 (wrap64 (-h)), .int .i64 (wrap64 (-l))]) := Lib.hid fun w => by
  have kk := ((Kb.refl w).alloc (.cells #[.string f, .string t, .int .i64 a, .int .i64 l, .int .i64 h] 49 (0, 0))).alloc (.cells #[.string t, .string f, .int .i64 a, .int .i64 (wrap64 (-h)), .int .i64 (wrap64 (-l))] 49 (0, 0))
  have is := Is.made (w.alloc (.cells #[.string f, .string t, .int .i64 a, .int .i64 l, .int .i64 h] 49 (0, 0))) #[.string t, .string f, .int .i64 a, .int .i64 (wrap64 (-h)), .int .i64 (wrap64 (-l))] 49
  rw [World.size_alloc] at is
  go_enter Try.func55, Try.ntmps55
  go_wp2
  refine ret_row Try.results55 rfl rfl is Try.underlying49 rfl (by kernel_rfl) ?_
  exact ⟨rfl, kk⟩
set_option maxRecDepth 100000 in
set_option maxHeartbeats 1000000 in
theorem rReverse_e (f t : ByteArray) (a l h : Int) (e : Int) (he : (e != 0) = true) (q1 : Ca 34 #[.agg #[.string f, .string t, .int .i64 a, .int .i64 l, .int .i64 h]] (.int .i64 e)) (w : World) : Calls Try.prog 30 #[.agg #[.string f, .string t, .int .i64 a, .int .i64 l, .int .i64 h]] w fun r W' => r = .returned (.tuple #[.agg #[.string ⟨#[]⟩, .string ⟨#[]⟩, .int .i64 0, .int .i64 0, .int .i64 0], .int .i64 e]) ∧ Kb w W' := by
  have kx := Kb.refl w
  unfold Ca at *
  have b0 := Is.made w #[.string f, .string t, .int .i64 a, .int .i64 l, .int .i64 h] 49
  replace kx := kx.alloc (.cells #[.string f, .string t, .int .i64 a, .int .i64 l, .int .i64 h] 49 (0, 0))
  replace b0 := b0.alloc (.cells #[.string ⟨#[]⟩, .string ⟨#[]⟩, .int .i64 0, .int .i64 0, .int .i64 0] 49 (0, 0))
  have b1 := Is.made (w.alloc (.cells #[.string f, .string t, .int .i64 a, .int .i64 l, .int .i64 h] 49 (0, 0))) #[.string ⟨#[]⟩, .string ⟨#[]⟩, .int .i64 0, .int .i64 0, .int .i64 0] 49
  replace kx := kx.alloc (.cells #[.string ⟨#[]⟩, .string ⟨#[]⟩, .int .i64 0, .int .i64 0, .int .i64 0] 49 (0, 0))
  rw [World.size_alloc] at b1
  have b0_0 := b0.c (i := 0) rfl
  have b0_1 := b0.c (i := 1) rfl
  have b0_2 := b0.c (i := 2) rfl
  have b0_3 := b0.c (i := 3) rfl
  have b0_4 := b0.c (i := 4) rfl
  have b1_0 := b1.c (i := 0) rfl
  have b1_1 := b1.c (i := 1) rfl
  have b1_2 := b1.c (i := 2) rfl
  have b1_3 := b1.c (i := 3) rfl
  have b1_4 := b1.c (i := 4) rfl
  go_enter Try.func30, Try.ntmps30
  go_wp2_with fail
  (with_reducible refine (q1.out _).mono ?_)
  rintro r w1 ⟨rfl, k1⟩
  clear b0_0 b0_1 b0_2 b0_3 b0_4 b1_0 b1_1 b1_2 b1_3 b1_4
  replace b0 := b0.kb k1
  replace b1 := b1.kb k1
  replace kx := kx.trans k1
  clear k1
  obtain ⟨zn, pt⟩ := put5 b1 (.string ⟨#[]⟩) (.string ⟨#[]⟩) (.int .i64 0) (.int .i64 0) (.int .i64 0)
  have kz := pt.kb kx (by omega)
  have b0_0 := b0.c (i := 0) rfl
  have b0_1 := b0.c (i := 1) rfl
  have b0_2 := b0.c (i := 2) rfl
  have b0_3 := b0.c (i := 3) rfl
  have b0_4 := b0.c (i := 4) rfl
  have b1_0 := b1.c (i := 0) rfl
  have b1_1 := b1.c (i := 1) rfl
  have b1_2 := b1.c (i := 2) rfl
  have b1_3 := b1.c (i := 3) rfl
  have b1_4 := b1.c (i := 4) rfl
  have b1_ff := b1.f
  have b1_f0 := b1_ff 0
  have b1_f1 := b1_ff 1
  have b1_f2 := b1_ff 2
  have b1_f3 := b1_ff 3
  have b1_f4 := b1_ff 4
  clear b1_ff
  clear b0 b1 kx pt
  go_wp2
  refine ret_row2 Try.results30 rfl rfl rfl zn Try.underlying49 rfl (by kernel_rfl) ?_
  exact ⟨rfl, kz⟩
set_option maxRecDepth 100000 in
set_option maxHeartbeats 1000000 in
theorem rReverse_0 (f t : ByteArray) (a l h : Int) (q1 : Ca 34 #[.agg #[.string f, .string t, .int .i64 a, .int .i64 l, .int .i64 h]] (.int .i64 0)) (q2 : Ca 55 #[.agg #[.string f, .string t, .int .i64 a, .int .i64 l, .int .i64 h]] (.agg #[.string t, .string f, .int .i64 a, .int .i64 (wrap64 (-h)), .int .i64 (wrap64 (-l))])) (w : World) : Calls Try.prog 30 #[.agg #[.string f, .string t, .int .i64 a, .int .i64 l, .int .i64 h]] w fun r W' => r = .returned (.tuple #[.agg #[.string t, .string f, .int .i64 a, .int .i64 (wrap64 (-h)), .int .i64 (wrap64 (-l))], .int .i64 0]) ∧ Kb w W' := by
  have kx := Kb.refl w
  unfold Ca at *
  have b0 := Is.made w #[.string f, .string t, .int .i64 a, .int .i64 l, .int .i64 h] 49
  replace kx := kx.alloc (.cells #[.string f, .string t, .int .i64 a, .int .i64 l, .int .i64 h] 49 (0, 0))
  replace b0 := b0.alloc (.cells #[.string ⟨#[]⟩, .string ⟨#[]⟩, .int .i64 0, .int .i64 0, .int .i64 0] 49 (0, 0))
  have b1 := Is.made (w.alloc (.cells #[.string f, .string t, .int .i64 a, .int .i64 l, .int .i64 h] 49 (0, 0))) #[.string ⟨#[]⟩, .string ⟨#[]⟩, .int .i64 0, .int .i64 0, .int .i64 0] 49
  replace kx := kx.alloc (.cells #[.string ⟨#[]⟩, .string ⟨#[]⟩, .int .i64 0, .int .i64 0, .int .i64 0] 49 (0, 0))
  rw [World.size_alloc] at b1
  have b0_0 := b0.c (i := 0) rfl
  have b0_1 := b0.c (i := 1) rfl
  have b0_2 := b0.c (i := 2) rfl
  have b0_3 := b0.c (i := 3) rfl
  have b0_4 := b0.c (i := 4) rfl
  have b1_0 := b1.c (i := 0) rfl
  have b1_1 := b1.c (i := 1) rfl
  have b1_2 := b1.c (i := 2) rfl
  have b1_3 := b1.c (i := 3) rfl
  have b1_4 := b1.c (i := 4) rfl
  go_enter Try.func30, Try.ntmps30
  go_wp2_with fail
  (with_reducible refine (q1.out _).mono ?_)
  rintro r w1 ⟨rfl, k1⟩
  clear b0_0 b0_1 b0_2 b0_3 b0_4 b1_0 b1_1 b1_2 b1_3 b1_4
  replace b0 := b0.kb k1
  replace b1 := b1.kb k1
  replace kx := kx.trans k1
  clear k1
  have b0_0 := b0.c (i := 0) rfl
  have b0_1 := b0.c (i := 1) rfl
  have b0_2 := b0.c (i := 2) rfl
  have b0_3 := b0.c (i := 3) rfl
  have b0_4 := b0.c (i := 4) rfl
  have b1_0 := b1.c (i := 0) rfl
  have b1_1 := b1.c (i := 1) rfl
  have b1_2 := b1.c (i := 2) rfl
  have b1_3 := b1.c (i := 3) rfl
  have b1_4 := b1.c (i := 4) rfl
  go_wp2_with fail
  (with_reducible refine (q2.out _).mono ?_)
  rintro r w2 ⟨rfl, k2⟩
  clear b0_0 b0_1 b0_2 b0_3 b0_4 b1_0 b1_1 b1_2 b1_3 b1_4
  replace b0 := b0.kb k2
  replace b1 := b1.kb k2
  replace kx := kx.trans k2
  clear k2
  obtain ⟨zn, pt⟩ := put5 b1 (.string t) (.string f) (.int .i64 a) (.int .i64 (wrap64 (-h))) (.int .i64 (wrap64 (-l)))
  have kz := pt.kb kx (by omega)
  have b0_0 := b0.c (i := 0) rfl
  have b0_1 := b0.c (i := 1) rfl
  have b0_2 := b0.c (i := 2) rfl
  have b0_3 := b0.c (i := 3) rfl
  have b0_4 := b0.c (i := 4) rfl
  have b1_0 := b1.c (i := 0) rfl
  have b1_1 := b1.c (i := 1) rfl
  have b1_2 := b1.c (i := 2) rfl
  have b1_3 := b1.c (i := 3) rfl
  have b1_4 := b1.c (i := 4) rfl
  have b1_ff := b1.f
  have b1_f0 := b1_ff 0
  have b1_f1 := b1_ff 1
  have b1_f2 := b1_ff 2
  have b1_f3 := b1_ff 3
  have b1_f4 := b1_ff 4
  clear b1_ff
  clear b0 b1 kx pt
  go_wp2
  refine ret_row2 Try.results30 rfl rfl rfl zn Try.underlying49 rfl (by kernel_rfl) ?_
  exact ⟨rfl, kz⟩
theorem rReverse (f t : ByteArray) (a l h : Int) (hf : f.size ≤ 1000000) (ht : t.size ≤ 1000000) : Ca 30 #[.agg #[.string f, .string t, .int .i64 a, .int .i64 l, .int .i64 h]]
    (.tuple #[.agg #[.string (zS (vdE f t a l h) t), .string (zS (vdE f t a l h) f), .int .i64 (zI (vdE f t a l h) a), .int .i64 (zI (vdE f t a l h) (wrap64 (-h))), .int .i64 (zI (vdE f t a l h) (wrap64 (-l)))], .int .i64 (vdE f t a l h)]) := Lib.hid fun w => by
  have q := rValid f t a l h hf ht
  by_cases h0 : vdE f t a l h = 0
  · rw [h0] at q ⊢
    rw [zS_0, zS_0, zI_0, zI_0, zI_0]; exact rReverse_0 f t a l h q (rTurned f t a l h) w
  · rw [zS_e h0, zS_e h0, zI_e h0, zI_e h0, zI_e h0]; exact rReverse_e f t a l h _ (ne_b h0) q w
set_option maxRecDepth 100000 in
set_option maxHeartbeats 1000000 in
theorem rJoin_1 (f t : ByteArray) (a l h : Int) (g u : ByteArray) (c m k : Int) (e : Int) (he : (e != 0) = true) (q1 : Ca 34 #[.agg #[.string f, .string t, .int .i64 a, .int .i64 l, .int .i64 h]] (.int .i64 e)) (w : World) : Calls Try.prog 32 #[.agg #[.string f, .string t, .int .i64 a, .int .i64 l, .int .i64 h], .agg #[.string g, .string u, .int .i64 c, .int .i64 m, .int .i64 k]] w fun r W' => r = .returned (.tuple #[.agg #[.string ⟨#[]⟩, .string ⟨#[]⟩, .int .i64 0, .int .i64 0, .int .i64 0], .int .i64 e]) ∧ Kb w W' := by
  have kx := Kb.refl w
  unfold Ca at *
  have b0 := Is.made w #[.string f, .string t, .int .i64 a, .int .i64 l, .int .i64 h] 49
  replace kx := kx.alloc (.cells #[.string f, .string t, .int .i64 a, .int .i64 l, .int .i64 h] 49 (0, 0))
  replace b0 := b0.alloc (.cells #[.string g, .string u, .int .i64 c, .int .i64 m, .int .i64 k] 49 (0, 0))
  have b1 := Is.made (w.alloc (.cells #[.string f, .string t, .int .i64 a, .int .i64 l, .int .i64 h] 49 (0, 0))) #[.string g, .string u, .int .i64 c, .int .i64 m, .int .i64 k] 49
  replace kx := kx.alloc (.cells #[.string g, .string u, .int .i64 c, .int .i64 m, .int .i64 k] 49 (0, 0))
  replace b0 := b0.alloc (.cells #[.string ⟨#[]⟩, .string ⟨#[]⟩, .int .i64 0, .int .i64 0, .int .i64 0] 49 (0, 0))
  replace b1 := b1.alloc (.cells #[.string ⟨#[]⟩, .string ⟨#[]⟩, .int .i64 0, .int .i64 0, .int .i64 0] 49 (0, 0))
  have b2 := Is.made ((w.alloc (.cells #[.string f, .string t, .int .i64 a, .int .i64 l, .int .i64 h] 49 (0, 0))).alloc (.cells #[.string g, .string u, .int .i64 c, .int .i64 m, .int .i64 k] 49 (0, 0))) #[.string ⟨#[]⟩, .string ⟨#[]⟩, .int .i64 0, .int .i64 0, .int .i64 0] 49
  replace kx := kx.alloc (.cells #[.string ⟨#[]⟩, .string ⟨#[]⟩, .int .i64 0, .int .i64 0, .int .i64 0] 49 (0, 0))
  rw [World.size_alloc] at b1
  rw [World.size_alloc, World.size_alloc] at b2
  have b0_0 := b0.c (i := 0) rfl
  have b0_1 := b0.c (i := 1) rfl
  have b0_2 := b0.c (i := 2) rfl
  have b0_3 := b0.c (i := 3) rfl
  have b0_4 := b0.c (i := 4) rfl
  have b1_0 := b1.c (i := 0) rfl
  have b1_1 := b1.c (i := 1) rfl
  have b1_2 := b1.c (i := 2) rfl
  have b1_3 := b1.c (i := 3) rfl
  have b1_4 := b1.c (i := 4) rfl
  have b2_0 := b2.c (i := 0) rfl
  have b2_1 := b2.c (i := 1) rfl
  have b2_2 := b2.c (i := 2) rfl
  have b2_3 := b2.c (i := 3) rfl
  have b2_4 := b2.c (i := 4) rfl
  go_enter Try.func32, Try.ntmps32
  go_wp2_with fail
  (with_reducible refine (q1.out _).mono ?_)
  rintro r w1 ⟨rfl, k1⟩
  clear b0_0 b0_1 b0_2 b0_3 b0_4 b1_0 b1_1 b1_2 b1_3 b1_4 b2_0 b2_1 b2_2 b2_3 b2_4
  replace b0 := b0.kb k1
  replace b1 := b1.kb k1
  replace b2 := b2.kb k1
  replace kx := kx.trans k1
  clear k1
  obtain ⟨zn, pt⟩ := put5 b2 (.string ⟨#[]⟩) (.string ⟨#[]⟩) (.int .i64 0) (.int .i64 0) (.int .i64 0)
  have kz := pt.kb kx (by omega)
  have b0_0 := b0.c (i := 0) rfl
  have b0_1 := b0.c (i := 1) rfl
  have b0_2 := b0.c (i := 2) rfl
  have b0_3 := b0.c (i := 3) rfl
  have b0_4 := b0.c (i := 4) rfl
  have b1_0 := b1.c (i := 0) rfl
  have b1_1 := b1.c (i := 1) rfl
  have b1_2 := b1.c (i := 2) rfl
  have b1_3 := b1.c (i := 3) rfl
  have b1_4 := b1.c (i := 4) rfl
  have b2_0 := b2.c (i := 0) rfl
  have b2_1 := b2.c (i := 1) rfl
  have b2_2 := b2.c (i := 2) rfl
  have b2_3 := b2.c (i := 3) rfl
  have b2_4 := b2.c (i := 4) rfl
  have b2_ff := b2.f
  have b2_f0 := b2_ff 0
  have b2_f1 := b2_ff 1
  have b2_f2 := b2_ff 2
  have b2_f3 := b2_ff 3
  have b2_f4 := b2_ff 4
  clear b2_ff
  clear b0 b1 b2 kx pt
  go_wp2
  refine ret_row2 Try.results32 rfl rfl rfl zn Try.underlying49 rfl (by kernel_rfl) ?_
  exact ⟨rfl, kz⟩
set_option maxRecDepth 100000 in
set_option maxHeartbeats 1000000 in
theorem rJoin_2 (f t : ByteArray) (a l h : Int) (g u : ByteArray) (c m k : Int) (e : Int) (he : (e != 0) = true) (q1 : Ca 34 #[.agg #[.string f, .string t, .int .i64 a, .int .i64 l, .int .i64 h]] (.int .i64 0)) (q2 : Ca 34 #[.agg #[.string g, .string u, .int .i64 c, .int .i64 m, .int .i64 k]] (.int .i64 e)) (w : World) : Calls Try.prog 32 #[.agg #[.string f, .string t, .int .i64 a, .int .i64 l, .int .i64 h], .agg #[.string g, .string u, .int .i64 c, .int .i64 m, .int .i64 k]] w fun r W' => r = .returned (.tuple #[.agg #[.string ⟨#[]⟩, .string ⟨#[]⟩, .int .i64 0, .int .i64 0, .int .i64 0], .int .i64 e]) ∧ Kb w W' := by
  have kx := Kb.refl w
  unfold Ca at *
  have b0 := Is.made w #[.string f, .string t, .int .i64 a, .int .i64 l, .int .i64 h] 49
  replace kx := kx.alloc (.cells #[.string f, .string t, .int .i64 a, .int .i64 l, .int .i64 h] 49 (0, 0))
  replace b0 := b0.alloc (.cells #[.string g, .string u, .int .i64 c, .int .i64 m, .int .i64 k] 49 (0, 0))
  have b1 := Is.made (w.alloc (.cells #[.string f, .string t, .int .i64 a, .int .i64 l, .int .i64 h] 49 (0, 0))) #[.string g, .string u, .int .i64 c, .int .i64 m, .int .i64 k] 49
  replace kx := kx.alloc (.cells #[.string g, .string u, .int .i64 c, .int .i64 m, .int .i64 k] 49 (0, 0))
  replace b0 := b0.alloc (.cells #[.string ⟨#[]⟩, .string ⟨#[]⟩, .int .i64 0, .int .i64 0, .int .i64 0] 49 (0, 0))
  replace b1 := b1.alloc (.cells #[.string ⟨#[]⟩, .string ⟨#[]⟩, .int .i64 0, .int .i64 0, .int .i64 0] 49 (0, 0))
  have b2 := Is.made ((w.alloc (.cells #[.string f, .string t, .int .i64 a, .int .i64 l, .int .i64 h] 49 (0, 0))).alloc (.cells #[.string g, .string u, .int .i64 c, .int .i64 m, .int .i64 k] 49 (0, 0))) #[.string ⟨#[]⟩, .string ⟨#[]⟩, .int .i64 0, .int .i64 0, .int .i64 0] 49
  replace kx := kx.alloc (.cells #[.string ⟨#[]⟩, .string ⟨#[]⟩, .int .i64 0, .int .i64 0, .int .i64 0] 49 (0, 0))
  rw [World.size_alloc] at b1
  rw [World.size_alloc, World.size_alloc] at b2
  have b0_0 := b0.c (i := 0) rfl
  have b0_1 := b0.c (i := 1) rfl
  have b0_2 := b0.c (i := 2) rfl
  have b0_3 := b0.c (i := 3) rfl
  have b0_4 := b0.c (i := 4) rfl
  have b1_0 := b1.c (i := 0) rfl
  have b1_1 := b1.c (i := 1) rfl
  have b1_2 := b1.c (i := 2) rfl
  have b1_3 := b1.c (i := 3) rfl
  have b1_4 := b1.c (i := 4) rfl
  have b2_0 := b2.c (i := 0) rfl
  have b2_1 := b2.c (i := 1) rfl
  have b2_2 := b2.c (i := 2) rfl
  have b2_3 := b2.c (i := 3) rfl
  have b2_4 := b2.c (i := 4) rfl
  go_enter Try.func32, Try.ntmps32
  go_wp2_with fail
  (with_reducible refine (q1.out _).mono ?_)
  rintro r w1 ⟨rfl, k1⟩
  clear b0_0 b0_1 b0_2 b0_3 b0_4 b1_0 b1_1 b1_2 b1_3 b1_4 b2_0 b2_1 b2_2 b2_3 b2_4
  replace b0 := b0.kb k1
  replace b1 := b1.kb k1
  replace b2 := b2.kb k1
  replace kx := kx.trans k1
  clear k1
  have b0_0 := b0.c (i := 0) rfl
  have b0_1 := b0.c (i := 1) rfl
  have b0_2 := b0.c (i := 2) rfl
  have b0_3 := b0.c (i := 3) rfl
  have b0_4 := b0.c (i := 4) rfl
  have b1_0 := b1.c (i := 0) rfl
  have b1_1 := b1.c (i := 1) rfl
  have b1_2 := b1.c (i := 2) rfl
  have b1_3 := b1.c (i := 3) rfl
  have b1_4 := b1.c (i := 4) rfl
  have b2_0 := b2.c (i := 0) rfl
  have b2_1 := b2.c (i := 1) rfl
  have b2_2 := b2.c (i := 2) rfl
  have b2_3 := b2.c (i := 3) rfl
  have b2_4 := b2.c (i := 4) rfl
  go_wp2_with fail
  (with_reducible refine (q2.out _).mono ?_)
  rintro r w2 ⟨rfl, k2⟩
  clear b0_0 b0_1 b0_2 b0_3 b0_4 b1_0 b1_1 b1_2 b1_3 b1_4 b2_0 b2_1 b2_2 b2_3 b2_4
  replace b0 := b0.kb k2
  replace b1 := b1.kb k2
  replace b2 := b2.kb k2
  replace kx := kx.trans k2
  clear k2
  obtain ⟨zn, pt⟩ := put5 b2 (.string ⟨#[]⟩) (.string ⟨#[]⟩) (.int .i64 0) (.int .i64 0) (.int .i64 0)
  have kz := pt.kb kx (by omega)
  have b0_0 := b0.c (i := 0) rfl
  have b0_1 := b0.c (i := 1) rfl
  have b0_2 := b0.c (i := 2) rfl
  have b0_3 := b0.c (i := 3) rfl
  have b0_4 := b0.c (i := 4) rfl
  have b1_0 := b1.c (i := 0) rfl
  have b1_1 := b1.c (i := 1) rfl
  have b1_2 := b1.c (i := 2) rfl
  have b1_3 := b1.c (i := 3) rfl
  have b1_4 := b1.c (i := 4) rfl
  have b2_0 := b2.c (i := 0) rfl
  have b2_1 := b2.c (i := 1) rfl
  have b2_2 := b2.c (i := 2) rfl
  have b2_3 := b2.c (i := 3) rfl
  have b2_4 := b2.c (i := 4) rfl
  have b2_ff := b2.f
  have b2_f0 := b2_ff 0
  have b2_f1 := b2_ff 1
  have b2_f2 := b2_ff 2
  have b2_f3 := b2_ff 3
  have b2_f4 := b2_ff 4
  clear b2_ff
  clear b0 b1 b2 kx pt
  go_wp2
  refine ret_row2 Try.results32 rfl rfl rfl zn Try.underlying49 rfl (by kernel_rfl) ?_
  exact ⟨rfl, kz⟩
set_option maxRecDepth 100000 in
set_option maxHeartbeats 1000000 in
theorem rJoin_3 (f t : ByteArray) (a l h : Int) (g u : ByteArray) (c m k : Int) (hx : (a != c) = true) (q1 : Ca 34 #[.agg #[.string f, .string t, .int .i64 a, .int .i64 l, .int .i64 h]] (.int .i64 0)) (q2 : Ca 34 #[.agg #[.string g, .string u, .int .i64 c, .int .i64 m, .int .i64 k]] (.int .i64 0)) (w : World) : Calls Try.prog 32 #[.agg #[.string f, .string t, .int .i64 a, .int .i64 l, .int .i64 h], .agg #[.string g, .string u, .int .i64 c, .int .i64 m, .int .i64 k]] w fun r W' => r = .returned (.tuple #[.agg #[.string ⟨#[]⟩, .string ⟨#[]⟩, .int .i64 0, .int .i64 0, .int .i64 0], .int .i64 8]) ∧ Kb w W' := by
  have kx := Kb.refl w
  unfold Ca at *
  have b0 := Is.made w #[.string f, .string t, .int .i64 a, .int .i64 l, .int .i64 h] 49
  replace kx := kx.alloc (.cells #[.string f, .string t, .int .i64 a, .int .i64 l, .int .i64 h] 49 (0, 0))
  replace b0 := b0.alloc (.cells #[.string g, .string u, .int .i64 c, .int .i64 m, .int .i64 k] 49 (0, 0))
  have b1 := Is.made (w.alloc (.cells #[.string f, .string t, .int .i64 a, .int .i64 l, .int .i64 h] 49 (0, 0))) #[.string g, .string u, .int .i64 c, .int .i64 m, .int .i64 k] 49
  replace kx := kx.alloc (.cells #[.string g, .string u, .int .i64 c, .int .i64 m, .int .i64 k] 49 (0, 0))
  replace b0 := b0.alloc (.cells #[.string ⟨#[]⟩, .string ⟨#[]⟩, .int .i64 0, .int .i64 0, .int .i64 0] 49 (0, 0))
  replace b1 := b1.alloc (.cells #[.string ⟨#[]⟩, .string ⟨#[]⟩, .int .i64 0, .int .i64 0, .int .i64 0] 49 (0, 0))
  have b2 := Is.made ((w.alloc (.cells #[.string f, .string t, .int .i64 a, .int .i64 l, .int .i64 h] 49 (0, 0))).alloc (.cells #[.string g, .string u, .int .i64 c, .int .i64 m, .int .i64 k] 49 (0, 0))) #[.string ⟨#[]⟩, .string ⟨#[]⟩, .int .i64 0, .int .i64 0, .int .i64 0] 49
  replace kx := kx.alloc (.cells #[.string ⟨#[]⟩, .string ⟨#[]⟩, .int .i64 0, .int .i64 0, .int .i64 0] 49 (0, 0))
  rw [World.size_alloc] at b1
  rw [World.size_alloc, World.size_alloc] at b2
  have b0_0 := b0.c (i := 0) rfl
  have b0_1 := b0.c (i := 1) rfl
  have b0_2 := b0.c (i := 2) rfl
  have b0_3 := b0.c (i := 3) rfl
  have b0_4 := b0.c (i := 4) rfl
  have b1_0 := b1.c (i := 0) rfl
  have b1_1 := b1.c (i := 1) rfl
  have b1_2 := b1.c (i := 2) rfl
  have b1_3 := b1.c (i := 3) rfl
  have b1_4 := b1.c (i := 4) rfl
  have b2_0 := b2.c (i := 0) rfl
  have b2_1 := b2.c (i := 1) rfl
  have b2_2 := b2.c (i := 2) rfl
  have b2_3 := b2.c (i := 3) rfl
  have b2_4 := b2.c (i := 4) rfl
  go_enter Try.func32, Try.ntmps32
  go_wp2_with fail
  (with_reducible refine (q1.out _).mono ?_)
  rintro r w1 ⟨rfl, k1⟩
  clear b0_0 b0_1 b0_2 b0_3 b0_4 b1_0 b1_1 b1_2 b1_3 b1_4 b2_0 b2_1 b2_2 b2_3 b2_4
  replace b0 := b0.kb k1
  replace b1 := b1.kb k1
  replace b2 := b2.kb k1
  replace kx := kx.trans k1
  clear k1
  have b0_0 := b0.c (i := 0) rfl
  have b0_1 := b0.c (i := 1) rfl
  have b0_2 := b0.c (i := 2) rfl
  have b0_3 := b0.c (i := 3) rfl
  have b0_4 := b0.c (i := 4) rfl
  have b1_0 := b1.c (i := 0) rfl
  have b1_1 := b1.c (i := 1) rfl
  have b1_2 := b1.c (i := 2) rfl
  have b1_3 := b1.c (i := 3) rfl
  have b1_4 := b1.c (i := 4) rfl
  have b2_0 := b2.c (i := 0) rfl
  have b2_1 := b2.c (i := 1) rfl
  have b2_2 := b2.c (i := 2) rfl
  have b2_3 := b2.c (i := 3) rfl
  have b2_4 := b2.c (i := 4) rfl
  go_wp2_with fail
  (with_reducible refine (q2.out _).mono ?_)
  rintro r w2 ⟨rfl, k2⟩
  clear b0_0 b0_1 b0_2 b0_3 b0_4 b1_0 b1_1 b1_2 b1_3 b1_4 b2_0 b2_1 b2_2 b2_3 b2_4
  replace b0 := b0.kb k2
  replace b1 := b1.kb k2
  replace b2 := b2.kb k2
  replace kx := kx.trans k2
  clear k2
  obtain ⟨zn, pt⟩ := put5 b2 (.string ⟨#[]⟩) (.string ⟨#[]⟩) (.int .i64 0) (.int .i64 0) (.int .i64 0)
  have kz := pt.kb kx (by omega)
  have b0_0 := b0.c (i := 0) rfl
  have b0_1 := b0.c (i := 1) rfl
  have b0_2 := b0.c (i := 2) rfl
  have b0_3 := b0.c (i := 3) rfl
  have b0_4 := b0.c (i := 4) rfl
  have b1_0 := b1.c (i := 0) rfl
  have b1_1 := b1.c (i := 1) rfl
  have b1_2 := b1.c (i := 2) rfl
  have b1_3 := b1.c (i := 3) rfl
  have b1_4 := b1.c (i := 4) rfl
  have b2_0 := b2.c (i := 0) rfl
  have b2_1 := b2.c (i := 1) rfl
  have b2_2 := b2.c (i := 2) rfl
  have b2_3 := b2.c (i := 3) rfl
  have b2_4 := b2.c (i := 4) rfl
  have b2_ff := b2.f
  have b2_f0 := b2_ff 0
  have b2_f1 := b2_ff 1
  have b2_f2 := b2_ff 2
  have b2_f3 := b2_ff 3
  have b2_f4 := b2_ff 4
  clear b2_ff
  clear b0 b1 b2 kx pt
  go_wp2
  refine ret_row2 Try.results32 rfl rfl rfl zn Try.underlying49 rfl (by kernel_rfl) ?_
  exact ⟨rfl, kz⟩
set_option maxRecDepth 100000 in
set_option maxHeartbeats 1000000 in
theorem rJoin_4 (f t : ByteArray) (a l h : Int) (g u : ByteArray) (c m k : Int) (hx : (a != c) = false) (hn : (t.toList == g.toList) = false) (q1 : Ca 34 #[.agg #[.string f, .string t, .int .i64 a, .int .i64 l, .int .i64 h]] (.int .i64 0)) (q2 : Ca 34 #[.agg #[.string g, .string u, .int .i64 c, .int .i64 m, .int .i64 k]] (.int .i64 0)) (w : World) : Calls Try.prog 32 #[.agg #[.string f, .string t, .int .i64 a, .int .i64 l, .int .i64 h], .agg #[.string g, .string u, .int .i64 c, .int .i64 m, .int .i64 k]] w fun r W' => r = .returned (.tuple #[.agg #[.string ⟨#[]⟩, .string ⟨#[]⟩, .int .i64 0, .int .i64 0, .int .i64 0], .int .i64 8]) ∧ Kb w W' := by
  have kx := Kb.refl w
  unfold Ca at *
  have b0 := Is.made w #[.string f, .string t, .int .i64 a, .int .i64 l, .int .i64 h] 49
  replace kx := kx.alloc (.cells #[.string f, .string t, .int .i64 a, .int .i64 l, .int .i64 h] 49 (0, 0))
  replace b0 := b0.alloc (.cells #[.string g, .string u, .int .i64 c, .int .i64 m, .int .i64 k] 49 (0, 0))
  have b1 := Is.made (w.alloc (.cells #[.string f, .string t, .int .i64 a, .int .i64 l, .int .i64 h] 49 (0, 0))) #[.string g, .string u, .int .i64 c, .int .i64 m, .int .i64 k] 49
  replace kx := kx.alloc (.cells #[.string g, .string u, .int .i64 c, .int .i64 m, .int .i64 k] 49 (0, 0))
  replace b0 := b0.alloc (.cells #[.string ⟨#[]⟩, .string ⟨#[]⟩, .int .i64 0, .int .i64 0, .int .i64 0] 49 (0, 0))
  replace b1 := b1.alloc (.cells #[.string ⟨#[]⟩, .string ⟨#[]⟩, .int .i64 0, .int .i64 0, .int .i64 0] 49 (0, 0))
  have b2 := Is.made ((w.alloc (.cells #[.string f, .string t, .int .i64 a, .int .i64 l, .int .i64 h] 49 (0, 0))).alloc (.cells #[.string g, .string u, .int .i64 c, .int .i64 m, .int .i64 k] 49 (0, 0))) #[.string ⟨#[]⟩, .string ⟨#[]⟩, .int .i64 0, .int .i64 0, .int .i64 0] 49
  replace kx := kx.alloc (.cells #[.string ⟨#[]⟩, .string ⟨#[]⟩, .int .i64 0, .int .i64 0, .int .i64 0] 49 (0, 0))
  rw [World.size_alloc] at b1
  rw [World.size_alloc, World.size_alloc] at b2
  have b0_0 := b0.c (i := 0) rfl
  have b0_1 := b0.c (i := 1) rfl
  have b0_2 := b0.c (i := 2) rfl
  have b0_3 := b0.c (i := 3) rfl
  have b0_4 := b0.c (i := 4) rfl
  have b1_0 := b1.c (i := 0) rfl
  have b1_1 := b1.c (i := 1) rfl
  have b1_2 := b1.c (i := 2) rfl
  have b1_3 := b1.c (i := 3) rfl
  have b1_4 := b1.c (i := 4) rfl
  have b2_0 := b2.c (i := 0) rfl
  have b2_1 := b2.c (i := 1) rfl
  have b2_2 := b2.c (i := 2) rfl
  have b2_3 := b2.c (i := 3) rfl
  have b2_4 := b2.c (i := 4) rfl
  go_enter Try.func32, Try.ntmps32
  go_wp2_with fail
  (with_reducible refine (q1.out _).mono ?_)
  rintro r w1 ⟨rfl, k1⟩
  clear b0_0 b0_1 b0_2 b0_3 b0_4 b1_0 b1_1 b1_2 b1_3 b1_4 b2_0 b2_1 b2_2 b2_3 b2_4
  replace b0 := b0.kb k1
  replace b1 := b1.kb k1
  replace b2 := b2.kb k1
  replace kx := kx.trans k1
  clear k1
  have b0_0 := b0.c (i := 0) rfl
  have b0_1 := b0.c (i := 1) rfl
  have b0_2 := b0.c (i := 2) rfl
  have b0_3 := b0.c (i := 3) rfl
  have b0_4 := b0.c (i := 4) rfl
  have b1_0 := b1.c (i := 0) rfl
  have b1_1 := b1.c (i := 1) rfl
  have b1_2 := b1.c (i := 2) rfl
  have b1_3 := b1.c (i := 3) rfl
  have b1_4 := b1.c (i := 4) rfl
  have b2_0 := b2.c (i := 0) rfl
  have b2_1 := b2.c (i := 1) rfl
  have b2_2 := b2.c (i := 2) rfl
  have b2_3 := b2.c (i := 3) rfl
  have b2_4 := b2.c (i := 4) rfl
  go_wp2_with fail
  (with_reducible refine (q2.out _).mono ?_)
  rintro r w2 ⟨rfl, k2⟩
  clear b0_0 b0_1 b0_2 b0_3 b0_4 b1_0 b1_1 b1_2 b1_3 b1_4 b2_0 b2_1 b2_2 b2_3 b2_4
  replace b0 := b0.kb k2
  replace b1 := b1.kb k2
  replace b2 := b2.kb k2
  replace kx := kx.trans k2
  clear k2
  obtain ⟨zn, pt⟩ := put5 b2 (.string ⟨#[]⟩) (.string ⟨#[]⟩) (.int .i64 0) (.int .i64 0) (.int .i64 0)
  have kz := pt.kb kx (by omega)
  have b0_0 := b0.c (i := 0) rfl
  have b0_1 := b0.c (i := 1) rfl
  have b0_2 := b0.c (i := 2) rfl
  have b0_3 := b0.c (i := 3) rfl
  have b0_4 := b0.c (i := 4) rfl
  have b1_0 := b1.c (i := 0) rfl
  have b1_1 := b1.c (i := 1) rfl
  have b1_2 := b1.c (i := 2) rfl
  have b1_3 := b1.c (i := 3) rfl
  have b1_4 := b1.c (i := 4) rfl
  have b2_0 := b2.c (i := 0) rfl
  have b2_1 := b2.c (i := 1) rfl
  have b2_2 := b2.c (i := 2) rfl
  have b2_3 := b2.c (i := 3) rfl
  have b2_4 := b2.c (i := 4) rfl
  have b2_ff := b2.f
  have b2_f0 := b2_ff 0
  have b2_f1 := b2_ff 1
  have b2_f2 := b2_ff 2
  have b2_f3 := b2_ff 3
  have b2_f4 := b2_ff 4
  clear b2_ff
  clear b0 b1 b2 kx pt
  go_wp2
  refine ret_row2 Try.results32 rfl rfl rfl zn Try.underlying49 rfl (by kernel_rfl) ?_
  exact ⟨rfl, kz⟩
set_option maxRecDepth 100000 in
set_option maxHeartbeats 1000000 in
theorem rJoin_5 (f t : ByteArray) (a l h : Int) (g u : ByteArray) (c m k : Int) (hx : (a != c) = false) (hn : (t.toList == g.toList) = true) (hs : (f.toList == u.toList) = true) (q1 : Ca 34 #[.agg #[.string f, .string t, .int .i64 a, .int .i64 l, .int .i64 h]] (.int .i64 0)) (q2 : Ca 34 #[.agg #[.string g, .string u, .int .i64 c, .int .i64 m, .int .i64 k]] (.int .i64 0)) (w : World) : Calls Try.prog 32 #[.agg #[.string f, .string t, .int .i64 a, .int .i64 l, .int .i64 h], .agg #[.string g, .string u, .int .i64 c, .int .i64 m, .int .i64 k]] w fun r W' => r = .returned (.tuple #[.agg #[.string ⟨#[]⟩, .string ⟨#[]⟩, .int .i64 0, .int .i64 0, .int .i64 0], .int .i64 7]) ∧ Kb w W' := by
  have kx := Kb.refl w
  unfold Ca at *
  have b0 := Is.made w #[.string f, .string t, .int .i64 a, .int .i64 l, .int .i64 h] 49
  replace kx := kx.alloc (.cells #[.string f, .string t, .int .i64 a, .int .i64 l, .int .i64 h] 49 (0, 0))
  replace b0 := b0.alloc (.cells #[.string g, .string u, .int .i64 c, .int .i64 m, .int .i64 k] 49 (0, 0))
  have b1 := Is.made (w.alloc (.cells #[.string f, .string t, .int .i64 a, .int .i64 l, .int .i64 h] 49 (0, 0))) #[.string g, .string u, .int .i64 c, .int .i64 m, .int .i64 k] 49
  replace kx := kx.alloc (.cells #[.string g, .string u, .int .i64 c, .int .i64 m, .int .i64 k] 49 (0, 0))
  replace b0 := b0.alloc (.cells #[.string ⟨#[]⟩, .string ⟨#[]⟩, .int .i64 0, .int .i64 0, .int .i64 0] 49 (0, 0))
  replace b1 := b1.alloc (.cells #[.string ⟨#[]⟩, .string ⟨#[]⟩, .int .i64 0, .int .i64 0, .int .i64 0] 49 (0, 0))
  have b2 := Is.made ((w.alloc (.cells #[.string f, .string t, .int .i64 a, .int .i64 l, .int .i64 h] 49 (0, 0))).alloc (.cells #[.string g, .string u, .int .i64 c, .int .i64 m, .int .i64 k] 49 (0, 0))) #[.string ⟨#[]⟩, .string ⟨#[]⟩, .int .i64 0, .int .i64 0, .int .i64 0] 49
  replace kx := kx.alloc (.cells #[.string ⟨#[]⟩, .string ⟨#[]⟩, .int .i64 0, .int .i64 0, .int .i64 0] 49 (0, 0))
  rw [World.size_alloc] at b1
  rw [World.size_alloc, World.size_alloc] at b2
  have b0_0 := b0.c (i := 0) rfl
  have b0_1 := b0.c (i := 1) rfl
  have b0_2 := b0.c (i := 2) rfl
  have b0_3 := b0.c (i := 3) rfl
  have b0_4 := b0.c (i := 4) rfl
  have b1_0 := b1.c (i := 0) rfl
  have b1_1 := b1.c (i := 1) rfl
  have b1_2 := b1.c (i := 2) rfl
  have b1_3 := b1.c (i := 3) rfl
  have b1_4 := b1.c (i := 4) rfl
  have b2_0 := b2.c (i := 0) rfl
  have b2_1 := b2.c (i := 1) rfl
  have b2_2 := b2.c (i := 2) rfl
  have b2_3 := b2.c (i := 3) rfl
  have b2_4 := b2.c (i := 4) rfl
  go_enter Try.func32, Try.ntmps32
  go_wp2_with fail
  (with_reducible refine (q1.out _).mono ?_)
  rintro r w1 ⟨rfl, k1⟩
  clear b0_0 b0_1 b0_2 b0_3 b0_4 b1_0 b1_1 b1_2 b1_3 b1_4 b2_0 b2_1 b2_2 b2_3 b2_4
  replace b0 := b0.kb k1
  replace b1 := b1.kb k1
  replace b2 := b2.kb k1
  replace kx := kx.trans k1
  clear k1
  have b0_0 := b0.c (i := 0) rfl
  have b0_1 := b0.c (i := 1) rfl
  have b0_2 := b0.c (i := 2) rfl
  have b0_3 := b0.c (i := 3) rfl
  have b0_4 := b0.c (i := 4) rfl
  have b1_0 := b1.c (i := 0) rfl
  have b1_1 := b1.c (i := 1) rfl
  have b1_2 := b1.c (i := 2) rfl
  have b1_3 := b1.c (i := 3) rfl
  have b1_4 := b1.c (i := 4) rfl
  have b2_0 := b2.c (i := 0) rfl
  have b2_1 := b2.c (i := 1) rfl
  have b2_2 := b2.c (i := 2) rfl
  have b2_3 := b2.c (i := 3) rfl
  have b2_4 := b2.c (i := 4) rfl
  go_wp2_with fail
  (with_reducible refine (q2.out _).mono ?_)
  rintro r w2 ⟨rfl, k2⟩
  clear b0_0 b0_1 b0_2 b0_3 b0_4 b1_0 b1_1 b1_2 b1_3 b1_4 b2_0 b2_1 b2_2 b2_3 b2_4
  replace b0 := b0.kb k2
  replace b1 := b1.kb k2
  replace b2 := b2.kb k2
  replace kx := kx.trans k2
  clear k2
  obtain ⟨zn, pt⟩ := put5 b2 (.string ⟨#[]⟩) (.string ⟨#[]⟩) (.int .i64 0) (.int .i64 0) (.int .i64 0)
  have kz := pt.kb kx (by omega)
  have b0_0 := b0.c (i := 0) rfl
  have b0_1 := b0.c (i := 1) rfl
  have b0_2 := b0.c (i := 2) rfl
  have b0_3 := b0.c (i := 3) rfl
  have b0_4 := b0.c (i := 4) rfl
  have b1_0 := b1.c (i := 0) rfl
  have b1_1 := b1.c (i := 1) rfl
  have b1_2 := b1.c (i := 2) rfl
  have b1_3 := b1.c (i := 3) rfl
  have b1_4 := b1.c (i := 4) rfl
  have b2_0 := b2.c (i := 0) rfl
  have b2_1 := b2.c (i := 1) rfl
  have b2_2 := b2.c (i := 2) rfl
  have b2_3 := b2.c (i := 3) rfl
  have b2_4 := b2.c (i := 4) rfl
  have b2_ff := b2.f
  have b2_f0 := b2_ff 0
  have b2_f1 := b2_ff 1
  have b2_f2 := b2_ff 2
  have b2_f3 := b2_ff 3
  have b2_f4 := b2_ff 4
  clear b2_ff
  clear b0 b1 b2 kx pt
  go_wp2
  refine ret_row2 Try.results32 rfl rfl rfl zn Try.underlying49 rfl (by kernel_rfl) ?_
  exact ⟨rfl, kz⟩
set_option maxRecDepth 100000 in
set_option maxHeartbeats 1000000 in
theorem rJoin_6 (f t : ByteArray) (a l h : Int) (g u : ByteArray) (c m k : Int) (x y e : Int) (he : (e != 0) = true) (hx : (a != c) = false) (hn : (t.toList == g.toList) = true) (hs : (f.toList == u.toList) = false) (q1 : Ca 34 #[.agg #[.string f, .string t, .int .i64 a, .int .i64 l, .int .i64 h]] (.int .i64 0)) (q2 : Ca 34 #[.agg #[.string g, .string u, .int .i64 c, .int .i64 m, .int .i64 k]] (.int .i64 0)) (q3 : Ca 27 #[.agg #[.int .i64 l, .int .i64 h], .agg #[.int .i64 m, .int .i64 k]] (.tuple #[.agg #[.int .i64 x, .int .i64 y], .int .i64 e])) (w : World) : Calls Try.prog 32 #[.agg #[.string f, .string t, .int .i64 a, .int .i64 l, .int .i64 h], .agg #[.string g, .string u, .int .i64 c, .int .i64 m, .int .i64 k]] w fun r W' => r = .returned (.tuple #[.agg #[.string ⟨#[]⟩, .string ⟨#[]⟩, .int .i64 0, .int .i64 0, .int .i64 0], .int .i64 e]) ∧ Kb w W' := by
  have kx := Kb.refl w
  unfold Ca at *
  have b0 := Is.made w #[.string f, .string t, .int .i64 a, .int .i64 l, .int .i64 h] 49
  replace kx := kx.alloc (.cells #[.string f, .string t, .int .i64 a, .int .i64 l, .int .i64 h] 49 (0, 0))
  replace b0 := b0.alloc (.cells #[.string g, .string u, .int .i64 c, .int .i64 m, .int .i64 k] 49 (0, 0))
  have b1 := Is.made (w.alloc (.cells #[.string f, .string t, .int .i64 a, .int .i64 l, .int .i64 h] 49 (0, 0))) #[.string g, .string u, .int .i64 c, .int .i64 m, .int .i64 k] 49
  replace kx := kx.alloc (.cells #[.string g, .string u, .int .i64 c, .int .i64 m, .int .i64 k] 49 (0, 0))
  replace b0 := b0.alloc (.cells #[.string ⟨#[]⟩, .string ⟨#[]⟩, .int .i64 0, .int .i64 0, .int .i64 0] 49 (0, 0))
  replace b1 := b1.alloc (.cells #[.string ⟨#[]⟩, .string ⟨#[]⟩, .int .i64 0, .int .i64 0, .int .i64 0] 49 (0, 0))
  have b2 := Is.made ((w.alloc (.cells #[.string f, .string t, .int .i64 a, .int .i64 l, .int .i64 h] 49 (0, 0))).alloc (.cells #[.string g, .string u, .int .i64 c, .int .i64 m, .int .i64 k] 49 (0, 0))) #[.string ⟨#[]⟩, .string ⟨#[]⟩, .int .i64 0, .int .i64 0, .int .i64 0] 49
  replace kx := kx.alloc (.cells #[.string ⟨#[]⟩, .string ⟨#[]⟩, .int .i64 0, .int .i64 0, .int .i64 0] 49 (0, 0))
  rw [World.size_alloc] at b1
  rw [World.size_alloc, World.size_alloc] at b2
  have b0_0 := b0.c (i := 0) rfl
  have b0_1 := b0.c (i := 1) rfl
  have b0_2 := b0.c (i := 2) rfl
  have b0_3 := b0.c (i := 3) rfl
  have b0_4 := b0.c (i := 4) rfl
  have b1_0 := b1.c (i := 0) rfl
  have b1_1 := b1.c (i := 1) rfl
  have b1_2 := b1.c (i := 2) rfl
  have b1_3 := b1.c (i := 3) rfl
  have b1_4 := b1.c (i := 4) rfl
  have b2_0 := b2.c (i := 0) rfl
  have b2_1 := b2.c (i := 1) rfl
  have b2_2 := b2.c (i := 2) rfl
  have b2_3 := b2.c (i := 3) rfl
  have b2_4 := b2.c (i := 4) rfl
  go_enter Try.func32, Try.ntmps32
  go_wp2_with fail
  (with_reducible refine (q1.out _).mono ?_)
  rintro r w1 ⟨rfl, k1⟩
  clear b0_0 b0_1 b0_2 b0_3 b0_4 b1_0 b1_1 b1_2 b1_3 b1_4 b2_0 b2_1 b2_2 b2_3 b2_4
  replace b0 := b0.kb k1
  replace b1 := b1.kb k1
  replace b2 := b2.kb k1
  replace kx := kx.trans k1
  clear k1
  have b0_0 := b0.c (i := 0) rfl
  have b0_1 := b0.c (i := 1) rfl
  have b0_2 := b0.c (i := 2) rfl
  have b0_3 := b0.c (i := 3) rfl
  have b0_4 := b0.c (i := 4) rfl
  have b1_0 := b1.c (i := 0) rfl
  have b1_1 := b1.c (i := 1) rfl
  have b1_2 := b1.c (i := 2) rfl
  have b1_3 := b1.c (i := 3) rfl
  have b1_4 := b1.c (i := 4) rfl
  have b2_0 := b2.c (i := 0) rfl
  have b2_1 := b2.c (i := 1) rfl
  have b2_2 := b2.c (i := 2) rfl
  have b2_3 := b2.c (i := 3) rfl
  have b2_4 := b2.c (i := 4) rfl
  go_wp2_with fail
  (with_reducible refine (q2.out _).mono ?_)
  rintro r w2 ⟨rfl, k2⟩
  clear b0_0 b0_1 b0_2 b0_3 b0_4 b1_0 b1_1 b1_2 b1_3 b1_4 b2_0 b2_1 b2_2 b2_3 b2_4
  replace b0 := b0.kb k2
  replace b1 := b1.kb k2
  replace b2 := b2.kb k2
  replace kx := kx.trans k2
  clear k2
  have b0_0 := b0.c (i := 0) rfl
  have b0_1 := b0.c (i := 1) rfl
  have b0_2 := b0.c (i := 2) rfl
  have b0_3 := b0.c (i := 3) rfl
  have b0_4 := b0.c (i := 4) rfl
  have b1_0 := b1.c (i := 0) rfl
  have b1_1 := b1.c (i := 1) rfl
  have b1_2 := b1.c (i := 2) rfl
  have b1_3 := b1.c (i := 3) rfl
  have b1_4 := b1.c (i := 4) rfl
  have b2_0 := b2.c (i := 0) rfl
  have b2_1 := b2.c (i := 1) rfl
  have b2_2 := b2.c (i := 2) rfl
  have b2_3 := b2.c (i := 3) rfl
  have b2_4 := b2.c (i := 4) rfl
  go_wp2_with fail
  (with_reducible refine (q3.out _).mono ?_)
  rintro r w3 ⟨rfl, k3⟩
  clear b0_0 b0_1 b0_2 b0_3 b0_4 b1_0 b1_1 b1_2 b1_3 b1_4 b2_0 b2_1 b2_2 b2_3 b2_4
  replace b0 := b0.kb k3
  replace b1 := b1.kb k3
  replace b2 := b2.kb k3
  replace kx := kx.trans k3
  clear k3
  replace b0 := b0.alloc (.cells #[.int .i64 x, .int .i64 y] 23 (0, 0))
  replace b1 := b1.alloc (.cells #[.int .i64 x, .int .i64 y] 23 (0, 0))
  replace b2 := b2.alloc (.cells #[.int .i64 x, .int .i64 y] 23 (0, 0))
  have b3 := Is.made w3 #[.int .i64 x, .int .i64 y] 23
  replace kx := kx.alloc (.cells #[.int .i64 x, .int .i64 y] 23 (0, 0))
  obtain ⟨zn, pt⟩ := put5 b2 (.string ⟨#[]⟩) (.string ⟨#[]⟩) (.int .i64 0) (.int .i64 0) (.int .i64 0)
  have kz := pt.kb kx (by omega)
  have b0_0 := b0.c (i := 0) rfl
  have b0_1 := b0.c (i := 1) rfl
  have b0_2 := b0.c (i := 2) rfl
  have b0_3 := b0.c (i := 3) rfl
  have b0_4 := b0.c (i := 4) rfl
  have b1_0 := b1.c (i := 0) rfl
  have b1_1 := b1.c (i := 1) rfl
  have b1_2 := b1.c (i := 2) rfl
  have b1_3 := b1.c (i := 3) rfl
  have b1_4 := b1.c (i := 4) rfl
  have b2_0 := b2.c (i := 0) rfl
  have b2_1 := b2.c (i := 1) rfl
  have b2_2 := b2.c (i := 2) rfl
  have b2_3 := b2.c (i := 3) rfl
  have b2_4 := b2.c (i := 4) rfl
  have b2_ff := b2.f
  have b2_f0 := b2_ff 0
  have b2_f1 := b2_ff 1
  have b2_f2 := b2_ff 2
  have b2_f3 := b2_ff 3
  have b2_f4 := b2_ff 4
  clear b2_ff
  have b3_0 := b3.c (i := 0) rfl
  have b3_1 := b3.c (i := 1) rfl
  clear b0 b1 b2 b3 kx pt
  go_wp2
  refine ret_row2 Try.results32 rfl rfl rfl zn Try.underlying49 rfl (by kernel_rfl) ?_
  exact ⟨rfl, kz⟩
set_option maxRecDepth 100000 in
set_option maxHeartbeats 1000000 in
theorem rJoin_7 (f t : ByteArray) (a l h : Int) (g u : ByteArray) (c m k : Int) (x y : Int) (hx : (a != c) = false) (hn : (t.toList == g.toList) = true) (hs : (f.toList == u.toList) = false) (q1 : Ca 34 #[.agg #[.string f, .string t, .int .i64 a, .int .i64 l, .int .i64 h]] (.int .i64 0)) (q2 : Ca 34 #[.agg #[.string g, .string u, .int .i64 c, .int .i64 m, .int .i64 k]] (.int .i64 0)) (q3 : Ca 27 #[.agg #[.int .i64 l, .int .i64 h], .agg #[.int .i64 m, .int .i64 k]] (.tuple #[.agg #[.int .i64 x, .int .i64 y], .int .i64 0])) (w : World) : Calls Try.prog 32 #[.agg #[.string f, .string t, .int .i64 a, .int .i64 l, .int .i64 h], .agg #[.string g, .string u, .int .i64 c, .int .i64 m, .int .i64 k]] w fun r W' => r = .returned (.tuple #[.agg #[.string f, .string u, .int .i64 a, .int .i64 x, .int .i64 y], .int .i64 0]) ∧ Kb w W' := by
  have kx := Kb.refl w
  unfold Ca at *
  have b0 := Is.made w #[.string f, .string t, .int .i64 a, .int .i64 l, .int .i64 h] 49
  replace kx := kx.alloc (.cells #[.string f, .string t, .int .i64 a, .int .i64 l, .int .i64 h] 49 (0, 0))
  replace b0 := b0.alloc (.cells #[.string g, .string u, .int .i64 c, .int .i64 m, .int .i64 k] 49 (0, 0))
  have b1 := Is.made (w.alloc (.cells #[.string f, .string t, .int .i64 a, .int .i64 l, .int .i64 h] 49 (0, 0))) #[.string g, .string u, .int .i64 c, .int .i64 m, .int .i64 k] 49
  replace kx := kx.alloc (.cells #[.string g, .string u, .int .i64 c, .int .i64 m, .int .i64 k] 49 (0, 0))
  replace b0 := b0.alloc (.cells #[.string ⟨#[]⟩, .string ⟨#[]⟩, .int .i64 0, .int .i64 0, .int .i64 0] 49 (0, 0))
  replace b1 := b1.alloc (.cells #[.string ⟨#[]⟩, .string ⟨#[]⟩, .int .i64 0, .int .i64 0, .int .i64 0] 49 (0, 0))
  have b2 := Is.made ((w.alloc (.cells #[.string f, .string t, .int .i64 a, .int .i64 l, .int .i64 h] 49 (0, 0))).alloc (.cells #[.string g, .string u, .int .i64 c, .int .i64 m, .int .i64 k] 49 (0, 0))) #[.string ⟨#[]⟩, .string ⟨#[]⟩, .int .i64 0, .int .i64 0, .int .i64 0] 49
  replace kx := kx.alloc (.cells #[.string ⟨#[]⟩, .string ⟨#[]⟩, .int .i64 0, .int .i64 0, .int .i64 0] 49 (0, 0))
  rw [World.size_alloc] at b1
  rw [World.size_alloc, World.size_alloc] at b2
  have b0_0 := b0.c (i := 0) rfl
  have b0_1 := b0.c (i := 1) rfl
  have b0_2 := b0.c (i := 2) rfl
  have b0_3 := b0.c (i := 3) rfl
  have b0_4 := b0.c (i := 4) rfl
  have b1_0 := b1.c (i := 0) rfl
  have b1_1 := b1.c (i := 1) rfl
  have b1_2 := b1.c (i := 2) rfl
  have b1_3 := b1.c (i := 3) rfl
  have b1_4 := b1.c (i := 4) rfl
  have b2_0 := b2.c (i := 0) rfl
  have b2_1 := b2.c (i := 1) rfl
  have b2_2 := b2.c (i := 2) rfl
  have b2_3 := b2.c (i := 3) rfl
  have b2_4 := b2.c (i := 4) rfl
  go_enter Try.func32, Try.ntmps32
  go_wp2_with fail
  (with_reducible refine (q1.out _).mono ?_)
  rintro r w1 ⟨rfl, k1⟩
  clear b0_0 b0_1 b0_2 b0_3 b0_4 b1_0 b1_1 b1_2 b1_3 b1_4 b2_0 b2_1 b2_2 b2_3 b2_4
  replace b0 := b0.kb k1
  replace b1 := b1.kb k1
  replace b2 := b2.kb k1
  replace kx := kx.trans k1
  clear k1
  have b0_0 := b0.c (i := 0) rfl
  have b0_1 := b0.c (i := 1) rfl
  have b0_2 := b0.c (i := 2) rfl
  have b0_3 := b0.c (i := 3) rfl
  have b0_4 := b0.c (i := 4) rfl
  have b1_0 := b1.c (i := 0) rfl
  have b1_1 := b1.c (i := 1) rfl
  have b1_2 := b1.c (i := 2) rfl
  have b1_3 := b1.c (i := 3) rfl
  have b1_4 := b1.c (i := 4) rfl
  have b2_0 := b2.c (i := 0) rfl
  have b2_1 := b2.c (i := 1) rfl
  have b2_2 := b2.c (i := 2) rfl
  have b2_3 := b2.c (i := 3) rfl
  have b2_4 := b2.c (i := 4) rfl
  go_wp2_with fail
  (with_reducible refine (q2.out _).mono ?_)
  rintro r w2 ⟨rfl, k2⟩
  clear b0_0 b0_1 b0_2 b0_3 b0_4 b1_0 b1_1 b1_2 b1_3 b1_4 b2_0 b2_1 b2_2 b2_3 b2_4
  replace b0 := b0.kb k2
  replace b1 := b1.kb k2
  replace b2 := b2.kb k2
  replace kx := kx.trans k2
  clear k2
  have b0_0 := b0.c (i := 0) rfl
  have b0_1 := b0.c (i := 1) rfl
  have b0_2 := b0.c (i := 2) rfl
  have b0_3 := b0.c (i := 3) rfl
  have b0_4 := b0.c (i := 4) rfl
  have b1_0 := b1.c (i := 0) rfl
  have b1_1 := b1.c (i := 1) rfl
  have b1_2 := b1.c (i := 2) rfl
  have b1_3 := b1.c (i := 3) rfl
  have b1_4 := b1.c (i := 4) rfl
  have b2_0 := b2.c (i := 0) rfl
  have b2_1 := b2.c (i := 1) rfl
  have b2_2 := b2.c (i := 2) rfl
  have b2_3 := b2.c (i := 3) rfl
  have b2_4 := b2.c (i := 4) rfl
  go_wp2_with fail
  (with_reducible refine (q3.out _).mono ?_)
  rintro r w3 ⟨rfl, k3⟩
  clear b0_0 b0_1 b0_2 b0_3 b0_4 b1_0 b1_1 b1_2 b1_3 b1_4 b2_0 b2_1 b2_2 b2_3 b2_4
  replace b0 := b0.kb k3
  replace b1 := b1.kb k3
  replace b2 := b2.kb k3
  replace kx := kx.trans k3
  clear k3
  replace b0 := b0.alloc (.cells #[.int .i64 x, .int .i64 y] 23 (0, 0))
  replace b1 := b1.alloc (.cells #[.int .i64 x, .int .i64 y] 23 (0, 0))
  replace b2 := b2.alloc (.cells #[.int .i64 x, .int .i64 y] 23 (0, 0))
  have b3 := Is.made w3 #[.int .i64 x, .int .i64 y] 23
  replace kx := kx.alloc (.cells #[.int .i64 x, .int .i64 y] 23 (0, 0))
  obtain ⟨zn, pt⟩ := put5 b2 (.string f) (.string u) (.int .i64 a) (.int .i64 x) (.int .i64 y)
  have kz := pt.kb kx (by omega)
  have b0_0 := b0.c (i := 0) rfl
  have b0_1 := b0.c (i := 1) rfl
  have b0_2 := b0.c (i := 2) rfl
  have b0_3 := b0.c (i := 3) rfl
  have b0_4 := b0.c (i := 4) rfl
  have b1_0 := b1.c (i := 0) rfl
  have b1_1 := b1.c (i := 1) rfl
  have b1_2 := b1.c (i := 2) rfl
  have b1_3 := b1.c (i := 3) rfl
  have b1_4 := b1.c (i := 4) rfl
  have b2_0 := b2.c (i := 0) rfl
  have b2_1 := b2.c (i := 1) rfl
  have b2_2 := b2.c (i := 2) rfl
  have b2_3 := b2.c (i := 3) rfl
  have b2_4 := b2.c (i := 4) rfl
  have b2_ff := b2.f
  have b2_f0 := b2_ff 0
  have b2_f1 := b2_ff 1
  have b2_f2 := b2_ff 2
  have b2_f3 := b2_ff 3
  have b2_f4 := b2_ff 4
  clear b2_ff
  have b3_0 := b3.c (i := 0) rfl
  have b3_1 := b3.c (i := 1) rfl
  clear b0 b1 b2 b3 kx pt
  go_wp2
  refine ret_row2 Try.results32 rfl rfl rfl zn Try.underlying49 rfl (by kernel_rfl) ?_
  exact ⟨rfl, kz⟩
theorem rJoin (f t : ByteArray) (a l h : Int) (hf : f.size ≤ 1000000) (ht : t.size ≤ 1000000) (g u : ByteArray) (c m k : Int) (hg : g.size ≤ 1000000) (hu : u.size ≤ 1000000) : Ca 32 #[.agg #[.string f, .string t, .int .i64 a, .int .i64 l, .int .i64 h], .agg #[.string g, .string u, .int .i64 c, .int .i64 m, .int .i64 k]]
    (.tuple #[.agg #[.string (zS (jnE f t a l h g u c m k) f), .string (zS (jnE f t a l h g u c m k) u), .int .i64 (zI (jnE f t a l h g u c m k) a), .int .i64 (zI (jnE f t a l h g u c m k) (wrap64 (l + m))), .int .i64 (zI (jnE f t a l h g u c m k) (wrap64 (h + k)))], .int .i64 (jnE f t a l h g u c m k)]) := Lib.hid fun w => by
  have q1 := rValid f t a l h hf ht
  have q2 := rValid g u c m k hg hu
  have hj : jnE f t a l h g u c m k = firstE [firstE [vdE f t a l h, vdE g u c m k], fE (a != c || !(t.toList == g.toList)) 8, fE (f.toList == u.toList) 7, firstE [lmE (wrap64 (l + m)) (wrap64 (h + k))]] := rfl
  generalize jnE f t a l h g u c m k = E at *
  by_cases e1 : vdE f t a l h = 0
  · rw [e1] at q1
    by_cases e2 : vdE g u c m k = 0
    · rw [e2] at q2
      rw [e1, e2, fst_0, firstE_one, fst_0] at hj
      rcases Bool.eq_false_or_eq_true (a != c) with hx | hx
      · rw [hx, Bool.true_or, fE_t, fst_e (by decide)] at hj
        subst hj
        rw [zS_e (by decide), zS_e (by decide), zI_e (by decide), zI_e (by decide), zI_e (by decide)]
        exact rJoin_3 f t a l h g u c m k hx q1 q2 w
      · rcases Bool.eq_false_or_eq_true (t.toList == g.toList) with hn | hn
        · rw [hx, hn, Bool.not_true, Bool.or_false, fE_f, fst_0] at hj
          rcases Bool.eq_false_or_eq_true (f.toList == u.toList) with hs | hs
          · rw [hs, fE_t, fst_e (by decide)] at hj
            subst hj
            rw [zS_e (by decide), zS_e (by decide), zI_e (by decide), zI_e (by decide), zI_e (by decide)]
            exact rJoin_5 f t a l h g u c m k hx hn hs q1 q2 w
          · rw [hs, fE_f, fst_0, firstE_one, firstE_one] at hj
            have q3 := rAdd l h m k
            rw [adE_0 ((lm2_0 (vdE_0 e1).2.2.2.2.2).trans (vdE_0 e2).2.2.2.2.2), ← hj] at q3
            by_cases hE : E = 0
            · rw [hE, zI_0, zI_0] at q3
              rw [hE, zS_0, zS_0, zI_0, zI_0, zI_0]
              exact rJoin_7 f t a l h g u c m k _ _ hx hn hs q1 q2 q3 w
            · rw [zS_e hE, zS_e hE, zI_e hE, zI_e hE, zI_e hE]
              exact rJoin_6 f t a l h g u c m k _ _ _ (ne_b hE) hx hn hs q1 q2 q3 w
        · rw [hx, hn, Bool.not_false, Bool.or_true, fE_t, fst_e (by decide)] at hj
          subst hj
          rw [zS_e (by decide), zS_e (by decide), zI_e (by decide), zI_e (by decide), zI_e (by decide)]
          exact rJoin_4 f t a l h g u c m k hx hn q1 q2 w
    · rw [e1, fst_0, firstE_one, fst_e e2] at hj
      subst hj
      rw [zS_e e2, zS_e e2, zI_e e2, zI_e e2, zI_e e2]
      exact rJoin_2 f t a l h g u c m k _ (ne_b e2) q1 q2 w
  · rw [fst_e e1, fst_e e1] at hj
    subst hj
    rw [zS_e e1, zS_e e1, zI_e e1, zI_e e1, zI_e e1]
    exact rJoin_1 f t a l h g u c m k _ (ne_b e1) q1 w
end Go.Proofs.Ytendjeefggigbaa
