/- The reference of package grades: Find; Find, where the size is wrong. -/
import Derived.Test.YthifdgddegpbjaaDoorG23
import Derived.Test.YthifdgddegpbjaaDoorG9
namespace Go.Proofs.YthifdgddegpbjaaDoor
open Go.RowKit

theorem owns_at {W : World} {base n g cap : Nat} {T : TypeId} {l : List CL} (h : W.ownsRow base T 3 (.slice (some ⟨g, 0, none⟩) n cap) n (flatC l)) : ClsAt W g l := fun j hj => by
  have hc : ∀ j u, (flatC l)[j]? = some u → W.cell? ⟨g, j, none⟩ = some u := fun j u hu => by
    have hadd : (⟨g, 0, none⟩ : Addr).add j = ⟨g, j, none⟩ := by unfold Addr.add; split <;> simp_all
    rw [← hadd]
    exact h.cells (g := g) rfl j u hu
  obtain ⟨a1, a2, a3⟩ := flatC_at l j hj
  exact ⟨hc _ _ a1, hc _ _ a2, hc _ _ a3⟩
set_option maxRecDepth 100000 in
set_option maxHeartbeats 8000000 in
theorem rFind_ok (z lo hi : Int) (w : World) (hg : Glo w) (q1 : Gq 34 #[.int .i64 z] (.int .i64 0)) :
    Calls Tryd.prog 27 #[.int .i64 z, .agg #[.int .i64 lo, .int .i64 hi]] w fun r w' => (∃ v, r = .returned (.tuple #[v, .int .i64 0]) ∧ w'.ownsRow w.heap.size 28 3 v (hits z lo hi (upto cl 160)).length (flatC (hits z lo hi (upto cl 160)))) ∧ Kb w w' := by
  obtain ⟨i0, hi0, hz0, hz1, hz2⟩ := info_parts rcls_info
  have q2 := Lib.hid rAll
  unfold Gq at q1
  have kk := (Kb.refl w).alloc (.cells #[.int .i64 lo, .int .i64 hi] 46 (0, 0))
  have lim := Is.made w #[.int .i64 lo, .int .i64 hi] 46
  have hg1 := hg.kb kk
  go_enter Tryd.func27, Tryd.ntmps27
  go_wp2_with fail
  with_reducible refine (q1.out _ hg1).mono ?_
  rintro r w1 ⟨rfl, k1⟩
  have kk := kk.trans k1
  have lim := lim.kb k1
  go_wp2_with fail
  with_reducible refine (q2.out _).mono ?_
  rintro r w2 ⟨⟨v, rfl, ho⟩, k2⟩
  have kk2 := kk.trans k2
  have lim2 := lim.kb k2
  have hg2 := hg.kb kk2
  obtain ⟨g, cap, rfl, _, _⟩ := ho.form (by decide)
  have hc := owns_at ho
  have hll : (upto cl 160).length = 160 := upto_length _ _
  have hz5 := kk2.size
  clear ho k1 k2 kk hg1 q1 q2
  generalize hL : upto cl 160 = l at *
  go_wp2_with fail
  go_loopw [9, 8] (fun i s8 wr => ∃ (k : Nat) (v : Value), v = s8 ∧ k ≤ 160 ∧ i = .int .i64 k ∧ wr.ownsRow w2.heap.size 28 3 v (hits z lo hi (l.take k)).length (flatC (hits z lo hi (l.take k))) ∧ Kb w2 wr)
    (fun i _ _ => 160 - (intOf i).toNat)
  case atStart => exact ⟨0, _, rfl, by omega, rfl, by rw [List.take_zero]; exact World.ownsRow_nil _ _ _ _, Kb.refl w2⟩
  case round =>
    obtain ⟨k, v, rfl, hk, rfl, hown, kx⟩ := hrel
    have hcs := hc.kb kx
    have hgw := hg2.kb kx
    have hgd := hgw.kb (Kb.refl wr).drew
    have lm := lim2.kb kx
    by_cases hlt : k < 160
    · have hlt2 : k < l.length := by omega
      obtain ⟨y, hy⟩ : ∃ y, l[k] = y := ⟨_, rfl⟩
      obtain ⟨d0, d1, d2⟩ := hcs k hlt2
      have hs0 := hits_snoc z lo hi (l.take k) y
      rw [← hy, List.take_append_getElem hlt2, hy] at hs0
      unfold hitB at hs0
      have hle := hits_le z lo hi (l.take k)
      rw [List.length_take] at hle
      rw [hy] at d0 d1 d2
      have j0 : (0 : Int) ≤ (k : Int) := by omega
      have j1 : (k : Int) < 160 := by omega
      have q := rAway z (5 + (y.1.2.2 : Int)) y.1.1 y.1.2.1 (by omega) (by have := y.2.2; omega) y.2.1
      unfold Gq at q
      have hz6 := kx.size
      have lm0 := lm.c (i := 0) rfl
      have lm1 := lm.c (i := 1) rfl
      generalize devLo z y.1.1 y.1.2.1 (5 + (y.1.2.2 : Int)) = A at *
      generalize devHi z y.1.1 y.1.2.1 (5 + (y.1.2.2 : Int)) = B at *
      have hcy : ClsAt wr g l := hcs
      clear hcs hc hg2 hg lim2 hgw
      by_cases hA : A = lo
      · by_cases hH : B = hi
        · rw [if_pos (by simp [hA, hH])] at hs0
          replace hs0 := Lib.hid hs0
          subst hA hH
          go_wp2
          go_region_with (go_at_call 49; with_reducible refine (q.out _ hgd).mono ?_; rintro r w5 ⟨rfl, k5⟩; have k3 := Kb.trans (Kb.refl wr).drew k5; have e10 := (lm.kb k3).c (i := 0) rfl; have e11 := (lm.kb k3).c (i := 1) rfl)
          all_goals
            have hr3 := owns_kb hown k3
            have hz3 := k3.size
            have kx3 := kx.trans k3
            obtain ⟨f0, f1, f2⟩ := (hcy.kb k3) k hlt2
            rw [hy] at f0 f1 f2
            clear hown lm0 lm1 e10 e11 hcy
          all_goals go_wp2_with (first | (at_builtin; refine wpList_append_own _ rfl _ _ 55 rfl w2.heap.size 28 i0 (.agg #[.bool false, .int .i64 0, .int .i64 0]) 3 24 Tryd.underlying55 hi0 hz0 hz1 hz2 rfl (by decide) _ _ _ rfl (hr3.alloc _) ⟨w5.heap.size, 0, none⟩ 1 1 (cellsC y) rfl rfl (World.news_of_block (World.alloc_heap_new w5 (.cells #[.bool y.1.1, .int .i64 (y.1.2.1 : Int), .int .i64 (5 + (y.1.2.2 : Int))] 28))) (by simp [cellsC, Value.oneCell']) (by unfold maxLen; omega) (by omega) (by simp; omega) ?_; intro v' w6 hown2 hgrow _; have kx6 := Kb.grown (kx3.alloc _) hgrow (owns_far hr3); have hown3 : w6.ownsRow w2.heap.size 28 3 v' (hits z A B (l.take (k + 1))).length (flatC (hits z A B (l.take (k + 1)))) := (by rw [hs0.out, List.length_append, flatC_snoc]; exact hown2); clear hown2 hgrow hr3) | fail)
          all_goals go_roundw
          all_goals first
            | exact ⟨k + 1, v', rfl, by omega, by simp, hown3, kx6⟩
            | (simp [intOf]; omega)
        · rw [if_neg (by simp [hH])] at hs0
          replace hs0 := Lib.hid hs0
          subst hA
          have eB : (B == hi) = false := beq_eq_false_iff_ne.2 hH
          go_wp2
          go_region_with (go_at_call 49; with_reducible refine (q.out _ hgd).mono ?_; rintro r w5 ⟨rfl, k5⟩; have k3 := Kb.trans (Kb.refl wr).drew k5; have e10 := (lm.kb k3).c (i := 0) rfl; have e11 := (lm.kb k3).c (i := 1) rfl)
          all_goals go_wp2
          all_goals exact ⟨⟨k + 1, _, rfl, by omega, by simp, by rw [hs0.out]; exact owns_kb hown k3, kx.trans k3⟩, by simp [intOf]; omega⟩
      · rw [if_neg (by simp [hA])] at hs0
        replace hs0 := Lib.hid hs0
        have eA : (A == lo) = false := beq_eq_false_iff_ne.2 hA
        go_wp2
        go_region_with (go_at_call 49; with_reducible refine (q.out _ hgd).mono ?_; rintro r w5 ⟨rfl, k5⟩; have k3 := Kb.trans (Kb.refl wr).drew k5; have e10 := (lm.kb k3).c (i := 0) rfl; have e11 := (lm.kb k3).c (i := 1) rfl)
        all_goals go_wp2
        all_goals exact ⟨⟨k + 1, _, rfl, by omega, by simp, by rw [hs0.out]; exact owns_kb hown k3, kx.trans k3⟩, by simp [intOf]; omega⟩
    · obtain rfl : k = 160 := by omega
      rw [List.take_of_length_le (by omega)] at hown
      subst hL
      go_wp2
      go_ret2
      exact ⟨⟨_, rfl, owns_mono hown hz5⟩, kk2.trans kx⟩

set_option maxRecDepth 100000 in
set_option maxHeartbeats 8000000 in
theorem rFind_no (z lo hi e : Int) (he : (e != 0) = true) (w : World) (hg : Glo w) (q1 : Gq 34 #[.int .i64 z] (.int .i64 e)) :
    Calls Tryd.prog 27 #[.int .i64 z, .agg #[.int .i64 lo, .int .i64 hi]] w fun r w' => r = .returned (.tuple #[.slice none 0 0, .int .i64 e]) ∧ Kb w w' := by
  unfold Gq at q1
  have kk := (Kb.refl w).alloc (.cells #[.int .i64 lo, .int .i64 hi] 46 (0, 0))
  have hg1 := hg.kb kk
  go_enter Tryd.func27, Tryd.ntmps27
  go_wp2_with fail
  with_reducible refine (q1.out _ hg1).mono ?_
  rintro r w1 ⟨rfl, k1⟩
  go_wp2
  go_ret2
  exact ⟨rfl, kk.trans k1⟩
set_option maxRecDepth 100000 in
set_option maxHeartbeats 8000000 in
theorem gFind_no (z lo hi e : Int) (he : (e != 0) = true) (w : World) (hg : Glo w) (q1 : Gs 43 #[.int .i64 z] (.int .i64 e)) :
    Calls Tryd.prog 26 #[.int .i64 z, .agg #[.int .i64 lo, .int .i64 hi]] w fun r w' => r = .returned (.tuple #[.slice none 0 0, .int .i64 e]) ∧ Kb w w' := by
  refine (callsIn_wide (n := 5)).1 ?_
  refine callsIn_of_wp_marks Tryd.func26 rfl trivial ?_ rfl
  simp only [Tryd.ntmps26, List.size_toArray, List.length_cons, List.length_nil, Nat.reduceAdd, Nat.reduceSub, Array.replicate_succ, Array.replicate_zero, List.push_toArray, List.append_toArray, List.nil_append, List.cons_append]
  have kk := ((Kb.refl w).alloc (.cells #[.int .i64 z] 3 (0, 0))).alloc (.cells #[.int .i64 lo, .int .i64 hi] 46 (0, 0))
  have b0 := (Is.made w #[.int .i64 z] 3).alloc (.cells #[.int .i64 lo, .int .i64 hi] 46 (0, 0))
  have hg0 := hg.kb kk
  have c00 := b0.c (i := 0) rfl
  gi_wp2_with (refine ⟨trivial, ?_⟩; gi_at_call 43; refine (callsIn_wide.2 (q1.out _ hg0)).mono ?_; rintro e w' ⟨rfl, rfl⟩)
  exact ⟨_, results_tmp2 rfl _ _ _, rfl, kk⟩
end Go.Proofs.YthifdgddegpbjaaDoor
