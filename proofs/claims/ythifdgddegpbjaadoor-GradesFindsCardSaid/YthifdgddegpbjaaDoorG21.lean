/- Package grades: Find. -/
import Derived.Test.YthifdgddegpbjaaDoorG20
import Derived.Test.YthifdgddegpbjaaDoorG8
import Derived.Deep.AppendLies
namespace Go.Proofs.YthifdgddegpbjaaDoor
open Go.RowKit

attribute [local go_sem] Oper.semAt_some
theorem Kt.put {w : World} (W : World) (l : Nat) (o o' : Obj) (_ : w.heap.size ≤ l) (hl : W.heap[l]? = some o) (hc : o.isCells = false) (hw : o.isWalk = false) : Kt W (W.putObj l o') :=
  ⟨by simp [World.putObj], fun b ob hb hk => by
    have hne : b ≠ l := fun e => by
      subst e
      rw [hl] at hb
      cases hb
      unfold keepO at hk
      rw [hw] at hk
      cases o <;> simp [Obj.isCells] at hc hk
    exact (World.putObj_heap_other hne).trans hb⟩
theorem classes_stops (n : Nat) (hn : 1 ≤ n) (w : World) : SeqStopsK Fence.wide n Tryd.prog 50 #[] encC Kt (fun ys => ys = upto cl 160) (fun pre => ∃ k, k ≤ 160 ∧ pre = upto cl k) 160 w :=
  fun l J Jx W _ hJ _ hY h0 => classes_it n hn l J Jx W hJ hY h0
def cellsC (x : CL) : List Value := [.bool x.1.1, .int .i64 (x.1.2.1 : Int), .int .i64 (5 + (x.1.2.2 : Int))]
def hitB (z lo hi : Int) (x : CL) : Bool := decide (devLo z x.1.1 x.1.2.1 (5 + (x.1.2.2 : Int)) = lo) && decide (devHi z x.1.1 x.1.2.1 (5 + (x.1.2.2 : Int)) = hi)
def flatC (l : List CL) : List Value := l.flatMap cellsC
def hits (z lo hi : Int) (l : List CL) : List CL := l.filter (hitB z lo hi)
theorem hits_le (z lo hi : Int) (l : List CL) : (hits z lo hi l).length ≤ l.length := List.length_filter_le _ _
theorem hits_snoc (z lo hi : Int) (l : List CL) (x : CL) : hits z lo hi (l ++ [x]) = if hitB z lo hi x then hits z lo hi l ++ [x] else hits z lo hi l := by
  unfold hits
  rw [List.filter_append]
  cases h : hitB z lo hi x <;> simp [h]
theorem others_kb {W W' : World} (k : Kb W W') : KeepsOthers W W' := ⟨k.size, fun i _ hi _ => (Below.block k i (Array.getElem?_eq_some_iff.1 hi).1).trans hi⟩

theorem grown_kb {W W' : World} (k : Kb W W') (row : Option Nat) : W.grownBy W' row := ⟨k.os, k.tape, k.output, k.size, fun j hj _ => Below.block k j hj⟩
theorem owns_kb {W W' : World} {base e size n : Nat} {v : Value} {xs : List Value} (h : W.ownsRow base e size v n xs) (k : Kb W W') : W'.ownsRow base e size v n xs := h.kept (grown_kb k none) (by
  rcases h.2 with ⟨e, _⟩ | ⟨g, cap, cur, e, _⟩
  · exact .inl (by rw [e]; rfl)
  · exact .inr (by rw [e]; simp [Value.ownBlock]))
theorem owns_mono {W : World} {base base' e size n : Nat} {v : Value} {xs : List Value} (h : W.ownsRow base e size v n xs) (hb : base' ≤ base) : W.ownsRow base' e size v n xs := by
  refine ⟨h.1, ?_⟩
  rcases h.2 with h0 | ⟨g, cap, cur, h1, h2, h3⟩
  · exact .inl h0
  · exact .inr ⟨g, cap, cur, h1, Nat.le_trans hb h2, h3⟩
theorem Kt.grown {X Y Z : World} {row : Option Nat} (h : Kt X Y) (g : Y.grownBy Z row) (hr : ∀ b o, row = some b → Y.heap[b]? = some o → keepO o = false) : Kt X Z :=
  ⟨Nat.le_trans h.size g.size, fun b o h1 h2 => by
    have h3 := h.keep b o h1 h2
    by_cases e : row = some b
    · rw [hr b o e h3] at h2; cases h2
    · exact (g.block b (Array.getElem?_eq_some_iff.1 h3).1 (fun e2 => e e2.symm)).trans h3⟩
theorem owns_keepO {W : World} {base size n : Nat} {v : Value} {xs : List Value} (h : W.ownsRow base 23 size v n xs) (b : Nat) (o : Obj) (e : v.ownBlock = some b) (ho : W.heap[b]? = some o) : keepO o = false := by
  rcases h.2 with ⟨rfl, _⟩ | ⟨g, cap, cur, rfl, _, hgb, _⟩
  · simp [Value.ownBlock] at e
  · obtain rfl : g = b := by simpa [Value.ownBlock] using e
    rw [hgb] at ho
    cases ho
    rfl
theorem cls_info : (Tryd.prog.info? 23).map (fun i => (i.zero, i.size, i.bytes)) = some (some (.agg #[.bool false, .int .i64 0, .int .i64 0]), 3, 24) := by kernel_rfl
theorem flatC_snoc (l : List CL) (x : CL) : flatC (l ++ [x]) = flatC l ++ cellsC x := by simp [flatC]

set_option maxRecDepth 100000 in
set_option maxHeartbeats 4000000 in
theorem gFind_ok (z lo hi : Int) (z2 : z ≤ 100000) (w : World) (hg : Glo w) (q1 : Gs 43 #[.int .i64 z] (.int .i64 0)) :
    Calls Tryd.prog 26 #[.int .i64 z, .agg #[.int .i64 lo, .int .i64 hi]] w fun r w' => (∃ v, r = .returned (.tuple #[v, .int .i64 0]) ∧ w'.ownsRow w.heap.size 23 3 v (hits z lo hi (upto cl 160)).length (flatC (hits z lo hi (upto cl 160)))) ∧ Kb w w' := by
  refine (callsIn_wide (n := 5)).1 ?_
  have h1 : 1 ≤ 5 := by omega
  obtain ⟨i0, hi0, hz0, hz1, hz2⟩ := info_parts cls_info
  have hmx : Tryd.prog.follows .mixedOrders = true := by kernel_rfl
  refine callsIn_of_wp_marks Tryd.func26 rfl trivial ?_ rfl
  simp only [Tryd.ntmps26, List.size_toArray, List.length_cons, List.length_nil, Nat.reduceAdd, Nat.reduceSub, Array.replicate_succ, Array.replicate_zero, List.push_toArray, List.append_toArray, List.nil_append, List.cons_append]
  have kk := ((Kb.refl w).alloc (.cells #[.int .i64 z] 3 (0, 0))).alloc (.cells #[.int .i64 lo, .int .i64 hi] 46 (0, 0))
  have b0 := (Is.made w #[.int .i64 z] 3).alloc (.cells #[.int .i64 lo, .int .i64 hi] 46 (0, 0))
  have b1 := Is.made (w.alloc (.cells #[.int .i64 z] 3 (0, 0))) #[.int .i64 lo, .int .i64 hi] 46
  rw [World.size_alloc] at b1
  have hg0 := hg.kb kk
  have c00 := b0.c (i := 0) rfl
  gi_wp2_with (refine ⟨trivial, ?_⟩; gi_at_call 43; refine (callsIn_wide.2 (q1.out _ hg0)).mono ?_; rintro e w' ⟨rfl, rfl⟩)
  have hVs : ((w.alloc (.cells #[.int .i64 z] 3 (0, 0))).alloc (.cells #[.int .i64 lo, .int .i64 hi] 46 (0, 0))).heap.size = w.heap.size + 1 + 1 := by simp
  have bF := Boxed.new ((w.alloc (.cells #[.int .i64 z] 3 (0, 0))).alloc (.cells #[.int .i64 lo, .int .i64 hi] 46 (0, 0))) 52 (.slice none 0 0)
  rw [hVs] at bF
  clear c00
  generalize (w.alloc (.cells #[.int .i64 z] 3 (0, 0))).alloc (.cells #[.int .i64 lo, .int .i64 hi] 46 (0, 0)) = V at *
  refine wpIn_rangeFunc_ownH rfl h1 (gf := 50) (lb := #[]) rfl trivial (enters_of Tryd.func50 (by kernel_rfl) rfl)
    (classes_stops (5 - 1) (by omega) V) Kt.trans Kt.put (by rw [hVs]; exact (Below.refl _ V).alloc (by omega) _) ?hps
    (fun pre W => (∃ v, Boxed W (w.heap.size + 1 + 1) 52 v ∧ W.ownsRow (w.heap.size + 1 + 1) 23 3 v (hits z lo hi pre).length (flatC (hits z lo hi pre)) ∧ True) ∧ Below (w.heap.size + 1 + 1) V W)
    (fun _ _ _ => False)
    (OwnFrom.and (Own.from (holdsRow_own (w.heap.size + 1 + 1) (w.heap.size + 1 + 1) 52 23 3 (fun pre => (hits z lo hi pre).length) (fun pre => flatC (hits z lo hi pre)) (fun _ _ => True)) _) (ownFrom_below (by omega) (by simp; omega)))
    (fun _ _ _ _ _ hs _ _ => hs)
    ⟨⟨_, bF, ⟨by simp [hits, flatC], .inl ⟨rfl, rfl⟩⟩, trivial⟩, (Below.refl _ V).alloc (by omega) _⟩
    (fun x a' W => ∃ B1, Is W B1 #[.bool x.1.1, .int .i64 (x.1.2.1 : Int), .int .i64 (5 + (x.1.2.2 : Int))] 23 ∧ a' = { tmps := #[.int .i64 z, .agg #[.int .i64 lo, .int .i64 hi], .pointer (some ⟨w.heap.size, 0, none⟩), .pointer (some ⟨w.heap.size + 1, 0, none⟩), .slice none 0 0, .int .i64 0, .int .i64 0, .pointer (some ⟨w.heap.size + 1 + 1, 0, none⟩), .pointer (some ⟨B1, 0, none⟩), .int .i64 z, .int .i64 0, .int .i64 0, .bool false, undef, .agg #[.bool x.1.1, .int .i64 (x.1.2.1 : Int), .int .i64 (5 + (x.1.2.2 : Int))], undef, undef, undef, undef, undef, undef, undef, undef, undef, undef], defers := [] })
    (fun x a' _ X Y row hs hg hr => by obtain ⟨B1, e1, e3⟩ := hs; exact ⟨B1, (grownBy_keeps_cells hg (fun r e => (hr r e).2) e1 rfl).trans e1, e3⟩)
    ?assign ?body ?done ?stop
  case hps => exact fun _ => rfl
  case assign =>
    rintro l pre x W K ⟨⟨v, hb, hr, _⟩, hB⟩ hK
    simp only [encC, List.zip_toArray, List.zip_cons_cons, List.zip_nil_left]
    have hBs := hB.size
    gi_wp2
    exact hK _ _ ((KeepsOthers.alloc W _).from _) ((Kt.refl W).alloc _) ⟨⟨v, hb.alloc _, hr.alloc _, trivial⟩, hB.alloc (by omega) _⟩ ⟨W.heap.size, Is.made W _ _, rfl⟩
  case body =>
    rintro l pre x a' W hl ⟨r, hr0⟩ ⟨⟨v, hb, hr, _⟩, hB⟩ ⟨B1, p1, rfl⟩ hlt
    have q := gdeviations z (5 + (x.1.2.2 : Int)) x.1.1 x.1.2.1 z2 (by omega) (by have := x.2.2; omega) x.2.1
    unfold Gq at q
    have hs0 := hits_snoc z lo hi pre x
    have hle := hits_le z lo hi pre
    unfold hitB at hs0
    have kV : Kb V W := by unfold Kb; rw [hVs]; exact hB
    have hbs := hB.size
    have s0 := b0.kb kV
    have s1 := b1.kb kV
    have hgW := hg0.kb kV
    have hgD := hgW.kb (Kb.refl W).drew
    have c00 := s0.c (i := 0) rfl
    have c10 := s1.c (i := 0) rfl
    have c11 := s1.c (i := 1) rfl
    have p0 := p1.c (i := 0) rfl
    have p2 := p1.c (i := 1) rfl
    have p3 := p1.c (i := 2) rfl
    generalize devLo z x.1.1 x.1.2.1 (5 + (x.1.2.2 : Int)) = A at *
    generalize devHi z x.1.1 x.1.2.1 (5 + (x.1.2.2 : Int)) = B at *
    by_cases hA : A = lo
    · by_cases hH : B = hi
      · rw [if_pos (by simp [hA, hH])] at hs0
        replace hs0 := Lib.hid hs0
        subst hA hH
        gi_wp2
        gi_region_with_o (refine ⟨trivial, ?_⟩; gi_at_call 48; refine (CallsIn.inRound l (callsIn_wide.2 (q.out _ hgD))).mono ?_; rintro e w3 ⟨rfl, k⟩; have k3 := Kb.trans (Kb.refl W).drew k; have d10 := (s1.kb k3).c (i := 0) rfl; have d11 := (s1.kb k3).c (i := 1) rfl; have d0 := (p1.kb k3).c (i := 0) rfl; have d1 := (p1.kb k3).c (i := 1) rfl; have d2 := (p1.kb k3).c (i := 2) rfl)
        all_goals
          have hb3 : Boxed w3 (w.heap.size + 1 + 1) 52 v := (Below.block k3 _ hb.lt).trans hb
          have hr3 := owns_kb hr k3
          have hB3 := hB.trans (k3.mono (show w.heap.size + 1 + 1 ≤ W.heap.size by omega))
          have hcv := hb3.cell
          have hz3 := k3.size
          clear hr hb hB c00 c10 c11 p0 p2 p3 d10 d11
        all_goals gi_wp2_with (gi_at_builtin; refine wpListIn_append_own _ rfl _ _ 52 rfl (w.heap.size + 1 + 1) 23 i0 (.agg #[.bool false, .int .i64 0, .int .i64 0]) 3 24 Tryd.underlying52 hi0 hz0 hz1 hz2 rfl (by decide) _ _ _ rfl (hr3.alloc _) ⟨w3.heap.size, 0, none⟩ 1 1 (cellsC x) rfl rfl (World.news_of_block (World.alloc_heap_new w3 (.cells #[.bool x.1.1, .int .i64 (x.1.2.1 : Int), .int .i64 (5 + (x.1.2.2 : Int))] 23))) (by simp [cellsC, Value.oneCell']) (by unfold maxLen; omega) (by omega) (by simp; omega) ?_; intro v' w4 hown' hgrow _; obtain ⟨g', cap', rfl⟩ := ownsRow_succ hown'; have hg4 : (w3.alloc (.cells #[.bool x.1.1, .int .i64 (x.1.2.1 : Int), .int .i64 (5 + (x.1.2.2 : Int))] 23)).grownBy w4 v.ownBlock := hgrow; have R := hb3.appended (by decide) hr3 (by omega) (Nat.le_refl _) hown' hg4; have kt4 := (((Kt.refl W).kb k3).alloc _).grown hg4 (fun b o e ho => owns_keepO (hr3.alloc _) b o e ho); have cR := R.1.cell; have fR := R.1.frozen; clear hown' hgrow hg4)
        all_goals exact ⟨((others_kb k3).trans R.2.2.2.1).from _, kt4.grown (grownBy_setCell' w4 _ _) (fun b o e ho => by cases e; have h8 : some _ = some o := R.1.symm.trans ho; cases h8; rfl), ⟨_, R.2.1, by rw [hs0.out, List.length_append, flatC_snoc]; exact R.2.2.1, trivial⟩, hB3.trans R.2.2.2.2⟩
      · rw [if_neg (by simp [hH])] at hs0
        replace hs0 := Lib.hid hs0
        subst hA
        have eB : (B == hi) = false := beq_eq_false_iff_ne.2 hH
        gi_wp2
        gi_region_with_o (refine ⟨trivial, ?_⟩; gi_at_call 48; refine (CallsIn.inRound l (callsIn_wide.2 (q.out _ hgD))).mono ?_; rintro e w3 ⟨rfl, k⟩; have k3 := Kb.trans (Kb.refl W).drew k; have d10 := (s1.kb k3).c (i := 0) rfl; have d11 := (s1.kb k3).c (i := 1) rfl; have d0 := (p1.kb k3).c (i := 0) rfl; have d1 := (p1.kb k3).c (i := 1) rfl; have d2 := (p1.kb k3).c (i := 2) rfl)
        all_goals gi_wp2
        all_goals exact ⟨(others_kb k3).from _, (Kt.refl W).kb k3, ⟨v, (Below.block k3 _ hb.lt).trans hb, by rw [hs0.out]; exact owns_kb hr k3, trivial⟩, hB.trans (k3.mono (by omega))⟩
    · rw [if_neg (by simp [hA])] at hs0
      replace hs0 := Lib.hid hs0
      have eA : (A == lo) = false := beq_eq_false_iff_ne.2 hA
      gi_wp2
      gi_region_with_o (refine ⟨trivial, ?_⟩; gi_at_call 48; refine (CallsIn.inRound l (callsIn_wide.2 (q.out _ hgD))).mono ?_; rintro e w3 ⟨rfl, k⟩; have k3 := Kb.trans (Kb.refl W).drew k; have d10 := (s1.kb k3).c (i := 0) rfl; have d11 := (s1.kb k3).c (i := 1) rfl; have d0 := (p1.kb k3).c (i := 0) rfl; have d1 := (p1.kb k3).c (i := 1) rfl; have d2 := (p1.kb k3).c (i := 2) rfl)
      all_goals gi_wp2
      all_goals exact ⟨(others_kb k3).from _, (Kt.refl W).kb k3, ⟨v, (Below.block k3 _ hb.lt).trans hb, by rw [hs0.out]; exact owns_kb hr k3, trivial⟩, hB.trans (k3.mono (by omega))⟩
  case done =>
    rintro D ys W hD rfl ⟨⟨v, hb, hr, _⟩, hB⟩ hK
    have cS := hb.cell
    have kV : Kb V W := by unfold Kb; rw [hVs]; exact hB
    gi_wp2
    refine ⟨by simp, .inl ⟨_, _, rfl, run_takeDeferred hK, ?_⟩⟩
    exact ⟨_, results_tmp2 rfl _ _ _, ⟨v, rfl, owns_mono (ownsRow_putObj hr _ hK rfl) (by omega)⟩, Below.trans (kk.trans kV) (belowK_b (w := w) (Nat.le_refl _) W D _ _ (by simp at hD; omega) hK rfl rfl)⟩
  case stop =>
    rintro D c pre W _ _ h _
    exact h.elim
end Go.Proofs.YthifdgddegpbjaaDoor
