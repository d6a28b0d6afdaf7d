/- The law DimensionTurns: paths of two to ten dimensions. -/
import Derived.Test.YtendjeefggigbaaOm6
namespace Go.Proofs.Ytendjeefggigbaa
open Go.RowKit
attribute [local go_sem] Oper.semAt_some

theorem others_kb {W W' : World} (k : Kb W W') : KeepsOthers W W' := ⟨k.size, fun i _ hi _ => (Below.block k i (Array.getElem?_eq_some_iff.1 hi).1).trans hi⟩
theorem grown_kb {W W' : World} (k : Kb W W') (row : Option Nat) : W.grownBy W' row := ⟨k.os, k.tape, k.output, k.size, fun j hj _ => Below.block k j hj⟩
theorem owns_kb {W W' : World} {base e size n : Nat} {v : Value} {xs : List Value} (h : W.ownsRow base e size v n xs) (k : Kb W W') : W'.ownsRow base e size v n xs := h.kept (grown_kb k none) (by
  rcases h.2 with ⟨e, _⟩ | ⟨g, cap, cur, e, _⟩
  · exact .inl (by rw [e]; rfl)
  · exact .inr (by rw [e]; simp [Value.ownBlock]))
theorem sl_own {W : World} {base n : Nat} {e : TypeId} {v : Value} {xs : List Value} {bs : List DimT} (h : W.ownsRow base e 5 v n xs) (hx : xs = (bs.map encDim).flatten) (hn : bs.length = n) : Sl [] 5 W v (bs.map encDim) := by
  rcases h.2 with ⟨rfl, h0⟩ | ⟨g, cap, cur, rfl, _, hgb, _, _, _, ht⟩
  · exact ⟨none, 0, by simp [hn, h0], fun h => by simp at h; omega⟩
  · refine ⟨some ⟨g, 0, none⟩, cap, by simp [hn], fun _ => ⟨g, 0, rfl, (Array.getElem?_eq_some_iff.1 hgb).1, by simp, fun i hi j hj => ?_⟩⟩
    have h1 := rows_ok (k := 5) (rows := bs.map encDim) (cs := (bs.map encDim).flatten.toArray) rfl (by simp [List.all_eq_true, encDim]) i hi j hj
    have hi' : i < n := by simpa [hn] using hi
    rw [← hx, ← ht, List.getElem?_toArray, List.getElem?_take, if_pos (by omega)] at h1
    unfold World.cell?
    rw [hgb]
    show cur[0 + i * 5 + j]? = _
    rw [Nat.zero_add, ← h1]
    simp
def flatB (l : List IV) : List Value := l.flatMap fun x => encDim (tn x.1.2)
theorem flatB_snoc (l : List IV) (x : IV) : flatB (l ++ [x]) = flatB l ++ encDim (tn x.1.2) := by simp [flatB]
set_option maxRecDepth 100000 in
set_option maxHeartbeats 8000000 in
theorem turns_main (ds : List DimT) (N b off cap : Nat) (z : Int) (w : World) (hN : ds.length = N) (hN2 : 2 ≤ N) (hN10 : N ≤ 10) (hcap : N ≤ cap) (hz0' : 0 ≤ z) (hz1' : z ≤ 255) (hnz : ∀ d ∈ ds, Nz d) (h0 : (path ds).2 = 0) (hb : b < w.heap.size) (hc : ∀ j, j < N → ∀ i, i < 5 → w.cell? ⟨b, off + j * 5 + i, none⟩ = some ((encDim (gD ds j)).getD i undef))
    (qf : Hid (∀ V : World, Kb w V → Calls Try.prog 28 #[.slice (some ⟨b, off, none⟩) N cap] V fun r W' => r = .returned (.bool true) ∧ Kb V W')) (qa : Ca 11 #[] (.bool true)) :
    Calls Try.prog 10 #[.slice (some ⟨b, off, none⟩) N cap, .int .u8 z] w fun e W => TurnsOk w e W := by
  have hd : decide ((N : Int) < 2) = false := decide_eq_false (by omega)
  have hd2 : decide ((10 : Int) < (N : Int)) = false := decide_eq_false (by omega)
  have QP := Lib.hid (fun (V : World) (hV : Kb w V) => dPath ds (.slice (some ⟨b, off, none⟩) N cap) V ⟨some ⟨b, off, none⟩, cap, by simp [hN], fun _ => ⟨b, off, rfl, Nat.lt_of_lt_of_le hb hV.size, by simp, fun i hi j hj => by
    have hi' : i < ds.length := by simpa using hi
    rw [hV.cell (hc i (by omega) j hj)]
    simp [gD, List.getD_eq_getElem?_getD, hi']⟩⟩ (by omega) hnz)
  have HC := Lib.hid hc
  have hP2 : path ds = ((path ds).1, 0) := by rw [← h0]
  rw [hP2] at QP
  have hPv := turns_valid h0
  have hPn := nz_path hnz
  have qr := dReverseD hPn hPv
  generalize hP : (path ds).1 = P at *
  obtain ⟨x0, x1, x2, x3, x4⟩ := P
  refine (callsIn_wide (n := 5)).1 ?_
  refine callsIn_of_wp_marks Try.func10 rfl trivial ?_ rfl
  simp only [Try.ntmps10, List.size_toArray, List.length_cons, List.length_nil, Nat.reduceAdd, Nat.reduceSub, Array.replicate_succ, Array.replicate_zero, List.push_toArray, List.append_toArray, List.nil_append, List.cons_append]
  refine wpIn_wide.2 ?_
  unfold Ca at *
  have kx := (Kb.refl w).alloc (.cells #[.bool false] 4 (0, 0))
  have i4 := Is.made w #[.bool false] 4
  clear hc
  go_wp2_with fail
  (with_reducible refine (qf.out _ kx).mono ?_)
  rintro r w1 ⟨rfl, k1⟩
  replace kx := kx.trans k1
  replace i4 := i4.kb k1
  clear k1
  go_wp2_with fail
  refine (QP.out _ kx).mono ?_
  rintro r w2 ⟨rfl, k2⟩
  replace kx := kx.trans k2
  replace i4 := i4.kb k2
  clear k2
  dsimp only [encS, valDim]
  go_wp2_with fail
  (refine (backw_c _ _ _ _).mono ?_)
  rintro r w5 ⟨rfl, rfl⟩
  go_wp2_with fail
  have i5 := ((Is.made w2 #[.string x0, .string x1, .int .i64 x2, .int .i64 x3, .int .i64 x4] 49).alloc (.cells #[.slice none 0 0] 51 (0, 0))).alloc (.cells #[.slice (some ⟨b, off, none⟩) N cap] 51 (0, 0))
  replace i4 := ((i4.alloc (.cells #[.string x0, .string x1, .int .i64 x2, .int .i64 x3, .int .i64 x4] 49 (0, 0))).alloc (.cells #[.slice none 0 0] 51 (0, 0))).alloc (.cells #[.slice (some ⟨b, off, none⟩) N cap] 51 (0, 0))
  have i7 := (Is.made (w2.alloc (.cells #[.string x0, .string x1, .int .i64 x2, .int .i64 x3, .int .i64 x4] 49 (0, 0))) #[.slice none 0 0] 51).alloc (.cells #[.slice (some ⟨b, off, none⟩) N cap] 51 (0, 0))
  have ix := Is.made ((w2.alloc (.cells #[.string x0, .string x1, .int .i64 x2, .int .i64 x3, .int .i64 x4] 49 (0, 0))).alloc (.cells #[.slice none 0 0] 51 (0, 0))) #[.slice (some ⟨b, off, none⟩) N cap] 51
  rw [World.size_alloc] at i7
  rw [World.size_alloc, World.size_alloc] at ix
  have hw2 := kx.size
  replace kx := ((kx.alloc (.cells #[.string x0, .string x1, .int .i64 x2, .int .i64 x3, .int .i64 x4] 49 (0, 0))).alloc (.cells #[.slice none 0 0] 51 (0, 0))).alloc (.cells #[.slice (some ⟨b, off, none⟩) N cap] 51 (0, 0))
  have hVs : (((w2.alloc (.cells #[.string x0, .string x1, .int .i64 x2, .int .i64 x3, .int .i64 x4] 49 (0, 0))).alloc (.cells #[.slice none 0 0] 51 (0, 0))).alloc (.cells #[.slice (some ⟨b, off, none⟩) N cap] 51 (0, 0))).heap.size = w2.heap.size + 1 + 1 + 1 := by simp
  refine (wpIn_wide (n := 5)).1 ?_
  generalize ((w2.alloc (.cells #[.string x0, .string x1, .int .i64 x2, .int .i64 x3, .int .i64 x4] 49 (0, 0))).alloc (.cells #[.slice none 0 0] 51 (0, 0))).alloc (.cells #[.slice (some ⟨b, off, none⟩) N cap] 51 (0, 0)) = V at *
  obtain ⟨i0, hi0, hz0, hz1, hz2⟩ := info_parts dim_info
  have hok := path_ok h0
  obtain ⟨_, _, hv, _⟩ := hok
  obtain ⟨f, hf⟩ : ∃ f : Nat → IV, ∀ j, j < N → (f j).1 = (((N - 1 - j : Nat) : Int), gD ds (N - 1 - j)) :=
    ⟨fun j => if h : j < N then ⟨(((N - 1 - j : Nat) : Int), gD ds (N - 1 - j)), nz_getD hnz _, hv _ (by omega)⟩ else ⟨(0, gD ds 0), nz_getD hnz _, hv 0 (by omega)⟩, fun j hj => by simp only [dif_pos hj]⟩
  have hwl : w.heap.size < w2.heap.size + 1 := by omega
  refine wpIn_rangeFunc_ownH rfl (by omega) (gf := 58) (lb := #[.pointer (some ⟨w2.heap.size + 2, 0, none⟩)]) rfl trivial (enters_of Try.func58 (by kernel_rfl) rfl)
    (backw_stops (5 - 1) (by omega) (w2.heap.size + 2) b off cap ds N (by omega) f V hf (by omega) (by omega) (ix.c (i := 0) rfl) (fun j hj i hi => kx.cell (HC.out j hj i hi))) Ko.trans (Ko.put (by intro x hx; simp at hx; omega)) (Below.refl _ _) (fun _ => rfl)
    (fun pre W => ((∃ v, Boxed W (w2.heap.size + 1) 51 v ∧ W.ownsRow (w2.heap.size + 1) 49 5 v pre.length (flatB pre) ∧ True) ∧ Boxed W (w2.heap.size + 2) 51 (.slice (some ⟨b, off, none⟩) N cap)) ∧ Below (w2.heap.size + 1) V W)
    (fun _ _ _ => False)
    (OwnFrom.and (OwnFrom.and (Own.from (holdsRow_own (w2.heap.size + 1) (w2.heap.size + 1) 51 49 5 (fun pre => pre.length) (fun pre => flatB pre) (fun _ _ => True)) _) (Own.from (boxed_own _ _ (fun _ => .slice (some ⟨b, off, none⟩) N cap)) _)) (ownFrom_below (by omega) (by omega)))
    (fun _ _ _ _ _ hs _ _ => hs)
    ⟨⟨⟨_, i7, ⟨by simp [flatB], .inl ⟨rfl, rfl⟩⟩, trivial⟩, ix⟩, Below.refl _ _⟩
    (fun x a' W => ∃ B1, Is W B1 (encDim x.1.2).toArray 49 ∧ a' = { tmps := #[.slice (some ⟨b, off, none⟩) N cap, .int .u8 z, undef, undef, .pointer (some ⟨w.heap.size, 0, none⟩), .pointer (some ⟨w2.heap.size, 0, none⟩), .int .i64 0, .pointer (some ⟨w2.heap.size + 1, 0, none⟩), undef, .pointer (some ⟨B1, 0, none⟩), undef, undef, undef, undef, undef, undef, undef, undef, undef, undef, undef, .slice (some ⟨b, off, none⟩) N cap, .bool true, .bool false, .bool false, .slice (some ⟨b, off, none⟩) N cap, .int .i64 (N : Int), .bool false, .bool false, .bool false, .slice (some ⟨b, off, none⟩) N cap, .int .i64 (N : Int), .bool false, .bool false, undef, .tuple #[.agg #[.string x0, .string x1, .int .i64 x2, .int .i64 x3, .int .i64 x4], .int .i64 0], .slice (some ⟨b, off, none⟩) N cap, .tuple #[.agg #[.string x0, .string x1, .int .i64 x2, .int .i64 x3, .int .i64 x4], .int .i64 0], .agg #[.string x0, .string x1, .int .i64 x2, .int .i64 x3, .int .i64 x4], .int .i64 0, .int .i64 0, .bool false, undef, .slice (some ⟨b, off, none⟩) N cap, .func (.func 58) #[] #[.pointer (some ⟨w2.heap.size + 2, 0, none⟩)], .int .i64 x.1.1, valDim x.1.2, undef, undef, undef, undef, undef, undef, undef, undef, undef, undef, undef, undef, undef, undef, undef, undef, undef, undef, undef, undef, undef, undef, undef, undef, undef, undef, undef, undef, undef, undef, undef, undef, undef, undef, undef, undef, undef, undef, undef, undef, undef, undef, undef, undef, undef, undef, undef, undef, undef, undef, undef, undef, undef, undef, undef, undef, undef, undef, undef, undef, undef, undef, undef, undef, undef, undef, undef, undef, undef, undef, undef, undef, undef, undef, undef, undef, undef, undef, undef, undef, undef, undef, undef, undef, undef, undef, undef, undef, undef, undef, undef, undef, undef, undef, undef, undef, undef, undef, undef, undef, undef, undef, undef, undef, undef, undef], defers := [] })
    (fun x a' _ X Y row hs hg hr => by obtain ⟨B1, e1, e3⟩ := hs; exact ⟨B1, (grownBy_keeps_cells hg (fun r e => (hr r e).2) e1 rfl).trans e1, e3⟩)
    ?assign ?body ?done ?stop
  case assign =>
    rintro l pre ⟨⟨idx, df, dt, da, dl, dh⟩, hx⟩ W K ⟨⟨⟨v, hb7, hr, _⟩, hbx⟩, hB⟩ hK
    simp only [encV, valDim, List.zip_toArray, List.zip_cons_cons, List.zip_nil_left]
    have hBs := hB.size
    gi_wp2
    exact hK _ _ ((KeepsOthers.alloc W _).from _) ⟨fun c hc => Below.heap_alloc _ _ _ (by simp at hc; omega), by simp⟩ ⟨⟨⟨v, hb7.alloc _, hr.alloc _, trivial⟩, hbx.alloc _⟩, hB.alloc (by omega) _⟩ ⟨W.heap.size, Is.made W _ _, rfl⟩
  case body =>
    rintro l pre x a' W hl ⟨r, hr0⟩ ⟨⟨⟨v, hb7, hr, _⟩, hbx⟩, hB⟩ ⟨B1, p1, rfl⟩ hlt
    have hsn := flatB_snoc pre x
    have hln : (pre ++ [x]).length = pre.length + 1 := by simp
    have q1 := dReverseD x.2.1 x.2.2
    have q2 := dReverseD (nz_tn x.2.1) (vdD_tn x.2.2)
    rw [tn_tn] at q2
    unfold Ca at q1 q2
    generalize hy : tn x.1.2 = y at *
    generalize x.1.2 = d at *
    obtain ⟨yf, yt, ya, yl, yh⟩ := y
    obtain ⟨df, dt, da, dl, dh⟩ := d
    replace p1 : Is W B1 #[.string df, .string dt, .int .i64 da, .int .i64 dl, .int .i64 dh] 49 := p1
    replace hsn : flatB (pre ++ [x]) = flatB pre ++ [.string yf, .string yt, .int .i64 ya, .int .i64 yl, .int .i64 yh] := hsn
    dsimp only [valDim] at q1 q2
    have hbs := hB.size
    have HSN := Lib.hid hsn
    have HF := Lib.hid hf
    clear hsn hf hy i4 i5 i7 ix kx hv HC QP qr hr0
    have p10 := p1.c (i := 0) rfl
    have p11 := p1.c (i := 1) rfl
    have p12 := p1.c (i := 2) rfl
    have p13 := p1.c (i := 3) rfl
    have p14 := p1.c (i := 4) rfl
    gi_wp2_with fail
    refine ⟨trivial, ?_⟩
    refine (CallsIn.inRound l (callsIn_wide.2 (q1.out _))).mono ?_
    rintro e w3 ⟨rfl, k3⟩
    clear p10 p11 p12 p13 p14 q1
    have kA := k3.alloc (.cells #[.string yf, .string yt, .int .i64 ya, .int .i64 yl, .int .i64 yh] 49 (0, 0))
    have pt := Is.made w3 #[.string yf, .string yt, .int .i64 ya, .int .i64 yl, .int .i64 yh] 49
    replace p1 := p1.kb kA
    have pt0 := pt.c (i := 0) rfl
    have pt1 := pt.c (i := 1) rfl
    have pt2 := pt.c (i := 2) rfl
    have pt3 := pt.c (i := 3) rfl
    have pt4 := pt.c (i := 4) rfl
    gi_wp2_with fail
    refine ⟨trivial, ?_⟩
    refine (CallsIn.inRound l (callsIn_wide.2 (q2.out _))).mono ?_
    rintro e w4 ⟨rfl, k4⟩
    clear pt0 pt1 pt2 pt3 pt4 q2
    have kB := (kA.trans k4).alloc (.cells #[.string df, .string dt, .int .i64 da, .int .i64 dl, .int .i64 dh] 49 (0, 0))
    replace p1 := (p1.kb k4).alloc (.cells #[.string df, .string dt, .int .i64 da, .int .i64 dl, .int .i64 dh] 49 (0, 0))
    replace pt := (pt.kb k4).alloc (.cells #[.string df, .string dt, .int .i64 da, .int .i64 dl, .int .i64 dh] 49 (0, 0))
    have hb3 : Boxed (w4.alloc (.cells #[.string df, .string dt, .int .i64 da, .int .i64 dl, .int .i64 dh] 49 (0, 0))) (w2.heap.size + 1) 51 v := (Below.block kB _ hb7.lt).trans hb7
    have hcv := hb3.cell
    have p10 := p1.c (i := 0) rfl
    have p11 := p1.c (i := 1) rfl
    have p12 := p1.c (i := 2) rfl
    have p13 := p1.c (i := 3) rfl
    have p14 := p1.c (i := 4) rfl
    have pt0 := pt.c (i := 0) rfl
    have pt1 := pt.c (i := 1) rfl
    have pt2 := pt.c (i := 2) rfl
    have pt3 := pt.c (i := 3) rfl
    have pt4 := pt.c (i := 4) rfl
    have hr3 := owns_kb hr kB
    have hx3 : Boxed (w4.alloc (.cells #[.string df, .string dt, .int .i64 da, .int .i64 dl, .int .i64 dh] 49 (0, 0))) (w2.heap.size + 2) 51 (.slice (some ⟨b, off, none⟩) N cap) := (Below.block kB _ hbx.lt).trans hbx
    have hz4 := kB.size
    have hz5 : (w4.alloc (.cells #[.string df, .string dt, .int .i64 da, .int .i64 dl, .int .i64 dh] 49 (0, 0))).heap.size = w4.heap.size + 1 := World.size_alloc _ _
    have hBk : Below (w2.heap.size + 1) V (w4.alloc (.cells #[.string df, .string dt, .int .i64 da, .int .i64 dl, .int .i64 dh] 49 (0, 0))) := hB.trans (kB.mono (by omega))
    have hfr := hb3.frozen
    have hbx0 : W.heap[w2.heap.size + 2]? = some _ := hbx
    clear hr hb7 hB hbx k3 k4 kA
    gi_wp2_with (gi_at_builtin; refine wpListIn_append_own _ rfl _ _ 51 rfl (w2.heap.size + 1) 49 i0 (.agg #[.string ⟨#[]⟩, .string ⟨#[]⟩, .int .i64 0, .int .i64 0, .int .i64 0]) 5 56 Try.underlying51 hi0 hz0 hz1 hz2 rfl (by decide) _ _ _ rfl (hr3.alloc _) ⟨w4.heap.size + 1, 0, none⟩ 1 1 [.string yf, .string yt, .int .i64 ya, .int .i64 yl, .int .i64 yh] rfl rfl (by have hh := World.news_of_block (World.alloc_heap_new (w4.alloc (.cells #[.string df, .string dt, .int .i64 da, .int .i64 dl, .int .i64 dh] 49 (0, 0))) (.cells #[.string yf, .string yt, .int .i64 ya, .int .i64 yl, .int .i64 yh] 49)); rwa [World.size_alloc] at hh) (by simp [Value.oneCell']) (by unfold maxLen; omega) (by omega) (by simp; omega) ?_; intro v' w9 hown' hgrow _; obtain ⟨g', cap', rfl⟩ := ownsRow_succ hown'; have hg4 : ((w4.alloc (.cells #[.string df, .string dt, .int .i64 da, .int .i64 dl, .int .i64 dh] 49 (0, 0))).alloc (.cells #[.string yf, .string yt, .int .i64 ya, .int .i64 yl, .int .i64 yh] 49)).grownBy w9 v.ownBlock := hgrow; have R := hb3.appended (by decide) hr3 (by omega) (Nat.le_refl _) hown' hg4; have hx9 := (hx3.alloc _).kept hg4 (hx3.not_row (by decide) hr3); have cR := R.1.cell; have fR := R.1.frozen; have hg5 := hg4.size; clear hown' hgrow)
    have hfx := hx9.other (show w2.heap.size + 2 ≠ w2.heap.size + 1 by omega) (.slice (some ⟨g', 0, none⟩) (pre.length + 1) cap')
    have hfb := R.2.2.2.2
    refine ⟨((others_kb kB).trans R.2.2.2.1).from _, ⟨fun c hc => ?_, Nat.le_trans kB.size hfb.size⟩, ⟨⟨⟨_, R.2.1, by rw [hln, HSN.out]; exact R.2.2.1, trivial⟩, hfx⟩, hBk.trans hfb⟩⟩
    rcases List.mem_cons.1 hc with rfl | hc
    · exact (hfb.block _ (by omega)).trans (Below.block kB _ (by omega))
    · rcases List.mem_cons.1 hc with rfl | hc
      · exact Eq.trans hfx hbx0.symm
      · cases hc
  case done =>
    rintro D ys W hD rfl ⟨⟨⟨v, hb7, hr, _⟩, hbx⟩, hB⟩ hK
    have hlen : (upto f N).length = N := upto_length f N
    rw [hlen] at hr
    have hbs : ((upto f N).map fun x => tn x.1.2).length = N := by simp [hlen]
    have hsl := sl_own hr (bs := (upto f N).map fun x => tn x.1.2) (by simp [flatB, List.flatMap_def]; rfl) hbs
    have hgb : ∀ i, i < N → gD ((upto f N).map fun x => tn x.1.2) i = tn (gD ds (N - 1 - i)) := fun i hi => by
      unfold gD upto
      simp [List.getD_eq_getElem?_getD, hi]
      rw [hf i hi]
      rfl
    have hbnz : ∀ d ∈ (upto f N).map fun x => tn x.1.2, Nz d := fun d hd => by
      obtain ⟨x, _, rfl⟩ := List.mem_map.1 hd
      exact nz_tn x.2.1
    have htb := turns_back h0 (bs := (upto f N).map fun x => tn x.1.2) (by rw [hbs, hN]) (by rw [hN]; exact hgb)
    generalize ((upto f N).map fun x => tn x.1.2) = bs at *
    have kV : Kb w W := Below.trans kx (hB.mono (by omega))
    have QB := Lib.hid (fun (V' : World) (hV : Kb W V') => dPath bs v V' (hsl.kb hV) (by omega) hbnz)
    obtain ⟨kn, hkn⟩ : ∃ kn : Nat, kn = 1 + z.toNat % (N - 1) := ⟨_, rfl⟩
    have hk1 : 0 < kn := by omega
    have hk2 : kn < N := by have := Nat.mod_lt z.toNat (show 0 < N - 1 by omega); omega
    have QF := Lib.hid (fun (V' : World) (hV : Kb w V') => dPath (ds.take kn) (.slice (some ⟨b, off, none⟩) kn cap) V' ⟨some ⟨b, off, none⟩, cap, by simp; omega, fun _ => ⟨b, off, rfl, Nat.lt_of_lt_of_le hb hV.size, by simp, fun i hi j hj => by
      have hi'' : i < min kn ds.length := by simpa using hi
      have hi' : i < kn ∧ i < ds.length := by omega
      rw [hV.cell (HC.out i (by omega) j hj)]
      simp [gD, List.getD_eq_getElem?_getD, hi'.1, hi'.2]⟩⟩ (by rw [List.length_take]; omega) (fun d hd => hnz d (List.mem_of_mem_take hd)))
    have QR := Lib.hid (fun (V' : World) (hV : Kb w V') => dPath (ds.drop kn) (.slice (some ⟨b, off + kn * 5, none⟩) (N - kn) (cap - kn)) V' ⟨some ⟨b, off + kn * 5, none⟩, cap - kn, by simp [hN], fun _ => ⟨b, off + kn * 5, rfl, Nat.lt_of_lt_of_le hb hV.size, by simp, fun i hi j hj => by
      have hi' : i < ds.length - kn := by simpa using hi
      have := HC.out (kn + i) (by omega) j hj
      rw [show off + kn * 5 + i * 5 + j = off + (kn + i) * 5 + j by omega, hV.cell this]
      have h9 : kn + i < ds.length := by omega
      simp [gD, List.getD_eq_getElem?_getD, List.getElem?_drop, h9]⟩⟩ (by rw [List.length_drop]; omega) (fun d hd => hnz d (List.mem_of_mem_drop hd)))
    have hfi := turns_first h0 hk1 (by omega)
    have hfn : Nz (path (ds.take kn)).1 := nz_path (fun d hd => hnz d (List.mem_of_mem_take hd))
    have hrn : Nz (path (ds.drop kn)).1 := nz_path (fun d hd => hnz d (List.mem_of_mem_drop hd))
    have hre := turns_rest h0 hk1 (by omega)
    have qj := dJoinD hfn hrn
    have hfe : path (ds.take kn) = ((path (ds.take kn)).1, 0) := by rw [hfi]
    rw [hfe] at QF
    rw [hP] at hre htb
    have i4' := i4.same (hB.block _ (by omega))
    have i5' := i5.same (hB.block _ (by omega))
    have c7 := hb7.cell
    clear hr hsl hgb hbnz hb7 hbx hB kx i4 i5 i7 ix HC QP hf hfi hfe hfn hrn hbs hlen
    generalize (path (ds.take kn)).1 = A at *
    generalize path (ds.drop kn) = RR at *
    generalize path bs = BB at *
    obtain ⟨a0, a1, a2, a3, a4⟩ := A
    obtain ⟨⟨r0, r1, r2, r3, r4⟩, er⟩ := RR
    obtain ⟨⟨y0, y1, y2, y3, y4⟩, eb⟩ := BB
    have kw := Kb.refl W
    go_wp2_with fail
    refine (QB.out _ kw).mono ?_
    rintro r w6 ⟨rfl, k6⟩
    replace kw := (kw.trans k6).alloc (.cells #[.string y0, .string y1, .int .i64 y2, .int .i64 y3, .int .i64 y4] 49 (0, 0))
    replace i4' := (i4'.kb k6).alloc (.cells #[.string y0, .string y1, .int .i64 y2, .int .i64 y3, .int .i64 y4] 49 (0, 0))
    replace i5' := (i5'.kb k6).alloc (.cells #[.string y0, .string y1, .int .i64 y2, .int .i64 y3, .int .i64 y4] 49 (0, 0))
    have i14 := Is.made w6 #[.string y0, .string y1, .int .i64 y2, .int .i64 y3, .int .i64 y4] 49
    clear k6 c7
    dsimp only [encS, valDim]
    dsimp only [tn, valDim] at qr
    have c50 := i5'.c (i := 0) rfl
    have c51 := i5'.c (i := 1) rfl
    have c52 := i5'.c (i := 2) rfl
    have c53 := i5'.c (i := 3) rfl
    have c54 := i5'.c (i := 4) rfl
    go_wp2_with fail
    (with_reducible refine (qr.out _).mono ?_)
    rintro r w7 ⟨rfl, k7⟩
    clear c50 c51 c52 c53 c54
    replace kw := (kw.trans k7).alloc (.cells #[.string x1, .string x0, .int .i64 x2, .int .i64 (-x4), .int .i64 (-x3)] 49 (0, 0))
    replace i4' := (i4'.kb k7).alloc (.cells #[.string x1, .string x0, .int .i64 x2, .int .i64 (-x4), .int .i64 (-x3)] 49 (0, 0))
    replace i5' := (i5'.kb k7).alloc (.cells #[.string x1, .string x0, .int .i64 x2, .int .i64 (-x4), .int .i64 (-x3)] 49 (0, 0))
    replace i14 := (i14.kb k7).alloc (.cells #[.string x1, .string x0, .int .i64 x2, .int .i64 (-x4), .int .i64 (-x3)] 49 (0, 0))
    have i15 := Is.made w7 #[.string x1, .string x0, .int .i64 x2, .int .i64 (-x4), .int .i64 (-x3)] 49
    clear k7
    have hkz : wrap64 (1 + z % ((N : Int) - 1)) = (kn : Int) := by
      have e1 : (N : Int) - 1 = ((N - 1 : Nat) : Int) := by omega
      have e2 : z = ((z.toNat : Nat) : Int) := by omega
      have e3 : z % ((N : Int) - 1) = ((z.toNat % (N - 1) : Nat) : Int) := by rw [e1]; exact (congrArg (· % ((N - 1 : Nat) : Int)) e2).trans rfl
      rw [e3, hkn, w64 (by omega) (by have := Nat.mod_lt z.toNat (show 0 < N - 1 by omega); omega)]
      omega
    have hk0 : (0 : Int) ≤ (kn : Int) := by omega
    have hkc : (kn : Int) ≤ (cap : Int) := by omega
    have hkN : (kn : Int) ≤ (N : Int) := by omega
    have hNc : (N : Int) ≤ (cap : Int) := by omega
    clear hkn
    rcases htb with htb | htb | htb
    all_goals
      simp only [tn, dim0, Prod.mk.injEq] at htb
      obtain ⟨⟨h1, h2, h3, h4, h5⟩, h6⟩ := htb
      subst y0
      subst y1
      subst y2
      subst y3
      subst y4
      subst eb
      have d140 := i14.c (i := 0) rfl
      have d141 := i14.c (i := 1) rfl
      have d142 := i14.c (i := 2) rfl
      have d143 := i14.c (i := 3) rfl
      have d144 := i14.c (i := 4) rfl
      have d150 := i15.c (i := 0) rfl
      have d151 := i15.c (i := 1) rfl
      have d152 := i15.c (i := 2) rfl
      have d153 := i15.c (i := 3) rfl
      have d154 := i15.c (i := 4) rfl
      clear i14 i15
      go_wp2_with fail
      clear d140 d141 d142 d143 d144 d150 d151 d152 d153 d154
      refine (QF.out _ (Kb.trans kV kw)).mono ?_
      rintro r w8 ⟨rfl, k8⟩
      replace kw := (kw.trans k8).alloc (.cells #[.string a0, .string a1, .int .i64 a2, .int .i64 a3, .int .i64 a4] 49 (0, 0))
      replace i4' := (i4'.kb k8).alloc (.cells #[.string a0, .string a1, .int .i64 a2, .int .i64 a3, .int .i64 a4] 49 (0, 0))
      replace i5' := (i5'.kb k8).alloc (.cells #[.string a0, .string a1, .int .i64 a2, .int .i64 a3, .int .i64 a4] 49 (0, 0))
      have i18 := Is.made w8 #[.string a0, .string a1, .int .i64 a2, .int .i64 a3, .int .i64 a4] 49
      clear k8
      dsimp only [encS, valDim]
      go_wp2_with fail
      refine (QR.out _ (Kb.trans kV kw)).mono ?_
      rintro r w9 ⟨rfl, k9⟩
      replace kw := (kw.trans k9).alloc (.cells #[.string r0, .string r1, .int .i64 r2, .int .i64 r3, .int .i64 r4] 49 (0, 0))
      replace i4' := (i4'.kb k9).alloc (.cells #[.string r0, .string r1, .int .i64 r2, .int .i64 r3, .int .i64 r4] 49 (0, 0))
      replace i5' := (i5'.kb k9).alloc (.cells #[.string r0, .string r1, .int .i64 r2, .int .i64 r3, .int .i64 r4] 49 (0, 0))
      replace i18 := (i18.kb k9).alloc (.cells #[.string r0, .string r1, .int .i64 r2, .int .i64 r3, .int .i64 r4] 49 (0, 0))
      have i19 := Is.made w9 #[.string r0, .string r1, .int .i64 r2, .int .i64 r3, .int .i64 r4] 49
      clear k9
      dsimp only [encS, valDim]
      rcases hre with ⟨hr0, hrj⟩ | hr0 | hr0
      · subst hr0
        rw [hrj] at qj
        dsimp only [valDim] at qj
        have e80 := i18.c (i := 0) rfl
        have e81 := i18.c (i := 1) rfl
        have e82 := i18.c (i := 2) rfl
        have e83 := i18.c (i := 3) rfl
        have e84 := i18.c (i := 4) rfl
        have e90 := i19.c (i := 0) rfl
        have e91 := i19.c (i := 1) rfl
        have e92 := i19.c (i := 2) rfl
        have e93 := i19.c (i := 3) rfl
        have e94 := i19.c (i := 4) rfl
        go_wp2_with fail
        (with_reducible refine (qj.out _).mono ?_)
        rintro r w10 ⟨rfl, k10⟩
        clear e80 e81 e82 e83 e84 e90 e91 e92 e93 e94
        replace kw := (kw.trans k10).alloc (.cells #[.string x0, .string x1, .int .i64 x2, .int .i64 x3, .int .i64 x4] 49 (0, 0))
        replace i4' := (i4'.kb k10).alloc (.cells #[.string x0, .string x1, .int .i64 x2, .int .i64 x3, .int .i64 x4] 49 (0, 0))
        replace i5' := (i5'.kb k10).alloc (.cells #[.string x0, .string x1, .int .i64 x2, .int .i64 x3, .int .i64 x4] 49 (0, 0))
        have i20 := Is.made w10 #[.string x0, .string x1, .int .i64 x2, .int .i64 x3, .int .i64 x4] 49
        clear k10 i18 i19
        have e20 := i20.c (i := 0) rfl
        have e21 := i20.c (i := 1) rfl
        have e22 := i20.c (i := 2) rfl
        have e23 := i20.c (i := 3) rfl
        have e24 := i20.c (i := 4) rfl
        have e50 := i5'.c (i := 0) rfl
        have e51 := i5'.c (i := 1) rfl
        have e52 := i5'.c (i := 2) rfl
        have e53 := i5'.c (i := 3) rfl
        have e54 := i5'.c (i := 4) rfl
        go_wp2_with fail
        (with_reducible refine (qa.out _).mono ?_)
        rintro r w11 ⟨rfl, k11⟩
        replace kw := kw.trans k11
        replace i4' := i4'.kb k11
        have kk := Kb.trans kV kw
        clear e20 e21 e22 e23 e24 e50 e51 e52 e53 e54 i20
        have c4 := i4'.c (i := 0) rfl
        have f4 := i4'.f 0
        have Z := Lib.hid (And.intro (i4'.set 0 (.bool true)) (And.intro (kk.setCell (p := ⟨w.heap.size, 0, none⟩) (Nat.le_refl _) (.bool true)) ((Below.heap_setCell _ ⟨w.heap.size, 0, none⟩ (.bool true) D (by simp; omega)).trans ((Below.block kw D (Array.getElem?_eq_some_iff.1 hK).1).trans hK))))
        clear i4' kk kw i5' 
        go_wp2
        refine ⟨by simp, .inl ⟨_, _, rfl, run_takeDeferred Z.out.2.2, ?_⟩⟩
        exact ⟨_, turns_res _ _ _ _ rfl (Z.out.1.same (World.putObj_heap_other (by omega))), rfl, (Kx.put _ D _).old Z.out.2.1 (by intro x hx; simp at hx; omega)⟩
      · subst hr0
        clear i18 i19
        go_wp2_with fail
        (with_reducible refine (qa.out _).mono ?_)
        rintro r w11 ⟨rfl, k11⟩
        replace kw := kw.trans k11
        replace i4' := i4'.kb k11
        have kk := Kb.trans kV kw
        have c4 := i4'.c (i := 0) rfl
        have f4 := i4'.f 0
        have Z := Lib.hid (And.intro (i4'.set 0 (.bool true)) (And.intro (kk.setCell (p := ⟨w.heap.size, 0, none⟩) (Nat.le_refl _) (.bool true)) ((Below.heap_setCell _ ⟨w.heap.size, 0, none⟩ (.bool true) D (by simp; omega)).trans ((Below.block kw D (Array.getElem?_eq_some_iff.1 hK).1).trans hK))))
        clear i4' kk kw i5' 
        go_wp2
        refine ⟨by simp, .inl ⟨_, _, rfl, run_takeDeferred Z.out.2.2, ?_⟩⟩
        exact ⟨_, turns_res _ _ _ _ rfl (Z.out.1.same (World.putObj_heap_other (by omega))), rfl, (Kx.put _ D _).old Z.out.2.1 (by intro x hx; simp at hx; omega)⟩
      · subst hr0
        clear i18 i19
        go_wp2_with fail
        (with_reducible refine (qa.out _).mono ?_)
        rintro r w11 ⟨rfl, k11⟩
        replace kw := kw.trans k11
        replace i4' := i4'.kb k11
        have kk := Kb.trans kV kw
        have c4 := i4'.c (i := 0) rfl
        have f4 := i4'.f 0
        have Z := Lib.hid (And.intro (i4'.set 0 (.bool true)) (And.intro (kk.setCell (p := ⟨w.heap.size, 0, none⟩) (Nat.le_refl _) (.bool true)) ((Below.heap_setCell _ ⟨w.heap.size, 0, none⟩ (.bool true) D (by simp; omega)).trans ((Below.block kw D (Array.getElem?_eq_some_iff.1 hK).1).trans hK))))
        clear i4' kk kw i5' 
        go_wp2
        refine ⟨by simp, .inl ⟨_, _, rfl, run_takeDeferred Z.out.2.2, ?_⟩⟩
        exact ⟨_, turns_res _ _ _ _ rfl (Z.out.1.same (World.putObj_heap_other (by omega))), rfl, (Kx.put _ D _).old Z.out.2.1 (by intro x hx; simp at hx; omega)⟩
  case stop =>
    rintro D c pre W _ _ h _
    exact h.elim
end Go.Proofs.Ytendjeefggigbaa
