/- The reference of package dimension: Path. -/
import Derived.Test.YtendjeefggigbaaOp4
namespace Go.Proofs.Ytendjeefggigbaa
open Go.RowKit

theorem rValidD {d : DimT} (h : Nz d) : Ca 34 #[valDim d] (.int .i64 (vdD d)) := by
  obtain ⟨f, t, a, l, h'⟩ := d
  exact rValid f t a l h' h.1 h.2
theorem vals_drop {ds : List DimT} {k : Nat} (h : k < ds.length) : (ds.map vdD).drop k = vdD (ds.getD k dim0) :: (ds.map vdD).drop (k + 1) := by
  rw [List.drop_eq_getElem_cons (by simpa using h), List.getElem_map, List.getD_eq_getElem?_getD, List.getElem?_eq_getElem h]
  rfl
theorem pathE_er {ds : List DimT} (h : firstE (ds.map vdD) ≠ 0) : pathE ds = firstE (ds.map vdD) := fst_e h _
theorem pathE_0 {ds : List DimT} (h : firstE (ds.map vdD) = 0) (hn : ds.length = 0) : pathE ds = 13 := by
  unfold pathE
  rw [h, fst_0, hn, show (((0 : Nat) : Int) == 0) = true from rfl, fE_t, fst_e (by decide)]
theorem pathE_m {ds : List DimT} (h : firstE (ds.map vdD) = 0) (hn : ¬ ds.length = 0) (hm : 256 < ds.length) : pathE ds = 5 := by
  unfold pathE
  rw [h, fst_0, show ((ds.length : Int) == 0) = false from beq_eq_false_iff_ne.2 (by omega), fE_f, fst_0, decide_eq_true (show (256 : Int) < (ds.length : Int) by omega), fE_t, firstE_one]
theorem pathE_k {ds : List DimT} (h : firstE (ds.map vdD) = 0) (hn : ¬ ds.length = 0) (hm : ¬ 256 < ds.length) : pathE ds = 0 := by
  unfold pathE
  rw [h, fst_0, show ((ds.length : Int) == 0) = false from beq_eq_false_iff_ne.2 (by omega), fE_f, fst_0, decide_eq_false (show ¬ (256 : Int) < (ds.length : Int) by omega), fE_f, firstE_one]
theorem path_e {ds : List DimT} {e : Int} (h : pathE ds = e) (he : e ≠ 0) : path ds = (dim0, e) := by
  unfold path
  rw [h, if_neg he]
theorem path_k {ds : List DimT} (h : pathE ds = 0) : path ds = pathG ds (ds.length - 1) 0 := by
  unfold path
  rw [if_pos h]

attribute [local go_sem] Oper.semAt_some
set_option maxRecDepth 100000 in
set_option maxHeartbeats 4000000 in
theorem rPath (ds : List DimT) (sv : Value) (w : World) (hs : Sl [] 5 w sv (ds.map encDim)) (hm : ds.length ≤ 1000) (hnz : ∀ d ∈ ds, Nz d) :
    Calls Try.prog 36 #[sv] w fun r W' => r = .returned (.tuple (encS (path ds))) ∧ Kb w W' := by
  obtain ⟨sp, cap, hv, hs1⟩ := hs
  rw [List.length_map] at hv hs1
  subst hv
  have kx := (Kb.refl w).alloc (.cells #[.string ⟨#[]⟩, .string ⟨#[]⟩, .int .i64 0, .int .i64 0, .int .i64 0] 49 (0, 0))
  have i2 := Is.made w #[.string ⟨#[]⟩, .string ⟨#[]⟩, .int .i64 0, .int .i64 0, .int .i64 0] 49
  have HC : Hid (0 < ds.length → ∃ b off, sp = some ⟨b, off, none⟩ ∧ b < w.heap.size ∧ ∀ j, j < ds.length → ∀ i, i < 5 → ∀ V : World, Kb w V → V.cell? ⟨b, off + j * 5 + i, none⟩ = some ((encDim (ds.getD j dim0)).getD i undef)) := fun h => by
    obtain ⟨b, off, h1, h2, _, h3⟩ := hs1 h
    exact ⟨b, off, h1, h2, fun j hj i hi V hV => by rw [hV.cell (h3 j hj i hi), show (ds.map encDim).getD j [] = encDim (ds.getD j dim0) by simp [List.getD_eq_getElem?_getD, hj]]⟩
  have HD := Lib.hid (fun k (hk : k < ds.length) => vals_drop hk)
  have HB : Hid (firstE (ds.map vdD) = firstE ((ds.map vdD).drop 0)) := rfl
  have HE : Hid ((ds.map vdD).drop ds.length = []) := List.drop_of_length_le (by simp)
  have P1 := Lib.hid (@pathE_er ds)
  have P2 := Lib.hid (@pathE_0 ds)
  have P3 := Lib.hid (@pathE_m ds)
  have P4 := Lib.hid (@pathE_k ds)
  have P5 : Hid (∀ e : Int, pathE ds = e → e ≠ 0 → path ds = (dim0, e)) := fun e h he => path_e h he
  have P6 := Lib.hid (@path_k ds)
  clear hs1
  have hnz0 := nz_getD hnz
  have hnz1 := nz_st hnz
  generalize hN : ds.length = n at *
  clear hN hnz
  go_enter Try.func36, Try.ntmps36
  go_wp2
  go_loopg [4, 5] n (fun gk s4 s5 wr => ∃ k : Nat, s4 = .int .i64 k ∧ k + gk = n ∧ Hid (firstE (ds.map vdD) = firstE ((ds.map vdD).drop k)) ∧ Kb w wr ∧ Is wr w.heap.size #[.string ⟨#[]⟩, .string ⟨#[]⟩, .int .i64 0, .int .i64 0, .int .i64 0] 49)
  case atStart => exact ⟨0, rfl, by omega, HB, kx, i2⟩
  case round =>
    clear kx i2
    obtain ⟨k, rfl, hk, hR, kx, i2⟩ := hrel
    by_cases hlt : k < n
    · obtain ⟨b, off, rfl, hb, hcell⟩ := HC.out (by omega)
      have hX := hcell k hlt
      have hD := HD.out k hlt
      have hz := hnz0 k
      generalize ds.getD k dim0 = x at *
      obtain ⟨f, t, a, lo, hi⟩ := x
      have q := rValidD hz
      dsimp only [valDim] at q
      have x0 : wr.cell? ⟨b, off + k * 5, none⟩ = some (.string f) := by have := hX 0 (by omega) wr kx; simpa [encDim] using this
      have x1 : wr.cell? ⟨b, off + k * 5 + 1, none⟩ = some (.string t) := by have := hX 1 (by omega) wr kx; simpa [encDim] using this
      have x2 : wr.cell? ⟨b, off + k * 5 + 2, none⟩ = some (.int .i64 a) := by have := hX 2 (by omega) wr kx; simpa [encDim] using this
      have x3 : wr.cell? ⟨b, off + k * 5 + 3, none⟩ = some (.int .i64 lo) := by have := hX 3 (by omega) wr kx; simpa [encDim] using this
      have x4 : wr.cell? ⟨b, off + k * 5 + 4, none⟩ = some (.int .i64 hi) := by have := hX 4 (by omega) wr kx; simpa [encDim] using this
      generalize vdD (f, t, a, lo, hi) = e at *
      have Hk := Lib.hid hk
      have hk0 : (0 : Int) ≤ (k : Int) := by omega
      have hR2 := Lib.hid (hR.out.trans (by rw [hD]))
      have hs9 := i2.lt
      clear hcell hX hD hz HD HE HB hk
      go_wp2_with fail
      (with_reducible refine (q.out _).mono ?_)
      rintro r w1 ⟨rfl, k1⟩
      clear x0 x1 x2 x3 x4 q
      replace i2 := i2.kb k1
      replace kx := kx.trans k1
      by_cases he : e = 0
      · subst he
        have hk := Hk.out
        clear Hk
        go_wp2
        go_roundg (gk - 1)
        case measure => omega
        case rel => exact ⟨k + 1, by go_num, by omega, hR2.out.trans (fst_0 _), kx, i2⟩
      · have hne : (e != 0) = true := by simp [he]
        have hp : Hid (path ds = (dim0, e)) := by
          have h1 := hR2.out.trans (fst_e he _)
          exact P5.out _ ((P1.out (by rw [h1]; exact he)).trans h1) he
        clear P1 P2 P3 P4 P5 P6 hR2 hR HC
        obtain ⟨z2, pt2⟩ := put5 i2 (.string ⟨#[]⟩) (.string ⟨#[]⟩) (.int .i64 0) (.int .i64 0) (.int .i64 0)
        have Z := Lib.hid (And.intro z2 (pt2.kb kx (by omega)))
        have c20 := i2.c (i := 0) rfl
        have c21 := i2.c (i := 1) rfl
        have c22 := i2.c (i := 2) rfl
        have c23 := i2.c (i := 3) rfl
        have c24 := i2.c (i := 4) rfl
        have c2f0 := i2.f 0
        have c2f1 := i2.f 1
        have c2f2 := i2.f 2
        have c2f3 := i2.f 3
        have c2f4 := i2.f 4
        clear z2 pt2 kx
        go_wp2
        refine ret_row2 Try.results36 rfl rfl rfl Z.out.1 Try.underlying49 rfl (by kernel_rfl) ?_
        exact ⟨by rw [hp.out]; rfl, Z.out.2⟩
    · obtain rfl : k = n := by omega
      have hf : firstE (ds.map vdD) = 0 := hR.out.trans (by rw [HE.out]; rfl)
      clear hk hR HE HB HD
      by_cases h0 : k = 0
      · have hp : Hid (path ds = (dim0, 13)) := P5.out _ (P2.out hf h0) (by decide)
        clear P1 P2 P3 P4 P5 P6 HC hnz0 hnz1
        subst h0
        obtain ⟨z2, pt2⟩ := put5 i2 (.string ⟨#[]⟩) (.string ⟨#[]⟩) (.int .i64 0) (.int .i64 0) (.int .i64 0)
        have Z := Lib.hid (And.intro z2 (pt2.kb kx (by omega)))
        have c20 := i2.c (i := 0) rfl
        have c21 := i2.c (i := 1) rfl
        have c22 := i2.c (i := 2) rfl
        have c23 := i2.c (i := 3) rfl
        have c24 := i2.c (i := 4) rfl
        have c2f0 := i2.f 0
        have c2f1 := i2.f 1
        have c2f2 := i2.f 2
        have c2f3 := i2.f 3
        have c2f4 := i2.f 4
        clear z2 pt2 kx
        go_wp2
        refine ret_row2 Try.results36 rfl rfl rfl Z.out.1 Try.underlying49 rfl (by kernel_rfl) ?_
        exact ⟨by rw [hp.out]; rfl, Z.out.2⟩
      · have hd0 : ((k : Int) == 0) = false := beq_eq_false_iff_ne.2 (by omega)
        by_cases h2 : 256 < k
        · have hp : Hid (path ds = (dim0, 5)) := P5.out _ (P3.out hf h0 h2) (by decide)
          have hd1 : decide ((256 : Int) < (k : Int)) = true := decide_eq_true (by omega)
          clear P1 P2 P3 P4 P5 P6 HC hnz0 hnz1
          obtain ⟨z2, pt2⟩ := put5 i2 (.string ⟨#[]⟩) (.string ⟨#[]⟩) (.int .i64 0) (.int .i64 0) (.int .i64 0)
          have Z := Lib.hid (And.intro z2 (pt2.kb kx (by omega)))
          have c20 := i2.c (i := 0) rfl
          have c21 := i2.c (i := 1) rfl
          have c22 := i2.c (i := 2) rfl
          have c23 := i2.c (i := 3) rfl
          have c24 := i2.c (i := 4) rfl
          have c2f0 := i2.f 0
          have c2f1 := i2.f 1
          have c2f2 := i2.f 2
          have c2f3 := i2.f 3
          have c2f4 := i2.f 4
          clear z2 pt2 kx
          go_wp2
          refine ret_row2 Try.results36 rfl rfl rfl Z.out.1 Try.underlying49 rfl (by kernel_rfl) ?_
          exact ⟨by rw [hp.out]; rfl, Z.out.2⟩
        · have hp0 := P6.out (P4.out hf h0 h2)
          have hd1 : decide ((256 : Int) < (k : Int)) = false := decide_eq_false (by omega)
          clear P1 P2 P3 P4 P5 P6
          obtain ⟨b, off, rfl, hb, hcell⟩ := HC.out (by omega)
          have hX := hcell 0 (by omega)
          have hs0 : st ds 0 = (ds.getD 0 dim0, 0) := rfl
          generalize ds.getD 0 dim0 = x at *
          obtain ⟨f, t, a, lo, hi⟩ := x
          have x0 : wr.cell? ⟨b, off, none⟩ = some (.string f) := by have := hX 0 (by omega) wr kx; simpa [encDim] using this
          have x1 : wr.cell? ⟨b, off + 1, none⟩ = some (.string t) := by have := hX 1 (by omega) wr kx; simpa [encDim] using this
          have x2 : wr.cell? ⟨b, off + 2, none⟩ = some (.int .i64 a) := by have := hX 2 (by omega) wr kx; simpa [encDim] using this
          have x3 : wr.cell? ⟨b, off + 3, none⟩ = some (.int .i64 lo) := by have := hX 3 (by omega) wr kx; simpa [encDim] using this
          have x4 : wr.cell? ⟨b, off + 4, none⟩ = some (.int .i64 hi) := by have := hX 4 (by omega) wr kx; simpa [encDim] using this
          have hki : (0 : Int) < (k : Int) := by omega
          have HCC := Lib.hid hcell
          have i6 := Is.made wr #[.string f, .string t, .int .i64 a, .int .i64 lo, .int .i64 hi] 49
          have A := Lib.hid (And.intro (kx.alloc (.cells #[.string f, .string t, .int .i64 a, .int .i64 lo, .int .i64 hi] 49 (0, 0))) (And.intro (i2.alloc (.cells #[.string f, .string t, .int .i64 a, .int .i64 lo, .int .i64 hi] 49 (0, 0))) (show Is _ _ (encDim (st ds 0).1).toArray _ by rw [hs0]; exact i6)))
          have HP0 := Lib.hid hp0
          have hs9 := i2.lt
          clear hcell hX hs0 i2 kx i6 HC hp0
          go_wp2
          rename World => wo
          go_loopg [7, 8, 9] (k - 1) (fun gk s7 s8 s9 wr => ∃ j : Nat, s7 = .int .i64 ((j : Int) + 1) ∧ j + gk + 1 = k ∧ Hid (path ds = pathG ds gk j) ∧ Kb w wr ∧ Is wr w.heap.size #[.string ⟨#[]⟩, .string ⟨#[]⟩, .int .i64 0, .int .i64 0, .int .i64 0] 49 ∧ Is wr wo.heap.size (encDim (st ds j).1).toArray 49)
          case atStart => exact ⟨0, rfl, by omega, HP0, A.out⟩
          case round =>
            clear x0 x1 x2 x3 x4 A
            obtain ⟨j, rfl, hj, hP, kx, i2, i6⟩ := hrel
            have nz1 := hnz1 j
            have nz2 := hnz0 (j + 1)
            have HS1 : Hid (st ds (j + 1) = jnD (st ds j).1 (ds.getD (j + 1) dim0)) := rfl
            have HPG : Hid (∀ g, path ds = pathG ds (g + 1) j → path ds = if (st ds (j + 1)).2 = 0 then pathG ds g (j + 1) else (dim0, (st ds (j + 1)).2)) := fun g h => h
            have HPZ : Hid (path ds = pathG ds 0 j → path ds = ((st ds j).1, 0)) := fun h => h
            generalize (st ds j).1 = p at *
            obtain ⟨pf, pt, pa, pl, ph⟩ := p
            replace i6 : Is wr wo.heap.size #[.string pf, .string pt, .int .i64 pa, .int .i64 pl, .int .i64 ph] 49 := i6
            by_cases hlt : j + 1 < k
            · have hlti : (j : Int) + 1 < (k : Int) := by omega
              have hj0 : (0 : Int) ≤ (j : Int) + 1 := by omega
              have hX := HCC.out (j + 1) hlt
              generalize ds.getD (j + 1) dim0 = y at *
              obtain ⟨yf, yt, ya, yl, yh⟩ := y
              have q := rJoinD nz1 nz2
              generalize jnD (pf, pt, pa, pl, ph) (yf, yt, ya, yl, yh) = s2 at *
              obtain ⟨⟨nf, nt, na, nl, nh⟩, ne⟩ := s2
              dsimp only [valDim] at q
              have x0 : wr.cell? ⟨b, off + (j + 1) * 5, none⟩ = some (.string yf) := by have := hX 0 (by omega) wr kx; simpa [encDim] using this
              have x1 : wr.cell? ⟨b, off + (j + 1) * 5 + 1, none⟩ = some (.string yt) := by have := hX 1 (by omega) wr kx; simpa [encDim] using this
              have x2 : wr.cell? ⟨b, off + (j + 1) * 5 + 2, none⟩ = some (.int .i64 ya) := by have := hX 2 (by omega) wr kx; simpa [encDim] using this
              have x3 : wr.cell? ⟨b, off + (j + 1) * 5 + 3, none⟩ = some (.int .i64 yl) := by have := hX 3 (by omega) wr kx; simpa [encDim] using this
              have x4 : wr.cell? ⟨b, off + (j + 1) * 5 + 4, none⟩ = some (.int .i64 yh) := by have := hX 4 (by omega) wr kx; simpa [encDim] using this
              have o0 := i6.c (i := 0) rfl
              have o1 := i6.c (i := 1) rfl
              have o2 := i6.c (i := 2) rfl
              have o3 := i6.c (i := 3) rfl
              have o4 := i6.c (i := 4) rfl
              have Hj := Lib.hid hj
              clear hj hX
              go_wp2_with fail
              have hmx : Try.prog.follows .mixedOrders = true := by kernel_rfl
              have xa0 := cell_al (w := wr.drew) x0 (.cells #[.string ⟨#[]⟩, .string ⟨#[]⟩, .int .i64 0, .int .i64 0, .int .i64 0] 49 (0, 0))
              have xa1 := cell_al (w := wr.drew) x1 (.cells #[.string ⟨#[]⟩, .string ⟨#[]⟩, .int .i64 0, .int .i64 0, .int .i64 0] 49 (0, 0))
              have xa2 := cell_al (w := wr.drew) x2 (.cells #[.string ⟨#[]⟩, .string ⟨#[]⟩, .int .i64 0, .int .i64 0, .int .i64 0] 49 (0, 0))
              have xa3 := cell_al (w := wr.drew) x3 (.cells #[.string ⟨#[]⟩, .string ⟨#[]⟩, .int .i64 0, .int .i64 0, .int .i64 0] 49 (0, 0))
              have xa4 := cell_al (w := wr.drew) x4 (.cells #[.string ⟨#[]⟩, .string ⟨#[]⟩, .int .i64 0, .int .i64 0, .int .i64 0] 49 (0, 0))
              have oa0 := cell_al (w := wr.drew) o0 (.cells #[.string ⟨#[]⟩, .string ⟨#[]⟩, .int .i64 0, .int .i64 0, .int .i64 0] 49 (0, 0))
              have oa1 := cell_al (w := wr.drew) o1 (.cells #[.string ⟨#[]⟩, .string ⟨#[]⟩, .int .i64 0, .int .i64 0, .int .i64 0] 49 (0, 0))
              have oa2 := cell_al (w := wr.drew) o2 (.cells #[.string ⟨#[]⟩, .string ⟨#[]⟩, .int .i64 0, .int .i64 0, .int .i64 0] 49 (0, 0))
              have oa3 := cell_al (w := wr.drew) o3 (.cells #[.string ⟨#[]⟩, .string ⟨#[]⟩, .int .i64 0, .int .i64 0, .int .i64 0] 49 (0, 0))
              have oa4 := cell_al (w := wr.drew) o4 (.cells #[.string ⟨#[]⟩, .string ⟨#[]⟩, .int .i64 0, .int .i64 0, .int .i64 0] 49 (0, 0))
              have hb9 : b < wr.heap.size := Nat.lt_of_lt_of_le hb kx.size
              have hb8 : b ≠ wr.heap.size := Nat.ne_of_lt hb9
              have hw9 : wo.heap.size < wr.heap.size := i6.lt
              have hw8 : wo.heap.size ≠ wr.heap.size := Nat.ne_of_lt hw9
              have hs8 := i2.lt
              refine (wpIn_wide (n := 5)).1 ?_
              gi_region_with_o (refine ⟨trivial, ?_⟩; gi_at_call 32; refine (callsIn_wide.2 (q.out _)).mono ?_; rintro r w5 ⟨rfl, k5⟩; try (have n5 : Is w5 wr.heap.size _ _ := ((Is.made wr.drew #[.string ⟨#[]⟩, .string ⟨#[]⟩, .int .i64 0, .int .i64 0, .int .i64 0] 49)).kb k5; have n50 := n5.c (i := 0) rfl; have n51 := n5.c (i := 1) rfl; have n52 := n5.c (i := 2) rfl; have n53 := n5.c (i := 3) rfl; have n54 := n5.c (i := 4) rfl; have n5f0 := n5.f 0; have n5f1 := n5.f 1; have n5f2 := n5.f 2; have n5f3 := n5.f 3; have n5f4 := n5.f 4))
              all_goals (clear x0 x1 x2 x3 x4 o0 o1 o2 o3 o4 xa0 xa1 xa2 xa3 xa4 oa0 oa1 oa2 oa3 oa4 q HCC)
              all_goals first
                | (have z8 : Is (w5.alloc (.cells #[.string nf, .string nt, .int .i64 na, .int .i64 nl, .int .i64 nh] 49 (0, 0))) w5.heap.size #[.string nf, .string nt, .int .i64 na, .int .i64 nl, .int .i64 nh] 49 := Is.made w5 _ _
                   replace i2 := (i2.kb k5.undrew).alloc (.cells #[.string nf, .string nt, .int .i64 na, .int .i64 nl, .int .i64 nh] 49 (0, 0))
                   replace i6 := (i6.kb k5.undrew).alloc (.cells #[.string nf, .string nt, .int .i64 na, .int .i64 nl, .int .i64 nh] 49 (0, 0))
                   replace kx := (kx.trans k5.undrew).alloc (.cells #[.string nf, .string nt, .int .i64 na, .int .i64 nl, .int .i64 nh] 49 (0, 0))
                   have hg8 : wr.heap.size ≤ w5.heap.size := k5.undrew.size
                   clear k5
                   generalize w5.alloc (.cells #[.string nf, .string nt, .int .i64 na, .int .i64 nl, .int .i64 nh] 49 (0, 0)) = w8 at *
                   generalize w5.heap.size = g8 at *)
                | (obtain ⟨z8, pt8⟩ := put5 n5 (.string nf) (.string nt) (.int .i64 na) (.int .i64 nl) (.int .i64 nh)
                   have kk := ((Kb.refl wr).alloc (.cells #[.string ⟨#[]⟩, .string ⟨#[]⟩, .int .i64 0, .int .i64 0, .int .i64 0] 49 (0, 0))).trans k5.undrew
                   replace i2 := (i2.kb kk).same (pt8.far _ (by omega))
                   replace i6 := (i6.kb kk).same (pt8.far _ hw8)
                   replace kx := pt8.kb (kx.trans kk) (by omega)
                   have hg8 : wr.heap.size ≤ wr.heap.size := Nat.le_refl _
                   clear k5 kk pt8 n5 n50 n51 n52 n53 n54 n5f0 n5f1 n5f2 n5f3 n5f4
                   generalize (((((w5.setCell ⟨wr.heap.size, 0, none⟩ (.string nf)).setCell ⟨wr.heap.size, 1, none⟩ (.string nt)).setCell ⟨wr.heap.size, 2, none⟩ (.int .i64 na)).setCell ⟨wr.heap.size, 3, none⟩ (.int .i64 nl)).setCell ⟨wr.heap.size, 4, none⟩ (.int .i64 nh)) = w8 at *
                   generalize hg : wr.heap.size = g8 at *)
              all_goals
                by_cases he : ne = 0
                · subst he
                  have hp : Hid (path ds = pathG ds (gk - 1) (j + 1)) := by
                    have h1 := HPG.out (gk - 1) (by rw [show gk - 1 + 1 = gk by have := Hj.out; omega]; exact hP.out)
                    rw [HS1.out] at h1
                    exact h1.trans (if_pos rfl)
                  obtain ⟨z6, pt6⟩ := put5 i6 (.string nf) (.string nt) (.int .i64 na) (.int .i64 nl) (.int .i64 nh)
                  have Z := Lib.hid (And.intro (pt6.kb kx (by omega)) (And.intro (i2.same (pt6.far _ (by omega))) z6))
                  have c60 := i6.c (i := 0) rfl
                  have c61 := i6.c (i := 1) rfl
                  have c62 := i6.c (i := 2) rfl
                  have c63 := i6.c (i := 3) rfl
                  have c64 := i6.c (i := 4) rfl
                  have c6f0 := i6.f 0
                  have c6f1 := i6.f 1
                  have c6f2 := i6.f 2
                  have c6f3 := i6.f 3
                  have c6f4 := i6.f 4
                  have c80 := z8.c (i := 0) rfl
                  have c81 := z8.c (i := 1) rfl
                  have c82 := z8.c (i := 2) rfl
                  have c83 := z8.c (i := 3) rfl
                  have c84 := z8.c (i := 4) rfl
                  clear z6 pt6 z8 i6 i2 kx
                  go_wp2
                  have hj := Hj.out
                  go_roundg (gk - 1)
                  case measure => omega
                  case rel => exact ⟨j + 1, by first | go_num | simp, by omega, hp, Z.out.1, Z.out.2.1, by rw [HS1.out]; exact Z.out.2.2⟩
                · have hne : (ne != 0) = true := by simp [he]
                  have hp : Hid (path ds = (dim0, ne)) := by
                    have h1 := HPG.out (gk - 1) (by rw [show gk - 1 + 1 = gk by have := Hj.out; omega]; exact hP.out)
                    rw [HS1.out] at h1
                    exact h1.trans (if_neg he)
                  obtain ⟨z2, pt2⟩ := put5 i2 (.string ⟨#[]⟩) (.string ⟨#[]⟩) (.int .i64 0) (.int .i64 0) (.int .i64 0)
                  have Z := Lib.hid (And.intro z2 (pt2.kb kx (by omega)))
                  have c20 := i2.c (i := 0) rfl
                  have c21 := i2.c (i := 1) rfl
                  have c22 := i2.c (i := 2) rfl
                  have c23 := i2.c (i := 3) rfl
                  have c24 := i2.c (i := 4) rfl
                  have c2f0 := i2.f 0
                  have c2f1 := i2.f 1
                  have c2f2 := i2.f 2
                  have c2f3 := i2.f 3
                  have c2f4 := i2.f 4
                  clear z2 pt2 kx z8 i6
                  go_wp2
                  refine ret_row2 Try.results36 rfl rfl rfl Z.out.1 Try.underlying49 rfl (by kernel_rfl) ?_
                  exact ⟨by rw [hp.out]; rfl, Z.out.2⟩
            · obtain rfl : gk = 0 := by omega
              have hlti : ¬ (j : Int) + 1 < (k : Int) := by omega
              have hp := Lib.hid (HPZ.out hP.out)
              obtain ⟨z2, pt2⟩ := put5 i2 (.string pf) (.string pt) (.int .i64 pa) (.int .i64 pl) (.int .i64 ph)
              have hs8 := i2.lt
              have hw8 : w.heap.size ≤ w.heap.size := Nat.le_refl _
              have Z := Lib.hid (And.intro z2 (pt2.kb kx hw8))
              have c20 := i2.c (i := 0) rfl
              have c21 := i2.c (i := 1) rfl
              have c22 := i2.c (i := 2) rfl
              have c23 := i2.c (i := 3) rfl
              have c24 := i2.c (i := 4) rfl
              have c2f0 := i2.f 0
              have c2f1 := i2.f 1
              have c2f2 := i2.f 2
              have c2f3 := i2.f 3
              have c2f4 := i2.f 4
              have c60 := i6.c (i := 0) rfl
              have c61 := i6.c (i := 1) rfl
              have c62 := i6.c (i := 2) rfl
              have c63 := i6.c (i := 3) rfl
              have c64 := i6.c (i := 4) rfl
              clear z2 pt2 kx i2 i6 HCC
              go_wp2
              refine ret_row2 Try.results36 rfl rfl rfl Z.out.1 Try.underlying49 rfl (by kernel_rfl) ?_
              exact ⟨by rw [hp.out]; rfl, Z.out.2⟩
end Go.Proofs.Ytendjeefggigbaa
