/- dimension.beginnings: what it hands back, as an iterator. -/
import Derived.Test.YtendjeefggigbaaOp2
namespace Go.Proofs.Ytendjeefggigbaa
open Go.RowKit

attribute [local go_sem] Oper.semAt_some
theorem Pt.kx_old {g : Nat} {L : List Nat} {a w w' : World} (h : Pt g w w') (k : Kx L a w) (hg : a.heap.size ≤ g) : Kx L a w' :=
  ⟨h.os.trans k.1, h.tape.trans k.2.1, h.output.trans k.2.2.1, by rw [h.size]; exact k.2.2.2.1, fun i hi hn => (h.far i (by omega)).trans (k.2.2.2.2 i hi hn)⟩
theorem Pt.kl {g B : Nat} {a w w' : World} (h : Pt g w w') (k : Kl B a w) (hg : B ≤ g) : Kl B a w' :=
  ⟨h.os.trans k.1, h.tape.trans k.2.1, h.output.trans k.2.2.1, by rw [h.size]; exact k.2.2.2.1, fun i hi hn => (h.far i (by omega)).trans (k.2.2.2.2 i hi hn)⟩
set_option maxRecDepth 100000 in
set_option maxHeartbeats 4000000 in
theorem begin_it (n : Nat) (hn : 1 ≤ n) (l bx b off cap : Nat) (L : List Nat) (ds : List DimT) (N : Nat) (hlen : ds.length = N) (hN0 : 0 < N) (hN : N ≤ 1000) (J Jx : List DS → World → Prop) (W : World) (hJ : Rests W.heap.size J) (hnz : ∀ d ∈ ds, Nz d)
    (hb : b < W.heap.size) (hbx : bx < W.heap.size) (hl : l < W.heap.size) (hL : ∀ x ∈ L, x < W.heap.size) (hbL : b ∉ l :: L) (hbxL : bx ∉ l :: L)
    (hY : ∀ pre (x : DS) W1, J pre W1 → pre.length < N → YieldAt Fence.wide (n - 1) Try.prog l (encS x) W1 fun e W' =>
      (e = .returned (.bool true) ∧ J (pre ++ [x]) W' ∧ Kx (l :: L) W1 W') ∨ (e = .returned (.bool false) ∧ Jx (pre ++ [x]) W'))
    (hB : W.cell? ⟨bx, 0, none⟩ = some (.slice (some ⟨b, off, none⟩) N cap)) (hc : ∀ j, j < N → ∀ i, i < 5 → W.cell? ⟨b, off + j * 5 + i, none⟩ = some ((encDim (ds.getD j dim0)).getD i undef)) (h0 : J [] W) :
    CallsIn Fence.wide n Try.prog 63 #[.func (.yield l) #[] #[], .pointer (some ⟨bx, 0, none⟩)] W fun e W' => (∃ v, e = .returned v) ∧
      ((∃ ys, ys = upto (st ds) N ∧ J ys W') ∨ (∃ pre, (∃ k, k ≤ N ∧ pre = upto (st ds) k) ∧ Jx pre W')) := by
  have hro : Fence.wide.round = none := rfl
  have hmx : Try.prog.follows .mixedOrders = true := by kernel_rfl
  refine callsIn_of_wp Try.func63 rfl trivial ?_ hro
  simp only [Try.ntmps63, List.size_toArray, List.length_cons, List.length_nil, Nat.reduceAdd, Nat.reduceSub, Array.replicate_succ, Array.replicate_zero, List.push_toArray, List.append_toArray, List.nil_append, List.cons_append]
  have HC := Lib.hid (fun (k : Nat) (hk : k < N) (V : World) (hV : Kx (l :: L) W V) => show ∀ i, i < 5 → V.cell? ⟨b, off + k * 5 + i, none⟩ = some ((encDim (ds.getD k dim0)).getD i undef) from fun i hi => (World.cell?_of_block (w := W) (hV.2.2.2.2 b hb hbL)).trans (hc k hk i hi))
  have HB := Lib.hid (fun (V : World) (hV : Kx (l :: L) W V) => (World.cell?_of_block (w := W) (a := ⟨bx, 0, none⟩) (hV.2.2.2.2 bx hbx hbxL)).trans hB)
  obtain ⟨x0, hx0⟩ : ∃ x, ds.getD 0 dim0 = x := ⟨_, rfl⟩
  have H0 : Hid (st ds 0 = (x0, 0)) := by show (ds.getD 0 dim0, (0 : Int)) = _; rw [hx0]
  have kW : Kx (l :: L) W W := Kx.refl _ _
  have z0 := HC.out 0 hN0 W kW
  rw [hx0] at z0
  obtain ⟨f, t, a, lo, hi⟩ := x0
  have g0 : W.cell? ⟨b, off, none⟩ = some (.string f) := by have := z0 0 (by omega); simpa [encDim] using this
  have g1 : W.cell? ⟨b, off + 1, none⟩ = some (.string t) := by have := z0 1 (by omega); simpa [encDim] using this
  have g2 : W.cell? ⟨b, off + 2, none⟩ = some (.int .i64 a) := by have := z0 2 (by omega); simpa [encDim] using this
  have g3 : W.cell? ⟨b, off + 3, none⟩ = some (.int .i64 lo) := by have := z0 3 (by omega); simpa [encDim] using this
  have g4 : W.cell? ⟨b, off + 4, none⟩ = some (.int .i64 hi) := by have := z0 4 (by omega); simpa [encDim] using this
  have hNi : (0 : Int) < (N : Int) := by omega
  have own := Is.made W #[.string f, .string t, .int .i64 a, .int .i64 lo, .int .i64 hi] 49
  have kOwn : Kx (l :: L) W (W.alloc (.cells #[.string f, .string t, .int .i64 a, .int .i64 lo, .int .i64 hi] 49 (0, 0))) := ((Kb.refl W).alloc _).kx
  have hJ0 := hJ [] W _ h0 ((((Kb.refl W).alloc (.cells #[.string f, .string t, .int .i64 a, .int .i64 lo, .int .i64 hi] 49 (0, 0))).kx (L := [])).kl (by simp))
  have OWN := Lib.hid own
  have HJ0 := Lib.hid hJ0
  have KO := Lib.hid kOwn
  clear own hJ0 kOwn hc z0 hx0 kW h0
  gi_wp2
  gi_loopw [4, 5] (fun e5 i5 wr => ∃ k : Nat, k < N ∧ e5 = .int .i64 (st ds k).2 ∧ i5 = .int .i64 ((k : Int) + 1) ∧ J (upto (st ds) k) wr ∧ Kx (l :: L) W wr ∧ Is wr W.heap.size (encDim (st ds k).1).toArray 49)
    (fun _ i5 _ => N - (intOf i5).toNat)
  case atStart => exact ⟨0, hN0, by rw [H0.out], rfl, HJ0.out, KO.out, by rw [H0.out]; exact OWN.out⟩
  case round =>
    clear OWN HJ0 KO H0 g0 g1 g2 g3 g4
    obtain ⟨k, hk, rfl, rfl, hJs, kx, own⟩ := hrel
    have hpl : (upto (st ds) k).length < N := by rw [upto_length]; exact hk
    obtain ⟨fn, tmps, assign, body, hy, hR⟩ := hY _ (st ds k) _ hJs hpl
    have nz1 := nz_st hnz k
    have nz2 := nz_getD hnz (k + 1)
    have hs1 : Hid (st ds (k + 1) = jnD (st ds k).1 (ds.getD (k + 1) dim0)) := rfl
    have hu := Lib.hid (upto_succ (st ds) k)
    generalize st ds k = s at *
    obtain ⟨⟨pf, pt, pa, pl, ph⟩, pe⟩ := s
    have q := dJoinD nz1 nz2
    unfold Ca at q
    clear nz1 nz2
    replace own : Is wr W.heap.size #[.string pf, .string pt, .int .i64 pa, .int .i64 pl, .int .i64 ph] 49 := own
    have hLL : ∀ x ∈ l :: L, x < W.heap.size := fun x hx => by
      rcases List.mem_cons.1 hx with rfl | h
      · exact hl
      · exact hL x h
    have hnL : W.heap.size ∉ l :: L := fun hx => Nat.lt_irrefl _ (hLL _ hx)
    unfold encS at hy
    dsimp only [valDim] at hy
    replace hR := hR.mono (R' := fun e W' => ∃ r : Bool, e = .returned (.bool r) ∧ ((r = true ∧ J (upto (st ds) (k + 1)) W' ∧ Kx (l :: L) wr W') ∨ (r = false ∧ Jx (upto (st ds) (k + 1)) W'))) (fun e W' h => by
      rw [hu.out]
      rcases h with ⟨h1, h2⟩ | ⟨h1, h2⟩
      · exact ⟨true, h1, .inl ⟨rfl, h2⟩⟩
      · exact ⟨false, h1, .inr ⟨rfl, h2⟩⟩)
    have o0 := own.c (i := 0) rfl
    have o1 := own.c (i := 1) rfl
    have o2 := own.c (i := 2) rfl
    have o3 := own.c (i := 3) rfl
    have o4 := own.c (i := 4) rfl
    have HR := Lib.hid hR
    clear hR hY hB hNi
    by_cases hk1 : k + 1 < N
    · have hlt : (k : Int) + 1 < (N : Int) := by omega
      have hk0 : (0 : Int) ≤ (k : Int) + 1 := by omega
      gi_wp2_with (refine HR.out.mono ?_; rintro e W3 ⟨r, rfl, hr⟩; rcases hr with ⟨rfl, hJ3, hk3⟩ | ⟨rfl, hJ3⟩; have hB3 := HB.out W3 (kx.trans hk3))
      · have kw3 := kx.trans hk3
        have own3 := own.kx hk3 hnL
        have z3 := HC.out (k + 1) hk1 W3 kw3
        have HS1 := hs1
        generalize ds.getD (k + 1) dim0 = y at *
        obtain ⟨yf, yt, ya, yl, yh⟩ := y
        have g0 : W3.cell? ⟨b, off + (k + 1) * 5, none⟩ = some (.string yf) := by have := z3 0 (by omega); simpa [encDim] using this
        have g1 : W3.cell? ⟨b, off + (k + 1) * 5 + 1, none⟩ = some (.string yt) := by have := z3 1 (by omega); simpa [encDim] using this
        have g2 : W3.cell? ⟨b, off + (k + 1) * 5 + 2, none⟩ = some (.int .i64 ya) := by have := z3 2 (by omega); simpa [encDim] using this
        have g3 : W3.cell? ⟨b, off + (k + 1) * 5 + 3, none⟩ = some (.int .i64 yl) := by have := z3 3 (by omega); simpa [encDim] using this
        have g4 : W3.cell? ⟨b, off + (k + 1) * 5 + 4, none⟩ = some (.int .i64 yh) := by have := z3 4 (by omega); simpa [encDim] using this
        generalize jnD (pf, pt, pa, pl, ph) (yf, yt, ya, yl, yh) = s2 at *
        obtain ⟨⟨nf, nt, na, nl, nh⟩, ne⟩ := s2
        dsimp only [valDim] at q
        have o0 := own3.c (i := 0) rfl
        have o1 := own3.c (i := 1) rfl
        have o2 := own3.c (i := 2) rfl
        have o3 := own3.c (i := 3) rfl
        have o4 := own3.c (i := 4) rfl
        have HC2 := HC
        clear z3 HC HB HR hs1 hJs hu
        gi_region_with_o (refine ⟨trivial, ?_⟩; gi_at_call 31; refine (callsIn_wide.2 (q.out _)).mono ?_; rintro e w4 ⟨rfl, k4⟩; have own4 := (own3.drew).kb k4; have p0 := own4.c (i := 0) rfl; have p1 := own4.c (i := 1) rfl; have p2 := own4.c (i := 2) rfl; have p3 := own4.c (i := 3) rfl; have p4 := own4.c (i := 4) rfl; have pf_ := own4.f; have pf0 := pf_ 0; have pf1 := pf_ 1; have pf2 := pf_ 2; have pf3 := pf_ 3; have pf4 := pf_ 4; clear pf_)
        all_goals
          obtain ⟨is5, pt5⟩ := put5 own4 (.string nf) (.string nt) (.int .i64 na) (.int .i64 nl) (.int .i64 nh)
          clear p0 p1 p2 p3 p4 pf0 pf1 pf2 pf3 pf4 o0 o1 o2 o3 o4 g0 g1 g2 g3 g4 hB3 q
          have k5 := pt5.kx_old (kw3.trans k4.undrew.kx) (Nat.le_refl _)
          have hJ5 := hJ _ _ _ hJ3 (pt5.kl ((k4.undrew.kx (L := [])).kl (B := W.heap.size) (by simp)) (Nat.le_refl _))
          clear pt5 own4 k4 kw3 hk3 own3 hJ3 kx own
        all_goals gi_wp2
        all_goals
          go_roundw
          case rel => exact ⟨k + 1, hk1, by rw [HS1.out], by simp, hJ5, k5, by rw [HS1.out]; exact is5⟩
          case measure => simp [intOf]; omega
      · go_end0
        exact ⟨⟨_, rfl⟩, .inr ⟨_, ⟨k + 1, by omega, rfl⟩, hJ3⟩⟩
    · have hlt : ¬ (k : Int) + 1 < (N : Int) := by omega
      have hkN : k + 1 = N := by omega
      gi_wp2_with (refine HR.out.mono ?_; rintro e W3 ⟨r, rfl, hr⟩; rcases hr with ⟨rfl, hJ3, hk3⟩ | ⟨rfl, hJ3⟩; have hB3 := HB.out W3 (kx.trans hk3))
      · go_end0
        rw [hkN] at hJ3
        exact ⟨⟨_, rfl⟩, .inl ⟨_, rfl, hJ3⟩⟩
      · go_end0
        exact ⟨⟨_, rfl⟩, .inr ⟨_, ⟨k + 1, by omega, rfl⟩, hJ3⟩⟩
end Go.Proofs.Ytendjeefggigbaa
