/- dimension.Path. -/
import Derived.Test.YtendjeefggigbaaOp3
namespace Go.Proofs.Ytendjeefggigbaa
open Go.RowKit

theorem begin_seq (n : Nat) (hn : 1 ≤ n) (bx b off cap : Nat) (L : List Nat) (ds : List DimT) (N : Nat) (hN0 : 0 < N) (hN : N ≤ 1000) (w : World) (hnz : ∀ d ∈ ds, Nz d) (hL : ∀ x ∈ L, x < w.heap.size) (hbL : b ∉ L) (hbxL : bx ∉ L) (hb : b < w.heap.size) (hbx : bx < w.heap.size)
    (hB : w.cell? ⟨bx, 0, none⟩ = some (.slice (some ⟨b, off, none⟩) N cap)) (hc : ∀ j, j < N → ∀ i, i < 5 → w.cell? ⟨b, off + j * 5 + i, none⟩ = some ((encDim (ds.getD j dim0)).getD i undef)) (hlen : ds.length = N) :
    SeqC n Try.prog 63 #[.pointer (some ⟨bx, 0, none⟩)] encS L (fun ys => ys = upto (st ds) N) (fun pre => ∃ k, k ≤ N ∧ pre = upto (st ds) k) N w := fun l J Jx W hl hlt hk hJ hY h0 =>
  begin_it n hn l bx b off cap L ds N hlen hN0 hN J Jx W hJ hnz (Nat.lt_of_lt_of_le hb hk.2.2.2.1) (Nat.lt_of_lt_of_le hbx hk.2.2.2.1) hlt (fun x hx => Nat.lt_of_lt_of_le (hL x hx) hk.2.2.2.1)
    (fun h => by rcases List.mem_cons.1 h with h | h; (· omega); (· exact hbL h)) (fun h => by rcases List.mem_cons.1 h with h | h; (· omega); (· exact hbxL h)) hY (hk.nil.cell hB) (fun j hj i hi => hk.nil.cell (hc j hj i hi)) h0

theorem path_res (W : World) (b c : Nat) (cs : Array Value) (e : Int) (tmps : Array Value) (h2 : tmps.getD 2 undef = .pointer (some ⟨b, 0, none⟩)) (h3 : tmps.getD 3 undef = .pointer (some ⟨c, 0, none⟩)) (is : Is W b cs 49) (hs : cs.size = 5)
    (i2 : Is W c #[.int .i64 e] 26) : (results Try.f35 tmps).run Try.prog W = .ok (.tuple #[.agg cs, .int .i64 e]) W := by
  have h := run_loadVar_row (P := Try.prog) W b 49 49 cs (0, 0) _ is Try.underlying49 rfl (by rw [hs]; kernel_rfl)
  have c0 := i2.c (i := 0) rfl
  have h4 : (loadVar 26 ⟨c, 0, none⟩).run Try.prog W = .ok (.int .i64 e) W := by
    simp [go_sem, c0]
  simp only [Array.getD_eq_getD_getElem?] at h2 h3
  simp [results, Try.results35, h2, h3, asAddr, h, h4]

def vdD : DimT → Int | (f, t, a, l, h) => vdE f t a l h
def pathG (ds : List DimT) : Nat → Nat → DS
  | 0, k => ((st ds k).1, 0)
  | g + 1, k => if (st ds (k + 1)).2 = 0 then pathG ds g (k + 1) else (dim0, (st ds (k + 1)).2)
def pathE (ds : List DimT) : Int := firstE [firstE (ds.map vdD), fE ((ds.length : Int) == 0) 13, fE (decide (256 < (ds.length : Int))) 5]
def path (ds : List DimT) : DS := if pathE ds = 0 then pathG ds (ds.length - 1) 0 else (dim0, pathE ds)
theorem pathG_ok (ds : List DimT) : ∀ g k, (∀ j, k < j → j ≤ k + g → (st ds j).2 = 0) → pathG ds g k = ((st ds (k + g)).1, 0)
  | 0, _, _ => rfl
  | g + 1, k, h => by
    unfold pathG
    rw [if_pos (h (k + 1) (by omega) (by omega)), pathG_ok ds g (k + 1) (fun j h1 h2 => h j (by omega) (by omega)), show k + 1 + g = k + (g + 1) by omega]
theorem pathG_er (ds : List DimT) : ∀ g k m, k < m → m ≤ k + g → (∀ j, k < j → j < m → (st ds j).2 = 0) → (st ds m).2 ≠ 0 → pathG ds g k = (dim0, (st ds m).2)
  | 0, k, m, h1, h2, _, _ => by omega
  | g + 1, k, m, h1, h2, h3, h4 => by
    unfold pathG
    by_cases e : m = k + 1
    · subst e; rw [if_neg h4]
    · rw [if_pos (h3 (k + 1) (by omega) (by omega))]
      exact pathG_er ds g (k + 1) m (by omega) (by omega) (fun j h5 h6 => h3 j (by omega) h6) h4
theorem dValidD {d : DimT} (h : Nz d) : Ca 33 #[valDim d] (.int .i64 (vdD d)) := by
  obtain ⟨f, t, a, l, h'⟩ := d
  exact dValid f t a l h' h.1 h.2
theorem map_getD {ds : List DimT} {i : Nat} (h : i < ds.length) (d : DimT) : (ds.map vdD).getD i 0 = vdD (ds.getD i d) := by simp [List.getD_eq_getElem?_getD, h]

theorem Pt.kx {g : Nat} {L : List Nat} {w w' : World} (h : Pt g w w') (hg : g ∈ L) : Kx L w w' :=
  ⟨h.os, h.tape, h.output, Nat.le_of_eq h.size.symm, fun i _ hn => h.far i (fun e => hn (e ▸ hg))⟩
def lastD (pre : List DS) : DimT := (pre.getLast?.map (·.1)).getD dim0
theorem lastD_snoc (pre : List DS) (x : DS) : lastD (pre ++ [x]) = x.1 := by simp [lastD]
def PI (s2 s3 s5 : Nat) (w : World) (pre : List DS) (W : World) : Prop := (∀ x ∈ pre, x.2 = 0) ∧ Is W s5 (encDim (lastD pre)).toArray 49 ∧ Is W s2 #[.string ⟨#[]⟩, .string ⟨#[]⟩, .int .i64 0, .int .i64 0, .int .i64 0] 49 ∧ Is W s3 #[.int .i64 0] 26 ∧ Kb w W
def PX (s2 s3 : Nat) (w : World) (pre : List DS) (W : World) : Prop := ∃ p x, pre = p ++ [x] ∧ (∀ y ∈ p, y.2 = 0) ∧ x.2 ≠ 0 ∧ Is W s2 #[.string ⟨#[]⟩, .string ⟨#[]⟩, .int .i64 0, .int .i64 0, .int .i64 0] 49 ∧ Is W s3 #[.int .i64 x.2] 26 ∧ Kb w W
theorem PI.rests {s2 s3 s5 B : Nat} {w : World} (h2 : s2 < B) (h3 : s3 < B) (h5 : s5 < B) (hw : w.heap.size ≤ B) : Rests B (PI s2 s3 s5 w) := fun _ _ _ h k => ⟨h.1, h.2.1.kl k h5, h.2.2.1.kl k h2, h.2.2.2.1.kl k h3, h.2.2.2.2.kl k hw⟩
theorem PX.rests {s2 s3 B : Nat} {w : World} (h2 : s2 < B) (h3 : s3 < B) (hw : w.heap.size ≤ B) : Rests B (PX s2 s3 w) := fun _ _ _ ⟨p, x, e, h, hx, i2, i3, kb⟩ k => ⟨p, x, e, h, hx, i2.kl k h2, i3.kl k h3, kb.kl k hw⟩
theorem n0_of {E1 : Int} {N : Nat} {X : Int} (h : (0 : Int) = firstE [E1, fE ((N : Int) == 0) 13, X]) : 0 < N := by
  rcases Nat.eq_zero_or_pos N with e | e
  · subst e
    by_cases h1 : E1 = 0
    · subst h1
      rw [fst_0, show (((0 : Nat) : Int) == 0) = true from rfl, fE_t, fst_e (by decide)] at h
      cases h
    · rw [fst_e h1] at h
      exact absurd h.symm h1
  · exact e

attribute [local go_sem] Oper.semAt_some
set_option maxRecDepth 100000 in
set_option maxHeartbeats 4000000 in
theorem dPath (ds : List DimT) (sv : Value) (w : World) (hs : Sl [] 5 w sv (ds.map encDim)) (hn : ds.length ≤ 1000) (hnz : ∀ d ∈ ds, Nz d) :
    Calls Try.prog 35 #[sv] w fun r W' => r = .returned (.tuple (encS (path ds))) ∧ Kb w W' := by
  refine (callsIn_wide (n := 5)).1 ?_
  refine callsIn_of_wp_marks Try.func35 rfl trivial ?_ rfl
  simp only [Try.ntmps35, List.size_toArray, List.length_cons, List.length_nil, Nat.reduceAdd, Nat.reduceSub, Array.replicate_succ, Array.replicate_zero, List.push_toArray, List.append_toArray, List.nil_append, List.cons_append]
  refine wpIn_wide.2 ?_
  have hs0 := hs
  obtain ⟨sp, cap, hv, hs1⟩ := hs0
  rw [List.length_map] at hv hs1
  subst hv
  have kx := ((Kb.refl w).alloc (.cells #[.string ⟨#[]⟩, .string ⟨#[]⟩, .int .i64 0, .int .i64 0, .int .i64 0] 49 (0, 0))).alloc (.cells #[.int .i64 0] 26 (0, 0))
  have b2 := (Is.made w #[.string ⟨#[]⟩, .string ⟨#[]⟩, .int .i64 0, .int .i64 0, .int .i64 0] 49).alloc (.cells #[.int .i64 0] 26 (0, 0))
  have b3 := Is.made (w.alloc (.cells #[.string ⟨#[]⟩, .string ⟨#[]⟩, .int .i64 0, .int .i64 0, .int .i64 0] 49 (0, 0))) #[.int .i64 0] 26
  rw [World.size_alloc] at b3
  have HS := Lib.hid hs
  have HS1 := Lib.hid hs1
  have HE := Lib.hid (show firstE (ds.map vdD) = firstE (ds.map vdD) from rfl)
  have H1 : Hid (pathE ds = firstE [firstE (ds.map vdD), fE ((ds.length : Int) == 0) 13, fE (decide (256 < (ds.length : Int))) 5]) := rfl
  have HP : Hid (path ds = if pathE ds = 0 then pathG ds (ds.length - 1) 0 else (dim0, pathE ds)) := rfl
  have EA := Lib.hid (fun (V : World) (k : Kb w V) => cEach_Dim [] 33 dim0 ds (ds.map vdD) _ V (by simp) (by omega) (by simp) (hs.kb k) (enters_of Try.func33 (by kernel_rfl) rfl) (fun i hi => by rw [map_getD hi dim0]; exact dValidD (nz_getD hnz i)))
  clear hs hs1
  generalize hE1 : firstE (ds.map vdD) = E1 at *
  generalize hN : ds.length = N at *
  go_wp2_with fail
  (with_reducible refine (EA.out _ kx).mono ?_)
  rintro r w1 ⟨v1, rfl, c1, k1⟩
  obtain ⟨F1, a1, e1, f1, g1⟩ := c1
  subst e1
  replace kx := kx.trans k1
  replace b2 := b2.kb k1
  replace b3 := b3.kb k1
  go_wp2_with fail
  (refine (cWhen [] _ _ _ (by simp)).mono ?_)
  rintro r w2 ⟨v2, rfl, c2, k2⟩
  obtain ⟨F2, a2, e2, f2, g2⟩ := c2
  subst e2
  replace kx := kx.trans k2
  replace b2 := b2.kb k2
  replace b3 := b3.kb k2
  go_wp2_with fail
  (refine (cWhen [] _ _ _ (by simp)).mono ?_)
  rintro r w3 ⟨v3, rfl, c3, k3⟩
  obtain ⟨F3, a3, e3, f3, g3⟩ := c3
  subst e3
  replace kx := kx.trans k3
  replace b2 := b2.kb k3
  replace b3 := b3.kb k3
  have kz : Kb w3 (w3.alloc (.cells #[.func (.func F1) #[] a1, .func (.func F2) #[] a2, .func (.func F3) #[] a3] 72 (0, 0))) := (Kb.refl w3).alloc _
  replace b2 := b2.kb kz
  replace b3 := b3.kb kz
  have sl : SlC [] [E1, fE ((N : Int) == 0) 13, fE (decide (256 < (N : Int))) 5] (.slice (some ⟨w3.heap.size, 0, none⟩) 3 3) (w3.alloc (.cells #[.func (.func F1) #[] a1, .func (.func F2) #[] a2, .func (.func F3) #[] a3] 72 (0, 0))) :=
    ⟨[.func (.func F1) #[] a1, .func (.func F2) #[] a2, .func (.func F3) #[] a3], rfl, sl_is (Is.made w3 _ _) (by simp) rfl (rows_ok rfl rfl), cks_ok ⟨Ck.kx ⟨F1, a1, rfl, f1, g1⟩ (k2.trans (k3.trans kz)).kx, Ck.kx ⟨F2, a2, rfl, f2, g2⟩ (k3.trans kz).kx, Ck.kx ⟨F3, a3, rfl, f3, g3⟩ kz.kx, trivial⟩ rfl⟩
  have SL := Lib.hid sl
  clear f1 g1 f2 g2 f3 g3 sl EA hE1
  generalize pathE ds = E at *
  go_wp2_with fail
  replace kx := kx.trans kz
  clear k1 k2 k3 kz
  (refine (cFirst [] _ _ _ SL.out (by simp)).mono ?_)
  rintro r w4 ⟨rfl, k4⟩
  clear SL
  rw [← H1.out]
  replace kx := kx.trans k4
  replace b2 := b2.kb k4
  replace b3 := b3.kb k4
  clear k4
  by_cases hE : E = 0
  · have HP2 : Hid (path ds = pathG ds (N - 1) 0) := HP.out.trans (if_pos hE)
    subst hE
    have hN0 := n0_of H1.out
    obtain ⟨b, off, rfl, hb, _, hcell⟩ := HS1.out hN0
    have hc : ∀ j, j < N → ∀ i, i < 5 → w.cell? ⟨b, off + j * 5 + i, none⟩ = some ((encDim (ds.getD j dim0)).getD i undef) := fun j hj i hi => by
      rw [hcell j hj i hi, show (ds.map encDim).getD j [] = encDim (ds.getD j dim0) by simp [List.getD_eq_getElem?_getD, show j < ds.length by omega]]
    have HC := Lib.hid hc
    clear hc hcell HS HS1 H1 HP
    go_wp2_with fail
    (refine (begin_c _ _ _ _).mono ?_)
    rintro r w5 ⟨rfl, rfl⟩
    go_wp2_with fail
    have i2 := (b2.alloc (.cells #[.string ⟨#[]⟩, .string ⟨#[]⟩, .int .i64 0, .int .i64 0, .int .i64 0] 49 (0, 0))).alloc (.cells #[.slice (some ⟨b, off, none⟩) N cap] 51 (0, 0))
    have i3 := (b3.alloc (.cells #[.string ⟨#[]⟩, .string ⟨#[]⟩, .int .i64 0, .int .i64 0, .int .i64 0] 49 (0, 0))).alloc (.cells #[.slice (some ⟨b, off, none⟩) N cap] 51 (0, 0))
    have i5 := (Is.made w4 #[.string ⟨#[]⟩, .string ⟨#[]⟩, .int .i64 0, .int .i64 0, .int .i64 0] 49).alloc (.cells #[.slice (some ⟨b, off, none⟩) N cap] 51 (0, 0))
    have ix := Is.made (w4.alloc (.cells #[.string ⟨#[]⟩, .string ⟨#[]⟩, .int .i64 0, .int .i64 0, .int .i64 0] 49 (0, 0))) #[.slice (some ⟨b, off, none⟩) N cap] 51
    rw [World.size_alloc] at ix
    have kv := (kx.alloc (.cells #[.string ⟨#[]⟩, .string ⟨#[]⟩, .int .i64 0, .int .i64 0, .int .i64 0] 49 (0, 0))).alloc (.cells #[.slice (some ⟨b, off, none⟩) N cap] 51 (0, 0))
    have hz4 : w.heap.size + 2 ≤ w4.heap.size := by have := b3.lt; omega
    have hsz : ((w4.alloc (.cells #[.string ⟨#[]⟩, .string ⟨#[]⟩, .int .i64 0, .int .i64 0, .int .i64 0] 49 (0, 0))).alloc (.cells #[.slice (some ⟨b, off, none⟩) N cap] 51 (0, 0))).heap.size = w4.heap.size + 2 := by simp
    have bxc := ix.c (i := 0) rfl
    clear b2 b3 kx ix
    refine (wpIn_wide (n := 5)).1 ?_
    generalize hV : (w4.alloc (.cells #[.string ⟨#[]⟩, .string ⟨#[]⟩, .int .i64 0, .int .i64 0, .int .i64 0] 49 (0, 0))).alloc (.cells #[.slice (some ⟨b, off, none⟩) N cap] 51 (0, 0)) = V at *
    refine loopC (by omega) (gf := 63) (lb := #[.pointer (some ⟨w4.heap.size + 1, 0, none⟩)]) (L := [w.heap.size, w.heap.size + 1, w4.heap.size]) rfl (enters_of Try.func63 (by kernel_rfl) rfl)
      (begin_seq (5 - 1) (by omega) (w4.heap.size + 1) b off cap [w.heap.size, w.heap.size + 1, w4.heap.size] ds N hN0 hn V hnz (by intro x hx; simp at hx; omega) (by simp; omega) (by simp; omega) (by omega) (by omega) bxc (fun j hj i hi => kv.cell (HC.out j hj i hi)) hN)
      (by intro x hx; simp at hx; omega) (fun _ => rfl) (PI w.heap.size (w.heap.size + 1) w4.heap.size w) (PX w.heap.size (w.heap.size + 1) w) (PI.rests (by omega) (by omega) (by omega) (by omega)) (PX.rests (by omega) (by omega) (by omega)) ⟨by simp, i5, i2, i3, kv⟩ ?round ?done ?stop
    case round =>
      clear i2 i3 i5 bxc kv
      rintro l pre ⟨⟨f, t, a, lo, hi⟩, e⟩ W ⟨hz, i5, i2, i3, kx⟩ hlt hl1 hl2
      simp only [encS, valDim, List.zip_toArray, List.zip_cons_cons, List.zip_nil_left, List.foldl_toArray, List.foldl_cons, List.foldl_nil, List.setIfInBounds_toArray, List.set_cons_succ, List.set_cons_zero]
      gi_wp2
      have i6 := Is.made W #[.string f, .string t, .int .i64 a, .int .i64 lo, .int .i64 hi] 49
      have k6 := (Kb.refl W).alloc (.cells #[.string f, .string t, .int .i64 a, .int .i64 lo, .int .i64 hi] 49 (0, 0))
      replace i5 := i5.alloc (.cells #[.string f, .string t, .int .i64 a, .int .i64 lo, .int .i64 hi] 49 (0, 0))
      replace i2 := i2.alloc (.cells #[.string f, .string t, .int .i64 a, .int .i64 lo, .int .i64 hi] 49 (0, 0))
      replace i3 := i3.alloc (.cells #[.string f, .string t, .int .i64 a, .int .i64 lo, .int .i64 hi] 49 (0, 0))
      replace kx := kx.alloc (.cells #[.string f, .string t, .int .i64 a, .int .i64 lo, .int .i64 hi] 49 (0, 0))
      generalize lastD pre = d at *
      obtain ⟨df, dt, da, dl, dh⟩ := d
      replace i5 : Is _ _ #[.string df, .string dt, .int .i64 da, .int .i64 dl, .int .i64 dh] _ := i5
      generalize W.alloc (.cells #[.string f, .string t, .int .i64 a, .int .i64 lo, .int .i64 hi] 49 (0, 0)) = Wa at *
      refine ⟨k6.kx, fun W2 k2 hz2 => ?_⟩
      replace i6 := i6.kx k2 (by simp; omega)
      replace i5 := i5.kx k2 (by simp; omega)
      replace i2 := i2.kx k2 (by simp; omega)
      replace i3 := i3.kx k2 (by simp; omega)
      replace kx := k2.old kx (by intro x hx; simp at hx; omega)
      by_cases he : e = 0
      · subst he
        obtain ⟨z5, pt5⟩ := put5 i5 (.string f) (.string t) (.int .i64 a) (.int .i64 lo) (.int .i64 hi)
        have Z := Lib.hid (show Kx [w.heap.size, w.heap.size + 1, w4.heap.size] W2 _ ∧ PI w.heap.size (w.heap.size + 1) w4.heap.size w (pre ++ [((f, t, a, lo, hi), 0)]) _ from ⟨pt5.kx (by simp), (fun y hy => by rcases List.mem_append.1 hy with h | h; (· exact hz y h); (· simp at h; rw [h])), by rw [lastD_snoc]; exact z5, i2.same (pt5.far _ (by omega)), i3.same (pt5.far _ (by omega)), pt5.kb kx (by omega)⟩)
        have c60 := i6.c (i := 0) rfl
        have c61 := i6.c (i := 1) rfl
        have c62 := i6.c (i := 2) rfl
        have c63 := i6.c (i := 3) rfl
        have c64 := i6.c (i := 4) rfl
        have c50 := i5.c (i := 0) rfl
        have c51 := i5.c (i := 1) rfl
        have c52 := i5.c (i := 2) rfl
        have c53 := i5.c (i := 3) rfl
        have c54 := i5.c (i := 4) rfl
        have c5f0 := i5.f 0
        have c5f1 := i5.f 1
        have c5f2 := i5.f 2
        have c5f3 := i5.f 3
        have c5f4 := i5.f 4
        clear z5 pt5 i6 i5 i2 i3 kx k2 hz2 k6
        gi_wp2
        exact Z.out
      · have hne : (e != 0) = true := by simp [he]
        obtain ⟨z2, pt2⟩ := put5 i2 (.string ⟨#[]⟩) (.string ⟨#[]⟩) (.int .i64 0) (.int .i64 0) (.int .i64 0)
        have z3 := (i3.same (pt2.far _ (by omega))).set 0 (.int .i64 e)
        have kz := (pt2.kb kx (by omega)).setCell (p := ⟨w.heap.size + 1, 0, none⟩) (by simp) (.int .i64 e)
        replace z2 := z2.far (p := ⟨w.heap.size + 1, 0, none⟩) (by simp) (.int .i64 e)
        have Z := Lib.hid (show Kx [w.heap.size, w.heap.size + 1, w4.heap.size] W2 _ ∧ PX w.heap.size (w.heap.size + 1) w (pre ++ [((f, t, a, lo, hi), e)]) _ from ⟨(pt2.kx (by simp)).trans (Kx.set _ _ (p := ⟨w.heap.size + 1, 0, none⟩) (by simp) (.int .i64 e)), pre, _, rfl, hz, he, z2, z3, kz⟩)
        have c20 := i2.c (i := 0) rfl
        have c21 := i2.c (i := 1) rfl
        have c22 := i2.c (i := 2) rfl
        have c23 := i2.c (i := 3) rfl
        have c24 := i2.c (i := 4) rfl
        have c2f0 := i2.f 0
        have c2f1 := i2.f 1
        have c2f2 := i2.f 2
        have c2f3 := i2.f 3
        have c2f4 := i2.f 4
        have c30 := i3.c (i := 0) rfl
        have c3f0 := i3.f 0
        clear z2 z3 kz pt2 i6 i5 i2 i3 kx k2 hz2 k6
        gi_wp2
        exact Z.out
    case done =>
      clear i2 i3 i5 bxc kv
      rintro D xs W rfl ⟨hz, i5, i2, i3, kx⟩ hK hD
      have hlast : lastD (upto (st ds) N) = (st ds (N - 1)).1 := by
        obtain ⟨m, rfl⟩ : ∃ m, N = m + 1 := ⟨N - 1, by omega⟩
        rw [upto_succ, lastD_snoc]; rfl
      have hpg : path ds = ((st ds (N - 1)).1, 0) := HP2.out.trans (by
        have := pathG_ok ds (N - 1) 0 (fun j h1 h2 => hz _ (List.mem_map.2 ⟨j, List.mem_range.2 (by omega), rfl⟩))
        rwa [Nat.zero_add] at this)
      rw [hlast] at i5
      clear hlast hz HP2 HC
      generalize (st ds (N - 1)).1 = d at *
      obtain ⟨df, dt, da, dl, dh⟩ := d
      replace i5 : Is _ _ #[.string df, .string dt, .int .i64 da, .int .i64 dl, .int .i64 dh] _ := i5
      have HPG := Lib.hid hpg
      clear hpg
      obtain ⟨z2, pt2⟩ := put5 i2 (.string df) (.string dt) (.int .i64 da) (.int .i64 dl) (.int .i64 dh)
      have z3 := (i3.same (pt2.far _ (by omega))).set 0 (.int .i64 0)
      have kz := (pt2.kb kx (by omega)).setCell (p := ⟨w.heap.size + 1, 0, none⟩) (by simp) (.int .i64 0)
      replace z2 := z2.far (p := ⟨w.heap.size + 1, 0, none⟩) (by simp) (.int .i64 0)
      have kD := (Below.heap_setCell _ ⟨w.heap.size + 1, 0, none⟩ (.int .i64 0) D (by simp; omega)).trans ((pt2.far D (by omega)).trans hK)
      have Z := Lib.hid (And.intro z2 (And.intro z3 (And.intro kz kD)))
      have c50 := i5.c (i := 0) rfl
      have c51 := i5.c (i := 1) rfl
      have c52 := i5.c (i := 2) rfl
      have c53 := i5.c (i := 3) rfl
      have c54 := i5.c (i := 4) rfl
      have c5f0 := i5.f 0
      have c5f1 := i5.f 1
      have c5f2 := i5.f 2
      have c5f3 := i5.f 3
      have c5f4 := i5.f 4
      have c20 := i2.c (i := 0) rfl
      have c21 := i2.c (i := 1) rfl
      have c22 := i2.c (i := 2) rfl
      have c23 := i2.c (i := 3) rfl
      have c24 := i2.c (i := 4) rfl
      have c2f0 := i2.f 0
      have c2f1 := i2.f 1
      have c2f2 := i2.f 2
      have c2f3 := i2.f 3
      have c2f4 := i2.f 4
      have c30 := i3.c (i := 0) rfl
      have c3f0 := i3.f 0
      clear z2 z3 kz pt2 i5 i2 i3 kx kD
      go_wp2
      refine ⟨by simp, .inl ⟨_, _, rfl, run_takeDeferred Z.out.2.2.2, ?_⟩⟩
      exact ⟨_, path_res _ _ _ _ _ _ rfl rfl (Z.out.1.same (World.putObj_heap_other (by omega))) rfl (Z.out.2.1.same (World.putObj_heap_other (by omega))), by rw [HPG.out]; rfl, (Kx.put _ D _).old Z.out.2.2.1 (by intro x hx; simp at hx; omega)⟩
    case stop =>
      clear i2 i3 i5 bxc kv
      rintro D pre W ⟨k, hk, rfl⟩ ⟨p, x, ep, hz, hx, i2, i3, kx⟩ hK hD
      obtain ⟨m, rfl⟩ : ∃ m, k = m + 1 := ⟨k - 1, by rcases Nat.eq_zero_or_pos k with e | e; (· subst e; simp [upto] at ep); (· omega)⟩
      rw [upto_succ] at ep
      obtain ⟨rfl, e2⟩ := List.append_inj' ep rfl
      obtain rfl : st ds m = x := by simpa using e2
      have hm0 : m ≠ 0 := fun e => by subst e; exact hx rfl
      have hpg : path ds = (dim0, (st ds m).2) := HP2.out.trans (pathG_er ds (N - 1) 0 m (by omega) (by omega) (fun j h1 h2 => hz _ (List.mem_map.2 ⟨j, List.mem_range.2 h2, rfl⟩)) hx)
      refine ⟨by simp, .inl ⟨_, _, rfl, run_takeDeferred hK, ?_⟩⟩
      exact ⟨_, path_res _ _ _ _ _ _ rfl rfl (i2.same (World.putObj_heap_other (by omega))) rfl (i3.same (World.putObj_heap_other (by omega))), by rw [hpg]; rfl, (Kx.put _ D _).old kx (by intro x hx; simp at hx; omega)⟩
  · have HP2 : Hid (path ds = (dim0, E)) := HP.out.trans (if_neg hE)
    have hne : (E != 0) = true := by simp [hE]
    clear HP H1 HS HS1
    obtain ⟨z2, pt2⟩ := put5 b2 (.string ⟨#[]⟩) (.string ⟨#[]⟩) (.int .i64 0) (.int .i64 0) (.int .i64 0)
    have z3 := (b3.same (pt2.far _ (by omega))).set 0 (.int .i64 E)
    have kz := (pt2.kb kx (by omega)).setCell (p := ⟨w.heap.size + 1, 0, none⟩) (by simp) (.int .i64 E)
    replace z2 := z2.far (p := ⟨w.heap.size + 1, 0, none⟩) (by simp) (.int .i64 E)
    have Z := Lib.hid (And.intro z2 (And.intro z3 kz))
    have c20 := b2.c (i := 0) rfl
    have c21 := b2.c (i := 1) rfl
    have c22 := b2.c (i := 2) rfl
    have c23 := b2.c (i := 3) rfl
    have c24 := b2.c (i := 4) rfl
    have c30 := b3.c (i := 0) rfl
    have c20f := b2.f 0
    have c21f := b2.f 1
    have c22f := b2.f 2
    have c23f := b2.f 3
    have c24f := b2.f 4
    have c30f := b3.f 0
    clear z2 z3 kz pt2 b2 b3 kx
    go_wp2
    exact ⟨_, path_res _ _ _ _ _ _ rfl rfl Z.out.1 rfl Z.out.2.1, by rw [HP2.out]; rfl, Z.out.2.2⟩
end Go.Proofs.Ytendjeefggigbaa
