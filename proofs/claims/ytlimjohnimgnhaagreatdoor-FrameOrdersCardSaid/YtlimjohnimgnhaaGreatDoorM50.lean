/- Texts Up3, Up8, OpenFtr: each says in its own first comment what it proves. -/
import Derived.Test.YtlimjohnimgnhaaGreatDoorM49
import Derived.Test.YtlimjohnimgnhaaGreatDoorM32
import Derived.Test.YtlimjohnimgnhaaGreatDoorM34
import Derived.Test.YtlimjohnimgnhaaGreatDoorM22
import Derived.Deep.SlicePairs
import Derived.ChangeArms
/- Frames: checkFrames. -/
namespace Go.Proofs.YtlimjohnimgnhaaGreatDoor
open Go.RowKit

/-- which kinds have been seen -/
def seenC (b : List FrT) : Array Value := #[.bool (knB b 0), .bool (knB b 1), .bool (knB b 2), .bool (knB b 3), .bool (knB b 4), .bool (knB b 5), .bool (knB b 6), .bool (knB b 7), .bool (knB b 8)]
theorem knB_snoc (b : List FrT) (f : FrT) (k : Int) : knB (b ++ [f]) k = (knB b k || f.k == k) := by unfold knB; simp
theorem seenC_at (b : List FrT) {q : Nat} (h : q < 9) : (seenC b)[q]? = some (.bool (knB b (q : Int))) := by
  rcases (show q = 0 ∨ q = 1 ∨ q = 2 ∨ q = 3 ∨ q = 4 ∨ q = 5 ∨ q = 6 ∨ q = 7 ∨ q = 8 by omega) with rfl | rfl | rfl | rfl | rfl | rfl | rfl | rfl | rfl <;> rfl
theorem seenC_set (b : List FrT) {q : Nat} (h : q < 9) (d : Bool) (t m : Int) (ds : List DatT) : (seenC b).setIfInBounds q (.bool true) = seenC (b ++ [⟨(q : Int), d, t, m, ds⟩]) := by
  unfold seenC
  simp only [knB_snoc]
  rcases (show q = 0 ∨ q = 1 ∨ q = 2 ∨ q = 3 ∨ q = 4 ∨ q = 5 ∨ q = 6 ∨ q = 7 ∨ q = 8 by omega) with rfl | rfl | rfl | rfl | rfl | rfl | rfl | rfl | rfl <;> simp
theorem fcF_k {n : ByteArray} {k a x y z lo hi : Int} {f : FrT} (h : fcF n k a x y z lo hi f = 0) : 0 ≤ f.k ∧ f.k < 9 := fpE_k (fst_z (fst_z (fst_z h).2).1).1
set_option maxRecDepth 100000 in
set_option maxHeartbeats 8000000 in
theorem fcFrames1 {w0 : World} (n : ByteArray) (k a x y z lo hi : Int) (b off fl fc : Nat) (fs : List FrT) (hnz : n.size ≤ 1000000) (hF : fl ≤ 1000) (hf0 : FrP w0 (.slice (some ⟨b, off, none⟩) fl fc) fs) (hz0 : ∀ f ∈ fs, f.ds.length ≤ 100000 ∧ ∀ d ∈ f.ds, d.1.size ≤ 1000000) (w : World) (gl : Gf w0 w) : Calls Tryz.prog 58 #[.agg #[.string n, .int .i64 k, .int .i64 a, .int .i64 x, .int .i64 y, .int .i64 z, .int .i64 lo, .int .i64 hi, .slice (some ⟨b, off, none⟩) fl fc]] w fun r W' => r = .returned (.int .i64 (fsF n k a x y z lo hi [] fs)) ∧ Kb w W' := by
  have HF := Lib.hid hf0
  have HZ := Lib.hid hz0
  have HL := Lib.hid hf0.len
  have HG := Lib.hid gl
  have H0 : Hid (fsF n k a x y z lo hi [] fs = fsF n k a x y z lo hi (fs.take 0) (fs.drop 0)) := rfl
  clear hf0 hz0 gl
  have i1 := ((Is.made w #[.string n, .int .i64 k, .int .i64 a, .int .i64 x, .int .i64 y, .int .i64 z, .int .i64 lo, .int .i64 hi, .slice (some ⟨b, off, none⟩) fl fc] 28).alloc (.cells (seenC (fs.take 0)) 144 (0, 0)))
  have i2 := Is.made (w.alloc (.cells #[.string n, .int .i64 k, .int .i64 a, .int .i64 x, .int .i64 y, .int .i64 z, .int .i64 lo, .int .i64 hi, .slice (some ⟨b, off, none⟩) fl fc] 28 (0, 0))) (seenC (fs.take 0)) 144
  have k0 := ((Kb.refl w).alloc (.cells #[.string n, .int .i64 k, .int .i64 a, .int .i64 x, .int .i64 y, .int .i64 z, .int .i64 lo, .int .i64 hi, .slice (some ⟨b, off, none⟩) fl fc] 28 (0, 0))).alloc (.cells (seenC (fs.take 0)) 144 (0, 0))
  simp only [World.size_alloc] at i2
  have c8 := (Is.made w #[.string n, .int .i64 k, .int .i64 a, .int .i64 x, .int .i64 y, .int .i64 z, .int .i64 lo, .int .i64 hi, .slice (some ⟨b, off, none⟩) fl fc] 28).alloc (.cells (seenC (fs.take 0)) 144 (0, 0)) |>.c (i := 8) rfl
  have hs9 : seenC (fs.take 0) = #[.bool false, .bool false, .bool false, .bool false, .bool false, .bool false, .bool false, .bool false, .bool false] := rfl
  rw [hs9] at c8 k0 i1 i2
  go_enter Tryz.func58, Tryz.ntmps58
  go_wp2
  rw [← hs9] at i2
  clear c8 hs9
  go_loopg [10] fl (fun gk s10 wr => ∃ i : Nat, s10 = .int .i64 i ∧ i + gk = fl ∧ Hid (fsF n k a x y z lo hi [] fs = fsF n k a x y z lo hi (fs.take i) (fs.drop i)) ∧ Is wr (w.heap.size + 1) (seenC (fs.take i)) 144 ∧ Is wr w.heap.size #[.string n, .int .i64 k, .int .i64 a, .int .i64 x, .int .i64 y, .int .i64 z, .int .i64 lo, .int .i64 hi, .slice (some ⟨b, off, none⟩) fl fc] 28 ∧ Kb w wr)
  case atStart => exact ⟨0, rfl, by omega, H0, i2, i1, k0⟩
  case round =>
    clear i1 i2 k0
    obtain ⟨i, rfl, hq, hE, i2, i1, kk⟩ := hrel
    have hi0 : (0 : Int) ≤ (i : Int) := by omega
    by_cases hlt : i < fl
    · have hil : (i : Int) < (fl : Int) := by omega
      obtain ⟨f, hfi⟩ : ∃ f, fs[i]? = some f := ⟨_, List.getElem?_eq_getElem (by have := HL.out; omega)⟩
      obtain ⟨b', off', eb, hat⟩ := HF.out.at (show 0 < fl by omega)
      obtain ⟨rfl, rfl⟩ : b = b' ∧ off = off' := by
        injection eb with eb; injection eb with e1 e2; exact ⟨e1, e2⟩
      obtain ⟨q, m, e, hcells, hds, hme⟩ := hat i f hfi
      obtain ⟨y0, y1, y2, y3, y4⟩ := hcells wr (HG.out.kb kk).at0
      have hzf := HZ.out f (List.mem_of_getElem? hfi)
      have hStep := fsF_drop (n := n) (k := k) (a := a) (x := x) (y := y) (z := z) (lo := lo) (hi := hi) hfi
      have hml := hds.len
      have HC := Lib.hid (frCheck (w0 := w0) n k a x y z lo hi (some ⟨b, off, none⟩) fl fc f.k f.d f.t f.m q m e f.ds hnz hds hme (by omega) hzf.2)
      have hK := @fcF_k n k a x y z lo hi f
      have hTk : fs.take (i + 1) = fs.take i ++ [f] := by
        obtain ⟨h1, rfl⟩ := List.getElem?_eq_some_iff.1 hfi
        exact (List.take_append_getElem h1).symm
      change Hid (Cf w0 _ _ (.int .i64 (fcF n k a x y z lo hi f))) at HC
      clear hat hcells hds hzf hfi eb hml hme
      have HE := Lib.hid hE.out
      have Hi := Lib.hid hq
      have HT := Lib.hid hTk
      clear hE hq hTk
      have d1 := i1.alloc (.cells #[.int .i64 f.k, .bool f.d, .int .i64 f.t, .int .i64 f.m, .slice q m e] 31 (0, 0))
      have d2 := i2.alloc (.cells #[.int .i64 f.k, .bool f.d, .int .i64 f.t, .int .i64 f.m, .slice q m e] 31 (0, 0))
      have d3 := Is.made wr #[.int .i64 f.k, .bool f.d, .int .i64 f.t, .int .i64 f.m, .slice q m e] 31
      have kd := kk.alloc (.cells #[.int .i64 f.k, .bool f.d, .int .i64 f.t, .int .i64 f.m, .slice q m e] 31 (0, 0))
      have g0 := d1.c (i := 0) rfl
      have g1 := d1.c (i := 1) rfl
      have g2 := d1.c (i := 2) rfl
      have g3 := d1.c (i := 3) rfl
      have g4 := d1.c (i := 4) rfl
      have g5 := d1.c (i := 5) rfl
      have g6 := d1.c (i := 6) rfl
      have g7 := d1.c (i := 7) rfl
      have g8 := d1.c (i := 8) rfl
      have h0_ := d3.c (i := 0) rfl
      have h1_ := d3.c (i := 1) rfl
      have h2_ := d3.c (i := 2) rfl
      have h3_ := d3.c (i := 3) rfl
      have h4_ := d3.c (i := 4) rfl
      by_cases e1 : fcF n k a x y z lo hi f = 0
      · have hk9 := hK e1
        rw [e1] at HC hStep
        rw [if_pos rfl] at hStep
        have HK := Lib.hid hk9
        have HS := Lib.hid hStep
        clear hK hStep hk9
        go_wp2_with fail
        refine (HC.out.out _ (HG.out.kb kd)).mono ?_
        rintro r w1 ⟨rfl, k1⟩
        replace d1 := d1.kb k1
        replace d2 := d2.kb k1
        replace d3 := d3.kb k1
        replace kd := kd.trans k1
        clear g0 g1 g2 g3 g4 g5 g6 g7 g8 h0_ h1_ h2_ h3_ h4_ i1 i2 y0 y1 y2 y3 y4
        obtain ⟨fk, fd, ft, fm, ds⟩ := f
        obtain ⟨p, rfl⟩ : ∃ p : Nat, fk = (p : Int) := ⟨fk.toNat, by have := HK.out.1; dsimp only at this; omega⟩
        have hp9 : p < 9 := by have := HK.out.2; dsimp only at this; omega
        have hp0 : (0 : Int) ≤ (p : Int) := by omega
        have hpi : (p : Int) < 9 := by omega
        dsimp only at d3 HS
        have z0 := d3.c (i := 0) rfl
        have z1 := d2.c (i := p) (seenC_at _ hp9)
        rcases Bool.eq_false_or_eq_true (knB (fs.take i) (p : Int)) with hb | hb
        · have hEnd : Hid (fsF n k a x y z lo hi [] fs = 7) := by
            show _ = _
            rw [HE.out, HS.out, if_pos hb]
          rw [hb] at z1
          clear HE HS hb
          go_wp2
          go_ret
          exact ⟨by rw [hEnd.out]; rfl, kd⟩
        · have hN : Hid (fsF n k a x y z lo hi [] fs = fsF n k a x y z lo hi (fs.take (i + 1)) (fs.drop (i + 1))) := by
            show _ = _
            rw [HE.out, HS.out, if_neg (by rw [hb]; decide)]
          rw [hb] at z1
          have z2 := d2.f p
          have hset := seenC_set (fs.take i) hp9 fd ft fm ds
          rw [← HT.out] at hset
          clear HE HS hb
          have e1' := d1.far (p := ⟨w.heap.size + 1, p, none⟩) (by simp) (.bool true)
          have e2' := d2.set p (.bool true)
          rw [hset] at e2'
          have e3' := kd.setCell (p := ⟨w.heap.size + 1, p, none⟩) (by simp) (.bool true)
          clear hset d1 d2 d3
          go_wp2
          have hq := Hi.out
          go_roundg (gk - 1)
          case measure => omega
          case rel => exact ⟨i + 1, by go_num, by omega, hN, e2', e1', e3'⟩
      · have hEnd : Hid (fsF n k a x y z lo hi [] fs = fcF n k a x y z lo hi f) := by
          show _ = _
          rw [HE.out, hStep, if_neg e1]
        have hne : (fcF n k a x y z lo hi f != 0) = true := by simpa using e1
        clear hK hStep HE
        generalize fcF n k a x y z lo hi f = em at *
        go_wp2_with fail
        refine (HC.out.out _ (HG.out.kb kd)).mono ?_
        rintro r w1 ⟨rfl, k1⟩
        replace kd := kd.trans k1
        clear g0 g1 g2 g3 g4 g5 g6 g7 g8 h0_ h1_ h2_ h3_ h4_ i1 i2 y0 y1 y2 y3 y4
        go_wp2
        go_ret
        exact ⟨by rw [hEnd.out]; rfl, kd⟩
    · obtain rfl : i = fl := by omega
      have hEnd : Hid (fsF n k a x y z lo hi [] fs = 0) := by
        show _ = _
        rw [hE.out, List.drop_of_length_le (by have := HL.out; omega)]; rfl
      clear hq hE
      go_wp2
      go_ret
      exact ⟨by rw [hEnd.out]; rfl, kk⟩
end Go.Proofs.YtlimjohnimgnhaaGreatDoor

/- Frames: the reference: Named, its kit. -/
namespace Go.Proofs.YtlimjohnimgnhaaGreatDoor
open Go.RowKit

theorem insS_len (s : List UInt8) (l : List (List UInt8)) : (insS s l).length ≤ l.length + 1 := by
  induction l with
  | nil => simp [insS]
  | cons x l ih =>
    rw [insS]
    split
    · split <;> simp
    · simp only [List.length_cons]; omega
theorem fold_len (L : List (List UInt8)) : ∀ a : List (List UInt8), (L.foldl (fun a s => insS s a) a).length ≤ a.length + L.length := by
  induction L with
  | nil => intro a; exact Nat.le_refl _
  | cons s L ih =>
    intro a
    have h1 := ih (insS s a)
    have h2 := insS_len s a
    rw [List.foldl_cons, List.length_cons]
    omega
theorem srt_len (L : List (List UInt8)) : (srt L).length ≤ L.length := by
  have := fold_len L []
  unfold srt
  simpa using this
set_option maxRecDepth 100000 in
theorem rPut0 (p : Option Addr) (c : Nat) (s : ByteArray) (w : World) : Calls Tryz.prog 99 #[.slice p 0 c, .string s] w fun r W' => (∃ v, r = .returned v ∧ SlU w.heap.size 1 W' v (([s.data.toList] : List (List UInt8)).map fun x => [encStr x])) ∧ Kb w W' := by
  obtain ⟨i0, hi0, hz0, hz1, hz2⟩ := info_parts rPut_info
  have hown := World.ownsRow_nil w w.heap.size 9 1
  go_enter Tryz.func99, Tryz.ntmps99
  go_wp2_with fail
  refine wp_loop_rounds 1 ?_
  rw [rounds_succ]
  go_wp2_with (first | (at_builtin; refine wpList_append_own _ rfl _ _ 41 rfl w.heap.size 9 i0 (.string ⟨#[]⟩) 1 16 Tryz.underlying41 hi0 hz0 hz1 hz2 rfl (by decide) _ _ _ rfl (hown.alloc _) ⟨w.heap.size, 0, none⟩ 1 1 [.string s] rfl rfl ?c1 ?c2 ?c3 ?c4 ?c5 ?_) | fail)
  case c1 => exact World.news_of_block (World.alloc_heap_new _ _)
  case c2 => simp [Value.oneCell']
  case c3 => unfold maxLen; omega
  case c4 => omega
  case c5 => simp
  intro v' w2 hown2 hgrow _
  have kx2 := Kb.grown ((Kb.refl w).alloc _) hgrow (owns_far hown)
  clear hgrow hown
  go_wp2
  go_ret
  refine ⟨⟨_, rfl, own_slS (ss := [s.data.toList]) ?_ rfl⟩, kx2⟩
  rw [show ([s.data.toList] : List (List UInt8)).map encStr = [.string s] by rw [str_enc]; rfl]
  exact hown2
theorem rPut {p : Option Addr} {l c : Nat} (ss : List (List UInt8)) (s : ByteArray) (w : World) (hs : SlS w (.slice p l c) ss) (hn : l ≤ 1000) (ha : Asc ss) : Calls Tryz.prog 99 #[.slice p l c, .string s] w fun r W' => (∃ v, r = .returned v ∧ SlU w.heap.size 1 W' v ((insS s.data.toList ss).map fun x => [encStr x])) ∧ Kb w W' := by
  have hl := hs.len
  by_cases h0 : l = 0
  · subst h0
    obtain rfl : ss = [] := List.length_eq_zero_iff.1 hl.symm
    exact rPut0 p c s w
  · have hs' := hs
    obtain ⟨q, cap, e, h2⟩ := hs'
    injection e with e1 e2 e3
    obtain ⟨b, off, e4, _⟩ := h2 (by simp; omega)
    subst e1
    have q := rPut1 b off l c ss s w (by rw [← e4]; exact hs) hn
    rw [putR_eq _ _ _ ha, List.nil_append, ← e4] at q
    exact q
theorem SlU.shape {n k : Nat} {w : World} {v : Value} {rows : List (List Value)} (h : SlU n k w v rows) : ∃ p l c, v = .slice p l c ∧ l = rows.length := by
  obtain ⟨p, c, e, _⟩ := h
  exact ⟨p, _, c, e, rfl⟩
set_option maxRecDepth 100000 in
theorem rNamed0 (n : ByteArray) (k a x y z lo hi : Int) (fp : Option Addr) (fc : Nat) (w : World) : Calls Tryz.prog 56 #[.agg #[.string n, .int .i64 k, .int .i64 a, .int .i64 x, .int .i64 y, .int .i64 z, .int .i64 lo, .int .i64 hi, .slice fp 0 fc]] w fun r W' => r = .returned (.slice none 0 0) ∧ Kb w W' := by
  have c8 := (Is.made w #[.string n, .int .i64 k, .int .i64 a, .int .i64 x, .int .i64 y, .int .i64 z, .int .i64 lo, .int .i64 hi, .slice fp 0 fc] 28).c (i := 8) rfl
  have k0 := (Kb.refl w).alloc (.cells #[.string n, .int .i64 k, .int .i64 a, .int .i64 x, .int .i64 y, .int .i64 z, .int .i64 lo, .int .i64 hi, .slice fp 0 fc] 28 (0, 0))
  go_enter Tryz.func56, Tryz.ntmps56
  go_wp2_with fail
  refine wp_loop_rounds 1 ?_
  rw [rounds_succ]
  go_wp2
  go_ret
  exact ⟨rfl, k0⟩
end Go.Proofs.YtlimjohnimgnhaaGreatDoor

/- Features with their frames and datums, opened. -/
namespace Go.Proofs.YtlimjohnimgnhaaGreatDoor
open Go.ChangeShapes Go.WideShapes Go.RowKit Go.Deep

instance : Inhabited FrT := ⟨⟨0, false, 0, 0, []⟩⟩
instance : Inhabited (FrT × Value) := ⟨(default, undef)⟩
section
variable {H : Type} {enc : TypeId × Value → H} {w : World} {base : Nat} {spare : Nat → Bool} {held : Bool} {fuel : Nat} {cs : List Value} {x : DataW H × List MemPlace}
theorem open_dats (h : DataW.trod enc Tryz.prog w base spare held fuel 29 cs = some x) : ∃ (p : Option Addr) (c : Nat) (l : List DatT), cs = [.slice p l.length c] ∧ DatS w (.slice p l.length c) l := by
  have t1 := Tryz.underlying29
  have t2 := Tryz.underlying76
  have t3 := Tryz.underlying9
  have t4 := Tryz.underlying3
  have ce : Tryz.prog.cellsOf 76 = 2 := by kernel_rfl
  have c0 : Tryz.prog.cellsOf 9 = 1 := by kernel_rfl
  have c1 : Tryz.prog.cellsOf 3 = 1 := by kernel_rfl
  generalize Tryz.prog = P at *
  rcases open_slice t1 h with ⟨rfl, _⟩ | ⟨a, len, cap, m, n, D, Pl, rfl, hb, hlx, hm, hmm, rfl, hx⟩
  · exact ⟨none, 0, [], rfl, none, 0, rfl, fun h => absurd h (by simp)⟩
  · have hlm : len ≤ m := by rw [hmm]; split <;> omega
    have each : ∀ i, i < m → ∃ z : DatT, ∀ j, j < 2 → w.cell? (a.add (i * 2 + j)) = some ((datRow z).getD j undef) := by
      intro i hi
      obtain ⟨cs', h1, h2⟩ := hx i hi
      rw [ce] at h1
      obtain ⟨_, hlen, hcell⟩ := World.cells?_some h1
      obtain ⟨xs, k, hk, hxy, _, hxl, hf⟩ := DataW.trod_struct t2 h2
      match xs, hxl, cs', hlen with
      | [y0, y1], _, [v0, v1], _ =>
        have g0 := hf 0 _ rfl
        have g1 := hf 1 _ rfl
        simp [c0, c1] at g0 g1
        obtain ⟨z0, e0, _, _⟩ := DataW.trod_string t3 g0
        obtain ⟨z1, e1, _⟩ := DataW.trod_int t4 g1
        simp at e0 e1
        subst e0 e1
        refine ⟨(z0, z1), fun j hj => ?_⟩
        have := hcell j (by simpa using hj)
        rw [add_add] at this
        rw [this]
        match j, hj with
        | 0, _ => rfl
        | 1, _ => rfl
    obtain ⟨Z, hZ⟩ := Go.Deep.choose_lt each
    obtain ⟨b, off, spot⟩ := a
    have hsp : 0 < len → spot = none ∧ b < w.heap.size := fun h => by
      have h1 := hZ 0 (by omega) 0 (by omega)
      exact ⟨by simpa [Addr.add] using World.cell?_spot h1, World.block_lt_of_cell? w _ h1⟩
    refine ⟨some ⟨b, off, spot⟩, cap, (List.range len).map Z, by simp, some ⟨b, off, spot⟩, cap, by simp, fun h => ?_⟩
    obtain ⟨h1, h2⟩ := hsp (by simpa using h)
    subst h1
    refine ⟨b, off, rfl, h2, by simp, fun i hi j hj => ?_⟩
    have hi' : i < len := by simpa using hi
    have h0 := hZ i (by omega) j hj
    rw [add_plain] at h0
    rw [Nat.add_assoc, h0]
    simp [List.getD_eq_getElem?_getD, hi']
end
end Go.Proofs.YtlimjohnimgnhaaGreatDoor
