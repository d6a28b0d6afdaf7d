/- Texts Up3: each says in its own first comment what it proves. -/
import Derived.Test.YtlimjohnimgnhaaGreatDoorM47
/- Frames: checkFrames. -/
namespace Go.Proofs.YtlimjohnimgnhaaGreatDoor
open Go.RowKit

/-- which kinds have been seen -/
def seenC (b : List FrT) : Array Value := #[.bool (knB b 0), .bool (knB b 1), .bool (knB b 2), .bool (knB b 3), .bool (knB b 4), .bool (knB b 5), .bool (knB b 6), .bool (knB b 7), .bool (knB b 8)]
theorem knB_snoc (b : List FrT) (f : FrT) (k : Int) : knB (b ++ [f]) k = (knB b k || f.k == k) := by unfold knB; simp
theorem seenC_at (b : List FrT) {q : Nat} (h : q < 9) : (seenC b)[q]? = some (.bool (knB b (q : Int))) := by
  rcases (show q = 0 ∨ q = 1 ∨ q = 2 ∨ q = 3 ∨ q = 4 ∨ q = 5 ∨ q = 6 ∨ q = 7 ∨ q = 8 by omega) with rfl | rfl | rfl | rfl | rfl | rfl | rfl | rfl | rfl <;> rfl
theorem seenC_set (b : List FrT) {q : Nat} (h : q < 9) (d : Bool) (t m : Int) (ds : List DatT) : (seenC b).setIfInBounds q (.bool true) = seenC (b ++ [⟨(q : Int), d, t, m, ds⟩]) := by
  unfold seenC
  simp only [knB_snoc]
  rcases (show q = 0 ∨ q = 1 ∨ q = 2 ∨ q = 3 ∨ q = 4 ∨ q = 5 ∨ q = 6 ∨ q = 7 ∨ q = 8 by omega) with rfl | rfl | rfl | rfl | rfl | rfl | rfl | rfl | rfl <;> simp
theorem fcF_k {n : ByteArray} {k a x y z lo hi : Int} {f : FrT} (h : fcF n k a x y z lo hi f = 0) : 0 ≤ f.k ∧ f.k < 9 := fpE_k (fst_z (fst_z (fst_z h).2).1).1
set_option maxRecDepth 100000 in
set_option maxHeartbeats 8000000 in
theorem fcFrames1 {w0 : World} (n : ByteArray) (k a x y z lo hi : Int) (b off fl fc : Nat) (fs : List FrT) (hnz : n.size ≤ 1000000) (hF : fl ≤ 1000) (hf0 : FrP w0 (.slice (some ⟨b, off, none⟩) fl fc) fs) (hz0 : ∀ f ∈ fs, f.ds.length ≤ 100000 ∧ ∀ d ∈ f.ds, d.1.size ≤ 1000000) (w : World) (gl : Gf w0 w) : Calls Tryz.prog 58 #[.agg #[.string n, .int .i64 k, .int .i64 a, .int .i64 x, .int .i64 y, .int .i64 z, .int .i64 lo, .int .i64 hi, .slice (some ⟨b, off, none⟩) fl fc]] w fun r W' => r = .returned (.int .i64 (fsF n k a x y z lo hi [] fs)) ∧ Kb w W' := by
  have HF := Lib.hid hf0
  have HZ := Lib.hid hz0
  have HL := Lib.hid hf0.len
  have HG := Lib.hid gl
  have H0 : Hid (fsF n k a x y z lo hi [] fs = fsF n k a x y z lo hi (fs.take 0) (fs.drop 0)) := rfl
  clear hf0 hz0 gl
  have i1 := ((Is.made w #[.string n, .int .i64 k, .int .i64 a, .int .i64 x, .int .i64 y, .int .i64 z, .int .i64 lo, .int .i64 hi, .slice (some ⟨b, off, none⟩) fl fc] 28).alloc (.cells (seenC (fs.take 0)) 144 (0, 0)))
  have i2 := Is.made (w.alloc (.cells #[.string n, .int .i64 k, .int .i64 a, .int .i64 x, .int .i64 y, .int .i64 z, .int .i64 lo, .int .i64 hi, .slice (some ⟨b, off, none⟩) fl fc] 28 (0, 0))) (seenC (fs.take 0)) 144
  have k0 := ((Kb.refl w).alloc (.cells #[.string n, .int .i64 k, .int .i64 a, .int .i64 x, .int .i64 y, .int .i64 z, .int .i64 lo, .int .i64 hi, .slice (some ⟨b, off, none⟩) fl fc] 28 (0, 0))).alloc (.cells (seenC (fs.take 0)) 144 (0, 0))
  simp only [World.size_alloc] at i2
  have c8 := (Is.made w #[.string n, .int .i64 k, .int .i64 a, .int .i64 x, .int .i64 y, .int .i64 z, .int .i64 lo, .int .i64 hi, .slice (some ⟨b, off, none⟩) fl fc] 28).alloc (.cells (seenC (fs.take 0)) 144 (0, 0)) |>.c (i := 8) rfl
  have hs9 : seenC (fs.take 0) = #[.bool false, .bool false, .bool false, .bool false, .bool false, .bool false, .bool false, .bool false, .bool false] := rfl
  rw [hs9] at c8 k0 i1 i2
  go_enter Tryz.func58, Tryz.ntmps58
  go_wp2
  rw [← hs9] at i2
  clear c8 hs9
  go_loopg [10] fl (fun gk s10 wr => ∃ i : Nat, s10 = .int .i64 i ∧ i + gk = fl ∧ Hid (fsF n k a x y z lo hi [] fs = fsF n k a x y z lo hi (fs.take i) (fs.drop i)) ∧ Is wr (w.heap.size + 1) (seenC (fs.take i)) 144 ∧ Is wr w.heap.size #[.string n, .int .i64 k, .int .i64 a, .int .i64 x, .int .i64 y, .int .i64 z, .int .i64 lo, .int .i64 hi, .slice (some ⟨b, off, none⟩) fl fc] 28 ∧ Kb w wr)
  case atStart => exact ⟨0, rfl, by omega, H0, i2, i1, k0⟩
  case round =>
    clear i1 i2 k0
    obtain ⟨i, rfl, hq, hE, i2, i1, kk⟩ := hrel
    have hi0 : (0 : Int) ≤ (i : Int) := by omega
    by_cases hlt : i < fl
    · have hil : (i : Int) < (fl : Int) := by omega
      obtain ⟨f, hfi⟩ : ∃ f, fs[i]? = some f := ⟨_, List.getElem?_eq_getElem (by have := HL.out; omega)⟩
      obtain ⟨b', off', eb, hat⟩ := HF.out.at (show 0 < fl by omega)
      obtain ⟨rfl, rfl⟩ : b = b' ∧ off = off' := by
        injection eb with eb; injection eb with e1 e2; exact ⟨e1, e2⟩
      obtain ⟨q, m, e, hcells, hds, hme⟩ := hat i f hfi
      obtain ⟨y0, y1, y2, y3, y4⟩ := hcells wr (HG.out.kb kk).at0
      have hzf := HZ.out f (List.mem_of_getElem? hfi)
      have hStep := fsF_drop (n := n) (k := k) (a := a) (x := x) (y := y) (z := z) (lo := lo) (hi := hi) hfi
      have hml := hds.len
      have HC := Lib.hid (frCheck (w0 := w0) n k a x y z lo hi (some ⟨b, off, none⟩) fl fc f.k f.d f.t f.m q m e f.ds hnz hds hme (by omega) hzf.2)
      have hK := @fcF_k n k a x y z lo hi f
      have hTk : fs.take (i + 1) = fs.take i ++ [f] := by
        obtain ⟨h1, rfl⟩ := List.getElem?_eq_some_iff.1 hfi
        exact (List.take_append_getElem h1).symm
      change Hid (Cf w0 _ _ (.int .i64 (fcF n k a x y z lo hi f))) at HC
      clear hat hcells hds hzf hfi eb hml hme
      have HE := Lib.hid hE.out
      have Hi := Lib.hid hq
      have HT := Lib.hid hTk
      clear hE hq hTk
      have d1 := i1.alloc (.cells #[.int .i64 f.k, .bool f.d, .int .i64 f.t, .int .i64 f.m, .slice q m e] 31 (0, 0))
      have d2 := i2.alloc (.cells #[.int .i64 f.k, .bool f.d, .int .i64 f.t, .int .i64 f.m, .slice q m e] 31 (0, 0))
      have d3 := Is.made wr #[.int .i64 f.k, .bool f.d, .int .i64 f.t, .int .i64 f.m, .slice q m e] 31
      have kd := kk.alloc (.cells #[.int .i64 f.k, .bool f.d, .int .i64 f.t, .int .i64 f.m, .slice q m e] 31 (0, 0))
      have g0 := d1.c (i := 0) rfl
      have g1 := d1.c (i := 1) rfl
      have g2 := d1.c (i := 2) rfl
      have g3 := d1.c (i := 3) rfl
      have g4 := d1.c (i := 4) rfl
      have g5 := d1.c (i := 5) rfl
      have g6 := d1.c (i := 6) rfl
      have g7 := d1.c (i := 7) rfl
      have g8 := d1.c (i := 8) rfl
      have h0_ := d3.c (i := 0) rfl
      have h1_ := d3.c (i := 1) rfl
      have h2_ := d3.c (i := 2) rfl
      have h3_ := d3.c (i := 3) rfl
      have h4_ := d3.c (i := 4) rfl
      by_cases e1 : fcF n k a x y z lo hi f = 0
      · have hk9 := hK e1
        rw [e1] at HC hStep
        rw [if_pos rfl] at hStep
        have HK := Lib.hid hk9
        have HS := Lib.hid hStep
        clear hK hStep hk9
        go_wp2_with fail
        refine (HC.out.out _ (HG.out.kb kd)).mono ?_
        rintro r w1 ⟨rfl, k1⟩
        replace d1 := d1.kb k1
        replace d2 := d2.kb k1
        replace d3 := d3.kb k1
        replace kd := kd.trans k1
        clear g0 g1 g2 g3 g4 g5 g6 g7 g8 h0_ h1_ h2_ h3_ h4_ i1 i2 y0 y1 y2 y3 y4
        obtain ⟨fk, fd, ft, fm, ds⟩ := f
        obtain ⟨p, rfl⟩ : ∃ p : Nat, fk = (p : Int) := ⟨fk.toNat, by have := HK.out.1; dsimp only at this; omega⟩
        have hp9 : p < 9 := by have := HK.out.2; dsimp only at this; omega
        have hp0 : (0 : Int) ≤ (p : Int) := by omega
        have hpi : (p : Int) < 9 := by omega
        dsimp only at d3 HS
        have z0 := d3.c (i := 0) rfl
        have z1 := d2.c (i := p) (seenC_at _ hp9)
        rcases Bool.eq_false_or_eq_true (knB (fs.take i) (p : Int)) with hb | hb
        · have hEnd : Hid (fsF n k a x y z lo hi [] fs = 7) := by
            show _ = _
            rw [HE.out, HS.out, if_pos hb]
          rw [hb] at z1
          clear HE HS hb
          go_wp2
          go_ret
          exact ⟨by rw [hEnd.out]; rfl, kd⟩
        · have hN : Hid (fsF n k a x y z lo hi [] fs = fsF n k a x y z lo hi (fs.take (i + 1)) (fs.drop (i + 1))) := by
            show _ = _
            rw [HE.out, HS.out, if_neg (by rw [hb]; decide)]
          rw [hb] at z1
          have z2 := d2.f p
          have hset := seenC_set (fs.take i) hp9 fd ft fm ds
          rw [← HT.out] at hset
          clear HE HS hb
          have e1' := d1.far (p := ⟨w.heap.size + 1, p, none⟩) (by simp) (.bool true)
          have e2' := d2.set p (.bool true)
          rw [hset] at e2'
          have e3' := kd.setCell (p := ⟨w.heap.size + 1, p, none⟩) (by simp) (.bool true)
          clear hset d1 d2 d3
          go_wp2
          have hq := Hi.out
          go_roundg (gk - 1)
          case measure => omega
          case rel => exact ⟨i + 1, by go_num, by omega, hN, e2', e1', e3'⟩
      · have hEnd : Hid (fsF n k a x y z lo hi [] fs = fcF n k a x y z lo hi f) := by
          show _ = _
          rw [HE.out, hStep, if_neg e1]
        have hne : (fcF n k a x y z lo hi f != 0) = true := by simpa using e1
        clear hK hStep HE
        generalize fcF n k a x y z lo hi f = em at *
        go_wp2_with fail
        refine (HC.out.out _ (HG.out.kb kd)).mono ?_
        rintro r w1 ⟨rfl, k1⟩
        replace kd := kd.trans k1
        clear g0 g1 g2 g3 g4 g5 g6 g7 g8 h0_ h1_ h2_ h3_ h4_ i1 i2 y0 y1 y2 y3 y4
        go_wp2
        go_ret
        exact ⟨by rw [hEnd.out]; rfl, kd⟩
    · obtain rfl : i = fl := by omega
      have hEnd : Hid (fsF n k a x y z lo hi [] fs = 0) := by
        show _ = _
        rw [hE.out, List.drop_of_length_le (by have := HL.out; omega)]; rfl
      clear hq hE
      go_wp2
      go_ret
      exact ⟨by rw [hEnd.out]; rfl, kk⟩
end Go.Proofs.YtlimjohnimgnhaaGreatDoor
