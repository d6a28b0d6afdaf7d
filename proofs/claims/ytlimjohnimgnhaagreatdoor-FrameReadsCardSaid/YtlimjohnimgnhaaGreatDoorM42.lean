/- Texts Up3, Up8, Up8b: each says in its own first comment what it proves. -/
import Derived.Test.YtlimjohnimgnhaaGreatDoorM37
import Derived.Test.YtlimjohnimgnhaaGreatDoorM07
import Derived.Test.YtlimjohnimgnhaaGreatDoorM11
/- Frames: checkFrames. -/
namespace Go.Proofs.YtlimjohnimgnhaaGreatDoor
open Go.RowKit

/-- which kinds have been seen -/
def seenC (b : List FrT) : Array Value := #[.bool (knB b 0), .bool (knB b 1), .bool (knB b 2), .bool (knB b 3), .bool (knB b 4), .bool (knB b 5), .bool (knB b 6), .bool (knB b 7), .bool (knB b 8)]
theorem knB_snoc (b : List FrT) (f : FrT) (k : Int) : knB (b ++ [f]) k = (knB b k || f.k == k) := by unfold knB; simp
theorem seenC_at (b : List FrT) {q : Nat} (h : q < 9) : (seenC b)[q]? = some (.bool (knB b (q : Int))) := by
  rcases (show q = 0 ∨ q = 1 ∨ q = 2 ∨ q = 3 ∨ q = 4 ∨ q = 5 ∨ q = 6 ∨ q = 7 ∨ q = 8 by omega) with rfl | rfl | rfl | rfl | rfl | rfl | rfl | rfl | rfl <;> rfl
theorem seenC_set (b : List FrT) {q : Nat} (h : q < 9) (d : Bool) (t m : Int) (ds : List DatT) : (seenC b).setIfInBounds q (.bool true) = seenC (b ++ [⟨(q : Int), d, t, m, ds⟩]) := by
  unfold seenC
  simp only [knB_snoc]
  rcases (show q = 0 ∨ q = 1 ∨ q = 2 ∨ q = 3 ∨ q = 4 ∨ q = 5 ∨ q = 6 ∨ q = 7 ∨ q = 8 by omega) with rfl | rfl | rfl | rfl | rfl | rfl | rfl | rfl | rfl <;> simp
theorem fcF_k {n : ByteArray} {k a x y z lo hi : Int} {f : FrT} (h : fcF n k a x y z lo hi f = 0) : 0 ≤ f.k ∧ f.k < 9 := fpE_k (fst_z (fst_z (fst_z h).2).1).1
set_option maxRecDepth 100000 in
set_option maxHeartbeats 8000000 in
theorem fcFrames1 {w0 : World} (n : ByteArray) (k a x y z lo hi : Int) (b off fl fc : Nat) (fs : List FrT) (hnz : n.size ≤ 1000000) (hF : fl ≤ 1000) (hf0 : FrP w0 (.slice (some ⟨b, off, none⟩) fl fc) fs) (hz0 : ∀ f ∈ fs, f.ds.length ≤ 100000 ∧ ∀ d ∈ f.ds, d.1.size ≤ 1000000) (w : World) (gl : Gf w0 w) : Calls Tryz.prog 58 #[.agg #[.string n, .int .i64 k, .int .i64 a, .int .i64 x, .int .i64 y, .int .i64 z, .int .i64 lo, .int .i64 hi, .slice (some ⟨b, off, none⟩) fl fc]] w fun r W' => r = .returned (.int .i64 (fsF n k a x y z lo hi [] fs)) ∧ Kb w W' := by
  have HF := Lib.hid hf0
  have HZ := Lib.hid hz0
  have HL := Lib.hid hf0.len
  have HG := Lib.hid gl
  have H0 : Hid (fsF n k a x y z lo hi [] fs = fsF n k a x y z lo hi (fs.take 0) (fs.drop 0)) := rfl
  clear hf0 hz0 gl
  have i1 := ((Is.made w #[.string n, .int .i64 k, .int .i64 a, .int .i64 x, .int .i64 y, .int .i64 z, .int .i64 lo, .int .i64 hi, .slice (some ⟨b, off, none⟩) fl fc] 28).alloc (.cells (seenC (fs.take 0)) 144 (0, 0)))
  have i2 := Is.made (w.alloc (.cells #[.string n, .int .i64 k, .int .i64 a, .int .i64 x, .int .i64 y, .int .i64 z, .int .i64 lo, .int .i64 hi, .slice (some ⟨b, off, none⟩) fl fc] 28 (0, 0))) (seenC (fs.take 0)) 144
  have k0 := ((Kb.refl w).alloc (.cells #[.string n, .int .i64 k, .int .i64 a, .int .i64 x, .int .i64 y, .int .i64 z, .int .i64 lo, .int .i64 hi, .slice (some ⟨b, off, none⟩) fl fc] 28 (0, 0))).alloc (.cells (seenC (fs.take 0)) 144 (0, 0))
  simp only [World.size_alloc] at i2
  have c8 := (Is.made w #[.string n, .int .i64 k, .int .i64 a, .int .i64 x, .int .i64 y, .int .i64 z, .int .i64 lo, .int .i64 hi, .slice (some ⟨b, off, none⟩) fl fc] 28).alloc (.cells (seenC (fs.take 0)) 144 (0, 0)) |>.c (i := 8) rfl
  have hs9 : seenC (fs.take 0) = #[.bool false, .bool false, .bool false, .bool false, .bool false, .bool false, .bool false, .bool false, .bool false] := rfl
  rw [hs9] at c8 k0 i1 i2
  go_enter Tryz.func58, Tryz.ntmps58
  go_wp2
  rw [← hs9] at i2
  clear c8 hs9
  go_loopg [10] fl (fun gk s10 wr => ∃ i : Nat, s10 = .int .i64 i ∧ i + gk = fl ∧ Hid (fsF n k a x y z lo hi [] fs = fsF n k a x y z lo hi (fs.take i) (fs.drop i)) ∧ Is wr (w.heap.size + 1) (seenC (fs.take i)) 144 ∧ Is wr w.heap.size #[.string n, .int .i64 k, .int .i64 a, .int .i64 x, .int .i64 y, .int .i64 z, .int .i64 lo, .int .i64 hi, .slice (some ⟨b, off, none⟩) fl fc] 28 ∧ Kb w wr)
  case atStart => exact ⟨0, rfl, by omega, H0, i2, i1, k0⟩
  case round =>
    clear i1 i2 k0
    obtain ⟨i, rfl, hq, hE, i2, i1, kk⟩ := hrel
    have hi0 : (0 : Int) ≤ (i : Int) := by omega
    by_cases hlt : i < fl
    · have hil : (i : Int) < (fl : Int) := by omega
      obtain ⟨f, hfi⟩ : ∃ f, fs[i]? = some f := ⟨_, List.getElem?_eq_getElem (by have := HL.out; omega)⟩
      obtain ⟨b', off', eb, hat⟩ := HF.out.at (show 0 < fl by omega)
      obtain ⟨rfl, rfl⟩ : b = b' ∧ off = off' := by
        injection eb with eb; injection eb with e1 e2; exact ⟨e1, e2⟩
      obtain ⟨q, m, e, hcells, hds, hme⟩ := hat i f hfi
      obtain ⟨y0, y1, y2, y3, y4⟩ := hcells wr (HG.out.kb kk).at0
      have hzf := HZ.out f (List.mem_of_getElem? hfi)
      have hStep := fsF_drop (n := n) (k := k) (a := a) (x := x) (y := y) (z := z) (lo := lo) (hi := hi) hfi
      have hml := hds.len
      have HC := Lib.hid (frCheck (w0 := w0) n k a x y z lo hi (some ⟨b, off, none⟩) fl fc f.k f.d f.t f.m q m e f.ds hnz hds hme (by omega) hzf.2)
      have hK := @fcF_k n k a x y z lo hi f
      have hTk : fs.take (i + 1) = fs.take i ++ [f] := by
        obtain ⟨h1, rfl⟩ := List.getElem?_eq_some_iff.1 hfi
        exact (List.take_append_getElem h1).symm
      change Hid (Cf w0 _ _ (.int .i64 (fcF n k a x y z lo hi f))) at HC
      clear hat hcells hds hzf hfi eb hml hme
      have HE := Lib.hid hE.out
      have Hi := Lib.hid hq
      have HT := Lib.hid hTk
      clear hE hq hTk
      have d1 := i1.alloc (.cells #[.int .i64 f.k, .bool f.d, .int .i64 f.t, .int .i64 f.m, .slice q m e] 31 (0, 0))
      have d2 := i2.alloc (.cells #[.int .i64 f.k, .bool f.d, .int .i64 f.t, .int .i64 f.m, .slice q m e] 31 (0, 0))
      have d3 := Is.made wr #[.int .i64 f.k, .bool f.d, .int .i64 f.t, .int .i64 f.m, .slice q m e] 31
      have kd := kk.alloc (.cells #[.int .i64 f.k, .bool f.d, .int .i64 f.t, .int .i64 f.m, .slice q m e] 31 (0, 0))
      have g0 := d1.c (i := 0) rfl
      have g1 := d1.c (i := 1) rfl
      have g2 := d1.c (i := 2) rfl
      have g3 := d1.c (i := 3) rfl
      have g4 := d1.c (i := 4) rfl
      have g5 := d1.c (i := 5) rfl
      have g6 := d1.c (i := 6) rfl
      have g7 := d1.c (i := 7) rfl
      have g8 := d1.c (i := 8) rfl
      have h0_ := d3.c (i := 0) rfl
      have h1_ := d3.c (i := 1) rfl
      have h2_ := d3.c (i := 2) rfl
      have h3_ := d3.c (i := 3) rfl
      have h4_ := d3.c (i := 4) rfl
      by_cases e1 : fcF n k a x y z lo hi f = 0
      · have hk9 := hK e1
        rw [e1] at HC hStep
        rw [if_pos rfl] at hStep
        have HK := Lib.hid hk9
        have HS := Lib.hid hStep
        clear hK hStep hk9
        go_wp2_with fail
        refine (HC.out.out _ (HG.out.kb kd)).mono ?_
        rintro r w1 ⟨rfl, k1⟩
        replace d1 := d1.kb k1
        replace d2 := d2.kb k1
        replace d3 := d3.kb k1
        replace kd := kd.trans k1
        clear g0 g1 g2 g3 g4 g5 g6 g7 g8 h0_ h1_ h2_ h3_ h4_ i1 i2 y0 y1 y2 y3 y4
        obtain ⟨fk, fd, ft, fm, ds⟩ := f
        obtain ⟨p, rfl⟩ : ∃ p : Nat, fk = (p : Int) := ⟨fk.toNat, by have := HK.out.1; dsimp only at this; omega⟩
        have hp9 : p < 9 := by have := HK.out.2; dsimp only at this; omega
        have hp0 : (0 : Int) ≤ (p : Int) := by omega
        have hpi : (p : Int) < 9 := by omega
        dsimp only at d3 HS
        have z0 := d3.c (i := 0) rfl
        have z1 := d2.c (i := p) (seenC_at _ hp9)
        rcases Bool.eq_false_or_eq_true (knB (fs.take i) (p : Int)) with hb | hb
        · have hEnd : Hid (fsF n k a x y z lo hi [] fs = 7) := by
            show _ = _
            rw [HE.out, HS.out, if_pos hb]
          rw [hb] at z1
          clear HE HS hb
          go_wp2
          go_ret
          exact ⟨by rw [hEnd.out]; rfl, kd⟩
        · have hN : Hid (fsF n k a x y z lo hi [] fs = fsF n k a x y z lo hi (fs.take (i + 1)) (fs.drop (i + 1))) := by
            show _ = _
            rw [HE.out, HS.out, if_neg (by rw [hb]; decide)]
          rw [hb] at z1
          have z2 := d2.f p
          have hset := seenC_set (fs.take i) hp9 fd ft fm ds
          rw [← HT.out] at hset
          clear HE HS hb
          have e1' := d1.far (p := ⟨w.heap.size + 1, p, none⟩) (by simp) (.bool true)
          have e2' := d2.set p (.bool true)
          rw [hset] at e2'
          have e3' := kd.setCell (p := ⟨w.heap.size + 1, p, none⟩) (by simp) (.bool true)
          clear hset d1 d2 d3
          go_wp2
          have hq := Hi.out
          go_roundg (gk - 1)
          case measure => omega
          case rel => exact ⟨i + 1, by go_num, by omega, hN, e2', e1', e3'⟩
      · have hEnd : Hid (fsF n k a x y z lo hi [] fs = fcF n k a x y z lo hi f) := by
          show _ = _
          rw [HE.out, hStep, if_neg e1]
        have hne : (fcF n k a x y z lo hi f != 0) = true := by simpa using e1
        clear hK hStep HE
        generalize fcF n k a x y z lo hi f = em at *
        go_wp2_with fail
        refine (HC.out.out _ (HG.out.kb kd)).mono ?_
        rintro r w1 ⟨rfl, k1⟩
        replace kd := kd.trans k1
        clear g0 g1 g2 g3 g4 g5 g6 g7 g8 h0_ h1_ h2_ h3_ h4_ i1 i2 y0 y1 y2 y3 y4
        go_wp2
        go_ret
        exact ⟨by rw [hEnd.out]; rfl, kd⟩
    · obtain rfl : i = fl := by omega
      have hEnd : Hid (fsF n k a x y z lo hi [] fs = 0) := by
        show _ = _
        rw [hE.out, List.drop_of_length_le (by have := HL.out; omega)]; rfl
      clear hq hE
      go_wp2
      go_ret
      exact ⟨by rw [hEnd.out]; rfl, kk⟩
end Go.Proofs.YtlimjohnimgnhaaGreatDoor

/- Frames: the reference: Named, its kit. -/
namespace Go.Proofs.YtlimjohnimgnhaaGreatDoor
open Go.RowKit

theorem insS_len (s : List UInt8) (l : List (List UInt8)) : (insS s l).length ≤ l.length + 1 := by
  induction l with
  | nil => simp [insS]
  | cons x l ih =>
    rw [insS]
    split
    · split <;> simp
    · simp only [List.length_cons]; omega
theorem fold_len (L : List (List UInt8)) : ∀ a : List (List UInt8), (L.foldl (fun a s => insS s a) a).length ≤ a.length + L.length := by
  induction L with
  | nil => intro a; exact Nat.le_refl _
  | cons s L ih =>
    intro a
    have h1 := ih (insS s a)
    have h2 := insS_len s a
    rw [List.foldl_cons, List.length_cons]
    omega
theorem srt_len (L : List (List UInt8)) : (srt L).length ≤ L.length := by
  have := fold_len L []
  unfold srt
  simpa using this
set_option maxRecDepth 100000 in
theorem rPut0 (p : Option Addr) (c : Nat) (s : ByteArray) (w : World) : Calls Tryz.prog 99 #[.slice p 0 c, .string s] w fun r W' => (∃ v, r = .returned v ∧ SlU w.heap.size 1 W' v (([s.data.toList] : List (List UInt8)).map fun x => [encStr x])) ∧ Kb w W' := by
  obtain ⟨i0, hi0, hz0, hz1, hz2⟩ := info_parts rPut_info
  have hown := World.ownsRow_nil w w.heap.size 9 1
  go_enter Tryz.func99, Tryz.ntmps99
  go_wp2_with fail
  refine wp_loop_rounds 1 ?_
  rw [rounds_succ]
  go_wp2_with (first | (at_builtin; refine wpList_append_own _ rfl _ _ 41 rfl w.heap.size 9 i0 (.string ⟨#[]⟩) 1 16 Tryz.underlying41 hi0 hz0 hz1 hz2 rfl (by decide) _ _ _ rfl (hown.alloc _) ⟨w.heap.size, 0, none⟩ 1 1 [.string s] rfl rfl ?c1 ?c2 ?c3 ?c4 ?c5 ?_) | fail)
  case c1 => exact World.news_of_block (World.alloc_heap_new _ _)
  case c2 => simp [Value.oneCell']
  case c3 => unfold maxLen; omega
  case c4 => omega
  case c5 => simp
  intro v' w2 hown2 hgrow _
  have kx2 := Kb.grown ((Kb.refl w).alloc _) hgrow (owns_far hown)
  clear hgrow hown
  go_wp2
  go_ret
  refine ⟨⟨_, rfl, own_slS (ss := [s.data.toList]) ?_ rfl⟩, kx2⟩
  rw [show ([s.data.toList] : List (List UInt8)).map encStr = [.string s] by rw [str_enc]; rfl]
  exact hown2
theorem rPut {p : Option Addr} {l c : Nat} (ss : List (List UInt8)) (s : ByteArray) (w : World) (hs : SlS w (.slice p l c) ss) (hn : l ≤ 1000) (ha : Asc ss) : Calls Tryz.prog 99 #[.slice p l c, .string s] w fun r W' => (∃ v, r = .returned v ∧ SlU w.heap.size 1 W' v ((insS s.data.toList ss).map fun x => [encStr x])) ∧ Kb w W' := by
  have hl := hs.len
  by_cases h0 : l = 0
  · subst h0
    obtain rfl : ss = [] := List.length_eq_zero_iff.1 hl.symm
    exact rPut0 p c s w
  · have hs' := hs
    obtain ⟨q, cap, e, h2⟩ := hs'
    injection e with e1 e2 e3
    obtain ⟨b, off, e4, _⟩ := h2 (by simp; omega)
    subst e1
    have q := rPut1 b off l c ss s w (by rw [← e4]; exact hs) hn
    rw [putR_eq _ _ _ ha, List.nil_append, ← e4] at q
    exact q
theorem SlU.shape {n k : Nat} {w : World} {v : Value} {rows : List (List Value)} (h : SlU n k w v rows) : ∃ p l c, v = .slice p l c ∧ l = rows.length := by
  obtain ⟨p, c, e, _⟩ := h
  exact ⟨p, _, c, e, rfl⟩
set_option maxRecDepth 100000 in
theorem rNamed0 (n : ByteArray) (k a x y z lo hi : Int) (fp : Option Addr) (fc : Nat) (w : World) : Calls Tryz.prog 56 #[.agg #[.string n, .int .i64 k, .int .i64 a, .int .i64 x, .int .i64 y, .int .i64 z, .int .i64 lo, .int .i64 hi, .slice fp 0 fc]] w fun r W' => r = .returned (.slice none 0 0) ∧ Kb w W' := by
  have c8 := (Is.made w #[.string n, .int .i64 k, .int .i64 a, .int .i64 x, .int .i64 y, .int .i64 z, .int .i64 lo, .int .i64 hi, .slice fp 0 fc] 28).c (i := 8) rfl
  have k0 := (Kb.refl w).alloc (.cells #[.string n, .int .i64 k, .int .i64 a, .int .i64 x, .int .i64 y, .int .i64 z, .int .i64 lo, .int .i64 hi, .slice fp 0 fc] 28 (0, 0))
  go_enter Tryz.func56, Tryz.ntmps56
  go_wp2_with fail
  refine wp_loop_rounds 1 ?_
  rw [rounds_succ]
  go_wp2
  go_ret
  exact ⟨rfl, k0⟩
end Go.Proofs.YtlimjohnimgnhaaGreatDoor

/- Frames: the reference: Named. -/
namespace Go.Proofs.YtlimjohnimgnhaaGreatDoor
open Go.RowKit

set_option maxRecDepth 100000 in
set_option maxHeartbeats 8000000 in
theorem rNamed1 {w0 : World} (n : ByteArray) (k a x y z lo hi : Int) (b off fl fc : Nat) (fs : List FrT) (hf0 : FrP w0 (.slice (some ⟨b, off, none⟩) fl fc) fs) (hN : (nmL fs).length ≤ 1000) (hF : fl ≤ 1000) (w : World) (gl : Kb w0 w) : Calls Tryz.prog 56 #[.agg #[.string n, .int .i64 k, .int .i64 a, .int .i64 x, .int .i64 y, .int .i64 z, .int .i64 lo, .int .i64 hi, .slice (some ⟨b, off, none⟩) fl fc]] w fun r W' => (∃ v, r = .returned v ∧ SlU w.heap.size 1 W' v ((srt (nmL fs)).map fun x => [encStr x])) ∧ Kb w W' := by
  have HF := Lib.hid hf0
  have HL := Lib.hid hf0.len
  have HG := Lib.hid gl
  have HN := Lib.hid hN
  clear hf0 hN gl
  have i1 := Is.made w #[.string n, .int .i64 k, .int .i64 a, .int .i64 x, .int .i64 y, .int .i64 z, .int .i64 lo, .int .i64 hi, .slice (some ⟨b, off, none⟩) fl fc] 28
  have k0 := (Kb.refl w).alloc (.cells #[.string n, .int .i64 k, .int .i64 a, .int .i64 x, .int .i64 y, .int .i64 z, .int .i64 lo, .int .i64 hi, .slice (some ⟨b, off, none⟩) fl fc] 28 (0, 0))
  have c8 := i1.c (i := 8) rfl
  have hs0 : SlU w.heap.size 1 (w.alloc (.cells #[.string n, .int .i64 k, .int .i64 a, .int .i64 x, .int .i64 y, .int .i64 z, .int .i64 lo, .int .i64 hi, .slice (some ⟨b, off, none⟩) fl fc] 28 (0, 0))) (.slice none 0 0) ((srt (nmL (fs.take 0))).map fun x => [encStr x]) := by
    have hz : srt (nmL (fs.take 0)) = [] := rfl
    rw [hz]
    exact ⟨none, 0, rfl, fun h => absurd h (by simp)⟩
  go_enter Tryz.func56, Tryz.ntmps56
  go_wp2
  clear c8
  go_loopg [4, 3] fl (fun gk s4 s3 wr => ∃ (i : Nat) (v : Value), s4 = .int .i64 i ∧ v = s3 ∧ i + gk = fl ∧ SlU w.heap.size 1 wr v ((srt (nmL (fs.take i))).map fun x => [encStr x]) ∧ Is wr w.heap.size #[.string n, .int .i64 k, .int .i64 a, .int .i64 x, .int .i64 y, .int .i64 z, .int .i64 lo, .int .i64 hi, .slice (some ⟨b, off, none⟩) fl fc] 28 ∧ Kb w wr)
  case atStart => exact ⟨0, _, rfl, rfl, by omega, hs0, i1, k0⟩
  case round =>
    clear i1 k0 hs0
    obtain ⟨i, v, rfl, rfl, hi, hs, i1, kk⟩ := hrel
    have hi0 : (0 : Int) ≤ (i : Int) := by omega
    have c8 := i1.c (i := 8) rfl
    by_cases hlt : i < fl
    · have hil : (i : Int) < (fl : Int) := by omega
      obtain ⟨f, hfi⟩ : ∃ f, fs[i]? = some f := ⟨_, List.getElem?_eq_getElem (by have := HL.out; omega)⟩
      obtain ⟨q, m, e, hcells, hds, _⟩ := HF.out.get hfi
      have HC := Lib.hid hcells
      have HFI := Lib.hid hfi
      have HD := Lib.hid hds
      have HM := Lib.hid hds.len
      have HP := Lib.hid (nmL_pre hfi)
      have hmB : m ≤ 1000 := by have h1 := HP.out; have h2 := HN.out; have h3 := HM.out; omega
      have Hi := Lib.hid hi
      have hs2 : SlU w.heap.size 1 wr v ((srt (nmL (fs.take i) ++ nmD (f.ds.take 0))).map fun x => [encStr x]) := by
        rw [show nmD (f.ds.take 0) = [] from rfl, List.append_nil]; exact hs
      clear hcells hds hfi hi hs
      go_wp2
      rename_i gi _ _ _
      clear c8
      go_loopg [5, 3] m (fun gk s5 s3 wr => ∃ (j : Nat) (v : Value), s5 = .int .i64 j ∧ v = s3 ∧ j + gk = m ∧ SlU w.heap.size 1 wr v ((srt (nmL (fs.take i) ++ nmD (f.ds.take j))).map fun x => [encStr x]) ∧ Is wr w.heap.size #[.string n, .int .i64 k, .int .i64 a, .int .i64 x, .int .i64 y, .int .i64 z, .int .i64 lo, .int .i64 hi, .slice (some ⟨b, off, none⟩) fl fc] 28 ∧ Kb w wr)
      case atStart => exact ⟨0, _, rfl, rfl, by omega, hs2, i1, kk⟩
      case round =>
        clear i1 hs2 kk
        obtain ⟨j, v, rfl, rfl, hj, hs, i1, jk⟩ := hrel
        have hj0 : (0 : Int) ≤ (j : Int) := by omega
        have c8 := i1.c (i := 8) rfl
        obtain ⟨_, _, _, _, y4⟩ := HC.out _ (HG.out.trans jk)
        by_cases hjm : j < m
        · have hjl : (j : Int) < (m : Int) := by omega
          obtain ⟨⟨s, c⟩, hdj⟩ : ∃ d, f.ds[j]? = some d := ⟨_, List.getElem?_eq_getElem (by have := HM.out; omega)⟩
          obtain ⟨b2, off2, rfl, hat⟩ := HD.out.at (by omega)
          obtain ⟨z0, z1⟩ := hat j _ hdj
          dsimp only at z0 z1
          replace z0 := (HG.out.trans jk).cell z0
          have hT := nmD_take hdj
          dsimp only at hT
          have Hj := Lib.hid hj
          have HT := Lib.hid hT
          have hlen : (srt (nmL (fs.take i) ++ nmD (f.ds.take j))).length ≤ 1000 := by
            have h1 := srt_len (nmL (fs.take i) ++ nmD (f.ds.take j))
            have h2 := nmD_len f.ds j
            have h3 := HP.out
            have h4 := HN.out
            rw [List.length_append] at h1
            omega
          obtain ⟨p, ll, cap, rfl, hll⟩ := hs.shape
          have hq := Lib.hid (rPut _ s wr hs.sl (by rw [hll, List.length_map]; exact hlen) (srt_asc _))
          clear hdj hat hj hT z1 hlen hs hll
          go_wp2_with fail
          refine hq.out.mono ?_
          rintro r w4 ⟨⟨v4, rfl, hv4⟩, k4⟩
          replace i1 := i1.kb k4
          have hv5 : SlU w.heap.size 1 w4 v4 ((srt (nmL (fs.take i) ++ nmD (f.ds.take (j + 1)))).map fun x => [encStr x]) := by
            rw [HT.out, ← List.append_assoc, srt_snoc]
            exact hv4.mono jk.size
          have jk2 := jk.trans k4
          clear hv4 k4 c8 y4 z0 hq
          go_wp2
          have hj := Hj.out
          go_roundg (gk - 1)
          case measure => omega
          case rel => exact ⟨j + 1, v4, by go_num, rfl, by omega, hv5, i1, jk2⟩
        · obtain rfl : j = m := by omega
          have hW : nmL (fs.take i) ++ nmD (f.ds.take j) = nmL (fs.take (i + 1)) := by
            have hW0 : f.ds.take j = f.ds := List.take_of_length_le (by have := HM.out; omega)
            rw [nmL_take HFI.out, hW0]
          rw [hW] at hs
          clear hW hj
          go_wp2
          have hi := Hi.out
          go_roundg (fl - i - 1)
          case measure => omega
          case rel => exact ⟨i + 1, v, by go_num, rfl, by omega, hs, i1, jk⟩
    · obtain rfl : i = fl := by omega
      rw [List.take_of_length_le (by have := HL.out; omega)] at hs
      clear hi i1
      go_wp2
      go_ret
      exact ⟨⟨v, rfl, hs⟩, kk⟩
end Go.Proofs.YtlimjohnimgnhaaGreatDoor
