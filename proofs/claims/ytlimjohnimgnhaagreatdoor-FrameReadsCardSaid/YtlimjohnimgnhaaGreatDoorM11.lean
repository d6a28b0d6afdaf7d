/- Texts Up4: each says in its own first comment what it proves. -/
import Derived.Test.YtlimjohnimgnhaaGreatDoorM37
/- Frames: the reference: All. -/
namespace Go.Proofs.YtlimjohnimgnhaaGreatDoor
open Go.RowKit

theorem knB_take {fs : List FrT} {k : Int} {j i : Nat} {f : FrT} (hj : fs[j]? = some f) (hji : j < i) : (((fs.take i).drop j).any fun g => g.k == k) = ((f.k == k) || ((fs.take i).drop (j + 1)).any fun g => g.k == k) := by
  have h : (fs.take i)[j]? = some f := by rw [List.getElem?_take, if_pos hji]; exact hj
  exact any_drop (p := fun g : FrT => g.k == k) h
set_option maxRecDepth 100000 in
theorem rAllA (n : ByteArray) (k a x y z lo hi : Int) (fp : Option Addr) (fl fc : Nat) (e : Int) (he : (e != 0) = true) (q1 : Ca 45 #[.agg #[.string n, .int .i64 k, .int .i64 a, .int .i64 x, .int .i64 y, .int .i64 z, .int .i64 lo, .int .i64 hi, .slice fp fl fc]] (.int .i64 e)) (w : World) : Calls Tryz.prog 20 #[.agg #[.string n, .int .i64 k, .int .i64 a, .int .i64 x, .int .i64 y, .int .i64 z, .int .i64 lo, .int .i64 hi, .slice fp fl fc]] w fun r W' => r = .returned (.int .i64 e) ∧ Kb w W' := by
  have i1 := Is.made w #[.string n, .int .i64 k, .int .i64 a, .int .i64 x, .int .i64 y, .int .i64 z, .int .i64 lo, .int .i64 hi, .slice fp fl fc] 28
  have k0 := (Kb.refl w).alloc (.cells #[.string n, .int .i64 k, .int .i64 a, .int .i64 x, .int .i64 y, .int .i64 z, .int .i64 lo, .int .i64 hi, .slice fp fl fc] 28 (0, 0))
  have g0 := i1.c (i := 0) rfl
  have g1 := i1.c (i := 1) rfl
  have g2 := i1.c (i := 2) rfl
  have g3 := i1.c (i := 3) rfl
  have g4 := i1.c (i := 4) rfl
  have g5 := i1.c (i := 5) rfl
  have g6 := i1.c (i := 6) rfl
  have g7 := i1.c (i := 7) rfl
  have g8 := i1.c (i := 8) rfl
  go_enter Tryz.func20, Tryz.ntmps20
  go_wp2_with fail
  refine (q1.o _).mono ?_
  rintro r w1 ⟨rfl, k1⟩
  replace i1 := i1.kb k1
  replace k0 := k0.trans k1
  clear g0 g1 g2 g3 g4 g5 g6 g7 g8
  clear q1
  go_wp2
  go_ret
  exact ⟨rfl, k0⟩
set_option maxRecDepth 100000 in
theorem rAllB (n : ByteArray) (k a x y z lo hi : Int) (fp : Option Addr) (fl fc : Nat) (h8 : 8 < fl) (q1 : Ca 45 #[.agg #[.string n, .int .i64 k, .int .i64 a, .int .i64 x, .int .i64 y, .int .i64 z, .int .i64 lo, .int .i64 hi, .slice fp fl fc]] (.int .i64 0)) (w : World) : Calls Tryz.prog 20 #[.agg #[.string n, .int .i64 k, .int .i64 a, .int .i64 x, .int .i64 y, .int .i64 z, .int .i64 lo, .int .i64 hi, .slice fp fl fc]] w fun r W' => r = .returned (.int .i64 5) ∧ Kb w W' := by
  have h8i : (8 : Int) < (fl : Int) := by omega
  have i1 := Is.made w #[.string n, .int .i64 k, .int .i64 a, .int .i64 x, .int .i64 y, .int .i64 z, .int .i64 lo, .int .i64 hi, .slice fp fl fc] 28
  have k0 := (Kb.refl w).alloc (.cells #[.string n, .int .i64 k, .int .i64 a, .int .i64 x, .int .i64 y, .int .i64 z, .int .i64 lo, .int .i64 hi, .slice fp fl fc] 28 (0, 0))
  have g0 := i1.c (i := 0) rfl
  have g1 := i1.c (i := 1) rfl
  have g2 := i1.c (i := 2) rfl
  have g3 := i1.c (i := 3) rfl
  have g4 := i1.c (i := 4) rfl
  have g5 := i1.c (i := 5) rfl
  have g6 := i1.c (i := 6) rfl
  have g7 := i1.c (i := 7) rfl
  have g8 := i1.c (i := 8) rfl
  go_enter Tryz.func20, Tryz.ntmps20
  go_wp2_with fail
  refine (q1.o _).mono ?_
  rintro r w1 ⟨rfl, k1⟩
  replace i1 := i1.kb k1
  replace k0 := k0.trans k1
  clear g0 g1 g2 g3 g4 g5 g6 g7 g8
  clear q1
  have c8 := i1.c (i := 8) rfl
  go_wp2
  go_ret
  exact ⟨rfl, k0⟩
set_option maxRecDepth 100000 in
theorem rAllC (n : ByteArray) (k a x y z lo hi : Int) (fp : Option Addr) (fc : Nat) (q1 : Ca 45 #[.agg #[.string n, .int .i64 k, .int .i64 a, .int .i64 x, .int .i64 y, .int .i64 z, .int .i64 lo, .int .i64 hi, .slice fp 0 fc]] (.int .i64 0)) (w : World) : Calls Tryz.prog 20 #[.agg #[.string n, .int .i64 k, .int .i64 a, .int .i64 x, .int .i64 y, .int .i64 z, .int .i64 lo, .int .i64 hi, .slice fp 0 fc]] w fun r W' => r = .returned (.int .i64 0) ∧ Kb w W' := by
  have i1 := Is.made w #[.string n, .int .i64 k, .int .i64 a, .int .i64 x, .int .i64 y, .int .i64 z, .int .i64 lo, .int .i64 hi, .slice fp 0 fc] 28
  have k0 := (Kb.refl w).alloc (.cells #[.string n, .int .i64 k, .int .i64 a, .int .i64 x, .int .i64 y, .int .i64 z, .int .i64 lo, .int .i64 hi, .slice fp 0 fc] 28 (0, 0))
  have g0 := i1.c (i := 0) rfl
  have g1 := i1.c (i := 1) rfl
  have g2 := i1.c (i := 2) rfl
  have g3 := i1.c (i := 3) rfl
  have g4 := i1.c (i := 4) rfl
  have g5 := i1.c (i := 5) rfl
  have g6 := i1.c (i := 6) rfl
  have g7 := i1.c (i := 7) rfl
  have g8 := i1.c (i := 8) rfl
  go_enter Tryz.func20, Tryz.ntmps20
  go_wp2_with fail
  refine (q1.o _).mono ?_
  rintro r w1 ⟨rfl, k1⟩
  replace i1 := i1.kb k1
  replace k0 := k0.trans k1
  clear g0 g1 g2 g3 g4 g5 g6 g7 g8
  clear q1
  have c8 := i1.c (i := 8) rfl
  go_wp2_with fail
  refine wp_loop_rounds 1 ?_
  rw [rounds_succ]
  go_wp2
  go_ret
  exact ⟨rfl, k0⟩
set_option maxRecDepth 100000 in
set_option maxHeartbeats 8000000 in
theorem rAllD {w0 : World} (n : ByteArray) (k a x y z lo hi : Int) (b off fl fc : Nat) (fs : List FrT) (hnz : n.size ≤ 1000000) (hf0 : FrP w0 (.slice (some ⟨b, off, none⟩) fl fc) fs) (h8 : fl ≤ 8) (hz0 : ∀ f ∈ fs, f.ds.length ≤ 100000 ∧ ∀ d ∈ f.ds, d.1.size ≤ 1000000) (q1 : Ca 45 #[.agg #[.string n, .int .i64 k, .int .i64 a, .int .i64 x, .int .i64 y, .int .i64 z, .int .i64 lo, .int .i64 hi, .slice (some ⟨b, off, none⟩) fl fc]] (.int .i64 0)) (w : World) (gl : Gf w0 w) : Calls Tryz.prog 20 #[.agg #[.string n, .int .i64 k, .int .i64 a, .int .i64 x, .int .i64 y, .int .i64 z, .int .i64 lo, .int .i64 hi, .slice (some ⟨b, off, none⟩) fl fc]] w fun r W' => r = .returned (.int .i64 (fsF n k a x y z lo hi [] fs)) ∧ Kb w W' := by
  have HF := Lib.hid hf0
  have HZ := Lib.hid hz0
  have HL := Lib.hid hf0.len
  have HG := Lib.hid gl
  have H0 : Hid (fsF n k a x y z lo hi [] fs = fsF n k a x y z lo hi (fs.take 0) (fs.drop 0)) := rfl
  have h8i : ¬ (8 : Int) < (fl : Int) := by omega
  clear hf0 hz0 gl
  have i1 := Is.made w #[.string n, .int .i64 k, .int .i64 a, .int .i64 x, .int .i64 y, .int .i64 z, .int .i64 lo, .int .i64 hi, .slice (some ⟨b, off, none⟩) fl fc] 28
  have k0 := (Kb.refl w).alloc (.cells #[.string n, .int .i64 k, .int .i64 a, .int .i64 x, .int .i64 y, .int .i64 z, .int .i64 lo, .int .i64 hi, .slice (some ⟨b, off, none⟩) fl fc] 28 (0, 0))
  have g0 := i1.c (i := 0) rfl
  have g1 := i1.c (i := 1) rfl
  have g2 := i1.c (i := 2) rfl
  have g3 := i1.c (i := 3) rfl
  have g4 := i1.c (i := 4) rfl
  have g5 := i1.c (i := 5) rfl
  have g6 := i1.c (i := 6) rfl
  have g7 := i1.c (i := 7) rfl
  have g8 := i1.c (i := 8) rfl
  go_enter Tryz.func20, Tryz.ntmps20
  go_wp2_with fail
  refine (q1.o _).mono ?_
  rintro r w1 ⟨rfl, k1⟩
  replace i1 := i1.kb k1
  replace k0 := k0.trans k1
  clear g0 g1 g2 g3 g4 g5 g6 g7 g8
  clear q1
  have c8 := i1.c (i := 8) rfl
  go_wp2
  clear c8 h8i
  go_loopg [4] fl (fun gk s4 wr => ∃ i : Nat, s4 = .int .i64 i ∧ i + gk = fl ∧ Hid (fsF n k a x y z lo hi [] fs = fsF n k a x y z lo hi (fs.take i) (fs.drop i)) ∧ Is wr w.heap.size #[.string n, .int .i64 k, .int .i64 a, .int .i64 x, .int .i64 y, .int .i64 z, .int .i64 lo, .int .i64 hi, .slice (some ⟨b, off, none⟩) fl fc] 28 ∧ Kb w wr)
  case atStart => exact ⟨0, rfl, by omega, H0, i1, k0⟩
  case round =>
    clear i1 k0
    obtain ⟨i, rfl, hq, hE, i1, kk⟩ := hrel
    have hi0 : (0 : Int) ≤ (i : Int) := by omega
    have c8 := i1.c (i := 8) rfl
    by_cases hlt : i < fl
    · have hil : (i : Int) < (fl : Int) := by omega
      obtain ⟨f, hfi⟩ : ∃ f, fs[i]? = some f := ⟨_, List.getElem?_eq_getElem (by have := HL.out; omega)⟩
      obtain ⟨q, m, e, hcells, hds, hme⟩ := HF.out.get hfi
      obtain ⟨y0, y1, y2, y3, y4⟩ := hcells wr (HG.out.kb kk).at0
      have hzf := HZ.out f (List.mem_of_getElem? hfi)
      have hStep := fsF_drop (n := n) (k := k) (a := a) (x := x) (y := y) (z := z) (lo := lo) (hi := hi) hfi
      have hml := hds.len
      have HC := Lib.hid (rfrCheck (w0 := w0) n k a x y z lo hi (some ⟨b, off, none⟩) fl fc f.k f.d f.t f.m q m e f.ds hnz hds hzf.2)
      change Hid (Cf w0 _ _ (.int .i64 (fcF n k a x y z lo hi f))) at HC
      have HCE := Lib.hid hcells
      clear hcells hds hzf hml hme
      have HE := Lib.hid hE.out
      have Hi := Lib.hid hq
      have HFI := Lib.hid hfi
      have kd := kk.drew
      clear hE hq hfi
      have g0 := i1.c (i := 0) rfl
      have g1 := i1.c (i := 1) rfl
      have g2 := i1.c (i := 2) rfl
      have g3 := i1.c (i := 3) rfl
      have g4 := i1.c (i := 4) rfl
      have g5 := i1.c (i := 5) rfl
      have g6 := i1.c (i := 6) rfl
      have g7 := i1.c (i := 7) rfl
      by_cases e1 : fcF n k a x y z lo hi f = 0
      · rw [e1] at HC hStep
        rw [if_pos rfl] at hStep
        have HS := Lib.hid hStep
        clear hStep
        go_wp2_with fail
        go_region_with (go_at_call 14; with_reducible refine (HC.out.out _ (HG.out.kb kd)).mono ?_; rintro r w1 ⟨rfl, k1⟩)
        all_goals
          replace i1 := (i1.drew).kb k1
          replace kd := kd.trans k1
          clear g0 g1 g2 g3 g4 g5 g6 g7 c8 y0 y1 y2 y3 y4
          have H1 : Hid (knB (fs.take i) f.k = ((fs.take i).drop 0).any fun g => g.k == f.k) := rfl
          go_wp2
          rename_i gi _ _
          go_loopg [6] i (fun gk s6 wr => ∃ j : Nat, s6 = .int .i64 j ∧ j + gk = i ∧ Hid (knB (fs.take i) f.k = ((fs.take i).drop j).any fun g => g.k == f.k) ∧ Is wr w.heap.size #[.string n, .int .i64 k, .int .i64 a, .int .i64 x, .int .i64 y, .int .i64 z, .int .i64 lo, .int .i64 hi, .slice (some ⟨b, off, none⟩) fl fc] 28 ∧ Kb w wr)
          case atStart => exact ⟨0, rfl, by omega, H1, i1, kd⟩
          case round =>
            clear i1 kd
            obtain ⟨j, rfl, hj, hB, i1, kj⟩ := hrel
            have hj0 : (0 : Int) ≤ (j : Int) := by omega
            have c8 := i1.c (i := 8) rfl
            by_cases hji : j < i
            · have hjd : (j : Int) < (fl : Int) := by omega
              have hjl : (j : Int) < (i : Int) := by omega
              obtain ⟨g, hgj⟩ : ∃ g, fs[j]? = some g := ⟨_, List.getElem?_eq_getElem (by have := HL.out; omega)⟩
              obtain ⟨_, _, _, hcg, _⟩ := HF.out.get hgj
              obtain ⟨z0, _⟩ := hcg _ (HG.out.kb kj).at0
              obtain ⟨x0, _⟩ := HCE.out _ (HG.out.kb kj).at0
              have hTake := knB_take (k := f.k) hgj hji
              have Hj := Lib.hid hj
              clear hgj hj hcg
              rcases Bool.eq_false_or_eq_true (g.k == f.k) with hc | hc
              · have hEnd : Hid (fsF n k a x y z lo hi [] fs = 7) := by
                  show _ = _
                  have hb : knB (fs.take i) f.k = true := by rw [hB.out, hTake, hc, Bool.true_or]
                  rw [HE.out, HS.out, if_pos hb]
                clear hTake hB
                generalize g.k = gk1 at *
                generalize f.k = fk1 at *
                go_wp2
                go_region
                go_wp2
                go_ret
                exact ⟨by rw [hEnd.out]; rfl, kj.drew⟩
              · have hB2 : Hid (knB (fs.take i) f.k = ((fs.take i).drop (j + 1)).any fun g => g.k == f.k) := by
                  show _ = _
                  rw [hB.out, hTake, hc, Bool.false_or]
                clear hTake hB
                go_wp2
                go_region
                go_wp2
                have hj := Hj.out
                go_roundg (gk - 1)
                case measure => omega
                case rel => exact ⟨j + 1, by go_num, by omega, hB2, i1.drew, kj.drew⟩
            · obtain rfl : j = i := by omega
              have hb : knB (fs.take j) f.k = false := by
                rw [hB.out, List.drop_of_length_le (by rw [List.length_take]; omega)]; rfl
              have hN : Hid (fsF n k a x y z lo hi [] fs = fsF n k a x y z lo hi (fs.take (j + 1)) (fs.drop (j + 1))) := by
                show _ = _
                rw [HE.out, HS.out, if_neg (by rw [hb]; decide)]
              clear hb hB hj
              go_wp2
              have hq := Hi.out
              go_roundg (fl - j - 1)
              case measure => omega
              case rel => exact ⟨j + 1, by go_num, by omega, hN, i1, kj⟩
      · have hEnd : Hid (fsF n k a x y z lo hi [] fs = fcF n k a x y z lo hi f) := by
          show _ = _
          rw [HE.out, hStep, if_neg e1]
        have hne : (fcF n k a x y z lo hi f != 0) = true := by simpa using e1
        clear hStep HE
        generalize fcF n k a x y z lo hi f = em at *
        go_wp2_with fail
        go_region_with (go_at_call 14; with_reducible refine (HC.out.out _ (HG.out.kb kd)).mono ?_; rintro r w1 ⟨rfl, k1⟩)
        all_goals replace kd := kd.trans k1
        all_goals clear g0 g1 g2 g3 g4 g5 g6 g7 i1 c8 y0 y1 y2 y3 y4
        all_goals go_wp2
        all_goals go_ret
        all_goals exact ⟨by rw [hEnd.out]; rfl, kd⟩
    · obtain rfl : i = fl := by omega
      have hEnd : Hid (fsF n k a x y z lo hi [] fs = 0) := by
        show _ = _
        rw [hE.out, List.drop_of_length_le (by have := HL.out; omega)]; rfl
      clear hq hE
      go_wp2
      go_ret
      exact ⟨by rw [hEnd.out]; rfl, kk⟩
theorem rfrAll {w0 : World} (n : ByteArray) (k a x y z lo hi : Int) (fp : Option Addr) (fl fc : Nat) (fs : List FrT) (hnz : n.size ≤ 1000000) (hf : FrP w0 (.slice fp fl fc) fs) (hz : ∀ f ∈ fs, f.ds.length ≤ 100000 ∧ ∀ d ∈ f.ds, d.1.size ≤ 1000000) : Cf w0 20 #[.agg #[.string n, .int .i64 k, .int .i64 a, .int .i64 x, .int .i64 y, .int .i64 z, .int .i64 lo, .int .i64 hi, .slice fp fl fc]] (.int .i64 (alE n k a x y z lo hi fs)) := Lib.hid fun w gl => by
  have q1 := rfCheck n k a x y z lo hi (.slice fp fl fc) hnz
  have hl := hf.len
  unfold alE
  by_cases e1 : ftE n k a x y z lo hi = 0
  · rw [if_pos e1, ← hl]
    rw [e1] at q1
    by_cases h8 : 8 < fl
    · rw [if_pos h8]; exact rAllB n k a x y z lo hi fp fl fc h8 q1 w
    · rw [if_neg h8]
      by_cases h0 : fl = 0
      · subst h0
        obtain rfl : fs = [] := List.length_eq_zero_iff.1 hl.symm
        exact rAllC n k a x y z lo hi fp fc q1 w
      · obtain ⟨b, off, rfl, _⟩ := hf.at (by omega)
        exact rAllD n k a x y z lo hi b off fl fc fs hnz hf (by omega) hz q1 w gl
  · rw [if_neg e1]
    exact rAllA n k a x y z lo hi fp fl fc _ (by simpa using e1) q1 w
end Go.Proofs.YtlimjohnimgnhaaGreatDoor
