/- Texts Un1: each says in its own first comment what it proves. -/
import Derived.Test.YtlimjohnimgnhaaGreatDoorM41
import Derived.Test.YtlimjohnimgnhaaGreatDoorM45
/- Frames: the reference: Plain, datums. -/
namespace Go.Proofs.YtlimjohnimgnhaaGreatDoor
open Go.RowKit

set_option maxRecDepth 100000 in
set_option maxHeartbeats 4000000 in
theorem rmaterial_1 (m : Int)      (h1 : m < 0) (w : World)  : Calls Tryz.prog 52 #[.int .i64 m] w fun r W' => r = .returned (.int .i64 1) ∧ Kb w W' := by
  have kx := Kb.refl w
  go_enter Tryz.func52, Tryz.ntmps52
  go_wp2
  go_ret
  exact ⟨rfl, kx⟩
set_option maxRecDepth 100000 in
set_option maxHeartbeats 4000000 in
theorem rmaterial_2 (m : Int)      (h1 : ¬ m < 0) (h2 : 3 ≤ m) (w : World)  : Calls Tryz.prog 52 #[.int .i64 m] w fun r W' => r = .returned (.int .i64 1) ∧ Kb w W' := by
  have kx := Kb.refl w
  go_enter Tryz.func52, Tryz.ntmps52
  go_wp2
  go_ret
  exact ⟨rfl, kx⟩
set_option maxRecDepth 100000 in
set_option maxHeartbeats 4000000 in
theorem rmaterial_3 (m : Int)      (h1 : ¬ m < 0) (h2 : ¬ 3 ≤ m) (w : World)  : Calls Tryz.prog 52 #[.int .i64 m] w fun r W' => r = .returned (.int .i64 0) ∧ Kb w W' := by
  have kx := Kb.refl w
  go_enter Tryz.func52, Tryz.ntmps52
  go_wp2
  go_ret
  exact ⟨rfl, kx⟩
set_option maxRecDepth 100000 in
theorem rmaterial_any (m : Int)    : Ca 52 #[.int .i64 m] (if m < 0 then (.int .i64 1) else (if 3 ≤ m then (.int .i64 1) else (.int .i64 0))) := Lib.hid fun w => by
  by_cases h1 : m < 0
  · rw [if_pos h1]
    exact rmaterial_1 m h1 w
  · rw [if_neg h1]
    by_cases h2 : 3 ≤ m
    · rw [if_pos h2]
      exact rmaterial_2 m h1 h2 w
    · rw [if_neg h2]
      exact rmaterial_3 m h1 h2 w
theorem rmat (m : Int) : Ca 52 #[.int .i64 m] (.int .i64 (cmE m)) := by
  have q := rmaterial_any m
  have e : (if m < 0 then (Value.int .i64 1) else (if 3 ≤ m then (.int .i64 1) else (.int .i64 0))) = .int .i64 (cmE m) := by
    unfold cmE fE
    by_cases h1 : m < 0
    · simp [h1]
    · by_cases h2 : 3 ≤ m <;> simp [h1, h2]
  rw [e] at q; exact q
set_option maxRecDepth 100000 in
set_option maxHeartbeats 4000000 in
theorem rPlain_1 (w0 : World) (fk : Int) (fd : Bool) (ft : Int) (fm : Int) (dp : Option Addr) (dl : Nat) (dc : Nat)      (h1 : fk < 0) (w : World) (gl : Gf w0 w)  : Calls Tryz.prog 16 #[.agg #[.int .i64 fk, .bool fd, .int .i64 ft, .int .i64 fm, .slice dp dl dc]] w fun r W' => r = .returned (.int .i64 1) ∧ Kb w W' := by
  have kx := Kb.refl w
  have gl0 := Lib.hid gl
  have j1 := (Is.made w #[.int .i64 fk, .bool fd, .int .i64 ft, .int .i64 fm, .slice dp dl dc] 31)
  have f2 := j1.c (i := 0) rfl
  go_enter Tryz.func16, Tryz.ntmps16
  go_wp2
  go_ret
  clear f2
  replace kx := kx.alloc (.cells #[.int .i64 fk, .bool fd, .int .i64 ft, .int .i64 fm, .slice dp dl dc] 31 (0, 0))
  exact ⟨rfl, kx⟩
set_option maxRecDepth 100000 in
set_option maxHeartbeats 4000000 in
theorem rPlain_2 (w0 : World) (fk : Int) (fd : Bool) (ft : Int) (fm : Int) (dp : Option Addr) (dl : Nat) (dc : Nat)      (h1 : ¬ fk < 0) (h2 : 9 ≤ fk) (w : World) (gl : Gf w0 w)  : Calls Tryz.prog 16 #[.agg #[.int .i64 fk, .bool fd, .int .i64 ft, .int .i64 fm, .slice dp dl dc]] w fun r W' => r = .returned (.int .i64 1) ∧ Kb w W' := by
  have kx := Kb.refl w
  have gl0 := Lib.hid gl
  have j1 := (Is.made w #[.int .i64 fk, .bool fd, .int .i64 ft, .int .i64 fm, .slice dp dl dc] 31)
  have f2 := j1.c (i := 0) rfl
  go_enter Tryz.func16, Tryz.ntmps16
  go_wp2
  go_ret
  clear f2
  replace kx := kx.alloc (.cells #[.int .i64 fk, .bool fd, .int .i64 ft, .int .i64 fm, .slice dp dl dc] 31 (0, 0))
  exact ⟨rfl, kx⟩
set_option maxRecDepth 100000 in
set_option maxHeartbeats 4000000 in
theorem rPlain_3 (w0 : World) (fk : Int) (fd : Bool) (ft : Int) (fm : Int) (dp : Option Addr) (dl : Nat) (dc : Nat)      (h1 : ¬ fk < 0) (h2 : ¬ 9 ≤ fk) (h3 : ((cmE fm) != 0) = true) (w : World) (gl : Gf w0 w)  : Calls Tryz.prog 16 #[.agg #[.int .i64 fk, .bool fd, .int .i64 ft, .int .i64 fm, .slice dp dl dc]] w fun r W' => r = .returned (.int .i64 (cmE fm)) ∧ Kb w W' := by
  have kx := Kb.refl w
  have gl0 := Lib.hid gl
  have j1 := (Is.made w #[.int .i64 fk, .bool fd, .int .i64 ft, .int .i64 fm, .slice dp dl dc] 31)
  have f2 := j1.c (i := 0) rfl
  have f3 := j1.c (i := 3) rfl
  go_enter Tryz.func16, Tryz.ntmps16
  go_wp2_with fail
  clear f2 f3
  have b1 := j1
  replace kx := kx.alloc (.cells #[.int .i64 fk, .bool fd, .int .i64 ft, .int .i64 fm, .slice dp dl dc] 31 (0, 0))
  clear j1
  replace gl := gl0.out.kb kx
  (with_reducible refine ((Ca.o (rmat fm) _)).mono ?_)
  rintro r w1 ⟨rfl, k1⟩
  replace gl := gl.kb k1
  replace b1 := b1.kb k1
  replace kx := kx.trans k1
  have s1 := k1.size
  simp only [World.size_alloc] at s1
  clear k1
  go_wp2
  go_ret
  exact ⟨rfl, kx⟩
set_option maxRecDepth 100000 in
set_option maxHeartbeats 4000000 in
theorem rPlain_4 (w0 : World) (fk : Int) (fd : Bool) (ft : Int) (fm : Int) (dp : Option Addr) (dl : Nat) (dc : Nat)      (h1 : ¬ fk < 0) (h2 : ¬ 9 ≤ fk) (h3 : ((cmE fm) != 0) = false) (h4 : ft < 0) (w : World) (gl : Gf w0 w)  : Calls Tryz.prog 16 #[.agg #[.int .i64 fk, .bool fd, .int .i64 ft, .int .i64 fm, .slice dp dl dc]] w fun r W' => r = .returned (.int .i64 2) ∧ Kb w W' := by
  have kx := Kb.refl w
  have gl0 := Lib.hid gl
  have j1 := (Is.made w #[.int .i64 fk, .bool fd, .int .i64 ft, .int .i64 fm, .slice dp dl dc] 31)
  have f2 := j1.c (i := 0) rfl
  have f3 := j1.c (i := 3) rfl
  go_enter Tryz.func16, Tryz.ntmps16
  go_wp2_with fail
  clear f2 f3
  have b1 := j1
  replace kx := kx.alloc (.cells #[.int .i64 fk, .bool fd, .int .i64 ft, .int .i64 fm, .slice dp dl dc] 31 (0, 0))
  clear j1
  replace gl := gl0.out.kb kx
  (with_reducible refine ((Ca.o (rmat fm) _)).mono ?_)
  rintro r w1 ⟨rfl, k1⟩
  replace gl := gl.kb k1
  replace b1 := b1.kb k1
  replace kx := kx.trans k1
  have s1 := k1.size
  simp only [World.size_alloc] at s1
  clear k1
  have f4 := b1.c (i := 2) rfl
  go_wp2
  go_ret
  clear f4
  exact ⟨rfl, kx⟩
set_option maxRecDepth 100000 in
set_option maxHeartbeats 4000000 in
theorem rPlain_5 (w0 : World) (fk : Int) (fd : Bool) (ft : Int) (fm : Int) (dp : Option Addr) (dl : Nat) (dc : Nat)      (h1 : ¬ fk < 0) (h2 : ¬ 9 ≤ fk) (h3 : ((cmE fm) != 0) = false) (h4 : ¬ ft < 0) (h5 : 100000 < ft) (w : World) (gl : Gf w0 w)  : Calls Tryz.prog 16 #[.agg #[.int .i64 fk, .bool fd, .int .i64 ft, .int .i64 fm, .slice dp dl dc]] w fun r W' => r = .returned (.int .i64 2) ∧ Kb w W' := by
  have kx := Kb.refl w
  have gl0 := Lib.hid gl
  have j1 := (Is.made w #[.int .i64 fk, .bool fd, .int .i64 ft, .int .i64 fm, .slice dp dl dc] 31)
  have f2 := j1.c (i := 0) rfl
  have f3 := j1.c (i := 3) rfl
  go_enter Tryz.func16, Tryz.ntmps16
  go_wp2_with fail
  clear f2 f3
  have b1 := j1
  replace kx := kx.alloc (.cells #[.int .i64 fk, .bool fd, .int .i64 ft, .int .i64 fm, .slice dp dl dc] 31 (0, 0))
  clear j1
  replace gl := gl0.out.kb kx
  (with_reducible refine ((Ca.o (rmat fm) _)).mono ?_)
  rintro r w1 ⟨rfl, k1⟩
  replace gl := gl.kb k1
  replace b1 := b1.kb k1
  replace kx := kx.trans k1
  have s1 := k1.size
  simp only [World.size_alloc] at s1
  clear k1
  have f4 := b1.c (i := 2) rfl
  go_wp2
  go_ret
  clear f4
  exact ⟨rfl, kx⟩
set_option maxRecDepth 100000 in
set_option maxHeartbeats 4000000 in
theorem rPlain_6 (w0 : World) (fk : Int) (fd : Bool) (ft : Int) (fm : Int) (dp : Option Addr) (dl : Nat) (dc : Nat) (r1 : Int)   (q1 : Cf w0 53 #[.slice dp dl dc] (.int .i64 r1))  (h1 : ¬ fk < 0) (h2 : ¬ 9 ≤ fk) (h3 : ((cmE fm) != 0) = false) (h4 : ¬ ft < 0) (h5 : ¬ 100000 < ft) (w : World) (gl : Gf w0 w)  : Calls Tryz.prog 16 #[.agg #[.int .i64 fk, .bool fd, .int .i64 ft, .int .i64 fm, .slice dp dl dc]] w fun r W' => r = .returned (.int .i64 r1) ∧ Kb w W' := by
  have kx := Kb.refl w
  unfold Cf at q1
  have gl0 := Lib.hid gl
  have j1 := (Is.made w #[.int .i64 fk, .bool fd, .int .i64 ft, .int .i64 fm, .slice dp dl dc] 31)
  have f2 := j1.c (i := 0) rfl
  have f3 := j1.c (i := 3) rfl
  go_enter Tryz.func16, Tryz.ntmps16
  go_wp2_with fail
  clear f2 f3
  have b1 := j1
  replace kx := kx.alloc (.cells #[.int .i64 fk, .bool fd, .int .i64 ft, .int .i64 fm, .slice dp dl dc] 31 (0, 0))
  clear j1
  replace gl := gl0.out.kb kx
  (with_reducible refine ((Ca.o (rmat fm) _)).mono ?_)
  rintro r w1 ⟨rfl, k1⟩
  replace gl := gl.kb k1
  replace b1 := b1.kb k1
  replace kx := kx.trans k1
  have s1 := k1.size
  simp only [World.size_alloc] at s1
  clear k1
  have f4 := b1.c (i := 2) rfl
  have f5 := b1.c (i := 4) rfl
  go_wp2_with fail
  clear f4 f5
  (with_reducible refine ((q1.out _ gl)).mono ?_)
  rintro r w2 ⟨rfl, k2⟩
  replace gl := gl.kb k2
  replace b1 := b1.kb k2
  replace kx := kx.trans k2
  have s2 := k2.size
  skip
  clear k2
  go_wp2
  go_ret
  exact ⟨rfl, kx⟩
set_option maxRecDepth 100000 in
theorem rPlain_any (w0 : World) (fk : Int) (fd : Bool) (ft : Int) (fm : Int) (dp : Option Addr) (dl : Nat) (dc : Nat) (r1 : Int) (q1 : Cf w0 53 #[.slice dp dl dc] (.int .i64 r1))  : Cf w0 16 #[.agg #[.int .i64 fk, .bool fd, .int .i64 ft, .int .i64 fm, .slice dp dl dc]] (if fk < 0 then (.int .i64 1) else (if 9 ≤ fk then (.int .i64 1) else (if ((cmE fm) != 0) = true then (.int .i64 (cmE fm)) else (if ft < 0 then (.int .i64 2) else (if 100000 < ft then (.int .i64 2) else (.int .i64 r1)))))) := Lib.hid fun w gl => by
  by_cases h1 : fk < 0
  · rw [if_pos h1]
    exact rPlain_1 w0 fk fd ft fm dp dl dc h1 w gl
  · rw [if_neg h1]
    by_cases h2 : 9 ≤ fk
    · rw [if_pos h2]
      exact rPlain_2 w0 fk fd ft fm dp dl dc h1 h2 w gl
    · rw [if_neg h2]
      rcases Bool.eq_false_or_eq_true ((cmE fm) != 0) with h3 | h3
      · rw [if_pos h3]
        exact rPlain_3 w0 fk fd ft fm dp dl dc h1 h2 h3 w gl
      · rw [if_neg (by rw [h3]; decide)]
        by_cases h4 : ft < 0
        · rw [if_pos h4]
          exact rPlain_4 w0 fk fd ft fm dp dl dc h1 h2 h3 h4 w gl
        · rw [if_neg h4]
          by_cases h5 : 100000 < ft
          · rw [if_pos h5]
            exact rPlain_5 w0 fk fd ft fm dp dl dc h1 h2 h3 h4 h5 w gl
          · rw [if_neg h5]
            exact rPlain_6 w0 fk fd ft fm dp dl dc r1 q1 h1 h2 h3 h4 h5 w gl
/-- a name is among those of the first datums -/
theorem dnB_take {ds : List DatT} {nm : ByteArray} {j i : Nat} {d : DatT} (hj : ds[j]? = some d) (hji : j < i) : (((ds.take i).drop j).any fun x => x.1.toList == nm.toList) = ((d.1.toList == nm.toList) || ((ds.take i).drop (j + 1)).any fun x => x.1.toList == nm.toList) := by
  have h : (ds.take i)[j]? = some d := by rw [List.getElem?_take, if_pos hji]; exact hj
  exact any_drop (p := fun x : DatT => x.1.toList == nm.toList) h
set_option maxRecDepth 100000 in
set_option maxHeartbeats 8000000 in
theorem rdatums1 {w0 : World} (b off dl dc : Nat) (ds : List DatT) (hd0 : DatS w0 (.slice (some ⟨b, off, none⟩) dl dc) ds) (h3 : dl ≤ 3) (hz0 : ∀ d ∈ ds, d.1.size ≤ 1000000) (w : World) (gl : Gf w0 w) : Calls Tryz.prog 53 #[.slice (some ⟨b, off, none⟩) dl dc] w fun r W' => r = .returned (.int .i64 (dsE ds)) ∧ Kb w W' := by
  have HD := Lib.hid hd0
  have HZ := Lib.hid hz0
  have HL := Lib.hid hd0.len
  have HG := Lib.hid gl
  have H0 : Hid (dsE ds = dsF (ds.take 0) (ds.drop 0)) := rfl
  have h3i : ¬ (3 : Int) < (dl : Int) := by omega
  clear hd0 hz0 gl
  go_enter Tryz.func53, Tryz.ntmps53
  go_wp2
  go_loopg [3] dl (fun gk s3 wr => ∃ i : Nat, s3 = .int .i64 i ∧ i + gk = dl ∧ Hid (dsE ds = dsF (ds.take i) (ds.drop i)) ∧ Kb w wr)
  case atStart => exact ⟨0, rfl, by omega, H0, Kb.refl _⟩
  case round =>
    obtain ⟨i, rfl, hi, hE, kk⟩ := hrel
    have hi0 : (0 : Int) ≤ (i : Int) := by omega
    by_cases hlt : i < dl
    · have hil : (i : Int) < (dl : Int) := by omega
      obtain ⟨⟨s, m⟩, hdi⟩ : ∃ d, ds[i]? = some d := ⟨_, List.getElem?_eq_getElem (by have := HL.out; omega)⟩
      have hz1 := HZ.out _ (List.mem_of_getElem? hdi)
      obtain ⟨y0, y1⟩ := HD.out.cell (HG.out.kb kk).at0 hdi
      dsimp only at y0 y1 hz1
      have hStep := dsF_drop hdi
      have q1 := Lib.hid ((rName s hz1).o wr)
      have Hi := Lib.hid hi
      have HDI := Lib.hid hdi
      clear hi hdi
      by_cases e1 : nmE s = 0
      · -- the name is right: is it there already?
        rw [e1] at q1
        have HS : Hid (dtE (ds.take i) (s, m) = firstE [fE (dnB (ds.take i) s) 7, firstE [cmE m]]) := by
          show firstE [firstE [nmE s], _, _] = _
          rw [show firstE [nmE s] = 0 by rw [e1]; rfl]; rfl
        go_wp2_with fail
        refine (q1.out).mono ?_
        rintro r w1 ⟨rfl, k1⟩
        have kk1 := kk.trans k1
        have HST := Lib.hid hStep
        have H1 : Hid (dnB (ds.take i) s = ((ds.take i).drop 0).any fun x => x.1.toList == s.toList) := rfl
        have HE := hE
        clear hStep hE y0 y1
        go_wp2
        rename_i gi _ _
        go_loopg [5] i (fun gk s5 wr => ∃ j : Nat, s5 = .int .i64 j ∧ j + gk = i ∧ Hid (dnB (ds.take i) s = ((ds.take i).drop j).any fun x => x.1.toList == s.toList) ∧ Kb w wr)
        case atStart => exact ⟨0, rfl, by omega, H1, kk1⟩
        case round =>
          obtain ⟨j, rfl, hj, hB, kj⟩ := hrel
          have hj0 : (0 : Int) ≤ (j : Int) := by omega
          by_cases hji : j < i
          · have hjd : (j : Int) < (dl : Int) := by omega
            have hjl : (j : Int) < (i : Int) := by omega
            obtain ⟨⟨s2, m2⟩, hdj⟩ : ∃ d, ds[j]? = some d := ⟨_, List.getElem?_eq_getElem (by have := HL.out; omega)⟩
            obtain ⟨z0, _⟩ := HD.out.cell (HG.out.kb kj).at0 hdj
            obtain ⟨x0, _⟩ := HD.out.cell (HG.out.kb kj).at0 HDI.out
            dsimp only at z0 x0
            have hTake := dnB_take (nm := s) hdj hji
            have Hj := Lib.hid hj
            clear hdj hj
            rcases Bool.eq_false_or_eq_true (s2.toList == s.toList) with hc | hc
            · have hEnd : Hid (dsE ds = 7) := by
                show _ = _
                have hb : dnB (ds.take i) s = true := by rw [hB.out, hTake]; dsimp only; rw [hc, Bool.true_or]
                have hd : dtE (ds.take i) (s, m) = 7 := by rw [HS.out, hb]; rfl
                rw [HE.out, HST.out, hd, if_neg (by decide)]
              clear hTake hB
              go_wp2
              go_region
              go_wp2
              go_ret
              exact ⟨by rw [hEnd.out]; rfl, kj.drew⟩
            · have hB2 : Hid (dnB (ds.take i) s = ((ds.take i).drop (j + 1)).any fun x => x.1.toList == s.toList) := by
                show _ = _
                rw [hB.out, hTake]; dsimp only; rw [hc, Bool.false_or]
              clear hTake hB
              go_wp2
              go_region
              go_wp2
              have hj := Hj.out
              go_roundg (gk - 1)
              case measure => omega
              case rel => exact ⟨j + 1, by go_num, by omega, hB2, kj.drew⟩
          · obtain rfl : j = i := by omega
            have hb : dnB (ds.take j) s = false := by
              rw [hB.out, List.drop_of_length_le (by rw [List.length_take]; omega)]; rfl
            obtain ⟨_, y1⟩ := HD.out.cell (HG.out.kb kj).at0 HDI.out
            dsimp only at y1
            have q2 := Lib.hid ((rmat m).o wr)
            by_cases e2 : cmE m = 0
            · have hd : dtE (ds.take j) (s, m) = 0 := by rw [HS.out, hb, e2]; rfl
              have hN : Hid (dsE ds = dsF (ds.take (j + 1)) (ds.drop (j + 1))) := by
                show _ = _
                rw [HE.out, HST.out, hd, if_pos rfl]
              rw [e2] at q2
              clear hb hd hB hj
              go_wp2_with fail
              refine (q2.out).mono ?_
              rintro r w3 ⟨rfl, k3⟩
              go_wp2
              have hi := Hi.out
              go_roundg (dl - j - 1)
              case measure => omega
              case rel => exact ⟨j + 1, by go_num, by omega, hN, kj.trans k3⟩
            · have hd : dtE (ds.take j) (s, m) = cmE m := by
                rw [HS.out, hb]
                show firstE [0, firstE [cmE m]] = _
                have h1 : firstE [cmE m] = cmE m := by rw [firstE, if_neg e2]
                rw [firstE, if_pos rfl, h1, h1]
              have hEnd : Hid (dsE ds = cmE m) := by
                show _ = _
                rw [HE.out, HST.out, hd, if_neg e2]
              have hne : (cmE m != 0) = true := by simpa using e2
              generalize cmE m = em at *
              clear hb hd hB hj HS
              go_wp2_with fail
              refine (q2.out).mono ?_
              rintro r w3 ⟨rfl, k3⟩
              go_wp2
              go_ret
              exact ⟨by rw [hEnd.out]; rfl, kj.trans k3⟩
      · have hd : dtE (ds.take i) (s, m) = nmE s := by
          unfold dtE
          have e3 : firstE [nmE (s, m).1] = nmE s := by show firstE [nmE s] = _; rw [firstE, if_neg e1]
          rw [e3, firstE, if_neg e1]
        have hEnd : Hid (dsE ds = nmE s) := by
          show _ = _
          rw [hE.out, hStep, hd, if_neg e1]
        have hne : (nmE s != 0) = true := by simpa using e1
        clear hd hStep hE
        generalize nmE s = em at *
        go_wp2_with fail
        refine (q1.out).mono ?_
        rintro r w1 ⟨rfl, k1⟩
        go_wp2
        go_ret
        exact ⟨by rw [hEnd.out]; rfl, kk.trans k1⟩
    · obtain rfl : i = dl := by omega
      have hEnd : Hid (dsE ds = 0) := by
        show _ = _
        rw [hE.out, List.drop_of_length_le (by have := HL.out; omega)]; rfl
      clear hi hE
      go_wp2
      go_ret
      exact ⟨by rw [hEnd.out]; rfl, kk⟩
end Go.Proofs.YtlimjohnimgnhaaGreatDoor
