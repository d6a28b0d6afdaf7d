/- Texts Un7: each says in its own first comment what it proves. -/
import Derived.Test.YtlfeinajjfbpkaaGreatDoorM07
import Derived.Test.YtlfeinajjfbpkaaGreatDoorM48
/- Frames: the law FrameConditions. -/
namespace Go.Proofs.YtlfeinajjfbpkaaGreatDoor
open Go.RowKit

theorem fpE_m {k t m : Int} {ds : List DatT} (h : fpE k t m ds = 0) : (m = 0 ∨ m = 1 ∨ m = 2) ∧ 0 ≤ t ∧ t ≤ 100000 := by
  have h1 := (fst_z h).2
  have h2 := (fst_z (fst_z h1).1).1
  have h3 := fE_z (by decide) (fst_z (fst_z h1).2).1
  unfold cmE at h2
  have h4 := fE_z (by decide) h2
  rw [Bool.or_eq_false_iff, decide_eq_false_iff_not, decide_eq_false_iff_not] at h3 h4
  omega
theorem fcE_z {n : ByteArray} {k a x y z lo hi fk ft fm : Int} {fd : Bool} {ds : List DatT} (h : fcE n k a x y z lo hi fk fd ft fm ds = 0) : ftE n k a x y z lo hi = 0 ∧ fpE fk ft fm ds = 0 :=
  ⟨(fst_z (fst_z h).1).1, (fst_z (fst_z (fst_z h).2).1).1⟩
theorem ft_lim2 {n : ByteArray} {k a x y z lo hi : Int} (h : ftE n k a x y z lo hi = 0) (hk : k ≠ 0) : 1 ≤ lo ∧ lo ≤ hi ∧ hi ≤ 100000 := by
  have h5 := (fst_z (fst_z (fst_z (fst_z (fst_z (fst_z h).2).2).2).2).2).1
  unfold szE at h5
  rw [if_neg hk] at h5
  have h6 := lmE_0 (fst_z (fst_z h5).1).1
  have h7 := fE_z (by decide) (fst_z (fst_z h5).2).1
  rw [decide_eq_false_iff_not] at h7
  omega
theorem w64_in {z : Int} (h : -9223372036854775808 ≤ z ∧ z ≤ 9223372036854775807) : wrap64 z = z := by
  unfold wrap64; omega
theorem rfrVirtual {w0 : World} (n : ByteArray) (k a x y z lo hi : Int) (fp : Option Addr) (fl fc : Nat) (fk : Int) (fd : Bool) (ft fm : Int) (dp : Option Addr) (dl dc : Nat) (ds : List DatT) (hnz : n.size ≤ 1000000) (hd : DatS w0 (.slice dp dl dc) ds) (hz : ∀ d ∈ ds, d.1.size ≤ 1000000) : Cf w0 23 #[.agg #[.string n, .int .i64 k, .int .i64 a, .int .i64 x, .int .i64 y, .int .i64 z, .int .i64 lo, .int .i64 hi, .slice fp fl fc], .agg #[.int .i64 fk, .bool fd, .int .i64 ft, .int .i64 fm, .slice dp dl dc]] (.tuple #[.int .i64 (vV n k a x y z lo hi fk fd ft fm ds).1, .int .i64 (vV n k a x y z lo hi fk fd ft fm ds).2]) := by
  have q := rvirt_any w0 n k a x y z lo hi fp fl fc fk fd ft fm dp dl dc _ _ _ _ _ _ (rfrCheck n k a x y z lo hi fp fl fc fk fd ft fm dp dl dc ds hnz hd hz) (rMaximum n k a x y z lo hi (.slice fp fl fc) hnz) (rLeast n k a x y z lo hi (.slice fp fl fc) hnz) (rHollow n k a x y z lo hi (.slice fp fl fc))
  unfold vV vtV
  by_cases h1 : fcE n k a x y z lo hi fk fd ft fm ds = 0
  · obtain ⟨e1, e2⟩ := fcE_z h1
    obtain ⟨hm, ht⟩ := fpE_m e2
    have hw : wrap64 (-ft) = -ft := w64_in (by omega)
    have hs : ∀ r : Int, r - -ft = r + ft := fun r => by omega
    have ha : ∀ r : Int, r + -ft = r - ft := fun r => by omega
    rw [h1, if_neg (by decide)] at q ⊢
    rw [if_pos e1]
    rw [hw] at q
    unfold exV
    generalize szdE (ftE n k a x y z lo hi) k = e at *
    rcases hm with rfl | rfl | rfl
    · exact q
    · simp only [show ((1 : Int) == 0) = false from rfl, show ((1 : Int) == 1) = true from rfl, show ((1 : Int) == 2) = false from rfl, Bool.false_eq_true, if_true, if_false] at q ⊢
      by_cases h3 : holB k = true
      · rw [if_pos h3, if_pos h3] at q ⊢; exact q
      · rw [if_neg h3, if_neg h3] at q ⊢; exact q
    · simp only [show ((2 : Int) == 0) = false from rfl, show ((2 : Int) == 1) = false from rfl, show ((2 : Int) == 2) = true from rfl, Bool.false_eq_true, if_true, if_false] at q ⊢
      by_cases h3 : holB k = true
      · rw [if_pos h3, if_pos h3, hs] at q; rw [if_pos h3, if_pos h3]; exact q
      · rw [if_neg h3, if_neg h3, ha] at q; rw [if_neg h3, if_neg h3]; exact q
  · have h2 : (fcE n k a x y z lo hi fk fd ft fm ds != 0) = true := by simpa using h1
    rw [if_pos h2] at q ⊢
    exact q
theorem rfrBonus {w0 : World} (n : ByteArray) (k a x y z lo hi : Int) (fp : Option Addr) (fl fc : Nat) (fk : Int) (fd : Bool) (ft fm : Int) (dp : Option Addr) (dl dc : Nat) (ds : List DatT) (u : Int) (hnz : n.size ≤ 1000000) (hd : DatS w0 (.slice dp dl dc) ds) (hz : ∀ d ∈ ds, d.1.size ≤ 1000000) : Cf w0 25 #[.agg #[.string n, .int .i64 k, .int .i64 a, .int .i64 x, .int .i64 y, .int .i64 z, .int .i64 lo, .int .i64 hi, .slice fp fl fc], .agg #[.int .i64 fk, .bool fd, .int .i64 ft, .int .i64 fm, .slice dp dl dc], .int .i64 u] (.tuple #[.int .i64 (bV n k a x y z lo hi fk fd ft fm ds u).1, .int .i64 (bV n k a x y z lo hi fk fd ft fm ds u).2]) := by
  have q := rbon_any w0 n k a x y z lo hi fp fl fc fk fd ft fm dp dl dc u _ _ _ _ _ _ (rfrCheck n k a x y z lo hi fp fl fc fk fd ft fm dp dl dc ds hnz hd hz) (rHas lo hi u) (rMaximum n k a x y z lo hi (.slice fp fl fc) hnz) (rLeast n k a x y z lo hi (.slice fp fl fc) hnz)
  unfold bV btV
  by_cases h1 : fcE n k a x y z lo hi fk fd ft fm ds = 0
  · obtain ⟨e1, e2⟩ := fcE_z h1
    obtain ⟨hm, _⟩ := fpE_m e2
    rw [h1, if_neg (by decide)] at q ⊢
    by_cases hk : k = 0
    · subst hk
      rw [if_pos (by decide)] at q ⊢
      exact q
    · have hkb : ¬ (k == 0) = true := by simpa using hk
      rw [if_neg hkb] at q ⊢
      obtain ⟨l1, l2, l3⟩ := ft_lim2 e1 hk
      rw [lmE_ok (by omega) (by omega) l2, show ∀ b : Bool, zB 0 b = b from fun b => rfl]
      by_cases hb : hasB lo hi u = true
      · have hb2 : (decide (lo ≤ u) && decide (u ≤ hi)) = true := hb
        rw [if_pos hb] at q
        rw [if_pos hb2]
        rw [Bool.and_eq_true, decide_eq_true_eq, decide_eq_true_eq] at hb2
        have hz : szdE (ftE n k a x y z lo hi) k = 0 := by unfold szdE; rw [if_pos e1, if_neg hk]
        have hI : ∀ r : Int, zI 0 r = r := fun r => rfl
        unfold exV
        rw [hz, hI, hI] at q ⊢
        have hmax : ∀ r : Int, lo ≤ r → r ≤ hi → max (wrap64 (u - r)) (wrap64 (-(wrap64 (u - r)))) = max (wrap64 (u - r)) (wrap64 (r - u)) := fun r a b => by
          rw [w64_in (show -9223372036854775808 ≤ u - r ∧ u - r ≤ 9223372036854775807 by omega), show -(u - r) = r - u by omega]
        rcases hm with rfl | rfl | rfl
        · exact q
        · simp only [show ((1 : Int) == 0) = false from rfl, show ((1 : Int) == 1) = true from rfl, show ((1 : Int) == 2) = false from rfl, Bool.false_eq_true, if_true, if_false] at q ⊢
          rw [hmax _ (by split <;> omega) (by split <;> omega)]
          exact q
        · simp only [show ((2 : Int) == 0) = false from rfl, show ((2 : Int) == 1) = false from rfl, show ((2 : Int) == 2) = true from rfl, Bool.false_eq_true, if_true, if_false] at q ⊢
          rw [hmax _ (by split <;> omega) (by split <;> omega)]
          exact q
      · have hb2 : ¬ (decide (lo ≤ u) && decide (u ≤ hi)) = true := hb
        rw [if_neg hb] at q
        rw [if_neg hb2]
        exact q
  · have h2 : (fcE n k a x y z lo hi fk fd ft fm ds != 0) = true := by simpa using h1
    rw [if_pos h2] at q ⊢
    exact q
set_option maxRecDepth 100000 in
set_option maxHeartbeats 4000000 in
theorem lvA_1 (w0 : World) (n : ByteArray) (k : Int) (a : Int) (x : Int) (y : Int) (z : Int) (lo : Int) (hi : Int) (fp : Option Addr) (fl : Nat) (fc : Nat) (fk : Int) (fd : Bool) (ft : Int) (fm : Int) (dp : Option Addr) (dl : Nat) (dc : Nat) (u : Int)     (fs : List FrT) (ds : List DatT) (hfr : FrS w0 (.slice fp fl fc) fs) (_hd : DatS w0 (.slice dp dl dc) ds) (_hcd : dl ≤ dc) (hfa : (fewB n fs) = false) (w : World) (gl : Gf w0 w)  : Calls Tryz.prog 5 #[.agg #[.string n, .int .i64 k, .int .i64 a, .int .i64 x, .int .i64 y, .int .i64 z, .int .i64 lo, .int .i64 hi, .slice fp fl fc], .agg #[.int .i64 fk, .bool fd, .int .i64 ft, .int .i64 fm, .slice dp dl dc], .int .i64 u] w fun r W' => r = .returned (.bool true) ∧ Kb w W' := by
  have kx := Kb.refl w
  have gl0 := Lib.hid gl
  have j1 := ((Is.made w #[.string n, .int .i64 k, .int .i64 a, .int .i64 x, .int .i64 y, .int .i64 z, .int .i64 lo, .int .i64 hi, .slice fp fl fc] 28).alloc (.cells #[.int .i64 fk, .bool fd, .int .i64 ft, .int .i64 fm, .slice dp dl dc] 31 (0, 0)))
  have f2 := j1.c (i := 0) rfl
  have f3 := j1.c (i := 1) rfl
  have f4 := j1.c (i := 2) rfl
  have f5 := j1.c (i := 3) rfl
  have f6 := j1.c (i := 4) rfl
  have f7 := j1.c (i := 5) rfl
  have f8 := j1.c (i := 6) rfl
  have f9 := j1.c (i := 7) rfl
  have f10 := j1.c (i := 8) rfl
  go_enter Tryz.func5, Tryz.ntmps5
  go_wp2_with fail
  clear f2 f3 f4 f5 f6 f7 f8 f9 f10
  have b1 := j1
  have b2 := Is.made (w.alloc (.cells #[.string n, .int .i64 k, .int .i64 a, .int .i64 x, .int .i64 y, .int .i64 z, .int .i64 lo, .int .i64 hi, .slice fp fl fc] 28 (0, 0))) #[.int .i64 fk, .bool fd, .int .i64 ft, .int .i64 fm, .slice dp dl dc] 31
  simp only [World.size_alloc] at b2
  replace kx := (kx.alloc (.cells #[.string n, .int .i64 k, .int .i64 a, .int .i64 x, .int .i64 y, .int .i64 z, .int .i64 lo, .int .i64 hi, .slice fp fl fc] 28 (0, 0))).alloc (.cells #[.int .i64 fk, .bool fd, .int .i64 ft, .int .i64 fm, .slice dp dl dc] 31 (0, 0))
  clear j1
  replace gl := gl0.out.kb kx
  (with_reducible refine ((Cf.out (cFew n k a x y z lo hi fp fl fc fs hfr) _ gl)).mono ?_)
  rintro r w1 ⟨rfl, k1⟩
  replace gl := gl.kb k1
  replace b1 := b1.kb k1
  replace b2 := b2.kb k1
  replace kx := kx.trans k1
  have s1 := k1.size
  simp only [World.size_alloc] at s1
  clear k1
  go_wp2_with fail
  (with_reducible refine ((Cf.out (fawakeC) _ gl)).mono ?_)
  rintro r w2 ⟨rfl, k2⟩
  replace gl := gl.kb k2
  replace b1 := b1.kb k2
  replace b2 := b2.kb k2
  replace kx := kx.trans k2
  have s2 := k2.size
  skip
  clear k2
  go_wp2
  go_ret
  exact ⟨rfl, kx⟩
set_option maxRecDepth 100000 in
set_option maxHeartbeats 4000000 in
theorem lvB_1 (w0 : World) (n : ByteArray) (k : Int) (a : Int) (x : Int) (y : Int) (z : Int) (lo : Int) (hi : Int) (fp : Option Addr) (fl : Nat) (fc : Nat) (fk : Int) (fd : Bool) (ft : Int) (fm : Int) (dp : Option Addr) (dl : Nat) (dc : Nat) (u : Int)     (fs : List FrT) (ds : List DatT) (hfr : FrS w0 (.slice fp fl fc) fs) (hd : DatS w0 (.slice dp dl dc) ds) (_hcd : dl ≤ dc) (hfa : (fewB n fs) = true) (hfb : (fewX fk fd ft fm ds) = false) (w : World) (gl : Gf w0 w)  : Calls Tryz.prog 5 #[.agg #[.string n, .int .i64 k, .int .i64 a, .int .i64 x, .int .i64 y, .int .i64 z, .int .i64 lo, .int .i64 hi, .slice fp fl fc], .agg #[.int .i64 fk, .bool fd, .int .i64 ft, .int .i64 fm, .slice dp dl dc], .int .i64 u] w fun r W' => r = .returned (.bool true) ∧ Kb w W' := by
  have kx := Kb.refl w
  have gl0 := Lib.hid gl
  have j1 := ((Is.made w #[.string n, .int .i64 k, .int .i64 a, .int .i64 x, .int .i64 y, .int .i64 z, .int .i64 lo, .int .i64 hi, .slice fp fl fc] 28).alloc (.cells #[.int .i64 fk, .bool fd, .int .i64 ft, .int .i64 fm, .slice dp dl dc] 31 (0, 0)))
  have f2 := j1.c (i := 0) rfl
  have f3 := j1.c (i := 1) rfl
  have f4 := j1.c (i := 2) rfl
  have f5 := j1.c (i := 3) rfl
  have f6 := j1.c (i := 4) rfl
  have f7 := j1.c (i := 5) rfl
  have f8 := j1.c (i := 6) rfl
  have f9 := j1.c (i := 7) rfl
  have f10 := j1.c (i := 8) rfl
  go_enter Tryz.func5, Tryz.ntmps5
  go_wp2_with fail
  clear f2 f3 f4 f5 f6 f7 f8 f9 f10
  have b1 := j1
  have b2 := Is.made (w.alloc (.cells #[.string n, .int .i64 k, .int .i64 a, .int .i64 x, .int .i64 y, .int .i64 z, .int .i64 lo, .int .i64 hi, .slice fp fl fc] 28 (0, 0))) #[.int .i64 fk, .bool fd, .int .i64 ft, .int .i64 fm, .slice dp dl dc] 31
  simp only [World.size_alloc] at b2
  replace kx := (kx.alloc (.cells #[.string n, .int .i64 k, .int .i64 a, .int .i64 x, .int .i64 y, .int .i64 z, .int .i64 lo, .int .i64 hi, .slice fp fl fc] 28 (0, 0))).alloc (.cells #[.int .i64 fk, .bool fd, .int .i64 ft, .int .i64 fm, .slice dp dl dc] 31 (0, 0))
  clear j1
  replace gl := gl0.out.kb kx
  (with_reducible refine ((Cf.out (cFew n k a x y z lo hi fp fl fc fs hfr) _ gl)).mono ?_)
  rintro r w1 ⟨rfl, k1⟩
  replace gl := gl.kb k1
  replace b1 := b1.kb k1
  replace b2 := b2.kb k1
  replace kx := kx.trans k1
  have s1 := k1.size
  simp only [World.size_alloc] at s1
  clear k1
  have f11 := b2.c (i := 0) rfl
  have f12 := b2.c (i := 1) rfl
  have f13 := b2.c (i := 2) rfl
  have f14 := b2.c (i := 3) rfl
  have f15 := b2.c (i := 4) rfl
  go_wp2_with fail
  clear f11 f12 f13 f14 f15
  (with_reducible refine ((Cf.out (cFewX fk fd ft fm dp dl dc ds hd) _ gl)).mono ?_)
  rintro r w2 ⟨rfl, k2⟩
  replace gl := gl.kb k2
  replace b1 := b1.kb k2
  replace b2 := b2.kb k2
  replace kx := kx.trans k2
  have s2 := k2.size
  skip
  clear k2
  go_wp2_with fail
  (with_reducible refine ((Cf.out (fawakeC) _ gl)).mono ?_)
  rintro r w3 ⟨rfl, k3⟩
  replace gl := gl.kb k3
  replace b1 := b1.kb k3
  replace b2 := b2.kb k3
  replace kx := kx.trans k3
  have s3 := k3.size
  skip
  clear k3
  go_wp2
  go_ret
  exact ⟨rfl, kx⟩
set_option maxRecDepth 100000 in
set_option maxHeartbeats 4000000 in
theorem lvC_1 (w0 : World) (n : ByteArray) (k : Int) (a : Int) (x : Int) (y : Int) (z : Int) (lo : Int) (hi : Int) (fp : Option Addr) (fl : Nat) (fc : Nat) (fk : Int) (fd : Bool) (ft : Int) (fm : Int) (dp : Option Addr) (dl : Nat) (dc : Nat) (u : Int)     (fs : List FrT) (ds : List DatT) (hfr : FrS w0 (.slice fp fl fc) fs) (hd : DatS w0 (.slice dp dl dc) ds) (hcd : dl ≤ dc) (hfa : (fewB n fs) = true) (hfb : (fewX fk fd ft fm ds) = true) (hnz : n.size ≤ 1000000) (hdn : dl ≤ 100000) (hz : ∀ d ∈ ds, d.1.size ≤ 1000000) (w : World) (gl : Gf w0 w)  : Calls Tryz.prog 5 #[.agg #[.string n, .int .i64 k, .int .i64 a, .int .i64 x, .int .i64 y, .int .i64 z, .int .i64 lo, .int .i64 hi, .slice fp fl fc], .agg #[.int .i64 fk, .bool fd, .int .i64 ft, .int .i64 fm, .slice dp dl dc], .int .i64 u] w fun r W' => r = .returned (.bool true) ∧ Kb w W' := by
  have kx := Kb.refl w
  have gl0 := Lib.hid gl
  have j1 := ((Is.made w #[.string n, .int .i64 k, .int .i64 a, .int .i64 x, .int .i64 y, .int .i64 z, .int .i64 lo, .int .i64 hi, .slice fp fl fc] 28).alloc (.cells #[.int .i64 fk, .bool fd, .int .i64 ft, .int .i64 fm, .slice dp dl dc] 31 (0, 0)))
  have f2 := j1.c (i := 0) rfl
  have f3 := j1.c (i := 1) rfl
  have f4 := j1.c (i := 2) rfl
  have f5 := j1.c (i := 3) rfl
  have f6 := j1.c (i := 4) rfl
  have f7 := j1.c (i := 5) rfl
  have f8 := j1.c (i := 6) rfl
  have f9 := j1.c (i := 7) rfl
  have f10 := j1.c (i := 8) rfl
  go_enter Tryz.func5, Tryz.ntmps5
  go_wp2_with fail
  clear f2 f3 f4 f5 f6 f7 f8 f9 f10
  have b1 := j1
  have b2 := Is.made (w.alloc (.cells #[.string n, .int .i64 k, .int .i64 a, .int .i64 x, .int .i64 y, .int .i64 z, .int .i64 lo, .int .i64 hi, .slice fp fl fc] 28 (0, 0))) #[.int .i64 fk, .bool fd, .int .i64 ft, .int .i64 fm, .slice dp dl dc] 31
  simp only [World.size_alloc] at b2
  replace kx := (kx.alloc (.cells #[.string n, .int .i64 k, .int .i64 a, .int .i64 x, .int .i64 y, .int .i64 z, .int .i64 lo, .int .i64 hi, .slice fp fl fc] 28 (0, 0))).alloc (.cells #[.int .i64 fk, .bool fd, .int .i64 ft, .int .i64 fm, .slice dp dl dc] 31 (0, 0))
  clear j1
  replace gl := gl0.out.kb kx
  (with_reducible refine ((Cf.out (cFew n k a x y z lo hi fp fl fc fs hfr) _ gl)).mono ?_)
  rintro r w1 ⟨rfl, k1⟩
  replace gl := gl.kb k1
  replace b1 := b1.kb k1
  replace b2 := b2.kb k1
  replace kx := kx.trans k1
  have s1 := k1.size
  simp only [World.size_alloc] at s1
  clear k1
  have f11 := b2.c (i := 0) rfl
  have f12 := b2.c (i := 1) rfl
  have f13 := b2.c (i := 2) rfl
  have f14 := b2.c (i := 3) rfl
  have f15 := b2.c (i := 4) rfl
  go_wp2_with fail
  clear f11 f12 f13 f14 f15
  (with_reducible refine ((Cf.out (cFewX fk fd ft fm dp dl dc ds hd) _ gl)).mono ?_)
  rintro r w2 ⟨rfl, k2⟩
  replace gl := gl.kb k2
  replace b1 := b1.kb k2
  replace b2 := b2.kb k2
  replace kx := kx.trans k2
  have s2 := k2.size
  skip
  clear k2
  have f16 := b1.c (i := 0) rfl
  have f17 := b1.c (i := 1) rfl
  have f18 := b1.c (i := 2) rfl
  have f19 := b1.c (i := 3) rfl
  have f20 := b1.c (i := 4) rfl
  have f21 := b1.c (i := 5) rfl
  have f22 := b1.c (i := 6) rfl
  have f23 := b1.c (i := 7) rfl
  have f24 := b1.c (i := 8) rfl
  have f25 := b2.c (i := 0) rfl
  have f26 := b2.c (i := 1) rfl
  have f27 := b2.c (i := 2) rfl
  have f28 := b2.c (i := 3) rfl
  have f29 := b2.c (i := 4) rfl
  go_wp2_with fail
  clear f16 f17 f18 f19 f20 f21 f22 f23 f24 f25 f26 f27 f28 f29
  (with_reducible refine ((Cf.out (frVirtual n k a x y z lo hi fp fl fc fk fd ft fm dp dl dc ds hnz hd hcd hdn hz) _ gl)).mono ?_)
  rintro r w3 ⟨rfl, k3⟩
  replace gl := gl.kb k3
  replace b1 := b1.kb k3
  replace b2 := b2.kb k3
  replace kx := kx.trans k3
  have s3 := k3.size
  skip
  clear k3
  have f30 := b1.c (i := 0) rfl
  have f31 := b1.c (i := 1) rfl
  have f32 := b1.c (i := 2) rfl
  have f33 := b1.c (i := 3) rfl
  have f34 := b1.c (i := 4) rfl
  have f35 := b1.c (i := 5) rfl
  have f36 := b1.c (i := 6) rfl
  have f37 := b1.c (i := 7) rfl
  have f38 := b1.c (i := 8) rfl
  have f39 := b2.c (i := 0) rfl
  have f40 := b2.c (i := 1) rfl
  have f41 := b2.c (i := 2) rfl
  have f42 := b2.c (i := 3) rfl
  have f43 := b2.c (i := 4) rfl
  go_wp2_with fail
  clear f30 f31 f32 f33 f34 f35 f36 f37 f38 f39 f40 f41 f42 f43
  (with_reducible refine ((Cf.out (rfrVirtual n k a x y z lo hi fp fl fc fk fd ft fm dp dl dc ds hnz hd hz) _ gl)).mono ?_)
  rintro r w4 ⟨rfl, k4⟩
  replace gl := gl.kb k4
  replace b1 := b1.kb k4
  replace b2 := b2.kb k4
  replace kx := kx.trans k4
  have s4 := k4.size
  skip
  clear k4
  have f44 := b1.c (i := 0) rfl
  have f45 := b1.c (i := 1) rfl
  have f46 := b1.c (i := 2) rfl
  have f47 := b1.c (i := 3) rfl
  have f48 := b1.c (i := 4) rfl
  have f49 := b1.c (i := 5) rfl
  have f50 := b1.c (i := 6) rfl
  have f51 := b1.c (i := 7) rfl
  have f52 := b1.c (i := 8) rfl
  have f53 := b2.c (i := 0) rfl
  have f54 := b2.c (i := 1) rfl
  have f55 := b2.c (i := 2) rfl
  have f56 := b2.c (i := 3) rfl
  have f57 := b2.c (i := 4) rfl
  go_wp2_with fail
  clear f44 f45 f46 f47 f48 f49 f50 f51 f52 f53 f54 f55 f56 f57
  (with_reducible refine ((Cf.out (frBonus n k a x y z lo hi fp fl fc fk fd ft fm dp dl dc ds u hnz hd hcd hdn hz) _ gl)).mono ?_)
  rintro r w5 ⟨rfl, k5⟩
  replace gl := gl.kb k5
  replace b1 := b1.kb k5
  replace b2 := b2.kb k5
  replace kx := kx.trans k5
  have s5 := k5.size
  skip
  clear k5
  have f58 := b1.c (i := 0) rfl
  have f59 := b1.c (i := 1) rfl
  have f60 := b1.c (i := 2) rfl
  have f61 := b1.c (i := 3) rfl
  have f62 := b1.c (i := 4) rfl
  have f63 := b1.c (i := 5) rfl
  have f64 := b1.c (i := 6) rfl
  have f65 := b1.c (i := 7) rfl
  have f66 := b1.c (i := 8) rfl
  have f67 := b2.c (i := 0) rfl
  have f68 := b2.c (i := 1) rfl
  have f69 := b2.c (i := 2) rfl
  have f70 := b2.c (i := 3) rfl
  have f71 := b2.c (i := 4) rfl
  go_wp2_with fail
  clear f58 f59 f60 f61 f62 f63 f64 f65 f66 f67 f68 f69 f70 f71
  (with_reducible refine ((Cf.out (rfrBonus n k a x y z lo hi fp fl fc fk fd ft fm dp dl dc ds u hnz hd hz) _ gl)).mono ?_)
  rintro r w6 ⟨rfl, k6⟩
  replace gl := gl.kb k6
  replace b1 := b1.kb k6
  replace b2 := b2.kb k6
  replace kx := kx.trans k6
  have s6 := k6.size
  skip
  clear k6
  go_wp2_with fail
  (with_reducible refine ((Cf.out (fawakeC) _ gl)).mono ?_)
  rintro r w7 ⟨rfl, k7⟩
  replace gl := gl.kb k7
  replace b1 := b1.kb k7
  replace b2 := b2.kb k7
  replace kx := kx.trans k7
  have s7 := k7.size
  skip
  clear k7
  go_wp2
  go_ret
  exact ⟨rfl, kx⟩
theorem cFrameConditions (n : ByteArray) (k a x y z lo hi : Int) (fp : Option Addr) (fl fc : Nat) (fk : Int) (fd : Bool) (ft fm : Int) (dp : Option Addr) (dl dc : Nat) (ds : List DatT) (u : Int) (fs : List FrT) (w : World) (gl : Gf w w) (hfr : FrS w (.slice fp fl fc) fs) (hd : DatS w (.slice dp dl dc) ds) (hcd : dl ≤ dc) : Calls Tryz.prog 5 #[.agg #[.string n, .int .i64 k, .int .i64 a, .int .i64 x, .int .i64 y, .int .i64 z, .int .i64 lo, .int .i64 hi, .slice fp fl fc], .agg #[.int .i64 fk, .bool fd, .int .i64 ft, .int .i64 fm, .slice dp dl dc], .int .i64 u] w fun r W' => r = .returned (.bool true) ∧ Kb w W' := by
  rcases Bool.eq_false_or_eq_true (fewB n fs) with h1 | h1
  · rcases Bool.eq_false_or_eq_true (fewX fk fd ft fm ds) with h2 | h2
    · obtain ⟨h3, h4⟩ := fewX_len h2
      exact lvC_1 w n k a x y z lo hi fp fl fc fk fd ft fm dp dl dc u fs ds hfr hd hcd h1 h2 (few_n2 h1) (by have := hd.len; omega) h4 w gl
    · exact lvB_1 w n k a x y z lo hi fp fl fc fk fd ft fm dp dl dc u fs ds hfr hd hcd h1 h2 w gl
  · exact lvA_1 w n k a x y z lo hi fp fl fc fk fd ft fm dp dl dc u fs ds hfr hd hcd h1 w gl
end Go.Proofs.YtlfeinajjfbpkaaGreatDoor
