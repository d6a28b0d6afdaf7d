/- Texts Ur4: each says in its own first comment what it proves. -/
import Derived.Test.YtlimjohnimgnhaaGreatDoorM36
import Derived.Test.YtlimjohnimgnhaaGreatDoorM22
import Derived.Test.YtlimjohnimgnhaaGreatDoorM30
/- Frames: the law FrameReads. -/
namespace Go.Proofs.YtlimjohnimgnhaaGreatDoor
open Go.RowKit

set_option maxRecDepth 100000 in
set_option maxHeartbeats 4000000 in
theorem lrA_1 (w0 : World) (fk : Int) (fd : Bool) (ft : Int) (fm : Int) (dp : Option Addr) (dl : Nat) (dc : Nat) (fk2 : Int) (fd2 : Bool) (ft2 : Int) (fm2 : Int) (dp2 : Option Addr) (dl2 : Nat) (dc2 : Nat)     (ds ds2 : List DatT) (hd : DatS w0 (.slice dp dl dc) ds) (_hd2 : DatS w0 (.slice dp2 dl2 dc2) ds2) (hfa : (fewX fk fd ft fm ds) = false) (w : World) (gl : Gf w0 w)  : Calls Tryz.prog 7 #[.agg #[.int .i64 fk, .bool fd, .int .i64 ft, .int .i64 fm, .slice dp dl dc], .agg #[.int .i64 fk2, .bool fd2, .int .i64 ft2, .int .i64 fm2, .slice dp2 dl2 dc2]] w fun r W' => r = .returned (.bool true) ∧ Kb w W' := by
  have kx := Kb.refl w
  have gl0 := Lib.hid gl
  have j1 := ((Is.made w #[.int .i64 fk, .bool fd, .int .i64 ft, .int .i64 fm, .slice dp dl dc] 31).alloc (.cells #[.int .i64 fk2, .bool fd2, .int .i64 ft2, .int .i64 fm2, .slice dp2 dl2 dc2] 31 (0, 0)))
  have f2 := j1.c (i := 0) rfl
  have f3 := j1.c (i := 1) rfl
  have f4 := j1.c (i := 2) rfl
  have f5 := j1.c (i := 3) rfl
  have f6 := j1.c (i := 4) rfl
  go_enter Tryz.func7, Tryz.ntmps7
  go_wp2_with fail
  clear f2 f3 f4 f5 f6
  have b1 := j1
  have b2 := Is.made (w.alloc (.cells #[.int .i64 fk, .bool fd, .int .i64 ft, .int .i64 fm, .slice dp dl dc] 31 (0, 0))) #[.int .i64 fk2, .bool fd2, .int .i64 ft2, .int .i64 fm2, .slice dp2 dl2 dc2] 31
  simp only [World.size_alloc] at b2
  replace kx := (kx.alloc (.cells #[.int .i64 fk, .bool fd, .int .i64 ft, .int .i64 fm, .slice dp dl dc] 31 (0, 0))).alloc (.cells #[.int .i64 fk2, .bool fd2, .int .i64 ft2, .int .i64 fm2, .slice dp2 dl2 dc2] 31 (0, 0))
  clear j1
  replace gl := gl0.out.kb kx
  (with_reducible refine ((Cf.out (cFewX fk fd ft fm dp dl dc ds hd) _ gl)).mono ?_)
  rintro r w1 ⟨rfl, k1⟩
  replace gl := gl.kb k1
  replace b1 := b1.kb k1
  replace b2 := b2.kb k1
  replace kx := kx.trans k1
  have s1 := k1.size
  simp only [World.size_alloc] at s1
  clear k1
  go_wp2_with fail
  (with_reducible refine ((Cf.out (fawakeC) _ gl)).mono ?_)
  rintro r w2 ⟨rfl, k2⟩
  replace gl := gl.kb k2
  replace b1 := b1.kb k2
  replace b2 := b2.kb k2
  replace kx := kx.trans k2
  have s2 := k2.size
  skip
  clear k2
  go_wp2
  go_ret
  exact ⟨rfl, kx⟩
set_option maxRecDepth 100000 in
set_option maxHeartbeats 4000000 in
theorem lrB_1 (w0 : World) (fk : Int) (fd : Bool) (ft : Int) (fm : Int) (dp : Option Addr) (dl : Nat) (dc : Nat) (fk2 : Int) (fd2 : Bool) (ft2 : Int) (fm2 : Int) (dp2 : Option Addr) (dl2 : Nat) (dc2 : Nat)     (ds ds2 : List DatT) (hd : DatS w0 (.slice dp dl dc) ds) (hd2 : DatS w0 (.slice dp2 dl2 dc2) ds2) (hfa : (fewX fk fd ft fm ds) = true) (hfb : (fewX fk2 fd2 ft2 fm2 ds2) = false) (w : World) (gl : Gf w0 w)  : Calls Tryz.prog 7 #[.agg #[.int .i64 fk, .bool fd, .int .i64 ft, .int .i64 fm, .slice dp dl dc], .agg #[.int .i64 fk2, .bool fd2, .int .i64 ft2, .int .i64 fm2, .slice dp2 dl2 dc2]] w fun r W' => r = .returned (.bool true) ∧ Kb w W' := by
  have kx := Kb.refl w
  have gl0 := Lib.hid gl
  have j1 := ((Is.made w #[.int .i64 fk, .bool fd, .int .i64 ft, .int .i64 fm, .slice dp dl dc] 31).alloc (.cells #[.int .i64 fk2, .bool fd2, .int .i64 ft2, .int .i64 fm2, .slice dp2 dl2 dc2] 31 (0, 0)))
  have f2 := j1.c (i := 0) rfl
  have f3 := j1.c (i := 1) rfl
  have f4 := j1.c (i := 2) rfl
  have f5 := j1.c (i := 3) rfl
  have f6 := j1.c (i := 4) rfl
  go_enter Tryz.func7, Tryz.ntmps7
  go_wp2_with fail
  clear f2 f3 f4 f5 f6
  have b1 := j1
  have b2 := Is.made (w.alloc (.cells #[.int .i64 fk, .bool fd, .int .i64 ft, .int .i64 fm, .slice dp dl dc] 31 (0, 0))) #[.int .i64 fk2, .bool fd2, .int .i64 ft2, .int .i64 fm2, .slice dp2 dl2 dc2] 31
  simp only [World.size_alloc] at b2
  replace kx := (kx.alloc (.cells #[.int .i64 fk, .bool fd, .int .i64 ft, .int .i64 fm, .slice dp dl dc] 31 (0, 0))).alloc (.cells #[.int .i64 fk2, .bool fd2, .int .i64 ft2, .int .i64 fm2, .slice dp2 dl2 dc2] 31 (0, 0))
  clear j1
  replace gl := gl0.out.kb kx
  (with_reducible refine ((Cf.out (cFewX fk fd ft fm dp dl dc ds hd) _ gl)).mono ?_)
  rintro r w1 ⟨rfl, k1⟩
  replace gl := gl.kb k1
  replace b1 := b1.kb k1
  replace b2 := b2.kb k1
  replace kx := kx.trans k1
  have s1 := k1.size
  simp only [World.size_alloc] at s1
  clear k1
  have f7 := b2.c (i := 0) rfl
  have f8 := b2.c (i := 1) rfl
  have f9 := b2.c (i := 2) rfl
  have f10 := b2.c (i := 3) rfl
  have f11 := b2.c (i := 4) rfl
  go_wp2_with fail
  clear f7 f8 f9 f10 f11
  (with_reducible refine ((Cf.out (cFewX fk2 fd2 ft2 fm2 dp2 dl2 dc2 ds2 hd2) _ gl)).mono ?_)
  rintro r w2 ⟨rfl, k2⟩
  replace gl := gl.kb k2
  replace b1 := b1.kb k2
  replace b2 := b2.kb k2
  replace kx := kx.trans k2
  have s2 := k2.size
  skip
  clear k2
  go_wp2_with fail
  (with_reducible refine ((Cf.out (fawakeC) _ gl)).mono ?_)
  rintro r w3 ⟨rfl, k3⟩
  replace gl := gl.kb k3
  replace b1 := b1.kb k3
  replace b2 := b2.kb k3
  replace kx := kx.trans k3
  have s3 := k3.size
  skip
  clear k3
  go_wp2
  go_ret
  exact ⟨rfl, kx⟩
set_option maxRecDepth 100000 in
set_option maxHeartbeats 4000000 in
theorem lrC_1 (w0 : World) (fk : Int) (fd : Bool) (ft : Int) (fm : Int) (dp : Option Addr) (dl : Nat) (dc : Nat) (fk2 : Int) (fd2 : Bool) (ft2 : Int) (fm2 : Int) (dp2 : Option Addr) (dl2 : Nat) (dc2 : Nat)     (ds ds2 : List DatT) (hd : DatS w0 (.slice dp dl dc) ds) (hd2 : DatS w0 (.slice dp2 dl2 dc2) ds2) (hfa : (fewX fk fd ft fm ds) = true) (hfb : (fewX fk2 fd2 ft2 fm2 ds2) = true) (hpa : ((fpE fk ft fm ds) != 0) = true) (hz : ∀ d ∈ ds, d.1.size ≤ 1000000) (w : World) (gl : Gf w0 w)  : Calls Tryz.prog 7 #[.agg #[.int .i64 fk, .bool fd, .int .i64 ft, .int .i64 fm, .slice dp dl dc], .agg #[.int .i64 fk2, .bool fd2, .int .i64 ft2, .int .i64 fm2, .slice dp2 dl2 dc2]] w fun r W' => r = .returned (.bool true) ∧ Kb w W' := by
  have kx := Kb.refl w
  have gl0 := Lib.hid gl
  have j1 := ((Is.made w #[.int .i64 fk, .bool fd, .int .i64 ft, .int .i64 fm, .slice dp dl dc] 31).alloc (.cells #[.int .i64 fk2, .bool fd2, .int .i64 ft2, .int .i64 fm2, .slice dp2 dl2 dc2] 31 (0, 0)))
  have f2 := j1.c (i := 0) rfl
  have f3 := j1.c (i := 1) rfl
  have f4 := j1.c (i := 2) rfl
  have f5 := j1.c (i := 3) rfl
  have f6 := j1.c (i := 4) rfl
  go_enter Tryz.func7, Tryz.ntmps7
  go_wp2_with fail
  clear f2 f3 f4 f5 f6
  have b1 := j1
  have b2 := Is.made (w.alloc (.cells #[.int .i64 fk, .bool fd, .int .i64 ft, .int .i64 fm, .slice dp dl dc] 31 (0, 0))) #[.int .i64 fk2, .bool fd2, .int .i64 ft2, .int .i64 fm2, .slice dp2 dl2 dc2] 31
  simp only [World.size_alloc] at b2
  replace kx := (kx.alloc (.cells #[.int .i64 fk, .bool fd, .int .i64 ft, .int .i64 fm, .slice dp dl dc] 31 (0, 0))).alloc (.cells #[.int .i64 fk2, .bool fd2, .int .i64 ft2, .int .i64 fm2, .slice dp2 dl2 dc2] 31 (0, 0))
  clear j1
  replace gl := gl0.out.kb kx
  (with_reducible refine ((Cf.out (cFewX fk fd ft fm dp dl dc ds hd) _ gl)).mono ?_)
  rintro r w1 ⟨rfl, k1⟩
  replace gl := gl.kb k1
  replace b1 := b1.kb k1
  replace b2 := b2.kb k1
  replace kx := kx.trans k1
  have s1 := k1.size
  simp only [World.size_alloc] at s1
  clear k1
  have f7 := b2.c (i := 0) rfl
  have f8 := b2.c (i := 1) rfl
  have f9 := b2.c (i := 2) rfl
  have f10 := b2.c (i := 3) rfl
  have f11 := b2.c (i := 4) rfl
  go_wp2_with fail
  clear f7 f8 f9 f10 f11
  (with_reducible refine ((Cf.out (cFewX fk2 fd2 ft2 fm2 dp2 dl2 dc2 ds2 hd2) _ gl)).mono ?_)
  rintro r w2 ⟨rfl, k2⟩
  replace gl := gl.kb k2
  replace b1 := b1.kb k2
  replace b2 := b2.kb k2
  replace kx := kx.trans k2
  have s2 := k2.size
  skip
  clear k2
  have f12 := b1.c (i := 0) rfl
  have f13 := b1.c (i := 1) rfl
  have f14 := b1.c (i := 2) rfl
  have f15 := b1.c (i := 3) rfl
  have f16 := b1.c (i := 4) rfl
  go_wp2_with fail
  clear f12 f13 f14 f15 f16
  (with_reducible refine ((Cf.out (rfPlain fk fd ft fm dp dl dc ds hd hz) _ gl)).mono ?_)
  rintro r w3 ⟨rfl, k3⟩
  replace gl := gl.kb k3
  replace b1 := b1.kb k3
  replace b2 := b2.kb k3
  replace kx := kx.trans k3
  have s3 := k3.size
  skip
  clear k3
  go_wp2_with fail
  (with_reducible refine ((Cf.out (fawakeC) _ gl)).mono ?_)
  rintro r w4 ⟨rfl, k4⟩
  replace gl := gl.kb k4
  replace b1 := b1.kb k4
  replace b2 := b2.kb k4
  replace kx := kx.trans k4
  have s4 := k4.size
  skip
  clear k4
  go_wp2
  go_ret
  exact ⟨rfl, kx⟩
set_option maxRecDepth 100000 in
set_option maxHeartbeats 4000000 in
theorem lrD_1 (w0 : World) (fk : Int) (fd : Bool) (ft : Int) (fm : Int) (dp : Option Addr) (dl : Nat) (dc : Nat) (fk2 : Int) (fd2 : Bool) (ft2 : Int) (fm2 : Int) (dp2 : Option Addr) (dl2 : Nat) (dc2 : Nat)     (ds ds2 : List DatT) (hd : DatS w0 (.slice dp dl dc) ds) (hd2 : DatS w0 (.slice dp2 dl2 dc2) ds2) (hfa : (fewX fk fd ft fm ds) = true) (hfb : (fewX fk2 fd2 ft2 fm2 ds2) = true) (hpa : ((fpE fk ft fm ds) != 0) = false) (hpb : ((fpE fk2 ft2 fm2 ds2) != 0) = true) (hz : ∀ d ∈ ds, d.1.size ≤ 1000000) (hz2 : ∀ d ∈ ds2, d.1.size ≤ 1000000) (w : World) (gl : Gf w0 w)  : Calls Tryz.prog 7 #[.agg #[.int .i64 fk, .bool fd, .int .i64 ft, .int .i64 fm, .slice dp dl dc], .agg #[.int .i64 fk2, .bool fd2, .int .i64 ft2, .int .i64 fm2, .slice dp2 dl2 dc2]] w fun r W' => r = .returned (.bool true) ∧ Kb w W' := by
  have kx := Kb.refl w
  have gl0 := Lib.hid gl
  have j1 := ((Is.made w #[.int .i64 fk, .bool fd, .int .i64 ft, .int .i64 fm, .slice dp dl dc] 31).alloc (.cells #[.int .i64 fk2, .bool fd2, .int .i64 ft2, .int .i64 fm2, .slice dp2 dl2 dc2] 31 (0, 0)))
  have f2 := j1.c (i := 0) rfl
  have f3 := j1.c (i := 1) rfl
  have f4 := j1.c (i := 2) rfl
  have f5 := j1.c (i := 3) rfl
  have f6 := j1.c (i := 4) rfl
  go_enter Tryz.func7, Tryz.ntmps7
  go_wp2_with fail
  clear f2 f3 f4 f5 f6
  have b1 := j1
  have b2 := Is.made (w.alloc (.cells #[.int .i64 fk, .bool fd, .int .i64 ft, .int .i64 fm, .slice dp dl dc] 31 (0, 0))) #[.int .i64 fk2, .bool fd2, .int .i64 ft2, .int .i64 fm2, .slice dp2 dl2 dc2] 31
  simp only [World.size_alloc] at b2
  replace kx := (kx.alloc (.cells #[.int .i64 fk, .bool fd, .int .i64 ft, .int .i64 fm, .slice dp dl dc] 31 (0, 0))).alloc (.cells #[.int .i64 fk2, .bool fd2, .int .i64 ft2, .int .i64 fm2, .slice dp2 dl2 dc2] 31 (0, 0))
  clear j1
  replace gl := gl0.out.kb kx
  (with_reducible refine ((Cf.out (cFewX fk fd ft fm dp dl dc ds hd) _ gl)).mono ?_)
  rintro r w1 ⟨rfl, k1⟩
  replace gl := gl.kb k1
  replace b1 := b1.kb k1
  replace b2 := b2.kb k1
  replace kx := kx.trans k1
  have s1 := k1.size
  simp only [World.size_alloc] at s1
  clear k1
  have f7 := b2.c (i := 0) rfl
  have f8 := b2.c (i := 1) rfl
  have f9 := b2.c (i := 2) rfl
  have f10 := b2.c (i := 3) rfl
  have f11 := b2.c (i := 4) rfl
  go_wp2_with fail
  clear f7 f8 f9 f10 f11
  (with_reducible refine ((Cf.out (cFewX fk2 fd2 ft2 fm2 dp2 dl2 dc2 ds2 hd2) _ gl)).mono ?_)
  rintro r w2 ⟨rfl, k2⟩
  replace gl := gl.kb k2
  replace b1 := b1.kb k2
  replace b2 := b2.kb k2
  replace kx := kx.trans k2
  have s2 := k2.size
  skip
  clear k2
  have f12 := b1.c (i := 0) rfl
  have f13 := b1.c (i := 1) rfl
  have f14 := b1.c (i := 2) rfl
  have f15 := b1.c (i := 3) rfl
  have f16 := b1.c (i := 4) rfl
  go_wp2_with fail
  clear f12 f13 f14 f15 f16
  (with_reducible refine ((Cf.out (rfPlain fk fd ft fm dp dl dc ds hd hz) _ gl)).mono ?_)
  rintro r w3 ⟨rfl, k3⟩
  replace gl := gl.kb k3
  replace b1 := b1.kb k3
  replace b2 := b2.kb k3
  replace kx := kx.trans k3
  have s3 := k3.size
  skip
  clear k3
  have f17 := b2.c (i := 0) rfl
  have f18 := b2.c (i := 1) rfl
  have f19 := b2.c (i := 2) rfl
  have f20 := b2.c (i := 3) rfl
  have f21 := b2.c (i := 4) rfl
  go_wp2_with fail
  clear f17 f18 f19 f20 f21
  (with_reducible refine ((Cf.out (rfPlain fk2 fd2 ft2 fm2 dp2 dl2 dc2 ds2 hd2 hz2) _ gl)).mono ?_)
  rintro r w4 ⟨rfl, k4⟩
  replace gl := gl.kb k4
  replace b1 := b1.kb k4
  replace b2 := b2.kb k4
  replace kx := kx.trans k4
  have s4 := k4.size
  skip
  clear k4
  go_wp2_with fail
  (with_reducible refine ((Cf.out (fawakeC) _ gl)).mono ?_)
  rintro r w5 ⟨rfl, k5⟩
  replace gl := gl.kb k5
  replace b1 := b1.kb k5
  replace b2 := b2.kb k5
  replace kx := kx.trans k5
  have s5 := k5.size
  skip
  clear k5
  go_wp2
  go_ret
  exact ⟨rfl, kx⟩
theorem few_dat {ds : List DatT} (h : ∀ d ∈ ds, plainN d.1 ∧ d.1.size ≤ 24 ∧ 0 ≤ d.2 ∧ d.2 < 3) : ∀ d ∈ ds, d.1.size ≤ 100 ∧ ∃ j : Nat, j < 3 ∧ d.2 = (j : Int) := fun d hd => by
  obtain ⟨_, h2, h3, h4⟩ := h d hd
  exact ⟨by omega, d.2.toNat, by omega, by omega⟩
theorem eqD_self (ds : List DatT) : eqL datB ds ds = true := by
  induction ds with
  | nil => rfl
  | cons d ds ih => rw [eqL, ih]; unfold datB; simp
theorem eqD_eq : ∀ {a b : List DatT}, eqL datB a b = true → a = b
  | [], [], _ => rfl
  | [], _ :: _, h => by simp [eqL] at h
  | _ :: _, [], h => by simp [eqL] at h
  | (s, c) :: a, (s', c') :: b, h => by
    rw [eqL, Bool.and_eq_true] at h
    have h1 := h.1
    unfold datB at h1
    simp only [Bool.and_eq_true, beq_iff_eq] at h1
    have hs : s = s' := ba_inj (by rw [← ByteArray.toList_eq, ← ByteArray.toList_eq]; exact h1.1)
    rw [hs, h1.2, eqD_eq h.2]
theorem frB_iff {f g : FrT} : frB f g = true ↔ f = g := by
  constructor
  · intro h
    unfold frB at h
    simp only [Bool.and_eq_true, beq_iff_eq] at h
    obtain ⟨⟨⟨⟨h1, h2⟩, h3⟩, h4⟩, h5⟩ := h
    cases f; cases g
    simp only at h1 h2 h3 h4 h5
    rw [h1, h2, h3, h4, eqD_eq h5]
  · rintro rfl
    unfold frB
    simp [eqD_self]
theorem text_same {k k' : Nat} {d d' : Bool} {t t' : Int} {m m' : Nat} {ds ds' : List DatT} (h : fpE k t m ds = 0) (h' : fpE k' t' m' ds' = 0) : ((textV k d t m ds).toList == (textV k' d' t' m' ds').toList) = frB ⟨k, d, t, m, ds⟩ ⟨k', d', t', m', ds'⟩ := by
  rw [Bool.eq_iff_iff, frB_iff, beq_iff_eq, ByteArray.toList_eq, ByteArray.toList_eq]
  constructor
  · intro e
    exact textV_inj h h' (ba_inj e)
  · intro e
    injection e with e1 e2 e3 e4 e5
    obtain rfl : k = k' := by omega
    obtain rfl : m = m' := by omega
    subst e2 e3 e5
    rfl
set_option maxRecDepth 100000 in
set_option maxHeartbeats 16000000 in
theorem lrE (k : Nat) (fd : Bool) (ft : Int) (m : Nat) (dp : Option Addr) (dl dc : Nat) (k2 : Nat) (fd2 : Bool) (ft2 : Int) (m2 : Nat) (dp2 : Option Addr) (dl2 dc2 : Nat) (ds ds2 : List DatT) (w : World) (gl : Gf w w) (hd : DatS w (.slice dp dl dc) ds) (hd2 : DatS w (.slice dp2 dl2 dc2) ds2) (hcd : dl ≤ dc) (hcd2 : dl2 ≤ dc2)
    (h1 : fewX k fd ft m ds = true) (h2 : fewX k2 fd2 ft2 m2 ds2 = true) (h3 : fpE k ft m ds = 0) (h4 : fpE k2 ft2 m2 ds2 = 0) : Calls Tryz.prog 7 #[.agg #[.int .i64 (k : Int), .bool fd, .int .i64 ft, .int .i64 (m : Int), .slice dp dl dc], .agg #[.int .i64 (k2 : Int), .bool fd2, .int .i64 ft2, .int .i64 (m2 : Int), .slice dp2 dl2 dc2]] w fun r W' => r = .returned (.bool true) ∧ Kb w W' := by
  obtain ⟨a1, a2, a3, a4, a5⟩ := fpE_all h3
  obtain ⟨b1, b2, b3, b4, b5⟩ := fpE_all h4
  have hz := (fewX_len h1).2
  have hz2 := (fewX_len h2).2
  have hl := hd.len
  have hl2 := hd2.len
  have da := few_dat a5
  have db := few_dat b5
  have pa : ∀ x ∈ ds, plainN x.1 ∧ 0 ≤ x.2 ∧ x.2 < 3 := fun x hx => ⟨(a5 x hx).1, (a5 x hx).2.2⟩
  have qf1 := cFewX (w0 := w) k fd ft m dp dl dc ds hd
  rw [h1] at qf1
  have qf2 := cFewX (w0 := w) k2 fd2 ft2 m2 dp2 dl2 dc2 ds2 hd2
  rw [h2] at qf2
  have qp1 := rfPlain (w0 := w) k fd ft m dp dl dc ds hd hz
  rw [h3] at qp1
  have qp2 := rfPlain (w0 := w) k2 fd2 ft2 m2 dp2 dl2 dc2 ds2 hd2 hz2
  rw [h4] at qp2
  have si1 := itV_size a3.1 (show ft ≤ 1000000 by omega)
  have si2 := itV_size b3.1 (show ft2 ≤ 1000000 by omega)
  have qt1 := fTextOk (w0 := w) fd k ft m dp dl dc ds (by omega) (by omega) a3.1 (by omega) (by omega) hd (by omega) da (by rw [← h3]; exact frPlain k fd ft m dp dl dc ds hd hcd (by omega) hz)
  have qt2 := fTextOk (w0 := w) fd2 k2 ft2 m2 dp2 dl2 dc2 ds2 (by omega) (by omega) b3.1 (by omega) (by omega) hd2 (by omega) db (by rw [← h4]; exact frPlain k2 fd2 ft2 m2 dp2 dl2 dc2 ds2 hd2 hcd2 (by omega) hz2)
  have hsp := splV_join (s := (textV k fd ft m ds)) (ws := wordsV k fd ft m ds) (by simp [wordsV]) (wordsV_plain k fd ft m ds (by omega) (by omega) a3.1 pa) (textV_join k fd ft m ds (by omega))
  have hsz := textV_size k fd ft m ds (by omega) (by omega) a3.1 (by omega) a4 da
  have hrd := rdV_words k fd ft m ds (by omega) (by omega) a3.1 (by omega) pa
  have hwl : (wordsV k fd ft m ds).length ≤ 5000 := by unfold wordsV; split <;> simp <;> omega
  have hwz : ∀ x ∈ wordsV k fd ft m ds, x.size ≤ 1000000 := fun x hx => by
    have hs := hsp.2
    unfold wordsV at hx
    have hw : ∀ (y : ByteArray) (j : Nat), j < 3 → y.size ≤ 100 → (wdM y j).size ≤ 1000000 := fun y j hj hy => by
      have e : (wdM y j).size = (wdM y j).data.toList.length := by rw [Array.length_toList]; rfl
      have e2 : y.size = y.data.toList.length := by rw [Array.length_toList]; rfl
      have e3 : (mkL j).length ≤ 3 := by rcases (show j = 0 ∨ j = 1 ∨ j = 2 by omega) with rfl | rfl | rfl <;> decide
      rw [e, wdM_l, List.length_append]; omega
    rcases List.mem_cons.1 hx with rfl | hx
    · have := (kW_sz (k := k) (by omega)).1; omega
    rcases List.mem_append.1 hx with hx | hx
    · split at hx
      · rw [List.mem_singleton] at hx; subst hx; decide
      · exact absurd hx (by simp)
    rcases List.mem_cons.1 hx with rfl | hx
    · exact hw _ _ (by omega) (by omega)
    · obtain ⟨y, hy, rfl⟩ := List.mem_map.1 hx
      have h5 := a5 y hy
      exact hw _ _ (by omega) (by omega)
  have hts := text_same (d := fd) (d' := fd2) h3 h4
  have hself : frB ⟨(k : Int), fd, ft, (m : Int), ds⟩ ⟨(k : Int), fd, ft, (m : Int), ds⟩ = true := frB_iff.2 rfl
  have HL := Lib.hid hl
  have HL2 := Lib.hid hl2
  have HSP := Lib.hid hsp
  have HSZ := Lib.hid hsz
  have HRD := Lib.hid hrd
  have HWZ := Lib.hid hwz
  have HWL := Lib.hid hwl
  have HDA := Lib.hid da
  have HA := Lib.hid (show (k < 9 ∧ m < 3) ∧ (0 ≤ ft ∧ ft ≤ 1000000) ∧ (itV ft).size ≤ 20 ∧ ds.length ≤ 3 from ⟨⟨by omega, by omega⟩, ⟨a3.1, by omega⟩, by omega, a4⟩)
  clear hl hl2 hsp hsz hrd hwz hwl si1 si2 hz hz2 a1 a2 a3 a4 a5 b1 b2 b3 b4 b5 da db pa
  have k0 := ((Kb.refl w).alloc (.cells #[.int .i64 (k : Int), .bool fd, .int .i64 ft, .int .i64 (m : Int), .slice dp dl dc] 31 (0, 0))).alloc (.cells #[.int .i64 (k2 : Int), .bool fd2, .int .i64 ft2, .int .i64 (m2 : Int), .slice dp2 dl2 dc2] 31 (0, 0))
  have i1 := (Is.made w #[.int .i64 (k : Int), .bool fd, .int .i64 ft, .int .i64 (m : Int), .slice dp dl dc] 31).alloc (.cells #[.int .i64 (k2 : Int), .bool fd2, .int .i64 ft2, .int .i64 (m2 : Int), .slice dp2 dl2 dc2] 31 (0, 0))
  have i2 := Is.made (w.alloc (.cells #[.int .i64 (k : Int), .bool fd, .int .i64 ft, .int .i64 (m : Int), .slice dp dl dc] 31 (0, 0))) #[.int .i64 (k2 : Int), .bool fd2, .int .i64 ft2, .int .i64 (m2 : Int), .slice dp2 dl2 dc2] 31
  simp only [World.size_alloc] at i2
  generalize textV k2 fd2 ft2 m2 ds2 = ty at *
  generalize hTX : textV k fd ft m ds = tx at *
  go_enter Tryz.func7, Tryz.ntmps7
  have g0 := i1.c (i := 0) rfl
  have g1 := i1.c (i := 1) rfl
  have g2 := i1.c (i := 2) rfl
  have g3 := i1.c (i := 3) rfl
  have g4 := i1.c (i := 4) rfl
  have h0 := i2.c (i := 0) rfl
  have h1 := i2.c (i := 1) rfl
  have h2 := i2.c (i := 2) rfl
  have h3 := i2.c (i := 3) rfl
  have h4 := i2.c (i := 4) rfl
  go_wp2_with fail
  refine (qf1.out _ (gl.kb k0)).mono ?_
  rintro r wa ⟨rfl, kwa⟩
  replace i1 := i1.kb kwa
  replace i2 := i2.kb kwa
  replace k0 := k0.trans kwa
  clear g0 g1 g2 g3 g4 h0 h1 h2 h3 h4
  have g0 := i1.c (i := 0) rfl
  have g1 := i1.c (i := 1) rfl
  have g2 := i1.c (i := 2) rfl
  have g3 := i1.c (i := 3) rfl
  have g4 := i1.c (i := 4) rfl
  have h0 := i2.c (i := 0) rfl
  have h1 := i2.c (i := 1) rfl
  have h2 := i2.c (i := 2) rfl
  have h3 := i2.c (i := 3) rfl
  have h4 := i2.c (i := 4) rfl
  go_wp2_with fail
  refine (qf2.out _ (gl.kb k0)).mono ?_
  rintro r wb ⟨rfl, kwb⟩
  replace i1 := i1.kb kwb
  replace i2 := i2.kb kwb
  replace k0 := k0.trans kwb
  clear g0 g1 g2 g3 g4 h0 h1 h2 h3 h4
  have g0 := i1.c (i := 0) rfl
  have g1 := i1.c (i := 1) rfl
  have g2 := i1.c (i := 2) rfl
  have g3 := i1.c (i := 3) rfl
  have g4 := i1.c (i := 4) rfl
  have h0 := i2.c (i := 0) rfl
  have h1 := i2.c (i := 1) rfl
  have h2 := i2.c (i := 2) rfl
  have h3 := i2.c (i := 3) rfl
  have h4 := i2.c (i := 4) rfl
  go_wp2_with fail
  refine (qp1.out _ (gl.kb k0)).mono ?_
  rintro r wc ⟨rfl, kwc⟩
  replace i1 := i1.kb kwc
  replace i2 := i2.kb kwc
  replace k0 := k0.trans kwc
  clear g0 g1 g2 g3 g4 h0 h1 h2 h3 h4
  have g0 := i1.c (i := 0) rfl
  have g1 := i1.c (i := 1) rfl
  have g2 := i1.c (i := 2) rfl
  have g3 := i1.c (i := 3) rfl
  have g4 := i1.c (i := 4) rfl
  have h0 := i2.c (i := 0) rfl
  have h1 := i2.c (i := 1) rfl
  have h2 := i2.c (i := 2) rfl
  have h3 := i2.c (i := 3) rfl
  have h4 := i2.c (i := 4) rfl
  go_wp2_with fail
  refine (qp2.out _ (gl.kb k0)).mono ?_
  rintro r wd ⟨rfl, kwd⟩
  replace i1 := i1.kb kwd
  replace i2 := i2.kb kwd
  replace k0 := k0.trans kwd
  clear g0 g1 g2 g3 g4 h0 h1 h2 h3 h4
  have g0 := i1.c (i := 0) rfl
  have g1 := i1.c (i := 1) rfl
  have g2 := i1.c (i := 2) rfl
  have g3 := i1.c (i := 3) rfl
  have g4 := i1.c (i := 4) rfl
  have h0 := i2.c (i := 0) rfl
  have h1 := i2.c (i := 1) rfl
  have h2 := i2.c (i := 2) rfl
  have h3 := i2.c (i := 3) rfl
  have h4 := i2.c (i := 4) rfl
  go_wp2_with fail
  refine (qt1.out _ (gl.kb k0)).mono ?_
  rintro r we ⟨rfl, kwe⟩
  replace i1 := i1.kb kwe
  replace i2 := i2.kb kwe
  replace k0 := k0.trans kwe
  clear g0 g1 g2 g3 g4 h0 h1 h2 h3 h4
  have g0 := i1.c (i := 0) rfl
  have g1 := i1.c (i := 1) rfl
  have g2 := i1.c (i := 2) rfl
  have g3 := i1.c (i := 3) rfl
  have g4 := i1.c (i := 4) rfl
  have h0 := i2.c (i := 0) rfl
  have h1 := i2.c (i := 1) rfl
  have h2 := i2.c (i := 2) rfl
  have h3 := i2.c (i := 3) rfl
  have h4 := i2.c (i := 4) rfl
  go_wp2_with fail
  refine (qt2.out _ (gl.kb k0)).mono ?_
  rintro r wf ⟨rfl, kwf⟩
  replace i1 := i1.kb kwf
  replace i2 := i2.kb kwf
  replace k0 := k0.trans kwf
  clear g0 g1 g2 g3 g4 h0 h1 h2 h3 h4
  clear qf1 qf2 qp1 qp2 qt1 qt2
  have HP := Lib.hid (fParseAt (w0 := w) tx (wordsV k fd ft m ds) k fd ft m ds HSZ.out HSP.out.1 HSP.out.2 (by simp [wordsV]) HWL.out HWZ.out HRD.out HA.out.1.1 HA.out.1.2 HA.out.2.1.1 HA.out.2.1.2 HA.out.2.2.1 h3 HA.out.2.2.2 HDA.out hTX wf (gl.kb k0))
  have HX := Lib.hid hTX
  clear hTX
  go_wp2_with fail
  refine HP.out.mono ?_
  rintro r wg ⟨⟨dp3, dc3, rfl, hd3, _⟩, kg⟩
  replace i1 := i1.kb kg
  replace i2 := i2.kb kg
  replace k0 := k0.trans kg
  clear HP kg
  rw [← HL.out] at hd3 ⊢
  have i3 := Is.made wg #[.int .i64 (k : Int), .bool fd, .int .i64 ft, .int .i64 (m : Int), .slice dp3 dl dc3] 31
  have kz := k0.alloc (.cells #[.int .i64 (k : Int), .bool fd, .int .i64 ft, .int .i64 (m : Int), .slice dp3 dl dc3] 31 (0, 0))
  replace i1 := i1.alloc (.cells #[.int .i64 (k : Int), .bool fd, .int .i64 ft, .int .i64 (m : Int), .slice dp3 dl dc3] 31 (0, 0))
  replace i2 := i2.alloc (.cells #[.int .i64 (k : Int), .bool fd, .int .i64 ft, .int .i64 (m : Int), .slice dp3 dl dc3] 31 (0, 0))
  have hlk : dl ≤ 1000 := by have := HA.out.2.2.2; have := HL.out; omega
  have HR := Lib.hid (rSameX k fd ft m dp3 dl dc3 k fd ft m dp dl dc ds ds (wg.alloc (.cells #[.int .i64 (k : Int), .bool fd, .int .i64 ft, .int .i64 (m : Int), .slice dp3 dl dc3] 31 (0, 0))) (hd3.kb ((Kb.refl wg).alloc _)) (hd.kb kz) hlk)
  rw [hself] at HR
  have g0 := i1.c (i := 0) rfl
  have g1 := i1.c (i := 1) rfl
  have g2 := i1.c (i := 2) rfl
  have g3 := i1.c (i := 3) rfl
  have g4 := i1.c (i := 4) rfl
  have j0 := i3.c (i := 0) rfl
  have j1 := i3.c (i := 1) rfl
  have j2 := i3.c (i := 2) rfl
  have j3 := i3.c (i := 3) rfl
  have j4 := i3.c (i := 4) rfl
  go_wp2_with fail
  refine HR.out.mono ?_
  rintro r wh ⟨rfl, kh⟩
  replace i1 := i1.kb kh
  replace i2 := i2.kb kh
  replace k0 := kz.trans kh
  clear g0 g1 g2 g3 g4 j0 j1 j2 j3 j4 HR i3 kz kh hd3 hself
  have g0 := i1.c (i := 0) rfl
  have g1 := i1.c (i := 1) rfl
  have g2 := i1.c (i := 2) rfl
  have g3 := i1.c (i := 3) rfl
  have g4 := i1.c (i := 4) rfl
  have HS := Lib.hid (fSameX k fd ft m dp dl dc ds wh (hd.kb k0) hlk)
  go_wp2_with fail
  refine HS.out.mono ?_
  rintro r wi ⟨rfl, ki⟩
  replace i1 := i1.kb ki
  replace i2 := i2.kb ki
  replace k0 := k0.trans ki
  clear g0 g1 g2 g3 g4 HS ki
  have g0 := i1.c (i := 0) rfl
  have g1 := i1.c (i := 1) rfl
  have g2 := i1.c (i := 2) rfl
  have g3 := i1.c (i := 3) rfl
  have g4 := i1.c (i := 4) rfl
  have h0 := i2.c (i := 0) rfl
  have h1 := i2.c (i := 1) rfl
  have h2 := i2.c (i := 2) rfl
  have h3 := i2.c (i := 3) rfl
  have h4 := i2.c (i := 4) rfl
  have HR := Lib.hid (rSameX k fd ft m dp dl dc k2 fd2 ft2 m2 dp2 dl2 dc2 ds ds2 wi (hd.kb k0) (hd2.kb k0) hlk)
  rw [← hts] at HR
  obtain ⟨tb, htb⟩ : ∃ tb, (tx.toList == ty.toList) = tb := ⟨_, rfl⟩
  rw [htb] at HR
  clear hts
  go_wp2_with fail
  refine HR.out.mono ?_
  rintro r wj ⟨rfl, kj⟩
  replace k0 := k0.trans kj
  clear g0 g1 g2 g3 g4 h0 h1 h2 h3 h4 HR i1 i2 kj
  have HW := Lib.hid ((fawakeC (w0 := w)).out wj (gl.kb k0))
  go_wp2_with fail
  refine HW.out.mono ?_
  rintro r wk ⟨rfl, kk⟩
  go_wp2
  go_ret
  exact ⟨rfl, k0.trans kk⟩
theorem cFrameReads (fk : Int) (fd : Bool) (ft fm : Int) (dp : Option Addr) (dl dc : Nat) (fk2 : Int) (fd2 : Bool) (ft2 fm2 : Int) (dp2 : Option Addr) (dl2 dc2 : Nat) (ds ds2 : List DatT) (w : World) (gl : Gf w w) (hd : DatS w (.slice dp dl dc) ds) (hd2 : DatS w (.slice dp2 dl2 dc2) ds2) (hcd : dl ≤ dc) (hcd2 : dl2 ≤ dc2) : Calls Tryz.prog 7 #[.agg #[.int .i64 fk, .bool fd, .int .i64 ft, .int .i64 fm, .slice dp dl dc], .agg #[.int .i64 fk2, .bool fd2, .int .i64 ft2, .int .i64 fm2, .slice dp2 dl2 dc2]] w fun r W' => r = .returned (.bool true) ∧ Kb w W' := by
  rcases Bool.eq_false_or_eq_true (fewX fk fd ft fm ds) with h1 | h1
  case inr => exact lrA_1 w fk fd ft fm dp dl dc fk2 fd2 ft2 fm2 dp2 dl2 dc2 ds ds2 hd hd2 h1 w gl
  rcases Bool.eq_false_or_eq_true (fewX fk2 fd2 ft2 fm2 ds2) with h2 | h2
  case inr => exact lrB_1 w fk fd ft fm dp dl dc fk2 fd2 ft2 fm2 dp2 dl2 dc2 ds ds2 hd hd2 h1 h2 w gl
  have hz := (fewX_len h1).2
  have hz2 := (fewX_len h2).2
  rcases Bool.eq_false_or_eq_true (fpE fk ft fm ds != 0) with h3 | h3
  · exact lrC_1 w fk fd ft fm dp dl dc fk2 fd2 ft2 fm2 dp2 dl2 dc2 ds ds2 hd hd2 h1 h2 h3 hz w gl
  rcases Bool.eq_false_or_eq_true (fpE fk2 ft2 fm2 ds2 != 0) with h4 | h4
  · exact lrD_1 w fk fd ft fm dp dl dc fk2 fd2 ft2 fm2 dp2 dl2 dc2 ds ds2 hd hd2 h1 h2 h3 h4 hz hz2 w gl
  have e3 : fpE fk ft fm ds = 0 := by simpa using h3
  have e4 : fpE fk2 ft2 fm2 ds2 = 0 := by simpa using h4
  obtain ⟨a1, a2, _⟩ := fpE_all e3
  obtain ⟨b1, b2, _⟩ := fpE_all e4
  obtain ⟨k, rfl⟩ : ∃ k : Nat, fk = (k : Int) := ⟨fk.toNat, by omega⟩
  obtain ⟨m, rfl⟩ : ∃ k : Nat, fm = (k : Int) := ⟨fm.toNat, by omega⟩
  obtain ⟨k2, rfl⟩ : ∃ k : Nat, fk2 = (k : Int) := ⟨fk2.toNat, by omega⟩
  obtain ⟨m2, rfl⟩ : ∃ k : Nat, fm2 = (k : Int) := ⟨fm2.toNat, by omega⟩
  exact lrE k fd ft m dp dl dc k2 fd2 ft2 m2 dp2 dl2 dc2 ds ds2 w gl hd hd2 hcd hcd2 h1 h2 e3 e4
end Go.Proofs.YtlimjohnimgnhaaGreatDoor
