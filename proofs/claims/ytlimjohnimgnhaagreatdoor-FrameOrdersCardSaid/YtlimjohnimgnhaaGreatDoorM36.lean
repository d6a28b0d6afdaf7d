/- Texts Uq2: each says in its own first comment what it proves. -/
import Derived.Test.YtlimjohnimgnhaaGreatDoorM01
import Derived.Test.YtlimjohnimgnhaaGreatDoorM13
import Derived.Test.YtlimjohnimgnhaaGreatDoorM22
import Derived.Test.YtlimjohnimgnhaaGreatDoorM31
import Derived.Test.YtlimjohnimgnhaaGreatDoorM47
import Derived.Lib.MinMax
import Derived.Test.YtlimjohnimgnhaaGreatDoorM07
import Derived.Lib.SliceRun
/- Frames: frames in another order, and fewer of them. -/
namespace Go.Proofs.YtlimjohnimgnhaaGreatDoor
open Go.RowKit

theorem alE_zero {n : ByteArray} {k a x y z lo hi : Int} {fs : List FrT} : alE n k a x y z lo hi fs = 0 ↔ ftE n k a x y z lo hi = 0 ∧ fs.length ≤ 8 ∧ (∀ f ∈ fs, fcF n k a x y z lo hi f = 0) ∧ fs.Pairwise fun f g => f.k ≠ g.k := by
  unfold alE
  by_cases h1 : ftE n k a x y z lo hi = 0
  · rw [if_pos h1]
    by_cases h2 : 8 < fs.length
    · rw [if_pos h2]
      exact ⟨fun h => absurd h (by decide), fun h => absurd h.2.1 (by omega)⟩
    · rw [if_neg h2, fsF_zero]
      exact ⟨fun h => ⟨h1, by omega, h.1, h.2.1⟩, fun h => ⟨h.2.2.1, h.2.2.2, fun f _ g hg => absurd hg (by simp)⟩⟩
  · rw [if_neg h1]
    exact ⟨fun h => absurd h h1, fun h => absurd h.1 h1⟩
theorem alE_rev {n : ByteArray} {k a x y z lo hi : Int} {fs : List FrT} (h : alE n k a x y z lo hi fs = 0) : alE n k a x y z lo hi fs.reverse = 0 := by
  obtain ⟨h1, h2, h3, h4⟩ := alE_zero.1 h
  refine alE_zero.2 ⟨h1, by simpa using h2, fun f hf => h3 f (by simpa using hf), ?_⟩
  rw [List.pairwise_reverse]
  exact h4.imp fun h e => h e.symm
theorem alE_drop {n : ByteArray} {k a x y z lo hi : Int} {fs : List FrT} (i : Nat) (h : alE n k a x y z lo hi fs = 0) : alE n k a x y z lo hi (fs.drop i) = 0 := by
  obtain ⟨h1, h2, h3, h4⟩ := alE_zero.1 h
  exact alE_zero.2 ⟨h1, by simp; omega, fun f hf => h3 f (List.mem_of_mem_drop hf), h4.drop⟩
theorem nmL_mem {fs : List FrT} {s : List UInt8} : s ∈ nmL fs ↔ ∃ f ∈ fs, s ∈ nmD f.ds := by unfold nmL; rw [List.mem_flatMap]
theorem dtV_0 {n : ByteArray} {k a x y z lo hi : Int} {fs : List FrT} (h : alE n k a x y z lo hi fs = 0) : dtV n k a x y z lo hi fs = srt (nmL fs) := by unfold dtV; rw [if_pos h]
theorem dtV_rev {n : ByteArray} {k a x y z lo hi : Int} {fs : List FrT} (h : alE n k a x y z lo hi fs = 0) : dtV n k a x y z lo hi fs.reverse = dtV n k a x y z lo hi fs := by
  rw [dtV_0 h, dtV_0 (alE_rev h)]
  exact srt_eq fun x => by simp [nmL_mem]
theorem dtV_sub {n : ByteArray} {k a x y z lo hi : Int} {fs : List FrT} (i : Nat) (h : alE n k a x y z lo hi fs = 0) : ∀ s ∈ dtV n k a x y z lo hi (fs.reverse.drop i), s ∈ dtV n k a x y z lo hi fs := by
  intro s hs
  rw [dtV_0 (alE_drop i (alE_rev h)), srt_mem, nmL_mem] at hs
  rw [dtV_0 h, srt_mem, nmL_mem]
  obtain ⟨f, hf, h2⟩ := hs
  exact ⟨f, by simpa using List.mem_of_mem_drop hf, h2⟩
theorem dtV_asc {n : ByteArray} {k a x y z lo hi : Int} (fs : List FrT) : Asc (dtV n k a x y z lo hi fs) := by
  unfold dtV
  split
  · exact srt_asc _
  · exact List.Pairwise.nil
theorem dtV_len2 {n : ByteArray} {k a x y z lo hi : Int} {fs : List FrT} (hF : fs.length ≤ 12) (hz : ∀ f ∈ fs, f.ds.length ≤ 6 ∧ ∀ d ∈ f.ds, d.1.size ≤ 1000000) : (dtV n k a x y z lo hi fs).length ≤ 72 := by
  have hN := nmL_le fs fun f h => (hz f h).1
  have h1 := srt_len (nmL fs)
  unfold dtV
  split
  · omega
  · simp
theorem SlS.shape {w : World} {v : Value} {ss : List (List UInt8)} (h : SlS w v ss) : ∃ p l c, v = .slice p l c ∧ l = ss.length := by
  obtain ⟨p, c, e, _⟩ := h
  exact ⟨p, _, c, e, by simp⟩
set_option maxRecDepth 100000 in
set_option maxHeartbeats 4000000 in
theorem loA_1 (w0 : World) (n : ByteArray) (k : Int) (a : Int) (x : Int) (y : Int) (z : Int) (lo : Int) (hi : Int) (fp : Option Addr) (fl : Nat) (fc : Nat)     (fs : List FrT) (hfr : FrP w0 (.slice fp fl fc) fs) (hfa : (fewB n fs) = false) (w : World) (gl : Gf w0 w)  : Calls Tryz.prog 9 #[.agg #[.string n, .int .i64 k, .int .i64 a, .int .i64 x, .int .i64 y, .int .i64 z, .int .i64 lo, .int .i64 hi, .slice fp fl fc]] w fun r W' => r = .returned (.bool true) ∧ Kb w W' := by
  have kx := Kb.refl w
  have gl0 := Lib.hid gl
  have j1 := (Is.made w #[.string n, .int .i64 k, .int .i64 a, .int .i64 x, .int .i64 y, .int .i64 z, .int .i64 lo, .int .i64 hi, .slice fp fl fc] 28)
  have f2 := j1.c (i := 0) rfl
  have f3 := j1.c (i := 1) rfl
  have f4 := j1.c (i := 2) rfl
  have f5 := j1.c (i := 3) rfl
  have f6 := j1.c (i := 4) rfl
  have f7 := j1.c (i := 5) rfl
  have f8 := j1.c (i := 6) rfl
  have f9 := j1.c (i := 7) rfl
  have f10 := j1.c (i := 8) rfl
  go_enter Tryz.func9, Tryz.ntmps9
  go_wp2_with fail
  clear f2 f3 f4 f5 f6 f7 f8 f9 f10
  have b1 := j1
  replace kx := kx.alloc (.cells #[.string n, .int .i64 k, .int .i64 a, .int .i64 x, .int .i64 y, .int .i64 z, .int .i64 lo, .int .i64 hi, .slice fp fl fc] 28 (0, 0))
  clear j1
  replace gl := gl0.out.kb kx
  (with_reducible refine ((Cf.out (cFew n k a x y z lo hi fp fl fc fs hfr.frs) _ gl)).mono ?_)
  rintro r w1 ⟨rfl, k1⟩
  replace gl := gl.kb k1
  replace b1 := b1.kb k1
  replace kx := kx.trans k1
  have s1 := k1.size
  simp only [World.size_alloc] at s1
  clear k1
  go_wp2_with fail
  (with_reducible refine ((Cf.out (fawakeC) _ gl)).mono ?_)
  rintro r w2 ⟨rfl, k2⟩
  replace gl := gl.kb k2
  replace b1 := b1.kb k2
  replace kx := kx.trans k2
  have s2 := k2.size
  skip
  clear k2
  go_wp2
  go_ret
  exact ⟨rfl, kx⟩
set_option maxRecDepth 100000 in
set_option maxHeartbeats 4000000 in
theorem loB_1 (w0 : World) (n : ByteArray) (k : Int) (a : Int) (x : Int) (y : Int) (z : Int) (lo : Int) (hi : Int) (fp : Option Addr) (fl : Nat) (fc : Nat)     (fs : List FrT) (hfr : FrP w0 (.slice fp fl fc) fs) (hfa : (fewB n fs) = true) (hal : ((alE n k a x y z lo hi fs) != 0) = true) (hnz : n.size ≤ 1000000) (hz2 : ∀ f ∈ fs, f.ds.length ≤ 100000 ∧ ∀ d ∈ f.ds, d.1.size ≤ 1000000) (w : World) (gl : Gf w0 w)  : Calls Tryz.prog 9 #[.agg #[.string n, .int .i64 k, .int .i64 a, .int .i64 x, .int .i64 y, .int .i64 z, .int .i64 lo, .int .i64 hi, .slice fp fl fc]] w fun r W' => r = .returned (.bool true) ∧ Kb w W' := by
  have kx := Kb.refl w
  have gl0 := Lib.hid gl
  have j1 := (Is.made w #[.string n, .int .i64 k, .int .i64 a, .int .i64 x, .int .i64 y, .int .i64 z, .int .i64 lo, .int .i64 hi, .slice fp fl fc] 28)
  have f2 := j1.c (i := 0) rfl
  have f3 := j1.c (i := 1) rfl
  have f4 := j1.c (i := 2) rfl
  have f5 := j1.c (i := 3) rfl
  have f6 := j1.c (i := 4) rfl
  have f7 := j1.c (i := 5) rfl
  have f8 := j1.c (i := 6) rfl
  have f9 := j1.c (i := 7) rfl
  have f10 := j1.c (i := 8) rfl
  go_enter Tryz.func9, Tryz.ntmps9
  go_wp2_with fail
  clear f2 f3 f4 f5 f6 f7 f8 f9 f10
  have b1 := j1
  replace kx := kx.alloc (.cells #[.string n, .int .i64 k, .int .i64 a, .int .i64 x, .int .i64 y, .int .i64 z, .int .i64 lo, .int .i64 hi, .slice fp fl fc] 28 (0, 0))
  clear j1
  replace gl := gl0.out.kb kx
  (with_reducible refine ((Cf.out (cFew n k a x y z lo hi fp fl fc fs hfr.frs) _ gl)).mono ?_)
  rintro r w1 ⟨rfl, k1⟩
  replace gl := gl.kb k1
  replace b1 := b1.kb k1
  replace kx := kx.trans k1
  have s1 := k1.size
  simp only [World.size_alloc] at s1
  clear k1
  have f11 := b1.c (i := 0) rfl
  have f12 := b1.c (i := 1) rfl
  have f13 := b1.c (i := 2) rfl
  have f14 := b1.c (i := 3) rfl
  have f15 := b1.c (i := 4) rfl
  have f16 := b1.c (i := 5) rfl
  have f17 := b1.c (i := 6) rfl
  have f18 := b1.c (i := 7) rfl
  have f19 := b1.c (i := 8) rfl
  go_wp2_with fail
  clear f11 f12 f13 f14 f15 f16 f17 f18 f19
  (with_reducible refine ((Cf.out (rfrAll n k a x y z lo hi fp fl fc fs hnz hfr hz2) _ gl)).mono ?_)
  rintro r w2 ⟨rfl, k2⟩
  replace gl := gl.kb k2
  replace b1 := b1.kb k2
  replace kx := kx.trans k2
  have s2 := k2.size
  skip
  clear k2
  go_wp2_with fail
  (with_reducible refine ((Cf.out (fawakeC) _ gl)).mono ?_)
  rintro r w3 ⟨rfl, k3⟩
  replace gl := gl.kb k3
  replace b1 := b1.kb k3
  replace kx := kx.trans k3
  have s3 := k3.size
  skip
  clear k3
  go_wp2
  go_ret
  exact ⟨rfl, kx⟩
end Go.Proofs.YtlimjohnimgnhaaGreatDoor
