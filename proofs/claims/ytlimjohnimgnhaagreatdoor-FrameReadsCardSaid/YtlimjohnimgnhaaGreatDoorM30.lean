/- Texts Un4: each says in its own first comment what it proves. -/
import Derived.Test.YtlimjohnimgnhaaGreatDoorM25
import Derived.Test.YtlimjohnimgnhaaGreatDoorM43
/- Frames: the reference: Check. -/
namespace Go.Proofs.YtlimjohnimgnhaaGreatDoor
open Go.RowKit

set_option maxRecDepth 100000 in
theorem rdatums {w0 : World} (dp : Option Addr) (dl dc : Nat) (ds : List DatT) (hd : DatS w0 (.slice dp dl dc) ds) (hz : ∀ d ∈ ds, d.1.size ≤ 1000000) : Cf w0 53 #[.slice dp dl dc] (.int .i64 (if 3 < dl then 5 else dsE ds)) := Lib.hid fun w gl => by
  by_cases h3 : 3 < dl
  · rw [if_pos h3]
    have h3i : (3 : Int) < (dl : Int) := by omega
    go_enter Tryz.func53, Tryz.ntmps53
    go_wp2
    go_ret
    exact ⟨rfl, Kb.refl _⟩
  rw [if_neg h3]
  by_cases h0 : dl = 0
  · subst h0
    have hl := hd.len
    obtain rfl : ds = [] := List.length_eq_zero_iff.1 hl.symm
    clear hl hd hz h3
    go_enter Tryz.func53, Tryz.ntmps53
    go_wp2_with fail
    refine wp_loop_rounds 1 ?_
    rw [rounds_succ]
    go_wp2
    go_ret
    exact ⟨rfl, Kb.refl _⟩
  · obtain ⟨b, off, rfl, _⟩ := hd.at (by omega)
    exact rdatums1 b off dl dc ds hd (by omega) hz w gl
theorem rfPlain {w0 : World} (fk : Int) (fd : Bool) (ft fm : Int) (dp : Option Addr) (dl dc : Nat) (ds : List DatT) (hd : DatS w0 (.slice dp dl dc) ds) (hz : ∀ d ∈ ds, d.1.size ≤ 1000000) : Cf w0 16 #[.agg #[.int .i64 fk, .bool fd, .int .i64 ft, .int .i64 fm, .slice dp dl dc]] (.int .i64 (fpE fk ft fm ds)) := by
  have q := rPlain_any w0 fk fd ft fm dp dl dc _ (rdatums dp dl dc ds hd hz)
  have hl := hd.len
  have e : fpE fk ft fm ds = (if fk < 0 then 1 else if 9 ≤ fk then 1 else if (cmE fm != 0) = true then cmE fm else if ft < 0 then 2 else if 100000 < ft then 2 else if 3 < dl then 5 else dsE ds) := by
    unfold fpE
    rw [← hl]
    by_cases h1 : fk < 0
    · rw [if_pos h1, decide_eq_true h1, Bool.true_or]; rfl
    rw [if_neg h1, decide_eq_false h1, Bool.false_or]
    by_cases h2 : 9 ≤ fk
    · rw [if_pos h2, decide_eq_true h2]; rfl
    rw [if_neg h2, decide_eq_false h2]
    by_cases h3 : cmE fm = 0
    · rw [h3, if_neg (by decide)]
      by_cases h4 : ft < 0
      · rw [if_pos h4, decide_eq_true h4, Bool.true_or]; rfl
      rw [if_neg h4, decide_eq_false h4, Bool.false_or]
      by_cases h5 : 100000 < ft
      · rw [if_pos h5, decide_eq_true h5]; rfl
      rw [if_neg h5, decide_eq_false h5]
      by_cases h6 : 3 < dl
      · rw [if_pos h6, decide_eq_true (show (3 : Int) < (dl : Int) by omega)]; rfl
      · rw [if_neg h6, decide_eq_false (show ¬ (3 : Int) < (dl : Int) by omega)]
        show firstE [dsE ds] = dsE ds
        unfold firstE
        split
        · rename_i h; rw [h]; rfl
        · rfl
    · rw [if_pos (by simpa using h3)]
      have h4 : firstE [cmE fm] = cmE fm := by rw [firstE, if_neg h3]
      show firstE (firstE [cmE fm] :: _) = cmE fm
      rw [h4, firstE, if_neg h3]
  rw [e]
  have f : ∀ (c : Prop) [Decidable c] (u v : Int), (Value.int .i64 (if c then u else v)) = (if c then (Value.int .i64 u) else (.int .i64 v)) := fun c _ u v => by split <;> rfl
  simp only [f]
  simp only [f] at q
  exact q
theorem rperm (n : ByteArray) (k a x y z lo hi : Int) (fp : Option Addr) (fl fc : Nat) (fk : Int) (fd : Bool) (ft fm : Int) (dp : Option Addr) (dl dc : Nat) (hk : 0 ≤ fk ∧ fk < 9) (hk2 : 0 ≤ k ∧ k < 5) : Ca 46 #[.agg #[.string n, .int .i64 k, .int .i64 a, .int .i64 x, .int .i64 y, .int .i64 z, .int .i64 lo, .int .i64 hi, .slice fp fl fc], .agg #[.int .i64 fk, .bool fd, .int .i64 ft, .int .i64 fm, .slice dp dl dc]] (.int .i64 (permE k fk.toNat fd ft fm dl)) := Lib.hid fun w => by
  obtain ⟨q, rfl⟩ : ∃ q : Nat, fk = (q : Int) := ⟨fk.toNat, by omega⟩
  exact rperm_1 n k a x y z lo hi fp fl fc q fd ft fm dp dl dc (by omega) hk2 w
set_option maxRecDepth 100000 in
set_option maxHeartbeats 4000000 in
theorem rCheckA_1 (w0 : World) (n : ByteArray) (k : Int) (a : Int) (x : Int) (y : Int) (z : Int) (lo : Int) (hi : Int) (fp : Option Addr) (fl : Nat) (fc : Nat) (fk : Int) (fd : Bool) (ft : Int) (fm : Int) (dp : Option Addr) (dl : Nat) (dc : Nat) (ea : Int)   (q1 : Ca 45 #[.agg #[.string n, .int .i64 k, .int .i64 a, .int .i64 x, .int .i64 y, .int .i64 z, .int .i64 lo, .int .i64 hi, .slice fp fl fc]] (.int .i64 ea)) (hea : (ea != 0) = true) (w : World) (gl : Gf w0 w)  : Calls Tryz.prog 14 #[.agg #[.string n, .int .i64 k, .int .i64 a, .int .i64 x, .int .i64 y, .int .i64 z, .int .i64 lo, .int .i64 hi, .slice fp fl fc], .agg #[.int .i64 fk, .bool fd, .int .i64 ft, .int .i64 fm, .slice dp dl dc]] w fun r W' => r = .returned (.int .i64 ea) ∧ Kb w W' := by
  have kx := Kb.refl w
  unfold Ca at q1
  have gl0 := Lib.hid gl
  have j1 := ((Is.made w #[.string n, .int .i64 k, .int .i64 a, .int .i64 x, .int .i64 y, .int .i64 z, .int .i64 lo, .int .i64 hi, .slice fp fl fc] 28).alloc (.cells #[.int .i64 fk, .bool fd, .int .i64 ft, .int .i64 fm, .slice dp dl dc] 31 (0, 0)))
  have f2 := j1.c (i := 0) rfl
  have f3 := j1.c (i := 1) rfl
  have f4 := j1.c (i := 2) rfl
  have f5 := j1.c (i := 3) rfl
  have f6 := j1.c (i := 4) rfl
  have f7 := j1.c (i := 5) rfl
  have f8 := j1.c (i := 6) rfl
  have f9 := j1.c (i := 7) rfl
  have f10 := j1.c (i := 8) rfl
  go_enter Tryz.func14, Tryz.ntmps14
  go_wp2_with fail
  clear f2 f3 f4 f5 f6 f7 f8 f9 f10
  have b1 := j1
  have b2 := Is.made (w.alloc (.cells #[.string n, .int .i64 k, .int .i64 a, .int .i64 x, .int .i64 y, .int .i64 z, .int .i64 lo, .int .i64 hi, .slice fp fl fc] 28 (0, 0))) #[.int .i64 fk, .bool fd, .int .i64 ft, .int .i64 fm, .slice dp dl dc] 31
  simp only [World.size_alloc] at b2
  replace kx := (kx.alloc (.cells #[.string n, .int .i64 k, .int .i64 a, .int .i64 x, .int .i64 y, .int .i64 z, .int .i64 lo, .int .i64 hi, .slice fp fl fc] 28 (0, 0))).alloc (.cells #[.int .i64 fk, .bool fd, .int .i64 ft, .int .i64 fm, .slice dp dl dc] 31 (0, 0))
  clear j1
  replace gl := gl0.out.kb kx
  (with_reducible refine (((q1).out _)).mono ?_)
  rintro r w1 ⟨rfl, k1⟩
  replace gl := gl.kb k1
  replace b1 := b1.kb k1
  replace b2 := b2.kb k1
  replace kx := kx.trans k1
  have s1 := k1.size
  simp only [World.size_alloc] at s1
  clear k1
  go_wp2
  go_ret
  exact ⟨rfl, kx⟩
set_option maxRecDepth 100000 in
set_option maxHeartbeats 4000000 in
theorem rCheckB_1 (w0 : World) (n : ByteArray) (k : Int) (a : Int) (x : Int) (y : Int) (z : Int) (lo : Int) (hi : Int) (fp : Option Addr) (fl : Nat) (fc : Nat) (fk : Int) (fd : Bool) (ft : Int) (fm : Int) (dp : Option Addr) (dl : Nat) (dc : Nat) (ea : Int) (eb : Int)   (q1 : Ca 45 #[.agg #[.string n, .int .i64 k, .int .i64 a, .int .i64 x, .int .i64 y, .int .i64 z, .int .i64 lo, .int .i64 hi, .slice fp fl fc]] (.int .i64 ea)) (q2 : Cf w0 16 #[.agg #[.int .i64 fk, .bool fd, .int .i64 ft, .int .i64 fm, .slice dp dl dc]] (.int .i64 eb)) (hea : (ea != 0) = false) (heb : (eb != 0) = true) (w : World) (gl : Gf w0 w)  : Calls Tryz.prog 14 #[.agg #[.string n, .int .i64 k, .int .i64 a, .int .i64 x, .int .i64 y, .int .i64 z, .int .i64 lo, .int .i64 hi, .slice fp fl fc], .agg #[.int .i64 fk, .bool fd, .int .i64 ft, .int .i64 fm, .slice dp dl dc]] w fun r W' => r = .returned (.int .i64 eb) ∧ Kb w W' := by
  have kx := Kb.refl w
  unfold Ca at q1
  unfold Cf at q2
  have gl0 := Lib.hid gl
  have j1 := ((Is.made w #[.string n, .int .i64 k, .int .i64 a, .int .i64 x, .int .i64 y, .int .i64 z, .int .i64 lo, .int .i64 hi, .slice fp fl fc] 28).alloc (.cells #[.int .i64 fk, .bool fd, .int .i64 ft, .int .i64 fm, .slice dp dl dc] 31 (0, 0)))
  have f2 := j1.c (i := 0) rfl
  have f3 := j1.c (i := 1) rfl
  have f4 := j1.c (i := 2) rfl
  have f5 := j1.c (i := 3) rfl
  have f6 := j1.c (i := 4) rfl
  have f7 := j1.c (i := 5) rfl
  have f8 := j1.c (i := 6) rfl
  have f9 := j1.c (i := 7) rfl
  have f10 := j1.c (i := 8) rfl
  go_enter Tryz.func14, Tryz.ntmps14
  go_wp2_with fail
  clear f2 f3 f4 f5 f6 f7 f8 f9 f10
  have b1 := j1
  have b2 := Is.made (w.alloc (.cells #[.string n, .int .i64 k, .int .i64 a, .int .i64 x, .int .i64 y, .int .i64 z, .int .i64 lo, .int .i64 hi, .slice fp fl fc] 28 (0, 0))) #[.int .i64 fk, .bool fd, .int .i64 ft, .int .i64 fm, .slice dp dl dc] 31
  simp only [World.size_alloc] at b2
  replace kx := (kx.alloc (.cells #[.string n, .int .i64 k, .int .i64 a, .int .i64 x, .int .i64 y, .int .i64 z, .int .i64 lo, .int .i64 hi, .slice fp fl fc] 28 (0, 0))).alloc (.cells #[.int .i64 fk, .bool fd, .int .i64 ft, .int .i64 fm, .slice dp dl dc] 31 (0, 0))
  clear j1
  replace gl := gl0.out.kb kx
  (with_reducible refine (((q1).out _)).mono ?_)
  rintro r w1 ⟨rfl, k1⟩
  replace gl := gl.kb k1
  replace b1 := b1.kb k1
  replace b2 := b2.kb k1
  replace kx := kx.trans k1
  have s1 := k1.size
  simp only [World.size_alloc] at s1
  clear k1
  have f11 := b2.c (i := 0) rfl
  have f12 := b2.c (i := 1) rfl
  have f13 := b2.c (i := 2) rfl
  have f14 := b2.c (i := 3) rfl
  have f15 := b2.c (i := 4) rfl
  go_wp2_with fail
  clear f11 f12 f13 f14 f15
  (with_reducible refine ((q2.out _ gl)).mono ?_)
  rintro r w2 ⟨rfl, k2⟩
  replace gl := gl.kb k2
  replace b1 := b1.kb k2
  replace b2 := b2.kb k2
  replace kx := kx.trans k2
  have s2 := k2.size
  skip
  clear k2
  go_wp2
  go_ret
  exact ⟨rfl, kx⟩
set_option maxRecDepth 100000 in
set_option maxHeartbeats 4000000 in
theorem rCheckC_1 (w0 : World) (n : ByteArray) (k : Int) (a : Int) (x : Int) (y : Int) (z : Int) (lo : Int) (hi : Int) (fp : Option Addr) (fl : Nat) (fc : Nat) (fk : Int) (fd : Bool) (ft : Int) (fm : Int) (dp : Option Addr) (dl : Nat) (dc : Nat) (ea : Int) (eb : Int) (ec : Int)   (q1 : Ca 45 #[.agg #[.string n, .int .i64 k, .int .i64 a, .int .i64 x, .int .i64 y, .int .i64 z, .int .i64 lo, .int .i64 hi, .slice fp fl fc]] (.int .i64 ea)) (q2 : Cf w0 16 #[.agg #[.int .i64 fk, .bool fd, .int .i64 ft, .int .i64 fm, .slice dp dl dc]] (.int .i64 eb)) (q3 : Ca 46 #[.agg #[.string n, .int .i64 k, .int .i64 a, .int .i64 x, .int .i64 y, .int .i64 z, .int .i64 lo, .int .i64 hi, .slice fp fl fc], .agg #[.int .i64 fk, .bool fd, .int .i64 ft, .int .i64 fm, .slice dp dl dc]] (.int .i64 ec)) (hea : (ea != 0) = false) (heb : (eb != 0) = false) (hec : (ec != 0) = true) (w : World) (gl : Gf w0 w)  : Calls Tryz.prog 14 #[.agg #[.string n, .int .i64 k, .int .i64 a, .int .i64 x, .int .i64 y, .int .i64 z, .int .i64 lo, .int .i64 hi, .slice fp fl fc], .agg #[.int .i64 fk, .bool fd, .int .i64 ft, .int .i64 fm, .slice dp dl dc]] w fun r W' => r = .returned (.int .i64 ec) ∧ Kb w W' := by
  have kx := Kb.refl w
  unfold Ca at q1 q3
  unfold Cf at q2
  have gl0 := Lib.hid gl
  have j1 := ((Is.made w #[.string n, .int .i64 k, .int .i64 a, .int .i64 x, .int .i64 y, .int .i64 z, .int .i64 lo, .int .i64 hi, .slice fp fl fc] 28).alloc (.cells #[.int .i64 fk, .bool fd, .int .i64 ft, .int .i64 fm, .slice dp dl dc] 31 (0, 0)))
  have f2 := j1.c (i := 0) rfl
  have f3 := j1.c (i := 1) rfl
  have f4 := j1.c (i := 2) rfl
  have f5 := j1.c (i := 3) rfl
  have f6 := j1.c (i := 4) rfl
  have f7 := j1.c (i := 5) rfl
  have f8 := j1.c (i := 6) rfl
  have f9 := j1.c (i := 7) rfl
  have f10 := j1.c (i := 8) rfl
  go_enter Tryz.func14, Tryz.ntmps14
  go_wp2_with fail
  clear f2 f3 f4 f5 f6 f7 f8 f9 f10
  have b1 := j1
  have b2 := Is.made (w.alloc (.cells #[.string n, .int .i64 k, .int .i64 a, .int .i64 x, .int .i64 y, .int .i64 z, .int .i64 lo, .int .i64 hi, .slice fp fl fc] 28 (0, 0))) #[.int .i64 fk, .bool fd, .int .i64 ft, .int .i64 fm, .slice dp dl dc] 31
  simp only [World.size_alloc] at b2
  replace kx := (kx.alloc (.cells #[.string n, .int .i64 k, .int .i64 a, .int .i64 x, .int .i64 y, .int .i64 z, .int .i64 lo, .int .i64 hi, .slice fp fl fc] 28 (0, 0))).alloc (.cells #[.int .i64 fk, .bool fd, .int .i64 ft, .int .i64 fm, .slice dp dl dc] 31 (0, 0))
  clear j1
  replace gl := gl0.out.kb kx
  (with_reducible refine (((q1).out _)).mono ?_)
  rintro r w1 ⟨rfl, k1⟩
  replace gl := gl.kb k1
  replace b1 := b1.kb k1
  replace b2 := b2.kb k1
  replace kx := kx.trans k1
  have s1 := k1.size
  simp only [World.size_alloc] at s1
  clear k1
  have f11 := b2.c (i := 0) rfl
  have f12 := b2.c (i := 1) rfl
  have f13 := b2.c (i := 2) rfl
  have f14 := b2.c (i := 3) rfl
  have f15 := b2.c (i := 4) rfl
  go_wp2_with fail
  clear f11 f12 f13 f14 f15
  (with_reducible refine ((q2.out _ gl)).mono ?_)
  rintro r w2 ⟨rfl, k2⟩
  replace gl := gl.kb k2
  replace b1 := b1.kb k2
  replace b2 := b2.kb k2
  replace kx := kx.trans k2
  have s2 := k2.size
  skip
  clear k2
  have f16 := b1.c (i := 0) rfl
  have f17 := b1.c (i := 1) rfl
  have f18 := b1.c (i := 2) rfl
  have f19 := b1.c (i := 3) rfl
  have f20 := b1.c (i := 4) rfl
  have f21 := b1.c (i := 5) rfl
  have f22 := b1.c (i := 6) rfl
  have f23 := b1.c (i := 7) rfl
  have f24 := b1.c (i := 8) rfl
  have f25 := b2.c (i := 0) rfl
  have f26 := b2.c (i := 1) rfl
  have f27 := b2.c (i := 2) rfl
  have f28 := b2.c (i := 3) rfl
  have f29 := b2.c (i := 4) rfl
  go_wp2_with fail
  clear f16 f17 f18 f19 f20 f21 f22 f23 f24 f25 f26 f27 f28 f29
  (with_reducible refine (((q3).out _)).mono ?_)
  rintro r w3 ⟨rfl, k3⟩
  replace gl := gl.kb k3
  replace b1 := b1.kb k3
  replace b2 := b2.kb k3
  replace kx := kx.trans k3
  have s3 := k3.size
  skip
  clear k3
  go_wp2
  go_ret
  exact ⟨rfl, kx⟩
set_option maxRecDepth 100000 in
set_option maxHeartbeats 4000000 in
theorem rCheckD_1 (w0 : World) (n : ByteArray) (k : Int) (a : Int) (x : Int) (y : Int) (z : Int) (lo : Int) (hi : Int) (fp : Option Addr) (fl : Nat) (fc : Nat) (fk : Int) (fd : Bool) (ft : Int) (fm : Int) (b : Nat) (off : Nat) (dl : Nat) (dc : Nat) (ea : Int) (eb : Int) (ec : Int)   (q1 : Ca 45 #[.agg #[.string n, .int .i64 k, .int .i64 a, .int .i64 x, .int .i64 y, .int .i64 z, .int .i64 lo, .int .i64 hi, .slice fp fl fc]] (.int .i64 ea)) (q2 : Cf w0 16 #[.agg #[.int .i64 fk, .bool fd, .int .i64 ft, .int .i64 fm, .slice (some ⟨b, off, none⟩) dl dc]] (.int .i64 eb)) (q3 : Ca 46 #[.agg #[.string n, .int .i64 k, .int .i64 a, .int .i64 x, .int .i64 y, .int .i64 z, .int .i64 lo, .int .i64 hi, .slice fp fl fc], .agg #[.int .i64 fk, .bool fd, .int .i64 ft, .int .i64 fm, .slice (some ⟨b, off, none⟩) dl dc]] (.int .i64 ec)) (hea : (ea != 0) = false) (heb : (eb != 0) = false) (hec : (ec != 0) = false) (ds : List DatT) (hd : DatS w0 (.slice (some ⟨b, off, none⟩) dl dc) ds) (hd3 : dl ≤ 3) (w : World) (gl : Gf w0 w)  : Calls Tryz.prog 14 #[.agg #[.string n, .int .i64 k, .int .i64 a, .int .i64 x, .int .i64 y, .int .i64 z, .int .i64 lo, .int .i64 hi, .slice fp fl fc], .agg #[.int .i64 fk, .bool fd, .int .i64 ft, .int .i64 fm, .slice (some ⟨b, off, none⟩) dl dc]] w fun r W' => r = .returned (.int .i64 (fE (dnB ds n) 7)) ∧ Kb w W' := by
  have kx := Kb.refl w
  unfold Ca at q1 q3
  unfold Cf at q2
  have gl0 := Lib.hid gl
  have j1 := ((Is.made w #[.string n, .int .i64 k, .int .i64 a, .int .i64 x, .int .i64 y, .int .i64 z, .int .i64 lo, .int .i64 hi, .slice fp fl fc] 28).alloc (.cells #[.int .i64 fk, .bool fd, .int .i64 ft, .int .i64 fm, .slice (some ⟨b, off, none⟩) dl dc] 31 (0, 0)))
  have f2 := j1.c (i := 0) rfl
  have f3 := j1.c (i := 1) rfl
  have f4 := j1.c (i := 2) rfl
  have f5 := j1.c (i := 3) rfl
  have f6 := j1.c (i := 4) rfl
  have f7 := j1.c (i := 5) rfl
  have f8 := j1.c (i := 6) rfl
  have f9 := j1.c (i := 7) rfl
  have f10 := j1.c (i := 8) rfl
  go_enter Tryz.func14, Tryz.ntmps14
  go_wp2_with fail
  clear f2 f3 f4 f5 f6 f7 f8 f9 f10
  have b1 := j1
  have b2 := Is.made (w.alloc (.cells #[.string n, .int .i64 k, .int .i64 a, .int .i64 x, .int .i64 y, .int .i64 z, .int .i64 lo, .int .i64 hi, .slice fp fl fc] 28 (0, 0))) #[.int .i64 fk, .bool fd, .int .i64 ft, .int .i64 fm, .slice (some ⟨b, off, none⟩) dl dc] 31
  simp only [World.size_alloc] at b2
  replace kx := (kx.alloc (.cells #[.string n, .int .i64 k, .int .i64 a, .int .i64 x, .int .i64 y, .int .i64 z, .int .i64 lo, .int .i64 hi, .slice fp fl fc] 28 (0, 0))).alloc (.cells #[.int .i64 fk, .bool fd, .int .i64 ft, .int .i64 fm, .slice (some ⟨b, off, none⟩) dl dc] 31 (0, 0))
  clear j1
  replace gl := gl0.out.kb kx
  (with_reducible refine (((q1).out _)).mono ?_)
  rintro r w1 ⟨rfl, k1⟩
  replace gl := gl.kb k1
  replace b1 := b1.kb k1
  replace b2 := b2.kb k1
  replace kx := kx.trans k1
  have s1 := k1.size
  simp only [World.size_alloc] at s1
  clear k1
  have f11 := b2.c (i := 0) rfl
  have f12 := b2.c (i := 1) rfl
  have f13 := b2.c (i := 2) rfl
  have f14 := b2.c (i := 3) rfl
  have f15 := b2.c (i := 4) rfl
  go_wp2_with fail
  clear f11 f12 f13 f14 f15
  (with_reducible refine ((q2.out _ gl)).mono ?_)
  rintro r w2 ⟨rfl, k2⟩
  replace gl := gl.kb k2
  replace b1 := b1.kb k2
  replace b2 := b2.kb k2
  replace kx := kx.trans k2
  have s2 := k2.size
  skip
  clear k2
  have f16 := b1.c (i := 0) rfl
  have f17 := b1.c (i := 1) rfl
  have f18 := b1.c (i := 2) rfl
  have f19 := b1.c (i := 3) rfl
  have f20 := b1.c (i := 4) rfl
  have f21 := b1.c (i := 5) rfl
  have f22 := b1.c (i := 6) rfl
  have f23 := b1.c (i := 7) rfl
  have f24 := b1.c (i := 8) rfl
  have f25 := b2.c (i := 0) rfl
  have f26 := b2.c (i := 1) rfl
  have f27 := b2.c (i := 2) rfl
  have f28 := b2.c (i := 3) rfl
  have f29 := b2.c (i := 4) rfl
  go_wp2_with fail
  clear f16 f17 f18 f19 f20 f21 f22 f23 f24 f25 f26 f27 f28 f29
  (with_reducible refine (((q3).out _)).mono ?_)
  rintro r w3 ⟨rfl, k3⟩
  replace gl := gl.kb k3
  replace b1 := b1.kb k3
  replace b2 := b2.kb k3
  replace kx := kx.trans k3
  have s3 := k3.size
  skip
  clear k3
  go_wp2_with fail
  have HD := Lib.hid hd
  have HL := Lib.hid hd.len
  have H0 : Hid (dnB ds n = (ds.drop 0).any fun d => d.1.toList == n.toList) := rfl
  have HX := Lib.hid kx
  clear hd
  go_loopg [8] dl (fun gk s8 wr => ∃ i : Nat, s8 = .int .i64 i ∧ i + gk = dl ∧ Hid (dnB ds n = (ds.drop i).any fun d => d.1.toList == n.toList) ∧ Kb w3 wr)
  case atStart => exact ⟨0, rfl, by omega, H0, Kb.refl _⟩
  case round =>
    obtain ⟨i, rfl, hi, hE, kk⟩ := hrel
    have hi0 : (0 : Int) ≤ (i : Int) := by omega
    have c4 := (b2.kb kk).c (i := 4) rfl
    have c0 := (b1.kb kk).c (i := 0) rfl
    by_cases hlt : i < dl
    · have hil : (i : Int) < (dl : Int) := by omega
      obtain ⟨⟨s, m⟩, hdi⟩ : ∃ d, ds[i]? = some d := ⟨_, List.getElem?_eq_getElem (by have := HL.out; omega)⟩
      obtain ⟨y0, _⟩ := HD.out.cell (gl0.out.kb (HX.out.trans kk)).at0 hdi
      dsimp only at y0
      have hA := any_drop (p := fun d : DatT => d.1.toList == n.toList) hdi
      have Hi := Lib.hid hi
      clear hdi hi
      rcases Bool.eq_false_or_eq_true (s.toList == n.toList) with hc | hc
      · have hEnd : Hid (dnB ds n = true) := by show _ = _; rw [hE.out, hA, hc, Bool.true_or]
        clear hA hE
        go_wp2
        go_region
        go_wp2
        go_ret
        exact ⟨by rw [hEnd.out]; rfl, (HX.out.trans kk).drew⟩
      · have hE2 : Hid (dnB ds n = (ds.drop (i + 1)).any fun d => d.1.toList == n.toList) := by show _ = _; rw [hE.out, hA, hc, Bool.false_or]
        clear hA hE
        go_wp2
        go_region
        go_wp2
        have hi := Hi.out
        go_roundg (gk - 1)
        case measure => omega
        case rel => exact ⟨i + 1, by go_num, by omega, hE2, kk.drew⟩
    · obtain rfl : i = dl := by omega
      have hEnd : Hid (dnB ds n = false) := by
        show _ = _
        rw [hE.out, List.drop_of_length_le (by have := HL.out; omega)]; rfl
      clear hi hE
      go_wp2
      go_ret
      exact ⟨by rw [hEnd.out]; rfl, HX.out.trans kk⟩
set_option maxRecDepth 100000 in
set_option maxHeartbeats 4000000 in
theorem rCheckE_1 (w0 : World) (n : ByteArray) (k : Int) (a : Int) (x : Int) (y : Int) (z : Int) (lo : Int) (hi : Int) (fp : Option Addr) (fl : Nat) (fc : Nat) (fk : Int) (fd : Bool) (ft : Int) (fm : Int) (dp : Option Addr) (dc : Nat) (ea : Int) (eb : Int) (ec : Int)   (q1 : Ca 45 #[.agg #[.string n, .int .i64 k, .int .i64 a, .int .i64 x, .int .i64 y, .int .i64 z, .int .i64 lo, .int .i64 hi, .slice fp fl fc]] (.int .i64 ea)) (q2 : Cf w0 16 #[.agg #[.int .i64 fk, .bool fd, .int .i64 ft, .int .i64 fm, .slice dp 0 dc]] (.int .i64 eb)) (q3 : Ca 46 #[.agg #[.string n, .int .i64 k, .int .i64 a, .int .i64 x, .int .i64 y, .int .i64 z, .int .i64 lo, .int .i64 hi, .slice fp fl fc], .agg #[.int .i64 fk, .bool fd, .int .i64 ft, .int .i64 fm, .slice dp 0 dc]] (.int .i64 ec)) (hea : (ea != 0) = false) (heb : (eb != 0) = false) (hec : (ec != 0) = false) (w : World) (gl : Gf w0 w)  : Calls Tryz.prog 14 #[.agg #[.string n, .int .i64 k, .int .i64 a, .int .i64 x, .int .i64 y, .int .i64 z, .int .i64 lo, .int .i64 hi, .slice fp fl fc], .agg #[.int .i64 fk, .bool fd, .int .i64 ft, .int .i64 fm, .slice dp 0 dc]] w fun r W' => r = .returned (.int .i64 0) ∧ Kb w W' := by
  have kx := Kb.refl w
  unfold Ca at q1 q3
  unfold Cf at q2
  have gl0 := Lib.hid gl
  have j1 := ((Is.made w #[.string n, .int .i64 k, .int .i64 a, .int .i64 x, .int .i64 y, .int .i64 z, .int .i64 lo, .int .i64 hi, .slice fp fl fc] 28).alloc (.cells #[.int .i64 fk, .bool fd, .int .i64 ft, .int .i64 fm, .slice dp 0 dc] 31 (0, 0)))
  have f2 := j1.c (i := 0) rfl
  have f3 := j1.c (i := 1) rfl
  have f4 := j1.c (i := 2) rfl
  have f5 := j1.c (i := 3) rfl
  have f6 := j1.c (i := 4) rfl
  have f7 := j1.c (i := 5) rfl
  have f8 := j1.c (i := 6) rfl
  have f9 := j1.c (i := 7) rfl
  have f10 := j1.c (i := 8) rfl
  go_enter Tryz.func14, Tryz.ntmps14
  go_wp2_with fail
  clear f2 f3 f4 f5 f6 f7 f8 f9 f10
  have b1 := j1
  have b2 := Is.made (w.alloc (.cells #[.string n, .int .i64 k, .int .i64 a, .int .i64 x, .int .i64 y, .int .i64 z, .int .i64 lo, .int .i64 hi, .slice fp fl fc] 28 (0, 0))) #[.int .i64 fk, .bool fd, .int .i64 ft, .int .i64 fm, .slice dp 0 dc] 31
  simp only [World.size_alloc] at b2
  replace kx := (kx.alloc (.cells #[.string n, .int .i64 k, .int .i64 a, .int .i64 x, .int .i64 y, .int .i64 z, .int .i64 lo, .int .i64 hi, .slice fp fl fc] 28 (0, 0))).alloc (.cells #[.int .i64 fk, .bool fd, .int .i64 ft, .int .i64 fm, .slice dp 0 dc] 31 (0, 0))
  clear j1
  replace gl := gl0.out.kb kx
  (with_reducible refine (((q1).out _)).mono ?_)
  rintro r w1 ⟨rfl, k1⟩
  replace gl := gl.kb k1
  replace b1 := b1.kb k1
  replace b2 := b2.kb k1
  replace kx := kx.trans k1
  have s1 := k1.size
  simp only [World.size_alloc] at s1
  clear k1
  have f11 := b2.c (i := 0) rfl
  have f12 := b2.c (i := 1) rfl
  have f13 := b2.c (i := 2) rfl
  have f14 := b2.c (i := 3) rfl
  have f15 := b2.c (i := 4) rfl
  go_wp2_with fail
  clear f11 f12 f13 f14 f15
  (with_reducible refine ((q2.out _ gl)).mono ?_)
  rintro r w2 ⟨rfl, k2⟩
  replace gl := gl.kb k2
  replace b1 := b1.kb k2
  replace b2 := b2.kb k2
  replace kx := kx.trans k2
  have s2 := k2.size
  skip
  clear k2
  have f16 := b1.c (i := 0) rfl
  have f17 := b1.c (i := 1) rfl
  have f18 := b1.c (i := 2) rfl
  have f19 := b1.c (i := 3) rfl
  have f20 := b1.c (i := 4) rfl
  have f21 := b1.c (i := 5) rfl
  have f22 := b1.c (i := 6) rfl
  have f23 := b1.c (i := 7) rfl
  have f24 := b1.c (i := 8) rfl
  have f25 := b2.c (i := 0) rfl
  have f26 := b2.c (i := 1) rfl
  have f27 := b2.c (i := 2) rfl
  have f28 := b2.c (i := 3) rfl
  have f29 := b2.c (i := 4) rfl
  go_wp2_with fail
  clear f16 f17 f18 f19 f20 f21 f22 f23 f24 f25 f26 f27 f28 f29
  (with_reducible refine (((q3).out _)).mono ?_)
  rintro r w3 ⟨rfl, k3⟩
  replace gl := gl.kb k3
  replace b1 := b1.kb k3
  replace b2 := b2.kb k3
  replace kx := kx.trans k3
  have s3 := k3.size
  skip
  clear k3
  go_wp2_with fail
  refine wp_loop_rounds 1 ?_
  rw [rounds_succ]
  have f30 := b2.c (i := 4) rfl
  go_wp2
  go_ret
  clear f30
  exact ⟨rfl, kx⟩
end Go.Proofs.YtlimjohnimgnhaaGreatDoor
