/- Texts Un5: each says in its own first comment what it proves. -/
import Derived.Test.YtlfeinajjfbpkaaGreatDoorM18
import Derived.Test.YtlfeinajjfbpkaaGreatDoorM08
import Derived.Test.YtlfeinajjfbpkaaGreatDoorM37
import Derived.Test.YtlfeinajjfbpkaaGreatDoorM46
import Derived.Test.YtlfeinajjfbpkaaGreatDoorM20
import Derived.Lib.MinMax
import Derived.Test.YtlfeinajjfbpkaaGreatDoorM42
import Derived.Lib.SliceRun
/- Frames: the law FrameChecks. -/
namespace Go.Proofs.YtlfeinajjfbpkaaGreatDoor
open Go.RowKit

theorem bits_letters : ∀ f : Nat, f < 9 → ∀ k : Nat, k < 5 → (bits .and .i64 (kF f) (setV (k : Int)) == 0) = !(hsB (rF f) (k : Int)) ∧ (bits .and .i64 (kD f) (setV (k : Int)) == 0) = !(hsB (rD f) (k : Int)) ∧ (bits .and .i64 (kM f) (setV (k : Int)) == 0) = !(mmB (k : Int) (f : Int)) ∧ kL f = rL f ∧ kT f = rM f := by decide
theorem few_n2 {n : ByteArray} {fs : List FrT} (h : fewB n fs = true) : n.size ≤ 1000000 := by
  unfold fewB fewN at h
  simp only [Bool.and_eq_true, decide_eq_true_eq] at h
  omega
theorem firstE_app (l : List Int) (g : Int) : firstE (l ++ [g]) = if firstE l = 0 then g else firstE l := by
  induction l with
  | nil =>
    show firstE [g] = if (0 : Int) = 0 then g else 0
    rw [if_pos rfl]
    unfold firstE
    split
    · rename_i h; rw [h]; rfl
    · rfl
  | cons e l ih =>
    show firstE (e :: (l ++ [g])) = _
    rw [firstE, firstE, ih]
    by_cases h : e = 0
    · simp [h]
    · simp [h]
theorem tog_perm (n : ByteArray) (k : Int) (hk : 0 ≤ k ∧ k < 5) (f : Nat) (hf : f < 9) (fd : Bool) (ft fm : Int) (ds : List DatT) : tgE n k f fd ft fm ds = if permE k f fd ft fm ds.length = 0 then fE (dnB ds n) 7 else permE k f fd ft fm ds.length := by
  obtain ⟨q, rfl⟩ : ∃ q : Nat, k = (q : Int) := ⟨k.toNat, by omega⟩
  obtain ⟨h1, h2, h3, h4, h5⟩ := bits_letters f hf q (by omega)
  unfold tgE permE
  rw [h1, h2, h3, h4, h5]
  exact firstE_app [_, _, _, _, _, _] _
theorem fpE_dl {fk ft fm : Int} {ds : List DatT} (h : fpE fk ft fm ds = 0) : ds.length ≤ 3 := by
  rcases Nat.lt_or_ge 3 ds.length with hc | hc
  case inr => exact hc
  have h3 : (3 : Int) < (ds.length : Int) := by omega
  unfold fpE at h
  rw [decide_eq_true h3] at h
  simp only [firstE, fE] at h
  repeat' split at h
  all_goals first | omega | simp_all
theorem rfrCheck {w0 : World} (n : ByteArray) (k a x y z lo hi : Int) (fp : Option Addr) (fl fc : Nat) (fk : Int) (fd : Bool) (ft fm : Int) (dp : Option Addr) (dl dc : Nat) (ds : List DatT) (hnz : n.size ≤ 1000000) (hd : DatS w0 (.slice dp dl dc) ds) (hz : ∀ d ∈ ds, d.1.size ≤ 1000000) : Cf w0 14 #[.agg #[.string n, .int .i64 k, .int .i64 a, .int .i64 x, .int .i64 y, .int .i64 z, .int .i64 lo, .int .i64 hi, .slice fp fl fc], .agg #[.int .i64 fk, .bool fd, .int .i64 ft, .int .i64 fm, .slice dp dl dc]] (.int .i64 (fcE n k a x y z lo hi fk fd ft fm ds)) := Lib.hid fun w gl => by
  have q1 := rfCheck n k a x y z lo hi (.slice fp fl fc) hnz
  have q2 := rfPlain fk fd ft fm dp dl dc ds hd hz
  have hl := hd.len
  unfold fcE
  generalize he : ftE n k a x y z lo hi = ea at *
  by_cases e1 : ea = 0
  · have f1 : firstE [ea] = 0 := by rw [e1]; rfl
    generalize hp : fpE fk ft fm ds = eb at *
    by_cases e2 : eb = 0
    · have f2 : firstE [eb] = 0 := by rw [e2]; rfl
      have hk := ft_k (he.trans e1)
      have hf := fpE_k (hp.trans e2)
      have q3 := rperm n k a x y z lo hi fp fl fc fk fd ft fm dp dl dc hf hk
      rw [tog_perm n k hk fk.toNat (by omega) fd ft fm ds, ← hl]
      rw [f1, f2]
      have e0 : ∀ t : Int, firstE [0, 0, t] = t := fun t => by
        show firstE [t] = t
        unfold firstE
        split
        · rename_i h; rw [h]; rfl
        · rfl
      rw [e0]
      generalize permE k fk.toNat fd ft fm dl = ec at *
      by_cases e3 : ec = 0
      · rw [if_pos e3]
        by_cases h0 : dl = 0
        · subst h0
          obtain rfl : ds = [] := List.length_eq_zero_iff.1 hl.symm
          exact rCheckE_1 w0 n k a x y z lo hi fp fl fc fk fd ft fm dp dc ea eb ec q1 q2 q3 (by rw [e1]; rfl) (by rw [e2]; rfl) (by rw [e3]; rfl) w gl
        · obtain ⟨b, off, rfl, _⟩ := hd.at (by omega)
          exact rCheckD_1 w0 n k a x y z lo hi fp fl fc fk fd ft fm b off dl dc ea eb ec q1 q2 q3 (by rw [e1]; rfl) (by rw [e2]; rfl) (by rw [e3]; rfl) ds hd (by have := fpE_dl (hp.trans e2); omega) w gl
      · rw [if_neg e3]
        exact rCheckC_1 w0 n k a x y z lo hi fp fl fc fk fd ft fm dp dl dc ea eb ec q1 q2 q3 (by rw [e1]; rfl) (by rw [e2]; rfl) (by simpa using e3) w gl
    · have f2 : firstE [eb] = eb := by rw [firstE, if_neg e2]
      rw [f1, f2, show ∀ t : Int, firstE [0, eb, t] = eb from fun t => by show firstE [eb, t] = eb; rw [firstE, if_neg e2]]
      exact rCheckB_1 w0 n k a x y z lo hi fp fl fc fk fd ft fm dp dl dc ea eb q1 q2 (by rw [e1]; rfl) (by simpa using e2) w gl
  · have f1 : firstE [ea] = ea := by rw [firstE, if_neg e1]
    rw [f1, show ∀ s t : Int, firstE [ea, s, t] = ea from fun s t => by rw [firstE, if_neg e1]]
    exact rCheckA_1 w0 n k a x y z lo hi fp fl fc fk fd ft fm dp dl dc ea q1 (by simpa using e1) w gl
theorem one_frs {w : World} {b : Nat} {k : Int} {d : Bool} {t m : Int} {dp : Option Addr} {dl dc : Nat} {ds : List DatT} (h : Is w b #[.int .i64 k, .bool d, .int .i64 t, .int .i64 m, .slice dp dl dc] 31) (hd : DatS w (.slice dp dl dc) ds) : FrS w (.slice (some ⟨b, 0, none⟩) 1 1) [⟨k, d, t, m, ds⟩] :=
  ⟨[.slice dp dl dc], rfl, sl_is (rows := [[.int .i64 k, .bool d, .int .i64 t, .int .i64 m, .slice dp dl dc]]) h (by simp) rfl (rows_ok rfl rfl), fun i f hf => by
    have hi := (List.getElem?_eq_some_iff.1 hf).1
    obtain rfl : i = 0 := by simpa using hi
    obtain rfl : (⟨k, d, t, m, ds⟩ : FrT) = f := by simpa using hf
    exact hd⟩
/-- a frame is few -/
def fewX (fk : Int) (fd : Bool) (ft fm : Int) (ds : List DatT) : Bool := fewB ⟨#[]⟩ [⟨fk, fd, ft, fm, ds⟩]
theorem fewX_len {fk : Int} {fd : Bool} {ft fm : Int} {ds : List DatT} (h : fewX fk fd ft fm ds = true) : ds.length ≤ 6 ∧ ∀ d ∈ ds, d.1.size ≤ 1000000 := by
  unfold fewX fewB at h
  simp only [List.all_cons, List.all_nil, Bool.and_true, Bool.and_eq_true] at h
  have h2 := h.2
  unfold fewF fewD at h2
  simp only [Bool.and_eq_true, decide_eq_true_eq, List.all_eq_true] at h2
  exact ⟨h2.1, fun d hd => by have := h2.2 d hd; unfold fewN at this; have := of_decide_eq_true this; omega⟩
theorem fawakeC {w0 : World} : Cf w0 12 #[] (.bool true) := Lib.hid fun w gl => fawake_1 w0 w gl
theorem cFew {w0 : World} (n : ByteArray) (k a x y z lo hi : Int) (fp : Option Addr) (fl fc : Nat) (fs : List FrT) (hfr : FrS w0 (.slice fp fl fc) fs) : Cf w0 10 #[.agg #[.string n, .int .i64 k, .int .i64 a, .int .i64 x, .int .i64 y, .int .i64 z, .int .i64 lo, .int .i64 hi, .slice fp fl fc]] (.bool (fewB n fs)) := Lib.hid fun W g => rFew n k a x y z lo hi fp fl fc fs W (hfr.kb g.at0)
set_option maxRecDepth 100000 in
set_option maxHeartbeats 4000000 in
theorem rFewX_1 (w0 : World) (fk : Int) (fd : Bool) (ft : Int) (fm : Int) (dp : Option Addr) (dl : Nat) (dc : Nat) (ds : List DatT)     (hd : DatS w0 (.slice dp dl dc) ds) (w : World) (gl : Gf w0 w)  : Calls Tryz.prog 11 #[.agg #[.int .i64 fk, .bool fd, .int .i64 ft, .int .i64 fm, .slice dp dl dc]] w fun r W' => r = .returned (.bool (fewX fk fd ft fm ds)) ∧ Kb w W' := by
  have kx := Kb.refl w
  have gl0 := Lib.hid gl
  have j1 := (Is.made w #[.int .i64 fk, .bool fd, .int .i64 ft, .int .i64 fm, .slice dp dl dc] 31)
  have f2 := j1.c (i := 0) rfl
  have f3 := j1.c (i := 1) rfl
  have f4 := j1.c (i := 2) rfl
  have f5 := j1.c (i := 3) rfl
  have f6 := j1.c (i := 4) rfl
  go_enter Tryz.func11, Tryz.ntmps11
  go_wp2_with fail
  clear f2 f3 f4 f5 f6
  have b1 := Is.made w #[.int .i64 fk, .bool fd, .int .i64 ft, .int .i64 fm, .slice dp dl dc] 31
  replace b1 := (b1.alloc (.cells #[.int .i64 fk, .bool fd, .int .i64 ft, .int .i64 fm, .slice dp dl dc] 31 (0, 0)))
  have b2 := Is.made (w.alloc (.cells #[.int .i64 fk, .bool fd, .int .i64 ft, .int .i64 fm, .slice dp dl dc] 31 (0, 0))) #[.int .i64 fk, .bool fd, .int .i64 ft, .int .i64 fm, .slice dp dl dc] 31
  simp only [World.size_alloc] at b2
  replace kx := (kx.alloc (.cells #[.int .i64 fk, .bool fd, .int .i64 ft, .int .i64 fm, .slice dp dl dc] 31 (0, 0))).alloc (.cells #[.int .i64 fk, .bool fd, .int .i64 ft, .int .i64 fm, .slice dp dl dc] 31 (0, 0))
  clear j1
  replace gl := gl0.out.kb kx
  (with_reducible refine (rFew ⟨#[]⟩ 0 0 0 0 0 0 0 _ 1 1 [⟨fk, fd, ft, fm, ds⟩] _ (one_frs b2 (hd.kx (gl.at0.kx)))).mono ?_)
  rintro r w1 ⟨rfl, k1⟩
  replace gl := gl.kb k1
  replace b1 := b1.kb k1
  replace b2 := b2.kb k1
  replace kx := kx.trans k1
  have s1 := k1.size
  simp only [World.size_alloc] at s1
  clear k1
  go_wp2
  go_ret
  exact ⟨rfl, kx⟩
theorem cFewX {w0 : World} (fk : Int) (fd : Bool) (ft fm : Int) (dp : Option Addr) (dl dc : Nat) (ds : List DatT) (hd : DatS w0 (.slice dp dl dc) ds) : Cf w0 11 #[.agg #[.int .i64 fk, .bool fd, .int .i64 ft, .int .i64 fm, .slice dp dl dc]] (.bool (fewX fk fd ft fm ds)) := Lib.hid fun w gl => rFewX_1 w0 fk fd ft fm dp dl dc ds hd w gl
set_option maxRecDepth 100000 in
set_option maxHeartbeats 4000000 in
theorem lcA_1 (w0 : World) (n : ByteArray) (k : Int) (a : Int) (x : Int) (y : Int) (z : Int) (lo : Int) (hi : Int) (fp : Option Addr) (fl : Nat) (fc : Nat) (fk : Int) (fd : Bool) (ft : Int) (fm : Int) (dp : Option Addr) (dl : Nat) (dc : Nat)     (fs : List FrT) (ds : List DatT) (hfr : FrS w0 (.slice fp fl fc) fs) (_hd : DatS w0 (.slice dp dl dc) ds) (_hcd : dl ≤ dc) (hfa : (fewB n fs) = false) (w : World) (gl : Gf w0 w)  : Calls Tryz.prog 3 #[.agg #[.string n, .int .i64 k, .int .i64 a, .int .i64 x, .int .i64 y, .int .i64 z, .int .i64 lo, .int .i64 hi, .slice fp fl fc], .agg #[.int .i64 fk, .bool fd, .int .i64 ft, .int .i64 fm, .slice dp dl dc]] w fun r W' => r = .returned (.bool true) ∧ Kb w W' := by
  have kx := Kb.refl w
  have gl0 := Lib.hid gl
  have j1 := ((Is.made w #[.string n, .int .i64 k, .int .i64 a, .int .i64 x, .int .i64 y, .int .i64 z, .int .i64 lo, .int .i64 hi, .slice fp fl fc] 28).alloc (.cells #[.int .i64 fk, .bool fd, .int .i64 ft, .int .i64 fm, .slice dp dl dc] 31 (0, 0)))
  have f2 := j1.c (i := 0) rfl
  have f3 := j1.c (i := 1) rfl
  have f4 := j1.c (i := 2) rfl
  have f5 := j1.c (i := 3) rfl
  have f6 := j1.c (i := 4) rfl
  have f7 := j1.c (i := 5) rfl
  have f8 := j1.c (i := 6) rfl
  have f9 := j1.c (i := 7) rfl
  have f10 := j1.c (i := 8) rfl
  go_enter Tryz.func3, Tryz.ntmps3
  go_wp2_with fail
  clear f2 f3 f4 f5 f6 f7 f8 f9 f10
  have b1 := j1
  have b2 := Is.made (w.alloc (.cells #[.string n, .int .i64 k, .int .i64 a, .int .i64 x, .int .i64 y, .int .i64 z, .int .i64 lo, .int .i64 hi, .slice fp fl fc] 28 (0, 0))) #[.int .i64 fk, .bool fd, .int .i64 ft, .int .i64 fm, .slice dp dl dc] 31
  simp only [World.size_alloc] at b2
  replace kx := (kx.alloc (.cells #[.string n, .int .i64 k, .int .i64 a, .int .i64 x, .int .i64 y, .int .i64 z, .int .i64 lo, .int .i64 hi, .slice fp fl fc] 28 (0, 0))).alloc (.cells #[.int .i64 fk, .bool fd, .int .i64 ft, .int .i64 fm, .slice dp dl dc] 31 (0, 0))
  clear j1
  replace gl := gl0.out.kb kx
  (with_reducible refine ((Cf.out (cFew n k a x y z lo hi fp fl fc fs hfr) _ gl)).mono ?_)
  rintro r w1 ⟨rfl, k1⟩
  replace gl := gl.kb k1
  replace b1 := b1.kb k1
  replace b2 := b2.kb k1
  replace kx := kx.trans k1
  have s1 := k1.size
  simp only [World.size_alloc] at s1
  clear k1
  go_wp2_with fail
  (with_reducible refine ((Cf.out (fawakeC) _ gl)).mono ?_)
  rintro r w2 ⟨rfl, k2⟩
  replace gl := gl.kb k2
  replace b1 := b1.kb k2
  replace b2 := b2.kb k2
  replace kx := kx.trans k2
  have s2 := k2.size
  skip
  clear k2
  go_wp2
  go_ret
  exact ⟨rfl, kx⟩
set_option maxRecDepth 100000 in
set_option maxHeartbeats 4000000 in
theorem lcB_1 (w0 : World) (n : ByteArray) (k : Int) (a : Int) (x : Int) (y : Int) (z : Int) (lo : Int) (hi : Int) (fp : Option Addr) (fl : Nat) (fc : Nat) (fk : Int) (fd : Bool) (ft : Int) (fm : Int) (dp : Option Addr) (dl : Nat) (dc : Nat)     (fs : List FrT) (ds : List DatT) (hfr : FrS w0 (.slice fp fl fc) fs) (hd : DatS w0 (.slice dp dl dc) ds) (_hcd : dl ≤ dc) (hfa : (fewB n fs) = true) (hfb : (fewX fk fd ft fm ds) = false) (w : World) (gl : Gf w0 w)  : Calls Tryz.prog 3 #[.agg #[.string n, .int .i64 k, .int .i64 a, .int .i64 x, .int .i64 y, .int .i64 z, .int .i64 lo, .int .i64 hi, .slice fp fl fc], .agg #[.int .i64 fk, .bool fd, .int .i64 ft, .int .i64 fm, .slice dp dl dc]] w fun r W' => r = .returned (.bool true) ∧ Kb w W' := by
  have kx := Kb.refl w
  have gl0 := Lib.hid gl
  have j1 := ((Is.made w #[.string n, .int .i64 k, .int .i64 a, .int .i64 x, .int .i64 y, .int .i64 z, .int .i64 lo, .int .i64 hi, .slice fp fl fc] 28).alloc (.cells #[.int .i64 fk, .bool fd, .int .i64 ft, .int .i64 fm, .slice dp dl dc] 31 (0, 0)))
  have f2 := j1.c (i := 0) rfl
  have f3 := j1.c (i := 1) rfl
  have f4 := j1.c (i := 2) rfl
  have f5 := j1.c (i := 3) rfl
  have f6 := j1.c (i := 4) rfl
  have f7 := j1.c (i := 5) rfl
  have f8 := j1.c (i := 6) rfl
  have f9 := j1.c (i := 7) rfl
  have f10 := j1.c (i := 8) rfl
  go_enter Tryz.func3, Tryz.ntmps3
  go_wp2_with fail
  clear f2 f3 f4 f5 f6 f7 f8 f9 f10
  have b1 := j1
  have b2 := Is.made (w.alloc (.cells #[.string n, .int .i64 k, .int .i64 a, .int .i64 x, .int .i64 y, .int .i64 z, .int .i64 lo, .int .i64 hi, .slice fp fl fc] 28 (0, 0))) #[.int .i64 fk, .bool fd, .int .i64 ft, .int .i64 fm, .slice dp dl dc] 31
  simp only [World.size_alloc] at b2
  replace kx := (kx.alloc (.cells #[.string n, .int .i64 k, .int .i64 a, .int .i64 x, .int .i64 y, .int .i64 z, .int .i64 lo, .int .i64 hi, .slice fp fl fc] 28 (0, 0))).alloc (.cells #[.int .i64 fk, .bool fd, .int .i64 ft, .int .i64 fm, .slice dp dl dc] 31 (0, 0))
  clear j1
  replace gl := gl0.out.kb kx
  (with_reducible refine ((Cf.out (cFew n k a x y z lo hi fp fl fc fs hfr) _ gl)).mono ?_)
  rintro r w1 ⟨rfl, k1⟩
  replace gl := gl.kb k1
  replace b1 := b1.kb k1
  replace b2 := b2.kb k1
  replace kx := kx.trans k1
  have s1 := k1.size
  simp only [World.size_alloc] at s1
  clear k1
  have f11 := b2.c (i := 0) rfl
  have f12 := b2.c (i := 1) rfl
  have f13 := b2.c (i := 2) rfl
  have f14 := b2.c (i := 3) rfl
  have f15 := b2.c (i := 4) rfl
  go_wp2_with fail
  clear f11 f12 f13 f14 f15
  (with_reducible refine ((Cf.out (cFewX fk fd ft fm dp dl dc ds hd) _ gl)).mono ?_)
  rintro r w2 ⟨rfl, k2⟩
  replace gl := gl.kb k2
  replace b1 := b1.kb k2
  replace b2 := b2.kb k2
  replace kx := kx.trans k2
  have s2 := k2.size
  skip
  clear k2
  go_wp2_with fail
  (with_reducible refine ((Cf.out (fawakeC) _ gl)).mono ?_)
  rintro r w3 ⟨rfl, k3⟩
  replace gl := gl.kb k3
  replace b1 := b1.kb k3
  replace b2 := b2.kb k3
  replace kx := kx.trans k3
  have s3 := k3.size
  skip
  clear k3
  go_wp2
  go_ret
  exact ⟨rfl, kx⟩
set_option maxRecDepth 100000 in
set_option maxHeartbeats 4000000 in
theorem lcC_1 (w0 : World) (n : ByteArray) (k : Int) (a : Int) (x : Int) (y : Int) (z : Int) (lo : Int) (hi : Int) (fp : Option Addr) (fl : Nat) (fc : Nat) (fk : Int) (fd : Bool) (ft : Int) (fm : Int) (dp : Option Addr) (dl : Nat) (dc : Nat)     (fs : List FrT) (ds : List DatT) (hfr : FrS w0 (.slice fp fl fc) fs) (hd : DatS w0 (.slice dp dl dc) ds) (hcd : dl ≤ dc) (hfa : (fewB n fs) = true) (hfb : (fewX fk fd ft fm ds) = true) (hnz : n.size ≤ 1000000) (hdn : dl ≤ 100000) (hz : ∀ d ∈ ds, d.1.size ≤ 1000000) (w : World) (gl : Gf w0 w)  : Calls Tryz.prog 3 #[.agg #[.string n, .int .i64 k, .int .i64 a, .int .i64 x, .int .i64 y, .int .i64 z, .int .i64 lo, .int .i64 hi, .slice fp fl fc], .agg #[.int .i64 fk, .bool fd, .int .i64 ft, .int .i64 fm, .slice dp dl dc]] w fun r W' => r = .returned (.bool true) ∧ Kb w W' := by
  have kx := Kb.refl w
  have gl0 := Lib.hid gl
  have j1 := ((Is.made w #[.string n, .int .i64 k, .int .i64 a, .int .i64 x, .int .i64 y, .int .i64 z, .int .i64 lo, .int .i64 hi, .slice fp fl fc] 28).alloc (.cells #[.int .i64 fk, .bool fd, .int .i64 ft, .int .i64 fm, .slice dp dl dc] 31 (0, 0)))
  have f2 := j1.c (i := 0) rfl
  have f3 := j1.c (i := 1) rfl
  have f4 := j1.c (i := 2) rfl
  have f5 := j1.c (i := 3) rfl
  have f6 := j1.c (i := 4) rfl
  have f7 := j1.c (i := 5) rfl
  have f8 := j1.c (i := 6) rfl
  have f9 := j1.c (i := 7) rfl
  have f10 := j1.c (i := 8) rfl
  go_enter Tryz.func3, Tryz.ntmps3
  go_wp2_with fail
  clear f2 f3 f4 f5 f6 f7 f8 f9 f10
  have b1 := j1
  have b2 := Is.made (w.alloc (.cells #[.string n, .int .i64 k, .int .i64 a, .int .i64 x, .int .i64 y, .int .i64 z, .int .i64 lo, .int .i64 hi, .slice fp fl fc] 28 (0, 0))) #[.int .i64 fk, .bool fd, .int .i64 ft, .int .i64 fm, .slice dp dl dc] 31
  simp only [World.size_alloc] at b2
  replace kx := (kx.alloc (.cells #[.string n, .int .i64 k, .int .i64 a, .int .i64 x, .int .i64 y, .int .i64 z, .int .i64 lo, .int .i64 hi, .slice fp fl fc] 28 (0, 0))).alloc (.cells #[.int .i64 fk, .bool fd, .int .i64 ft, .int .i64 fm, .slice dp dl dc] 31 (0, 0))
  clear j1
  replace gl := gl0.out.kb kx
  (with_reducible refine ((Cf.out (cFew n k a x y z lo hi fp fl fc fs hfr) _ gl)).mono ?_)
  rintro r w1 ⟨rfl, k1⟩
  replace gl := gl.kb k1
  replace b1 := b1.kb k1
  replace b2 := b2.kb k1
  replace kx := kx.trans k1
  have s1 := k1.size
  simp only [World.size_alloc] at s1
  clear k1
  have f11 := b2.c (i := 0) rfl
  have f12 := b2.c (i := 1) rfl
  have f13 := b2.c (i := 2) rfl
  have f14 := b2.c (i := 3) rfl
  have f15 := b2.c (i := 4) rfl
  go_wp2_with fail
  clear f11 f12 f13 f14 f15
  (with_reducible refine ((Cf.out (cFewX fk fd ft fm dp dl dc ds hd) _ gl)).mono ?_)
  rintro r w2 ⟨rfl, k2⟩
  replace gl := gl.kb k2
  replace b1 := b1.kb k2
  replace b2 := b2.kb k2
  replace kx := kx.trans k2
  have s2 := k2.size
  skip
  clear k2
  go_wp2_with fail
  replace gl := gl.drew
  replace b1 := b1.drew
  replace b2 := b2.drew
  rw [oF_lit]
  refine o_law (⟨31, [some 14, some 15, some 16, some 17, some 18, some 19, some 20, some 21, some 22, some 23, some 24, some 25, some 26, some 27, some 28, some 29, some 30, some 4], [14, 15, 16, 17, 18, 19, 20, 21, 22, 23, 24, 25, 26, 27, 28, 29, 30, 4], [[], [0], [1], [1], [2, 3, 1], [1], [1], [5, 6, 1], [4, 7, 1], [1, 8], [9], [10], [11, 10], [10], [13, 10], [12, 14, 10], [10, 15], [16]], [[], [], [2], [3], [], [2], [3], [], [], [], [], [3], [], [3], [], [], [], []]⟩ : OT) (Kx []) (RL [fun vv _ => vv = .bool true, fun vv _ => vv = .bool true, fun vv _ => true = true → vv = .agg #[.string n, .int .i64 k, .int .i64 a, .int .i64 x, .int .i64 y, .int .i64 z, .int .i64 lo, .int .i64 hi, .slice fp fl fc], fun vv _ => true = true → vv = .agg #[.int .i64 fk, .bool fd, .int .i64 ft, .int .i64 fm, .slice dp dl dc], fun vv _ => true = true → vv = .int .i64 (fcE n k a x y z lo hi fk fd ft fm ds), fun vv _ => true = true → vv = .agg #[.string n, .int .i64 k, .int .i64 a, .int .i64 x, .int .i64 y, .int .i64 z, .int .i64 lo, .int .i64 hi, .slice fp fl fc], fun vv _ => true = true → vv = .agg #[.int .i64 fk, .bool fd, .int .i64 ft, .int .i64 fm, .slice dp dl dc], fun vv _ => true = true → vv = .int .i64 (fcE n k a x y z lo hi fk fd ft fm ds), fun vv _ => true = true → vv = .bool true, fun vv _ => vv = .bool true, fun vv _ => vv = .bool true, fun vv _ => true = true → vv = .agg #[.int .i64 fk, .bool fd, .int .i64 ft, .int .i64 fm, .slice dp dl dc], fun vv _ => true = true → vv = .int .i64 (fpE fk ft fm ds), fun vv _ => true = true → vv = .agg #[.int .i64 fk, .bool fd, .int .i64 ft, .int .i64 fm, .slice dp dl dc], fun vv _ => true = true → vv = .int .i64 (fpE fk ft fm ds), fun vv _ => true = true → vv = .bool true, fun vv _ => vv = .bool true, fun vv _ => vv = .bool true]) (by kernel_rfl) ?hk ?hR ?fin
  case hk => kernel_rfl
  case hR =>
    refine ⟨fun _ => (Kx.refl _ _), fun _ _ _ => Kx.trans, rl_stab ⟨fun _ _ _ _ h => h, fun _ _ _ _ h => h, fun _ _ _ _ h => h, fun _ _ _ _ h => h, fun _ _ _ _ h => h, fun _ _ _ _ h => h, fun _ _ _ _ h => h, fun _ _ _ _ h => h, fun _ _ _ _ h => h, fun _ _ _ _ h => h, fun _ _ _ _ h => h, fun _ _ _ _ h => h, fun _ _ _ _ h => h, fun _ _ _ _ h => h, fun _ _ _ _ h => h, fun _ _ _ _ h => h, fun _ _ _ _ h => h, fun _ _ _ _ h => h, trivial⟩, ?_⟩
    refine allO_cons ?_ (allO_cons ?_ (allO_cons ?_ (allO_cons ?_ (allO_cons ?_ (allO_cons ?_ (allO_cons ?_ (allO_cons ?_ (allO_cons ?_ (allO_cons ?_ (allO_cons ?_ (allO_cons ?_ (allO_cons ?_ (allO_cons ?_ (allO_cons ?_ (allO_cons ?_ (allO_cons ?_ (allO_cons ?_ (allO_nil))))))))))))))))))
    · intro T w9 hG hD hO Q
      have e0 : (oF 31 T).eval (.func 12) = .func (.func 12) #[] #[] := rfl
      refine og_none rfl ?_
      refine o_call (oc0 (enters_of Tryz.func12 (by kernel_rfl) rfl) rfl rfl ) rfl ?_
      exact (Cf.out (fawakeC) w9 (gl.kx hG (by simp))).mono fun r W' h => ⟨_, h.1, rfl, h.2.kx⟩
    · intro T w9 hG hD hO Q
      have d0 := hD.1
      have e0 : (oF 31 T).eval (.tmp 14) = .bool true := (oF_eval (by decide)).trans (show T 14 = _ from d0)
      refine og_none rfl ?_
      exact o_val (v := .bool true) (w' := w9) (by generalize (oF 31 T).eval = rr at *; simp [execOp, go_sem, e0]) rfl rfl (Kx.refl _ _)
    · intro T w9 hG hD hO Q
      have d0 := hD.1
      have q0 := hO.1
      have e0 : (oF 31 T).eval (.tmp 2) = .pointer (some ⟨w.heap.size, 0, none⟩) := (oF_eval (by decide)).trans (show T 2 = _ from q0)
      refine og_some (b := true) (c := true) rfl (show T 15 = _ from d0) (fun hc => ?_) (fun hc h => absurd h hc)
      have im := b1.kx hG (by simp)
      have m0 := im.c (i := 0) rfl
      have m1 := im.c (i := 1) rfl
      have m2 := im.c (i := 2) rfl
      have m3 := im.c (i := 3) rfl
      have m4 := im.c (i := 4) rfl
      have m5 := im.c (i := 5) rfl
      have m6 := im.c (i := 6) rfl
      have m7 := im.c (i := 7) rfl
      have m8 := im.c (i := 8) rfl
      clear im
      exact o_val (v := .agg #[.string n, .int .i64 k, .int .i64 a, .int .i64 x, .int .i64 y, .int .i64 z, .int .i64 lo, .int .i64 hi, .slice fp fl fc]) (w' := w9) (by generalize (oF 31 T).eval = rr at *; simp [execOp, go_sem, e0, m0, m1, m2, m3, m4, m5, m6, m7, m8]) rfl (fun _ => rfl) (Kx.refl _ _)
    · intro T w9 hG hD hO Q
      have d0 := hD.1
      have q0 := hO.1
      have e0 : (oF 31 T).eval (.tmp 3) = .pointer (some ⟨w.heap.size + 1, 0, none⟩) := (oF_eval (by decide)).trans (show T 3 = _ from q0)
      refine og_some (b := true) (c := true) rfl (show T 15 = _ from d0) (fun hc => ?_) (fun hc h => absurd h hc)
      have im := b2.kx hG (by simp)
      have m0 := im.c (i := 0) rfl
      have m1 := im.c (i := 1) rfl
      have m2 := im.c (i := 2) rfl
      have m3 := im.c (i := 3) rfl
      have m4 := im.c (i := 4) rfl
      clear im
      exact o_val (v := .agg #[.int .i64 fk, .bool fd, .int .i64 ft, .int .i64 fm, .slice dp dl dc]) (w' := w9) (by generalize (oF 31 T).eval = rr at *; simp [execOp, go_sem, e0, m0, m1, m2, m3, m4]) rfl (fun _ => rfl) (Kx.refl _ _)
    · intro T w9 hG hD hO Q
      have d0 := hD.1
      have d1 := hD.2.1
      have d2 := hD.2.2.1
      have e0 : (oF 31 T).eval (.func 13) = .func (.func 13) #[] #[] := rfl
      have G1 : true = true → T 16 = .agg #[.string n, .int .i64 k, .int .i64 a, .int .i64 x, .int .i64 y, .int .i64 z, .int .i64 lo, .int .i64 hi, .slice fp fl fc] := d0
      have G2 : true = true → T 17 = .agg #[.int .i64 fk, .bool fd, .int .i64 ft, .int .i64 fm, .slice dp dl dc] := d1
      refine og_some (b := true) (c := true) rfl (show T 15 = _ from d2) (fun hc => ?_) (fun hc h => absurd h hc)
      have e1 : (oF 31 T).eval (.tmp 16) = .agg #[.string n, .int .i64 k, .int .i64 a, .int .i64 x, .int .i64 y, .int .i64 z, .int .i64 lo, .int .i64 hi, .slice fp fl fc] := (oF_eval (by decide)).trans (G1 hc)
      have e2 : (oF 31 T).eval (.tmp 17) = .agg #[.int .i64 fk, .bool fd, .int .i64 ft, .int .i64 fm, .slice dp dl dc] := (oF_eval (by decide)).trans (G2 hc)
      refine o_call (oc2 (enters_of Tryz.func13 (by kernel_rfl) rfl) rfl rfl e1 e2) rfl ?_
      exact (Cf.out (frCheck n k a x y z lo hi fp fl fc fk fd ft fm dp dl dc ds hnz hd hcd hdn hz) w9 (gl.kx hG (by simp))).mono fun r W' h => ⟨_, h.1, (fun _ => rfl), h.2.kx⟩
    · intro T w9 hG hD hO Q
      have d0 := hD.1
      have q0 := hO.1
      have e0 : (oF 31 T).eval (.tmp 2) = .pointer (some ⟨w.heap.size, 0, none⟩) := (oF_eval (by decide)).trans (show T 2 = _ from q0)
      refine og_some (b := true) (c := true) rfl (show T 15 = _ from d0) (fun hc => ?_) (fun hc h => absurd h hc)
      have im := b1.kx hG (by simp)
      have m0 := im.c (i := 0) rfl
      have m1 := im.c (i := 1) rfl
      have m2 := im.c (i := 2) rfl
      have m3 := im.c (i := 3) rfl
      have m4 := im.c (i := 4) rfl
      have m5 := im.c (i := 5) rfl
      have m6 := im.c (i := 6) rfl
      have m7 := im.c (i := 7) rfl
      have m8 := im.c (i := 8) rfl
      clear im
      exact o_val (v := .agg #[.string n, .int .i64 k, .int .i64 a, .int .i64 x, .int .i64 y, .int .i64 z, .int .i64 lo, .int .i64 hi, .slice fp fl fc]) (w' := w9) (by generalize (oF 31 T).eval = rr at *; simp [execOp, go_sem, e0, m0, m1, m2, m3, m4, m5, m6, m7, m8]) rfl (fun _ => rfl) (Kx.refl _ _)
    · intro T w9 hG hD hO Q
      have d0 := hD.1
      have q0 := hO.1
      have e0 : (oF 31 T).eval (.tmp 3) = .pointer (some ⟨w.heap.size + 1, 0, none⟩) := (oF_eval (by decide)).trans (show T 3 = _ from q0)
      refine og_some (b := true) (c := true) rfl (show T 15 = _ from d0) (fun hc => ?_) (fun hc h => absurd h hc)
      have im := b2.kx hG (by simp)
      have m0 := im.c (i := 0) rfl
      have m1 := im.c (i := 1) rfl
      have m2 := im.c (i := 2) rfl
      have m3 := im.c (i := 3) rfl
      have m4 := im.c (i := 4) rfl
      clear im
      exact o_val (v := .agg #[.int .i64 fk, .bool fd, .int .i64 ft, .int .i64 fm, .slice dp dl dc]) (w' := w9) (by generalize (oF 31 T).eval = rr at *; simp [execOp, go_sem, e0, m0, m1, m2, m3, m4]) rfl (fun _ => rfl) (Kx.refl _ _)
    · intro T w9 hG hD hO Q
      have d0 := hD.1
      have d1 := hD.2.1
      have d2 := hD.2.2.1
      have e0 : (oF 31 T).eval (.func 14) = .func (.func 14) #[] #[] := rfl
      have G1 : true = true → T 19 = .agg #[.string n, .int .i64 k, .int .i64 a, .int .i64 x, .int .i64 y, .int .i64 z, .int .i64 lo, .int .i64 hi, .slice fp fl fc] := d0
      have G2 : true = true → T 20 = .agg #[.int .i64 fk, .bool fd, .int .i64 ft, .int .i64 fm, .slice dp dl dc] := d1
      refine og_some (b := true) (c := true) rfl (show T 15 = _ from d2) (fun hc => ?_) (fun hc h => absurd h hc)
      have e1 : (oF 31 T).eval (.tmp 19) = .agg #[.string n, .int .i64 k, .int .i64 a, .int .i64 x, .int .i64 y, .int .i64 z, .int .i64 lo, .int .i64 hi, .slice fp fl fc] := (oF_eval (by decide)).trans (G1 hc)
      have e2 : (oF 31 T).eval (.tmp 20) = .agg #[.int .i64 fk, .bool fd, .int .i64 ft, .int .i64 fm, .slice dp dl dc] := (oF_eval (by decide)).trans (G2 hc)
      refine o_call (oc2 (enters_of Tryz.func14 (by kernel_rfl) rfl) rfl rfl e1 e2) rfl ?_
      exact (Cf.out (rfrCheck n k a x y z lo hi fp fl fc fk fd ft fm dp dl dc ds hnz hd hz) w9 (gl.kx hG (by simp))).mono fun r W' h => ⟨_, h.1, (fun _ => rfl), h.2.kx⟩
    · intro T w9 hG hD hO Q
      have d0 := hD.1
      have d1 := hD.2.1
      have d2 := hD.2.2.1
      have G0 : true = true → T 18 = .int .i64 (fcE n k a x y z lo hi fk fd ft fm ds) := d0
      have G1 : true = true → T 21 = .int .i64 (fcE n k a x y z lo hi fk fd ft fm ds) := d1
      refine og_some (b := true) (c := true) rfl (show T 15 = _ from d2) (fun hc => ?_) (fun hc h => absurd h hc)
      have e0 : (oF 31 T).eval (.tmp 18) = .int .i64 (fcE n k a x y z lo hi fk fd ft fm ds) := (oF_eval (by decide)).trans (G0 hc)
      have e1 : (oF 31 T).eval (.tmp 21) = .int .i64 (fcE n k a x y z lo hi fk fd ft fm ds) := (oF_eval (by decide)).trans (G1 hc)
      exact o_val (v := .bool true) (w' := w9) (by generalize (oF 31 T).eval = rr at *; simp [execOp, go_sem, e0, e1]) rfl (fun _ => rfl) (Kx.refl _ _)
    · intro T w9 hG hD hO Q
      have d0 := hD.1
      have d1 := hD.2.1
      have e0 : (oF 31 T).eval (.tmp 15) = .bool true := (oF_eval (by decide)).trans (show T 15 = _ from d0)
      have G1 : true = true → T 22 = .bool true := d1
      have e1 : (oF 31 T).eval (.tmp 22) = T 22 := oF_eval (by decide)
      have e2 : (oF 31 T).eval (.const (.bool false)) = .bool false := rfl
      refine og_none rfl ?_
      rw [G1 rfl] at e1
      exact o_val (v := .bool true) (w' := w9) (by generalize (oF 31 T).eval = rr at *; simp [execOp, go_sem, e0, e1]) rfl rfl (Kx.refl _ _)
    · intro T w9 hG hD hO Q
      have d0 := hD.1
      have e0 : (oF 31 T).eval (.tmp 23) = .bool true := (oF_eval (by decide)).trans (show T 23 = _ from d0)
      refine og_none rfl ?_
      exact o_val (v := .bool true) (w' := w9) (by generalize (oF 31 T).eval = rr at *; simp [execOp, go_sem, e0]) rfl rfl (Kx.refl _ _)
    · intro T w9 hG hD hO Q
      have d0 := hD.1
      have q0 := hO.1
      have e0 : (oF 31 T).eval (.tmp 3) = .pointer (some ⟨w.heap.size + 1, 0, none⟩) := (oF_eval (by decide)).trans (show T 3 = _ from q0)
      refine og_some (b := true) (c := true) rfl (show T 24 = _ from d0) (fun hc => ?_) (fun hc h => absurd h hc)
      have im := b2.kx hG (by simp)
      have m0 := im.c (i := 0) rfl
      have m1 := im.c (i := 1) rfl
      have m2 := im.c (i := 2) rfl
      have m3 := im.c (i := 3) rfl
      have m4 := im.c (i := 4) rfl
      clear im
      exact o_val (v := .agg #[.int .i64 fk, .bool fd, .int .i64 ft, .int .i64 fm, .slice dp dl dc]) (w' := w9) (by generalize (oF 31 T).eval = rr at *; simp [execOp, go_sem, e0, m0, m1, m2, m3, m4]) rfl (fun _ => rfl) (Kx.refl _ _)
    · intro T w9 hG hD hO Q
      have d0 := hD.1
      have d1 := hD.2.1
      have e0 : (oF 31 T).eval (.func 15) = .func (.func 15) #[] #[] := rfl
      have G1 : true = true → T 25 = .agg #[.int .i64 fk, .bool fd, .int .i64 ft, .int .i64 fm, .slice dp dl dc] := d0
      refine og_some (b := true) (c := true) rfl (show T 24 = _ from d1) (fun hc => ?_) (fun hc h => absurd h hc)
      have e1 : (oF 31 T).eval (.tmp 25) = .agg #[.int .i64 fk, .bool fd, .int .i64 ft, .int .i64 fm, .slice dp dl dc] := (oF_eval (by decide)).trans (G1 hc)
      refine o_call (oc1 (enters_of Tryz.func15 (by kernel_rfl) rfl) rfl rfl e1) rfl ?_
      exact (Cf.out (frPlain fk fd ft fm dp dl dc ds hd hcd hdn hz) w9 (gl.kx hG (by simp))).mono fun r W' h => ⟨_, h.1, (fun _ => rfl), h.2.kx⟩
    · intro T w9 hG hD hO Q
      have d0 := hD.1
      have q0 := hO.1
      have e0 : (oF 31 T).eval (.tmp 3) = .pointer (some ⟨w.heap.size + 1, 0, none⟩) := (oF_eval (by decide)).trans (show T 3 = _ from q0)
      refine og_some (b := true) (c := true) rfl (show T 24 = _ from d0) (fun hc => ?_) (fun hc h => absurd h hc)
      have im := b2.kx hG (by simp)
      have m0 := im.c (i := 0) rfl
      have m1 := im.c (i := 1) rfl
      have m2 := im.c (i := 2) rfl
      have m3 := im.c (i := 3) rfl
      have m4 := im.c (i := 4) rfl
      clear im
      exact o_val (v := .agg #[.int .i64 fk, .bool fd, .int .i64 ft, .int .i64 fm, .slice dp dl dc]) (w' := w9) (by generalize (oF 31 T).eval = rr at *; simp [execOp, go_sem, e0, m0, m1, m2, m3, m4]) rfl (fun _ => rfl) (Kx.refl _ _)
    · intro T w9 hG hD hO Q
      have d0 := hD.1
      have d1 := hD.2.1
      have e0 : (oF 31 T).eval (.func 16) = .func (.func 16) #[] #[] := rfl
      have G1 : true = true → T 27 = .agg #[.int .i64 fk, .bool fd, .int .i64 ft, .int .i64 fm, .slice dp dl dc] := d0
      refine og_some (b := true) (c := true) rfl (show T 24 = _ from d1) (fun hc => ?_) (fun hc h => absurd h hc)
      have e1 : (oF 31 T).eval (.tmp 27) = .agg #[.int .i64 fk, .bool fd, .int .i64 ft, .int .i64 fm, .slice dp dl dc] := (oF_eval (by decide)).trans (G1 hc)
      refine o_call (oc1 (enters_of Tryz.func16 (by kernel_rfl) rfl) rfl rfl e1) rfl ?_
      exact (Cf.out (rfPlain fk fd ft fm dp dl dc ds hd hz) w9 (gl.kx hG (by simp))).mono fun r W' h => ⟨_, h.1, (fun _ => rfl), h.2.kx⟩
    · intro T w9 hG hD hO Q
      have d0 := hD.1
      have d1 := hD.2.1
      have d2 := hD.2.2.1
      have G0 : true = true → T 26 = .int .i64 (fpE fk ft fm ds) := d0
      have G1 : true = true → T 28 = .int .i64 (fpE fk ft fm ds) := d1
      refine og_some (b := true) (c := true) rfl (show T 24 = _ from d2) (fun hc => ?_) (fun hc h => absurd h hc)
      have e0 : (oF 31 T).eval (.tmp 26) = .int .i64 (fpE fk ft fm ds) := (oF_eval (by decide)).trans (G0 hc)
      have e1 : (oF 31 T).eval (.tmp 28) = .int .i64 (fpE fk ft fm ds) := (oF_eval (by decide)).trans (G1 hc)
      exact o_val (v := .bool true) (w' := w9) (by generalize (oF 31 T).eval = rr at *; simp [execOp, go_sem, e0, e1]) rfl (fun _ => rfl) (Kx.refl _ _)
    · intro T w9 hG hD hO Q
      have d0 := hD.1
      have d1 := hD.2.1
      have e0 : (oF 31 T).eval (.tmp 24) = .bool true := (oF_eval (by decide)).trans (show T 24 = _ from d0)
      have G1 : true = true → T 29 = .bool true := d1
      have e1 : (oF 31 T).eval (.tmp 29) = T 29 := oF_eval (by decide)
      have e2 : (oF 31 T).eval (.const (.bool false)) = .bool false := rfl
      refine og_none rfl ?_
      rw [G1 rfl] at e1
      exact o_val (v := .bool true) (w' := w9) (by generalize (oF 31 T).eval = rr at *; simp [execOp, go_sem, e0, e1]) rfl rfl (Kx.refl _ _)
    · intro T w9 hG hD hO Q
      have d0 := hD.1
      have e0 : (oF 31 T).eval (.tmp 30) = .bool true := (oF_eval (by decide)).trans (show T 30 = _ from d0)
      refine og_none rfl ?_
      exact o_val (v := .bool true) (w' := w9) (by generalize (oF 31 T).eval = rr at *; simp [execOp, go_sem, e0]) rfl rfl (Kx.refl _ _)
  case fin =>
    intro T w3 hout hval hG
    have s3 := hG.2.2.2.1
    simp only [World.size_drew] at s3
    rw [show oF 31 T = (⟨#[T 0, T 1, T 2, T 3, T 4, T 5, T 6, T 7, T 8, T 9, T 10, T 11, T 12, T 13, T 14, T 15, T 16, T 17, T 18, T 19, T 20, T 21, T 22, T 23, T 24, T 25, T 26, T 27, T 28, T 29, T 30], []⟩ : Act) from oF_list 31 T]
    rw [show T 0 = .agg #[.string n, .int .i64 k, .int .i64 a, .int .i64 x, .int .i64 y, .int .i64 z, .int .i64 lo, .int .i64 hi, .slice fp fl fc] from hout 0 rfl]
    rw [show T 1 = .agg #[.int .i64 fk, .bool fd, .int .i64 ft, .int .i64 fm, .slice dp dl dc] from hout 1 rfl]
    rw [show T 2 = .pointer (some ⟨w.heap.size, 0, none⟩) from hout 2 rfl]
    rw [show T 3 = .pointer (some ⟨w.heap.size + 1, 0, none⟩) from hout 3 rfl]
    rw [show T 4 = .bool true from hval 17 (by decide : 17 < 18)]
    rw [show T 5 = .agg #[.string n, .int .i64 k, .int .i64 a, .int .i64 x, .int .i64 y, .int .i64 z, .int .i64 lo, .int .i64 hi, .slice fp fl fc] from hout 5 rfl]
    rw [show T 6 = .bool true from hout 6 rfl]
    rw [show T 7 = .bool false from hout 7 rfl]
    rw [show T 8 = .bool false from hout 8 rfl]
    rw [show T 9 = .agg #[.int .i64 fk, .bool fd, .int .i64 ft, .int .i64 fm, .slice dp dl dc] from hout 9 rfl]
    rw [show T 10 = .bool true from hout 10 rfl]
    rw [show T 11 = .bool false from hout 11 rfl]
    rw [show T 12 = .bool false from hout 12 rfl]
    replace b1 := b1.kx hG (by simp)
    replace b2 := b2.kx hG (by simp)
    replace kx := (show Kb _ _ from kx.drew).trans hG.nil
    replace gl := gl0.out.kb kx
    clear hout hval hG
    go_wp2
    go_ret
    exact ⟨rfl, kx⟩
theorem cFrameChecks (n : ByteArray) (k a x y z lo hi : Int) (fp : Option Addr) (fl fc : Nat) (fk : Int) (fd : Bool) (ft fm : Int) (dp : Option Addr) (dl dc : Nat) (ds : List DatT) (fs : List FrT) (w : World) (gl : Gf w w) (hfr : FrS w (.slice fp fl fc) fs) (hd : DatS w (.slice dp dl dc) ds) (hcd : dl ≤ dc) : Calls Tryz.prog 3 #[.agg #[.string n, .int .i64 k, .int .i64 a, .int .i64 x, .int .i64 y, .int .i64 z, .int .i64 lo, .int .i64 hi, .slice fp fl fc], .agg #[.int .i64 fk, .bool fd, .int .i64 ft, .int .i64 fm, .slice dp dl dc]] w fun r W' => r = .returned (.bool true) ∧ Kb w W' := by
  rcases Bool.eq_false_or_eq_true (fewB n fs) with h1 | h1
  · rcases Bool.eq_false_or_eq_true (fewX fk fd ft fm ds) with h2 | h2
    · obtain ⟨h3, h4⟩ := fewX_len h2
      exact lcC_1 w n k a x y z lo hi fp fl fc fk fd ft fm dp dl dc fs ds hfr hd hcd h1 h2 (few_n2 h1) (by have := hd.len; omega) h4 w gl
    · exact lcB_1 w n k a x y z lo hi fp fl fc fk fd ft fm dp dl dc fs ds hfr hd hcd h1 h2 w gl
  · exact lcA_1 w n k a x y z lo hi fp fl fc fk fd ft fm dp dl dc fs ds hfr hd hcd h1 w gl
end Go.Proofs.YtlfeinajjfbpkaaGreatDoor
