/- Texts Un5: each says in its own first comment what it proves. -/
import Derived.Test.YtlimjohnimgnhaaGreatDoorM13
import Derived.Test.YtlimjohnimgnhaaGreatDoorM27
import Derived.Test.YtlimjohnimgnhaaGreatDoorM37
import Derived.Test.YtlimjohnimgnhaaGreatDoorM14
import Derived.Test.YtlimjohnimgnhaaGreatDoorM30
import Derived.Lib.MinMax
import Derived.Test.YtlimjohnimgnhaaGreatDoorM29
import Derived.Lib.SliceRun
/- Frames: the law FrameChecks. -/
namespace Go.Proofs.YtlimjohnimgnhaaGreatDoor
open Go.RowKit

theorem bits_letters : ∀ f : Nat, f < 9 → ∀ k : Nat, k < 5 → (bits .and .i64 (kF f) (setV (k : Int)) == 0) = !(hsB (rF f) (k : Int)) ∧ (bits .and .i64 (kD f) (setV (k : Int)) == 0) = !(hsB (rD f) (k : Int)) ∧ (bits .and .i64 (kM f) (setV (k : Int)) == 0) = !(mmB (k : Int) (f : Int)) ∧ kL f = rL f ∧ kT f = rM f := by decide
theorem few_n2 {n : ByteArray} {fs : List FrT} (h : fewB n fs = true) : n.size ≤ 1000000 := by
  unfold fewB fewN at h
  simp only [Bool.and_eq_true, decide_eq_true_eq] at h
  omega
theorem firstE_app (l : List Int) (g : Int) : firstE (l ++ [g]) = if firstE l = 0 then g else firstE l := by
  induction l with
  | nil =>
    show firstE [g] = if (0 : Int) = 0 then g else 0
    rw [if_pos rfl]
    unfold firstE
    split
    · rename_i h; rw [h]; rfl
    · rfl
  | cons e l ih =>
    show firstE (e :: (l ++ [g])) = _
    rw [firstE, firstE, ih]
    by_cases h : e = 0
    · simp [h]
    · simp [h]
theorem tog_perm (n : ByteArray) (k : Int) (hk : 0 ≤ k ∧ k < 5) (f : Nat) (hf : f < 9) (fd : Bool) (ft fm : Int) (ds : List DatT) : tgE n k f fd ft fm ds = if permE k f fd ft fm ds.length = 0 then fE (dnB ds n) 7 else permE k f fd ft fm ds.length := by
  obtain ⟨q, rfl⟩ : ∃ q : Nat, k = (q : Int) := ⟨k.toNat, by omega⟩
  obtain ⟨h1, h2, h3, h4, h5⟩ := bits_letters f hf q (by omega)
  unfold tgE permE
  rw [h1, h2, h3, h4, h5]
  exact firstE_app [_, _, _, _, _, _] _
theorem fpE_dl {fk ft fm : Int} {ds : List DatT} (h : fpE fk ft fm ds = 0) : ds.length ≤ 3 := by
  rcases Nat.lt_or_ge 3 ds.length with hc | hc
  case inr => exact hc
  have h3 : (3 : Int) < (ds.length : Int) := by omega
  unfold fpE at h
  rw [decide_eq_true h3] at h
  simp only [firstE, fE] at h
  repeat' split at h
  all_goals first | omega | simp_all
theorem rfrCheck {w0 : World} (n : ByteArray) (k a x y z lo hi : Int) (fp : Option Addr) (fl fc : Nat) (fk : Int) (fd : Bool) (ft fm : Int) (dp : Option Addr) (dl dc : Nat) (ds : List DatT) (hnz : n.size ≤ 1000000) (hd : DatS w0 (.slice dp dl dc) ds) (hz : ∀ d ∈ ds, d.1.size ≤ 1000000) : Cf w0 14 #[.agg #[.string n, .int .i64 k, .int .i64 a, .int .i64 x, .int .i64 y, .int .i64 z, .int .i64 lo, .int .i64 hi, .slice fp fl fc], .agg #[.int .i64 fk, .bool fd, .int .i64 ft, .int .i64 fm, .slice dp dl dc]] (.int .i64 (fcE n k a x y z lo hi fk fd ft fm ds)) := Lib.hid fun w gl => by
  have q1 := rfCheck n k a x y z lo hi (.slice fp fl fc) hnz
  have q2 := rfPlain fk fd ft fm dp dl dc ds hd hz
  have hl := hd.len
  unfold fcE
  generalize he : ftE n k a x y z lo hi = ea at *
  by_cases e1 : ea = 0
  · have f1 : firstE [ea] = 0 := by rw [e1]; rfl
    generalize hp : fpE fk ft fm ds = eb at *
    by_cases e2 : eb = 0
    · have f2 : firstE [eb] = 0 := by rw [e2]; rfl
      have hk := ft_k (he.trans e1)
      have hf := fpE_k (hp.trans e2)
      have q3 := rperm n k a x y z lo hi fp fl fc fk fd ft fm dp dl dc hf hk
      rw [tog_perm n k hk fk.toNat (by omega) fd ft fm ds, ← hl]
      rw [f1, f2]
      have e0 : ∀ t : Int, firstE [0, 0, t] = t := fun t => by
        show firstE [t] = t
        unfold firstE
        split
        · rename_i h; rw [h]; rfl
        · rfl
      rw [e0]
      generalize permE k fk.toNat fd ft fm dl = ec at *
      by_cases e3 : ec = 0
      · rw [if_pos e3]
        by_cases h0 : dl = 0
        · subst h0
          obtain rfl : ds = [] := List.length_eq_zero_iff.1 hl.symm
          exact rCheckE_1 w0 n k a x y z lo hi fp fl fc fk fd ft fm dp dc ea eb ec q1 q2 q3 (by rw [e1]; rfl) (by rw [e2]; rfl) (by rw [e3]; rfl) w gl
        · obtain ⟨b, off, rfl, _⟩ := hd.at (by omega)
          exact rCheckD_1 w0 n k a x y z lo hi fp fl fc fk fd ft fm b off dl dc ea eb ec q1 q2 q3 (by rw [e1]; rfl) (by rw [e2]; rfl) (by rw [e3]; rfl) ds hd (by have := fpE_dl (hp.trans e2); omega) w gl
      · rw [if_neg e3]
        exact rCheckC_1 w0 n k a x y z lo hi fp fl fc fk fd ft fm dp dl dc ea eb ec q1 q2 q3 (by rw [e1]; rfl) (by rw [e2]; rfl) (by simpa using e3) w gl
    · have f2 : firstE [eb] = eb := by rw [firstE, if_neg e2]
      rw [f1, f2, show ∀ t : Int, firstE [0, eb, t] = eb from fun t => by show firstE [eb, t] = eb; rw [firstE, if_neg e2]]
      exact rCheckB_1 w0 n k a x y z lo hi fp fl fc fk fd ft fm dp dl dc ea eb q1 q2 (by rw [e1]; rfl) (by simpa using e2) w gl
  · have f1 : firstE [ea] = ea := by rw [firstE, if_neg e1]
    rw [f1, show ∀ s t : Int, firstE [ea, s, t] = ea from fun s t => by rw [firstE, if_neg e1]]
    exact rCheckA_1 w0 n k a x y z lo hi fp fl fc fk fd ft fm dp dl dc ea q1 (by simpa using e1) w gl
theorem fawakeC {w0 : World} : Cf w0 12 #[] (.bool true) := Lib.hid fun w gl => fawake_1 w0 w gl
theorem cFew {w0 : World} (n : ByteArray) (k a x y z lo hi : Int) (fp : Option Addr) (fl fc : Nat) (fs : List FrT) (hfr : FrS w0 (.slice fp fl fc) fs) : Cf w0 10 #[.agg #[.string n, .int .i64 k, .int .i64 a, .int .i64 x, .int .i64 y, .int .i64 z, .int .i64 lo, .int .i64 hi, .slice fp fl fc]] (.bool (fewB n fs)) := Lib.hid fun W g => rFew n k a x y z lo hi fp fl fc fs W (hfr.kb g.at0)
end Go.Proofs.YtlimjohnimgnhaaGreatDoor
