/- Texts Ug: each says in its own first comment what it proves. -/
import Derived.Test.YtlimjohnimgnhaaGreatDoorM42
import Derived.Test.YtlimjohnimgnhaaGreatDoorM05
/- Frames: closed contracts of Check, Virtual and Bonus. -/
namespace Go.Proofs.YtlimjohnimgnhaaGreatDoor
open Go.RowKit

/-- the set of a kind -/
def setV (k : Int) : Int := IntKind.i64.wrap (2 ^ k.toNat)
/-- the error of a frame of a feature, both of which are right -/
def tgE (n : ByteArray) (k : Int) (fk : Nat) (fd : Bool) (ft fm : Int) (ds : List DatT) : Int := firstE [fE ((bits .and .i64 (kF fk) (setV k)) == 0) 14, fE (fd && ((bits .and .i64 (kD fk) (setV k)) == 0)) 3, fE ((ft == 0) && (fm != 1)) 10, fE ((fm != 0) && ((bits .and .i64 (kM fk) (setV k)) == 0)) 3, fE (decide ((ds.length : Int) < (kL fk))) 13, fE (decide ((kT fk) < (ds.length : Int))) 5, fE (dnB ds n) 7]
def fcE (n : ByteArray) (k a x y z lo hi : Int) (fk : Int) (fd : Bool) (ft fm : Int) (ds : List DatT) : Int := firstE [firstE [ftE n k a x y z lo hi], firstE [fpE fk ft fm ds], tgE n k fk.toNat fd ft fm ds]
theorem fst_z {e : Int} {l : List Int} (h : firstE (e :: l) = 0) : e = 0 ∧ firstE l = 0 := by
  unfold firstE at h
  split at h
  · exact ⟨by assumption, h⟩
  · exact absurd h (by assumption)
theorem fE_z {b : Bool} {e : Int} (he : e ≠ 0) (h : fE b e = 0) : b = false := by
  cases b
  · rfl
  · exact absurd h he
theorem fpE_k {k t m : Int} {ds : List DatT} (h : fpE k t m ds = 0) : 0 ≤ k ∧ k < 9 := by
  have h1 := fE_z (by decide) (fst_z h).1
  rw [Bool.or_eq_false_iff, decide_eq_false_iff_not, decide_eq_false_iff_not] at h1
  omega
theorem frTog {w0 : World} (n : ByteArray) (k a x y z lo hi : Int) (fp : Option Addr) (fl fc : Nat) (fk : Int) (fd : Bool) (ft fm : Int) (dp : Option Addr) (dl dc : Nat) (ds : List DatT) (hd : DatS w0 (.slice dp dl dc) ds) (hn : dl ≤ 100000) (hk : 0 ≤ fk ∧ fk < 9) (hk2 : 0 ≤ k ∧ k < 5) : Cf w0 44 #[.agg #[.string n, .int .i64 k, .int .i64 a, .int .i64 x, .int .i64 y, .int .i64 z, .int .i64 lo, .int .i64 hi, .slice fp fl fc], .agg #[.int .i64 fk, .bool fd, .int .i64 ft, .int .i64 fm, .slice dp dl dc]] (.int .i64 (tgE n k fk.toNat fd ft fm ds)) := Lib.hid fun w gl => by
  obtain ⟨q, rfl⟩ : ∃ q : Nat, fk = (q : Int) := ⟨fk.toNat, by omega⟩
  have hl := hd.len
  have r := fTog_1 w0 n k a x y z lo hi fp fl fc q fd ft fm dp dl dc (setV k) ds hd hn (by omega) hk2.1 (by omega) rfl w gl
  unfold tgE
  rw [← hl]
  exact r
theorem frCheck {w0 : World} (n : ByteArray) (k a x y z lo hi : Int) (fp : Option Addr) (fl fc : Nat) (fk : Int) (fd : Bool) (ft fm : Int) (dp : Option Addr) (dl dc : Nat) (ds : List DatT) (hnz : n.size ≤ 1000000) (hd : DatS w0 (.slice dp dl dc) ds) (hcd : dl ≤ dc) (hn : dl ≤ 100000) (hz : ∀ d ∈ ds, d.1.size ≤ 1000000) : Cf w0 13 #[.agg #[.string n, .int .i64 k, .int .i64 a, .int .i64 x, .int .i64 y, .int .i64 z, .int .i64 lo, .int .i64 hi, .slice fp fl fc], .agg #[.int .i64 fk, .bool fd, .int .i64 ft, .int .i64 fm, .slice dp dl dc]] (.int .i64 (fcE n k a x y z lo hi fk fd ft fm ds)) := Lib.hid fun w gl =>
  fCheckF_1 w0 n k a x y z lo hi fp fl fc fk fd ft fm dp dl dc (fpE fk ft fm ds) (tgE n k fk.toNat fd ft fm ds) (ftE n k a x y z lo hi) (fCheck n k a x y z lo hi fp fl fc hnz) (frPlain fk fd ft fm dp dl dc ds hd hcd hn hz) (fun h => frTog n k a x y z lo hi fp fl fc fk fd ft fm dp dl dc ds hd hn (fpE_k (fst_z h.2).1) (ft_k (fst_z h.1).1)) w gl
def exV (n : ByteArray) (k a x y z lo hi : Int) (m : Int) : Int := if (m == 1) = true then zI (szdE (ftE n k a x y z lo hi) k) (if holB k = true then lo else hi) else zI (szdE (ftE n k a x y z lo hi) k) (if holB k = true then hi else lo)
theorem frExtreme {w0 : World} (n : ByteArray) (k a x y z lo hi : Int) (fp : Option Addr) (fl fc : Nat) (m : Int) (hnz : n.size ≤ 1000000) : Cf w0 59 #[.agg #[.string n, .int .i64 k, .int .i64 a, .int .i64 x, .int .i64 y, .int .i64 z, .int .i64 lo, .int .i64 hi, .slice fp fl fc], .int .i64 m] (.int .i64 (exV n k a x y z lo hi m)) := by
  have q := fextreme_any w0 n k a x y z lo hi fp fl fc m _ _ _ _ (fLeast n k a x y z lo hi fp fl fc hnz).cf (fMaximum n k a x y z lo hi fp fl fc hnz).cf
  have e : ∀ (c : Prop) [Decidable c] (u v : Int), (if c then (Value.int .i64 u) else (.int .i64 v)) = .int .i64 (if c then u else v) := fun c _ u v => by split <;> rfl
  rw [e] at q
  exact q
def vtV (r1 : Int) (o2 : Bool) (r4 ft fm : Int) : Int × Int := if (r1 != 0) = true then (0, r1) else if (fm == 0) = true then (0, 14) else if (o2) = true then (if (fm == 1) = true then (wrap64 (r4 - ft), 0) else (wrap64 (r4 + ft), 0)) else (if (fm == 1) = true then (wrap64 (r4 + ft), 0) else (wrap64 (r4 - ft), 0))
def vV (n : ByteArray) (k a x y z lo hi : Int) (fk : Int) (fd : Bool) (ft fm : Int) (ds : List DatT) : Int × Int := vtV (fcE n k a x y z lo hi fk fd ft fm ds) (if ftE n k a x y z lo hi = 0 then holB k else false) (exV n k a x y z lo hi fm) ft fm
theorem frVirtual {w0 : World} (n : ByteArray) (k a x y z lo hi : Int) (fp : Option Addr) (fl fc : Nat) (fk : Int) (fd : Bool) (ft fm : Int) (dp : Option Addr) (dl dc : Nat) (ds : List DatT) (hnz : n.size ≤ 1000000) (hd : DatS w0 (.slice dp dl dc) ds) (hcd : dl ≤ dc) (hn : dl ≤ 100000) (hz : ∀ d ∈ ds, d.1.size ≤ 1000000) : Cf w0 22 #[.agg #[.string n, .int .i64 k, .int .i64 a, .int .i64 x, .int .i64 y, .int .i64 z, .int .i64 lo, .int .i64 hi, .slice fp fl fc], .agg #[.int .i64 fk, .bool fd, .int .i64 ft, .int .i64 fm, .slice dp dl dc]] (.tuple #[.int .i64 (vV n k a x y z lo hi fk fd ft fm ds).1, .int .i64 (vV n k a x y z lo hi fk fd ft fm ds).2]) := by
  have q := fVirtual_any w0 n k a x y z lo hi fp fl fc fk fd ft fm dp dl dc _ _ _ _ (frCheck n k a x y z lo hi fp fl fc fk fd ft fm dp dl dc ds hnz hd hcd hn hz) (fInner n k a x y z lo hi fp fl fc hnz).cf (frExtreme n k a x y z lo hi fp fl fc fm hnz)
  unfold vV vtV
  generalize fcE n k a x y z lo hi fk fd ft fm ds = r1 at *
  generalize (if ftE n k a x y z lo hi = 0 then holB k else false) = o2 at *
  generalize exV n k a x y z lo hi fm = r4 at *
  by_cases h1 : (r1 != 0) = true
  · rw [if_pos h1] at q ⊢; exact q
  rw [if_neg h1] at q ⊢
  by_cases h2 : (fm == 0) = true
  · rw [if_pos h2] at q ⊢; exact q
  rw [if_neg h2] at q ⊢
  by_cases h3 : o2 = true
  · rw [if_pos h3] at q ⊢
    by_cases h4 : (fm == 1) = true
    · rw [if_pos h4] at q ⊢; exact q
    · rw [if_neg h4] at q ⊢; exact q
  · rw [if_neg h3] at q ⊢
    by_cases h4 : (fm == 1) = true
    · rw [if_pos h4] at q ⊢; exact q
    · rw [if_neg h4] at q ⊢; exact q
def btV (r1 : Int) (o2 : Bool) (r4 k fm u : Int) : Int × Int := if (r1 != 0) = true then (0, r1) else if (k == 0) = true then (0, 14) else if (o2) = true then (if (fm == 0) = true then (0, 0) else (max (wrap64 (u - r4)) (wrap64 (-(wrap64 (u - r4)))), 0)) else (0, 2)
def bV (n : ByteArray) (k a x y z lo hi : Int) (fk : Int) (fd : Bool) (ft fm : Int) (ds : List DatT) (u : Int) : Int × Int := btV (fcE n k a x y z lo hi fk fd ft fm ds) (zB (lmE lo hi) (decide (lo ≤ u) && decide (u ≤ hi))) (exV n k a x y z lo hi fm) k fm u
theorem frBonus {w0 : World} (n : ByteArray) (k a x y z lo hi : Int) (fp : Option Addr) (fl fc : Nat) (fk : Int) (fd : Bool) (ft fm : Int) (dp : Option Addr) (dl dc : Nat) (ds : List DatT) (u : Int) (hnz : n.size ≤ 1000000) (hd : DatS w0 (.slice dp dl dc) ds) (hcd : dl ≤ dc) (hn : dl ≤ 100000) (hz : ∀ d ∈ ds, d.1.size ≤ 1000000) : Cf w0 24 #[.agg #[.string n, .int .i64 k, .int .i64 a, .int .i64 x, .int .i64 y, .int .i64 z, .int .i64 lo, .int .i64 hi, .slice fp fl fc], .agg #[.int .i64 fk, .bool fd, .int .i64 ft, .int .i64 fm, .slice dp dl dc], .int .i64 u] (.tuple #[.int .i64 (bV n k a x y z lo hi fk fd ft fm ds u).1, .int .i64 (bV n k a x y z lo hi fk fd ft fm ds u).2]) := by
  have q := fBonus_any w0 n k a x y z lo hi fp fl fc fk fd ft fm dp dl dc u _ _ _ _ (frCheck n k a x y z lo hi fp fl fc fk fd ft fm dp dl dc ds hnz hd hcd hn hz) (Lib.hid fun w => dContains_any lo hi u w) (frExtreme n k a x y z lo hi fp fl fc fm hnz)
  unfold bV btV
  generalize fcE n k a x y z lo hi fk fd ft fm ds = r1 at *
  generalize zB (lmE lo hi) (decide (lo ≤ u) && decide (u ≤ hi)) = o2 at *
  generalize exV n k a x y z lo hi fm = r4 at *
  by_cases h1 : (r1 != 0) = true
  · rw [if_pos h1] at q ⊢; exact q
  rw [if_neg h1] at q ⊢
  by_cases h2 : (k == 0) = true
  · rw [if_pos h2] at q ⊢; exact q
  rw [if_neg h2] at q ⊢
  by_cases h3 : o2 = true
  · rw [if_pos h3] at q ⊢
    by_cases h4 : (fm == 0) = true
    · rw [if_pos h4] at q ⊢; exact q
    · rw [if_neg h4] at q ⊢; exact q
  · rw [if_neg h3] at q ⊢; exact q
def tgE' (n : ByteArray) (k : Int) (fk : Nat) (fd : Bool) (ft fm : Int) (ds : List DatT) : Int := firstE [fE ((bits .and .i64 (kF fk) (setV k)) == 0) 14, fE (fd && ((bits .and .i64 (kD fk) (setV k)) == 0)) 3, fE ((ft == 0) && (fm != 1)) 10, fE ((fm != 0) && ((bits .and .i64 (kM fk) (setV k)) == 0)) 3, fE (decide ((ds.length : Int) < (kL fk))) 13, fE (decide ((kT fk) < (ds.length : Int))) 5, fE (ds.any fun d => d.1.data.toList == n.data.toList) 7]
theorem fcE_eq (n : ByteArray) (k a x y z lo hi : Int) (fk : Int) (fd : Bool) (ft fm : Int) (ds : List DatT) : fcE n k a x y z lo hi fk fd ft fm ds = firstE [firstE [ftE n k a x y z lo hi], firstE [firstE [fE ((decide (fk < 0)) || (decide (9 ≤ fk))) 1, firstE [cmE fm], fE ((decide (ft < 0)) || (decide (100000 < ft))) 2, fE (decide (3 < (ds.length : Int))) 5, dsF' [] ds]], tgE' n k fk.toNat fd ft fm ds] := by
  unfold fcE tgE tgE'
  rw [fpE_eq, dnB_data]
end Go.Proofs.YtlimjohnimgnhaaGreatDoor
