/- Texts Ug, Un2, Ugc, OpenFtr: each says in its own first comment what it proves. -/
import Derived.Test.YtlimjohnimgnhaaGreatDoorM44
import Derived.Test.YtlimjohnimgnhaaGreatDoorM29
import Derived.Test.YtlimjohnimgnhaaGreatDoorM43
import Derived.Test.YtlimjohnimgnhaaGreatDoorM38
import Derived.Deep.SlicePairs
import Derived.ChangeArms
/- Frames: closed contracts of Check, Virtual and Bonus. -/
namespace Go.Proofs.YtlimjohnimgnhaaGreatDoor
open Go.RowKit

/-- the set of a kind -/
def setV (k : Int) : Int := IntKind.i64.wrap (2 ^ k.toNat)
/-- the error of a frame of a feature, both of which are right -/
def tgE (n : ByteArray) (k : Int) (fk : Nat) (fd : Bool) (ft fm : Int) (ds : List DatT) : Int := firstE [fE ((bits .and .i64 (kF fk) (setV k)) == 0) 14, fE (fd && ((bits .and .i64 (kD fk) (setV k)) == 0)) 3, fE ((ft == 0) && (fm != 1)) 10, fE ((fm != 0) && ((bits .and .i64 (kM fk) (setV k)) == 0)) 3, fE (decide ((ds.length : Int) < (kL fk))) 13, fE (decide ((kT fk) < (ds.length : Int))) 5, fE (dnB ds n) 7]
def fcE (n : ByteArray) (k a x y z lo hi : Int) (fk : Int) (fd : Bool) (ft fm : Int) (ds : List DatT) : Int := firstE [firstE [ftE n k a x y z lo hi], firstE [fpE fk ft fm ds], tgE n k fk.toNat fd ft fm ds]
theorem fst_z {e : Int} {l : List Int} (h : firstE (e :: l) = 0) : e = 0 ∧ firstE l = 0 := by
  unfold firstE at h
  split at h
  · exact ⟨by assumption, h⟩
  · exact absurd h (by assumption)
theorem fE_z {b : Bool} {e : Int} (he : e ≠ 0) (h : fE b e = 0) : b = false := by
  cases b
  · rfl
  · exact absurd h he
theorem fpE_k {k t m : Int} {ds : List DatT} (h : fpE k t m ds = 0) : 0 ≤ k ∧ k < 9 := by
  have h1 := fE_z (by decide) (fst_z h).1
  rw [Bool.or_eq_false_iff, decide_eq_false_iff_not, decide_eq_false_iff_not] at h1
  omega
theorem frTog {w0 : World} (n : ByteArray) (k a x y z lo hi : Int) (fp : Option Addr) (fl fc : Nat) (fk : Int) (fd : Bool) (ft fm : Int) (dp : Option Addr) (dl dc : Nat) (ds : List DatT) (hd : DatS w0 (.slice dp dl dc) ds) (hn : dl ≤ 100000) (hk : 0 ≤ fk ∧ fk < 9) (hk2 : 0 ≤ k ∧ k < 5) : Cf w0 44 #[.agg #[.string n, .int .i64 k, .int .i64 a, .int .i64 x, .int .i64 y, .int .i64 z, .int .i64 lo, .int .i64 hi, .slice fp fl fc], .agg #[.int .i64 fk, .bool fd, .int .i64 ft, .int .i64 fm, .slice dp dl dc]] (.int .i64 (tgE n k fk.toNat fd ft fm ds)) := Lib.hid fun w gl => by
  obtain ⟨q, rfl⟩ : ∃ q : Nat, fk = (q : Int) := ⟨fk.toNat, by omega⟩
  have hl := hd.len
  have r := fTog_1 w0 n k a x y z lo hi fp fl fc q fd ft fm dp dl dc (setV k) ds hd hn (by omega) hk2.1 (by omega) rfl w gl
  unfold tgE
  rw [← hl]
  exact r
theorem frCheck {w0 : World} (n : ByteArray) (k a x y z lo hi : Int) (fp : Option Addr) (fl fc : Nat) (fk : Int) (fd : Bool) (ft fm : Int) (dp : Option Addr) (dl dc : Nat) (ds : List DatT) (hnz : n.size ≤ 1000000) (hd : DatS w0 (.slice dp dl dc) ds) (hcd : dl ≤ dc) (hn : dl ≤ 100000) (hz : ∀ d ∈ ds, d.1.size ≤ 1000000) : Cf w0 13 #[.agg #[.string n, .int .i64 k, .int .i64 a, .int .i64 x, .int .i64 y, .int .i64 z, .int .i64 lo, .int .i64 hi, .slice fp fl fc], .agg #[.int .i64 fk, .bool fd, .int .i64 ft, .int .i64 fm, .slice dp dl dc]] (.int .i64 (fcE n k a x y z lo hi fk fd ft fm ds)) := Lib.hid fun w gl =>
  fCheckF_1 w0 n k a x y z lo hi fp fl fc fk fd ft fm dp dl dc (fpE fk ft fm ds) (tgE n k fk.toNat fd ft fm ds) (ftE n k a x y z lo hi) (fCheck n k a x y z lo hi fp fl fc hnz) (frPlain fk fd ft fm dp dl dc ds hd hcd hn hz) (fun h => frTog n k a x y z lo hi fp fl fc fk fd ft fm dp dl dc ds hd hn (fpE_k (fst_z h.2).1) (ft_k (fst_z h.1).1)) w gl
def exV (n : ByteArray) (k a x y z lo hi : Int) (m : Int) : Int := if (m == 1) = true then zI (szdE (ftE n k a x y z lo hi) k) (if holB k = true then lo else hi) else zI (szdE (ftE n k a x y z lo hi) k) (if holB k = true then hi else lo)
theorem frExtreme {w0 : World} (n : ByteArray) (k a x y z lo hi : Int) (fp : Option Addr) (fl fc : Nat) (m : Int) (hnz : n.size ≤ 1000000) : Cf w0 59 #[.agg #[.string n, .int .i64 k, .int .i64 a, .int .i64 x, .int .i64 y, .int .i64 z, .int .i64 lo, .int .i64 hi, .slice fp fl fc], .int .i64 m] (.int .i64 (exV n k a x y z lo hi m)) := by
  have q := fextreme_any w0 n k a x y z lo hi fp fl fc m _ _ _ _ (fLeast n k a x y z lo hi fp fl fc hnz).cf (fMaximum n k a x y z lo hi fp fl fc hnz).cf
  have e : ∀ (c : Prop) [Decidable c] (u v : Int), (if c then (Value.int .i64 u) else (.int .i64 v)) = .int .i64 (if c then u else v) := fun c _ u v => by split <;> rfl
  rw [e] at q
  exact q
def vtV (r1 : Int) (o2 : Bool) (r4 ft fm : Int) : Int × Int := if (r1 != 0) = true then (0, r1) else if (fm == 0) = true then (0, 14) else if (o2) = true then (if (fm == 1) = true then (wrap64 (r4 - ft), 0) else (wrap64 (r4 + ft), 0)) else (if (fm == 1) = true then (wrap64 (r4 + ft), 0) else (wrap64 (r4 - ft), 0))
def vV (n : ByteArray) (k a x y z lo hi : Int) (fk : Int) (fd : Bool) (ft fm : Int) (ds : List DatT) : Int × Int := vtV (fcE n k a x y z lo hi fk fd ft fm ds) (if ftE n k a x y z lo hi = 0 then holB k else false) (exV n k a x y z lo hi fm) ft fm
theorem frVirtual {w0 : World} (n : ByteArray) (k a x y z lo hi : Int) (fp : Option Addr) (fl fc : Nat) (fk : Int) (fd : Bool) (ft fm : Int) (dp : Option Addr) (dl dc : Nat) (ds : List DatT) (hnz : n.size ≤ 1000000) (hd : DatS w0 (.slice dp dl dc) ds) (hcd : dl ≤ dc) (hn : dl ≤ 100000) (hz : ∀ d ∈ ds, d.1.size ≤ 1000000) : Cf w0 22 #[.agg #[.string n, .int .i64 k, .int .i64 a, .int .i64 x, .int .i64 y, .int .i64 z, .int .i64 lo, .int .i64 hi, .slice fp fl fc], .agg #[.int .i64 fk, .bool fd, .int .i64 ft, .int .i64 fm, .slice dp dl dc]] (.tuple #[.int .i64 (vV n k a x y z lo hi fk fd ft fm ds).1, .int .i64 (vV n k a x y z lo hi fk fd ft fm ds).2]) := by
  have q := fVirtual_any w0 n k a x y z lo hi fp fl fc fk fd ft fm dp dl dc _ _ _ _ (frCheck n k a x y z lo hi fp fl fc fk fd ft fm dp dl dc ds hnz hd hcd hn hz) (fInner n k a x y z lo hi fp fl fc hnz).cf (frExtreme n k a x y z lo hi fp fl fc fm hnz)
  unfold vV vtV
  generalize fcE n k a x y z lo hi fk fd ft fm ds = r1 at *
  generalize (if ftE n k a x y z lo hi = 0 then holB k else false) = o2 at *
  generalize exV n k a x y z lo hi fm = r4 at *
  by_cases h1 : (r1 != 0) = true
  · rw [if_pos h1] at q ⊢; exact q
  rw [if_neg h1] at q ⊢
  by_cases h2 : (fm == 0) = true
  · rw [if_pos h2] at q ⊢; exact q
  rw [if_neg h2] at q ⊢
  by_cases h3 : o2 = true
  · rw [if_pos h3] at q ⊢
    by_cases h4 : (fm == 1) = true
    · rw [if_pos h4] at q ⊢; exact q
    · rw [if_neg h4] at q ⊢; exact q
  · rw [if_neg h3] at q ⊢
    by_cases h4 : (fm == 1) = true
    · rw [if_pos h4] at q ⊢; exact q
    · rw [if_neg h4] at q ⊢; exact q
def btV (r1 : Int) (o2 : Bool) (r4 k fm u : Int) : Int × Int := if (r1 != 0) = true then (0, r1) else if (k == 0) = true then (0, 14) else if (o2) = true then (if (fm == 0) = true then (0, 0) else (max (wrap64 (u - r4)) (wrap64 (-(wrap64 (u - r4)))), 0)) else (0, 2)
def bV (n : ByteArray) (k a x y z lo hi : Int) (fk : Int) (fd : Bool) (ft fm : Int) (ds : List DatT) (u : Int) : Int × Int := btV (fcE n k a x y z lo hi fk fd ft fm ds) (zB (lmE lo hi) (decide (lo ≤ u) && decide (u ≤ hi))) (exV n k a x y z lo hi fm) k fm u
theorem frBonus {w0 : World} (n : ByteArray) (k a x y z lo hi : Int) (fp : Option Addr) (fl fc : Nat) (fk : Int) (fd : Bool) (ft fm : Int) (dp : Option Addr) (dl dc : Nat) (ds : List DatT) (u : Int) (hnz : n.size ≤ 1000000) (hd : DatS w0 (.slice dp dl dc) ds) (hcd : dl ≤ dc) (hn : dl ≤ 100000) (hz : ∀ d ∈ ds, d.1.size ≤ 1000000) : Cf w0 24 #[.agg #[.string n, .int .i64 k, .int .i64 a, .int .i64 x, .int .i64 y, .int .i64 z, .int .i64 lo, .int .i64 hi, .slice fp fl fc], .agg #[.int .i64 fk, .bool fd, .int .i64 ft, .int .i64 fm, .slice dp dl dc], .int .i64 u] (.tuple #[.int .i64 (bV n k a x y z lo hi fk fd ft fm ds u).1, .int .i64 (bV n k a x y z lo hi fk fd ft fm ds u).2]) := by
  have q := fBonus_any w0 n k a x y z lo hi fp fl fc fk fd ft fm dp dl dc u _ _ _ _ (frCheck n k a x y z lo hi fp fl fc fk fd ft fm dp dl dc ds hnz hd hcd hn hz) (Lib.hid fun w => dContains_any lo hi u w) (frExtreme n k a x y z lo hi fp fl fc fm hnz)
  unfold bV btV
  generalize fcE n k a x y z lo hi fk fd ft fm ds = r1 at *
  generalize zB (lmE lo hi) (decide (lo ≤ u) && decide (u ≤ hi)) = o2 at *
  generalize exV n k a x y z lo hi fm = r4 at *
  by_cases h1 : (r1 != 0) = true
  · rw [if_pos h1] at q ⊢; exact q
  rw [if_neg h1] at q ⊢
  by_cases h2 : (k == 0) = true
  · rw [if_pos h2] at q ⊢; exact q
  rw [if_neg h2] at q ⊢
  by_cases h3 : o2 = true
  · rw [if_pos h3] at q ⊢
    by_cases h4 : (fm == 0) = true
    · rw [if_pos h4] at q ⊢; exact q
    · rw [if_neg h4] at q ⊢; exact q
  · rw [if_neg h3] at q ⊢; exact q
def tgE' (n : ByteArray) (k : Int) (fk : Nat) (fd : Bool) (ft fm : Int) (ds : List DatT) : Int := firstE [fE ((bits .and .i64 (kF fk) (setV k)) == 0) 14, fE (fd && ((bits .and .i64 (kD fk) (setV k)) == 0)) 3, fE ((ft == 0) && (fm != 1)) 10, fE ((fm != 0) && ((bits .and .i64 (kM fk) (setV k)) == 0)) 3, fE (decide ((ds.length : Int) < (kL fk))) 13, fE (decide ((kT fk) < (ds.length : Int))) 5, fE (ds.any fun d => d.1.data.toList == n.data.toList) 7]
theorem fcE_eq (n : ByteArray) (k a x y z lo hi : Int) (fk : Int) (fd : Bool) (ft fm : Int) (ds : List DatT) : fcE n k a x y z lo hi fk fd ft fm ds = firstE [firstE [ftE n k a x y z lo hi], firstE [firstE [fE ((decide (fk < 0)) || (decide (9 ≤ fk))) 1, firstE [cmE fm], fE ((decide (ft < 0)) || (decide (100000 < ft))) 2, fE (decide (3 < (ds.length : Int))) 5, dsF' [] ds]], tgE' n k fk.toNat fd ft fm ds] := by
  unfold fcE tgE tgE'
  rw [fpE_eq, dnB_data]
end Go.Proofs.YtlimjohnimgnhaaGreatDoor

/- Frames: the reference: whether a kind of features is among letters. -/
namespace Go.Proofs.YtlimjohnimgnhaaGreatDoor
open Go.RowKit

/-- the letter of a kind -/
def phV (k : Int) : UInt8 := if k = 0 then 80 else if k = 1 then 72 else if k = 2 then 73 else if k = 3 then 83 else 66
def hsB (l : ByteArray) (k : Int) : Bool := l.data.toList.any fun c => c == phV k
theorem drop_at {l : List UInt8} {i : Nat} {c : UInt8} (h : l[i]? = some c) (k : Int) : ((l.drop i).any fun c => c == phV k) = ((c == phV k) || (l.drop (i + 1)).any fun c => c == phV k) := by
  obtain ⟨hi, rfl⟩ := List.getElem?_eq_some_iff.1 h
  rw [List.drop_eq_getElem_cons hi, List.any_cons]
abbrev phT : ByteArray := ⟨#[80, 72, 73, 83, 66]⟩
set_option maxRecDepth 100000 in
set_option maxHeartbeats 8000000 in
theorem rhas1 (l : ByteArray) (q : Nat) (hq : q < 5) (ph : UInt8) (hp : phT[q]'(show q < 5 from hq) = ph) (hph : phV (q : Int) = ph) (hl : l.size ≤ 100) (w : World) : Calls Tryz.prog 92 #[.string l, .int .i64 (q : Int)] w fun r W' => r = .returned (.bool (hsB l (q : Int))) ∧ Kb w W' := by
  have h0 : Hid (hsB l (q : Int) = (l.data.toList.drop 0).any fun c => c == phV (q : Int)) := rfl
  have hlen : l.data.toList.length = l.size := by rw [Array.length_toList]; rfl
  have k0 : (0 : Int) ≤ (q : Int) := by omega
  have k5 : (q : Int) < 5 := by omega
  have HP := Lib.hid hph
  clear hph
  go_enter Tryz.func92, Tryz.ntmps92
  go_wp2
  go_loopg [5] l.size (fun gk s5 wr => ∃ i : Nat, s5 = .int .i64 i ∧ i + gk = l.size ∧ Hid (hsB l (q : Int) = (l.data.toList.drop i).any fun c => c == phV (q : Int)) ∧ Kb w wr)
  case atStart => exact ⟨0, rfl, by omega, h0, Kb.refl _⟩
  case round =>
    obtain ⟨i, rfl, hi, hE, kk⟩ := hrel
    have hi0 : (0 : Int) ≤ (i : Int) := by omega
    by_cases hlt : i < l.size
    · have hil : (i : Int) < (l.size : Int) := by omega
      obtain ⟨c, hci⟩ : ∃ c, l[i]'hlt = c := ⟨_, rfl⟩
      have hc : l.data.toList[i]? = some c := by
        rw [Array.getElem?_toList, Array.getElem?_eq_getElem (show i < l.data.size from hlt)]
        exact congrArg some hci
      have hd := drop_at hc (q : Int)
      rw [HP.out] at hd
      have Hi := Lib.hid hi
      clear hi hc
      rcases Bool.eq_false_or_eq_true ((c.toNat : Int) == (ph.toNat : Int)) with hb | hb
      · have hcp : c = ph := by
          have : c.toNat = ph.toNat := by have := eq_of_beq hb; omega
          exact UInt8.toNat_inj.1 this
        have hEnd : Hid (hsB l (q : Int) = true) := by
          show _ = _
          rw [hE.out, HP.out, hd, hcp, beq_self_eq_true, Bool.true_or]
        clear hd hE hcp
        go_wp2
        go_region
        go_wp2
        go_ret
        exact ⟨by rw [hEnd.out]; rfl, kk.drew⟩
      · have hcp : (c == ph) = false := by
          rw [beq_eq_false_iff_ne] at hb ⊢
          intro e; exact hb (by rw [e])
        have hE2 : Hid (hsB l (q : Int) = (l.data.toList.drop (i + 1)).any fun c => c == phV (q : Int)) := by
          show _ = _
          rw [hE.out, HP.out, hd, hcp, Bool.false_or]
        clear hd hE hcp
        go_wp2
        go_region
        go_wp2
        have hi := Hi.out
        go_roundg (gk - 1)
        case measure => omega
        case rel => exact ⟨i + 1, by go_num, by omega, hE2, kk.drew⟩
    · obtain rfl : i = l.size := by omega
      have hEnd : Hid (hsB l (q : Int) = false) := by
        show _ = _
        rw [hE.out, List.drop_of_length_le (by omega)]; rfl
      clear hi hE
      go_wp2
      go_ret
      exact ⟨by rw [hEnd.out]; rfl, kk⟩
theorem rhas (l : ByteArray) (k : Int) (hk : 0 ≤ k ∧ k < 5) (hl : l.size ≤ 100) : Ca 92 #[.string l, .int .i64 k] (.bool (hsB l k)) := Lib.hid fun w => by
  rcases five hk with rfl | rfl | rfl | rfl | rfl
  · exact rhas1 l 0 (by decide) 80 rfl rfl hl w
  · exact rhas1 l 1 (by decide) 72 rfl rfl hl w
  · exact rhas1 l 2 (by decide) 73 rfl rfl hl w
  · exact rhas1 l 3 (by decide) 83 rfl rfl hl w
  · exact rhas1 l 4 (by decide) 66 rfl rfl hl w
end Go.Proofs.YtlimjohnimgnhaaGreatDoor

/- Frames: the values of the examples. -/
namespace Go.Proofs.YtlimjohnimgnhaaGreatDoor
open Go.RowKit

theorem fc_c0 : fcE ⟨#[72]⟩ 1 2 5000 0 0 1000 1011 1 false 30 0 [] = 14 := by rw [fcE_eq]; decide
theorem fc_c1 : fcE ⟨#[72]⟩ 1 2 5000 0 0 1000 1011 1 true 30 0 [] = 14 := by rw [fcE_eq]; decide
theorem fc_c2 : fcE ⟨#[72]⟩ 1 2 5000 0 0 1000 1011 8 false 0 0 [] = 10 := by rw [fcE_eq]; decide
theorem fc_c3 : fcE ⟨#[72]⟩ 1 2 5000 0 0 1000 1011 8 false 0 1 [(⟨#[65]⟩, 0)] = 0 := by rw [fcE_eq]; decide
theorem fc_c4 : fcE ⟨#[72]⟩ 1 2 5000 0 0 1000 1011 3 false 20 0 [] = 13 := by rw [fcE_eq]; decide
theorem fc_c5 : fcE ⟨#[72]⟩ 1 2 5000 0 0 1000 1011 7 false 20 0 [(⟨#[65]⟩, 0), (⟨#[66]⟩, 0)] = 5 := by rw [fcE_eq]; decide
theorem fc_h : fcE ⟨#[72]⟩ 1 2 5000 0 0 1000 1011 8 true 50 1 [(⟨#[65]⟩, 0), (⟨#[66]⟩, 1)] = 0 := by rw [fcE_eq]; decide
theorem fc_p : fcE ⟨#[72]⟩ 2 2 5000 0 0 1000 1011 8 true 50 1 [(⟨#[65]⟩, 0), (⟨#[66]⟩, 1)] = 0 := by rw [fcE_eq]; decide
theorem fc_q0 : fcE ⟨#[80]⟩ 0 0 0 0 0 0 0 1 false 30 0 [] = 0 := by rw [fcE_eq]; decide
theorem fc_q1 : fcE ⟨#[80]⟩ 0 0 0 0 0 0 0 1 true 30 0 [] = 3 := by rw [fcE_eq]; decide
theorem fv_h : vV ⟨#[72]⟩ 1 2 5000 0 0 1000 1011 8 true 50 1 [(⟨#[65]⟩, 0), (⟨#[66]⟩, 1)] = (950, 0) := by unfold vV; rw [fc_h]; unfold vtV wrap64; decide
theorem fb_h : bV ⟨#[72]⟩ 1 2 5000 0 0 1000 1011 8 true 50 1 [(⟨#[65]⟩, 0), (⟨#[66]⟩, 1)] 1004 = (4, 0) := by unfold bV; rw [fc_h]; unfold btV wrap64; decide
theorem fv_p : vV ⟨#[72]⟩ 2 2 5000 0 0 1000 1011 8 true 50 1 [(⟨#[65]⟩, 0), (⟨#[66]⟩, 1)] = (1061, 0) := by unfold vV; rw [fc_p]; unfold vtV wrap64; decide
theorem fb_p : bV ⟨#[72]⟩ 2 2 5000 0 0 1000 1011 8 true 50 1 [(⟨#[65]⟩, 0), (⟨#[66]⟩, 1)] 1004 = (7, 0) := by unfold bV; rw [fc_p]; unfold btV wrap64; decide
end Go.Proofs.YtlimjohnimgnhaaGreatDoor

/- Features with their frames and datums, opened. -/
namespace Go.Proofs.YtlimjohnimgnhaaGreatDoor
open Go.ChangeShapes Go.WideShapes Go.RowKit Go.Deep

instance : Inhabited FrT := ⟨⟨0, false, 0, 0, []⟩⟩
instance : Inhabited (FrT × Value) := ⟨(default, undef)⟩
section
variable {H : Type} {enc : TypeId × Value → H} {w : World} {base : Nat} {spare : Nat → Bool} {held : Bool} {fuel : Nat} {cs : List Value} {x : DataW H × List MemPlace}
theorem open_dats (h : DataW.trod enc Tryz.prog w base spare held fuel 29 cs = some x) : ∃ (p : Option Addr) (c : Nat) (l : List DatT), cs = [.slice p l.length c] ∧ DatS w (.slice p l.length c) l := by
  have t1 := Tryz.underlying29
  have t2 := Tryz.underlying76
  have t3 := Tryz.underlying9
  have t4 := Tryz.underlying3
  have ce : Tryz.prog.cellsOf 76 = 2 := by kernel_rfl
  have c0 : Tryz.prog.cellsOf 9 = 1 := by kernel_rfl
  have c1 : Tryz.prog.cellsOf 3 = 1 := by kernel_rfl
  generalize Tryz.prog = P at *
  rcases open_slice t1 h with ⟨rfl, _⟩ | ⟨a, len, cap, m, n, D, Pl, rfl, hb, hlx, hm, hmm, rfl, hx⟩
  · exact ⟨none, 0, [], rfl, none, 0, rfl, fun h => absurd h (by simp)⟩
  · have hlm : len ≤ m := by rw [hmm]; split <;> omega
    have each : ∀ i, i < m → ∃ z : DatT, ∀ j, j < 2 → w.cell? (a.add (i * 2 + j)) = some ((datRow z).getD j undef) := by
      intro i hi
      obtain ⟨cs', h1, h2⟩ := hx i hi
      rw [ce] at h1
      obtain ⟨_, hlen, hcell⟩ := World.cells?_some h1
      obtain ⟨xs, k, hk, hxy, _, hxl, hf⟩ := DataW.trod_struct t2 h2
      match xs, hxl, cs', hlen with
      | [y0, y1], _, [v0, v1], _ =>
        have g0 := hf 0 _ rfl
        have g1 := hf 1 _ rfl
        simp [c0, c1] at g0 g1
        obtain ⟨z0, e0, _, _⟩ := DataW.trod_string t3 g0
        obtain ⟨z1, e1, _⟩ := DataW.trod_int t4 g1
        simp at e0 e1
        subst e0 e1
        refine ⟨(z0, z1), fun j hj => ?_⟩
        have := hcell j (by simpa using hj)
        rw [add_add] at this
        rw [this]
        match j, hj with
        | 0, _ => rfl
        | 1, _ => rfl
    obtain ⟨Z, hZ⟩ := Go.Deep.choose_lt each
    obtain ⟨b, off, spot⟩ := a
    have hsp : 0 < len → spot = none ∧ b < w.heap.size := fun h => by
      have h1 := hZ 0 (by omega) 0 (by omega)
      exact ⟨by simpa [Addr.add] using World.cell?_spot h1, World.block_lt_of_cell? w _ h1⟩
    refine ⟨some ⟨b, off, spot⟩, cap, (List.range len).map Z, by simp, some ⟨b, off, spot⟩, cap, by simp, fun h => ?_⟩
    obtain ⟨h1, h2⟩ := hsp (by simpa using h)
    subst h1
    refine ⟨b, off, rfl, h2, by simp, fun i hi j hj => ?_⟩
    have hi' : i < len := by simpa using hi
    have h0 := hZ i (by omega) j hj
    rw [add_plain] at h0
    rw [Nat.add_assoc, h0]
    simp [List.getD_eq_getElem?_getD, hi']
end
end Go.Proofs.YtlimjohnimgnhaaGreatDoor
