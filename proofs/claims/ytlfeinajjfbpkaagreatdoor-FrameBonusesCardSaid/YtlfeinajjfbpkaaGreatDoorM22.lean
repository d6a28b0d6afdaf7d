/- Texts Un9: each says in its own first comment what it proves. -/
import Derived.Test.YtlfeinajjfbpkaaGreatDoorM04
/- Frames: the law FrameBonuses. -/
namespace Go.Proofs.YtlfeinajjfbpkaaGreatDoor
open Go.RowKit

theorem fcE_k {n : ByteArray} {k a x y z lo hi fk ft fm : Int} {fd : Bool} {ds : List DatT} (h : fcE n k a x y z lo hi fk fd ft fm ds = 0) (hm : fm ≠ 0) : k ≠ 0 := by
  have ht := (fst_z (fst_z (fst_z h).2).2).1
  obtain ⟨e1, e2⟩ := fcE_z h
  have hf := fpE_k e2
  have hk := ft_k e1
  obtain ⟨q, rfl⟩ : ∃ q : Nat, k = (q : Int) := ⟨k.toNat, by omega⟩
  obtain ⟨_, _, h3, _, _⟩ := bits_letters fk.toNat (by omega) q (by omega)
  unfold tgE at ht
  have h4 := fE_z (by decide) (fst_z (fst_z (fst_z (fst_z ht).2).2).2).1
  rw [h3] at h4
  intro h0
  have hq : q = 0 := by omega
  subst hq
  have h5 : (fm != 0) = true := by simpa using hm
  rw [h5] at h4
  revert h4
  unfold mmB
  simp
theorem exV_in {n : ByteArray} {k a x y z lo hi fm : Int} (e1 : ftE n k a x y z lo hi = 0) (hk : k ≠ 0) : exV n k a x y z lo hi fm = if (fm == 1) = true then (if holB k = true then lo else hi) else (if holB k = true then hi else lo) := by
  unfold exV szdE zI
  rw [if_pos e1, if_neg hk]
  simp
theorem vV_in {n : ByteArray} {k a x y z lo hi fk ft fm : Int} {fd : Bool} {ds : List DatT} {E : Int} (h : fcE n k a x y z lo hi fk fd ft fm ds = 0) (hm : fm ≠ 0) (hE : exV n k a x y z lo hi fm = E) (hb : 0 ≤ E ∧ E ≤ 100000) : vV n k a x y z lo hi fk fd ft fm ds = (if holB k = (fm == 1) then E - ft else E + ft, 0) := by
  obtain ⟨e1, e2⟩ := fcE_z h
  obtain ⟨_, ht⟩ := fpE_m e2
  have hm2 : ¬ (fm == 0) = true := by simpa using hm
  unfold vV vtV
  rw [h, hE, if_neg (by decide), if_neg hm2, if_pos e1, w64_in (z := E - ft) (by omega), w64_in (z := E + ft) (by omega)]
  cases holB k <;> cases (fm == 1) <;> rfl
theorem bV_in {n : ByteArray} {k a x y z lo hi fk ft fm : Int} {fd : Bool} {ds : List DatT} {E s : Int} (h : fcE n k a x y z lo hi fk fd ft fm ds = 0) (hm : fm ≠ 0) (hE : exV n k a x y z lo hi fm = E) (hl : 1 ≤ lo ∧ lo ≤ hi ∧ hi ≤ 100000) (hb : lo ≤ E ∧ E ≤ hi) (hs : lo ≤ s ∧ s ≤ hi) : bV n k a x y z lo hi fk fd ft fm ds s = (max (s - E) (E - s), 0) := by
  have hm2 : ¬ (fm == 0) = true := by simpa using hm
  have hk2 : ¬ (k == 0) = true := by simpa using fcE_k h hm
  unfold bV btV
  rw [h, hE, if_neg (by decide), if_neg hk2, lmE_ok (by omega) (by omega) hl.2.1, if_neg hm2, w64_in (z := s - E) (by omega), show -(s - E) = E - s by omega, w64_in (z := E - s) (by omega)]
  rw [if_pos (show zB 0 (decide (lo ≤ s) && decide (s ≤ hi)) = true by rw [decide_eq_true hs.1, decide_eq_true hs.2]; rfl)]
theorem cFrameBonuses (n : ByteArray) (k a x y z lo hi : Int) (fp : Option Addr) (fl fc : Nat) (fk : Int) (fd : Bool) (ft fm : Int) (dp : Option Addr) (dl dc : Nat) (ds : List DatT) (u : Int) (hu : 0 ≤ u ∧ u ≤ 65535) (fs : List FrT) (w : World) (gl : Gf w w) (hfr : FrS w (.slice fp fl fc) fs) (hd : DatS w (.slice dp dl dc) ds) (hcd : dl ≤ dc) : Calls Tryz.prog 8 #[.agg #[.string n, .int .i64 k, .int .i64 a, .int .i64 x, .int .i64 y, .int .i64 z, .int .i64 lo, .int .i64 hi, .slice fp fl fc], .agg #[.int .i64 fk, .bool fd, .int .i64 ft, .int .i64 fm, .slice dp dl dc], .int .u16 u] w fun r W' => r = .returned (.bool true) ∧ Kb w W' := by
  rcases Bool.eq_false_or_eq_true (fewB n fs) with h1 | h1
  case inr => exact lbA_1 w n k a x y z lo hi fp fl fc fk fd ft fm dp dl dc u fs ds hfr hd hcd h1 w gl
  rcases Bool.eq_false_or_eq_true (fewX fk fd ft fm ds) with h2 | h2
  case inr => exact lbB_1 w n k a x y z lo hi fp fl fc fk fd ft fm dp dl dc u fs ds hfr hd hcd h1 h2 w gl
  obtain ⟨hq3, hz⟩ := fewX_len h2
  have hnz := few_n2 h1
  have hdn : dl ≤ 100000 := by have := hd.len; omega
  rcases Bool.eq_false_or_eq_true (fcE n k a x y z lo hi fk fd ft fm ds != 0) with hfc | hfc
  · exact lbC_1 w n k a x y z lo hi fp fl fc fk fd ft fm dp dl dc u fs ds hfr hd hcd h1 h2 hnz hdn hz hfc w gl
  rcases Bool.eq_false_or_eq_true (fm == 0) with hf0 | hf0
  · exact lbE_1 w n k a x y z lo hi fp fl fc fk fd ft fm dp dl dc u fs ds hfr hd hcd h1 h2 hnz hdn hz hfc hf0 w gl
  have h3 : fcE n k a x y z lo hi fk fd ft fm ds = 0 := by simpa using hfc
  have hm : fm ≠ 0 := by simpa using hf0
  have hk := fcE_k h3 hm
  obtain ⟨e1, e2⟩ := fcE_z h3
  obtain ⟨hfm, ht⟩ := fpE_m e2
  have hl := ft_lim2 e1 hk
  obtain ⟨r, hr⟩ : ∃ r, u.tmod (hi - lo + 1) = r := ⟨_, rfl⟩
  have hr0 : 0 ≤ r := by rw [← hr]; exact Int.tmod_nonneg _ hu.1
  have hr1 : r < hi - lo + 1 := by rw [← hr]; exact Int.tmod_lt_of_pos _ (by omega)
  obtain ⟨s, hsr⟩ : ∃ s, lo + r = s := ⟨_, rfl⟩
  have hs : lo ≤ s ∧ s ≤ hi := by omega
  have hcv : IntKind.i64.wrap u = u := IntWalk.i64_in u (by omega)
  have qh := rHas lo hi s
  rw [show hasB lo hi s = true by unfold hasB; rw [decide_eq_true hs.1, decide_eq_true hs.2]; rfl] at qh
  rcases hfm with rfl | rfl | rfl
  · exact absurd rfl hm
  · rcases Bool.eq_false_or_eq_true (holB k) with hb | hb
    · have hE := exV_in (fm := 1) e1 hk
      rw [hb] at hE
      replace hE : exV n k a x y z lo hi 1 = lo := hE
      have qv := frVirtual n k a x y z lo hi fp fl fc fk fd ft 1 dp dl dc ds hnz hd hcd hdn hz
      rw [vV_in h3 (by decide) hE (by omega), hb, if_pos (by decide)] at qv
      have qb := frBonus n k a x y z lo hi fp fl fc fk fd ft 1 dp dl dc ds s hnz hd hcd hdn hz
      rw [bV_in h3 (by decide) hE hl (by omega) hs, show max (s - lo) (lo - s) = s - lo by omega] at qb
      have qi := (fInner n k a x y z lo hi fp fl fc hnz).cf (w0 := w)
      rw [if_pos e1, e1, hb] at qi
      exact lbP_1 w n k a x y z lo hi fp fl fc fk fd ft 1 dp dl dc u (lo - ft) (s - lo) (hi - lo) (hi - lo + 1) r s (s - ft) (s - ft - (s - lo)) (w64_in (by omega)) (w64_in (by omega)) hr (by rw [← hsr]; exact w64_in (by omega)) (w64_in (by omega)) (w64_in (by omega)) qv qb qi qh fs ds hfr hd hcd h1 h2 hnz hdn hz hfc (by decide) (by decide) (by simpa using (show s - ft - (s - lo) = lo - ft by omega)) hcv (by omega) (by omega) (by omega) w gl
    · have hE := exV_in (fm := 1) e1 hk
      rw [hb] at hE
      replace hE : exV n k a x y z lo hi 1 = hi := hE
      have qv := frVirtual n k a x y z lo hi fp fl fc fk fd ft 1 dp dl dc ds hnz hd hcd hdn hz
      rw [vV_in h3 (by decide) hE (by omega), hb, if_neg (by decide)] at qv
      have qb := frBonus n k a x y z lo hi fp fl fc fk fd ft 1 dp dl dc ds s hnz hd hcd hdn hz
      rw [bV_in h3 (by decide) hE hl (by omega) hs, show max (s - hi) (hi - s) = hi - s by omega] at qb
      have qi := (fInner n k a x y z lo hi fp fl fc hnz).cf (w0 := w)
      rw [if_pos e1, e1, hb] at qi
      exact lbR_1 w n k a x y z lo hi fp fl fc fk fd ft 1 dp dl dc u (hi + ft) (hi - s) (hi - lo) (hi - lo + 1) r s (s + ft) (s + ft + (hi - s)) (w64_in (by omega)) (w64_in (by omega)) hr (by rw [← hsr]; exact w64_in (by omega)) (w64_in (by omega)) (w64_in (by omega)) qv qb qi qh fs ds hfr hd hcd h1 h2 hnz hdn hz hfc (by decide) (by decide) (by simpa using (show s + ft + (hi - s) = hi + ft by omega)) hcv (by omega) (by omega) (by omega) w gl
  · rcases Bool.eq_false_or_eq_true (holB k) with hb | hb
    · have hE := exV_in (fm := 2) e1 hk
      rw [hb] at hE
      replace hE : exV n k a x y z lo hi 2 = hi := hE
      have qv := frVirtual n k a x y z lo hi fp fl fc fk fd ft 2 dp dl dc ds hnz hd hcd hdn hz
      rw [vV_in h3 (by decide) hE (by omega), hb, if_neg (by decide)] at qv
      have qb := frBonus n k a x y z lo hi fp fl fc fk fd ft 2 dp dl dc ds s hnz hd hcd hdn hz
      rw [bV_in h3 (by decide) hE hl (by omega) hs, show max (s - hi) (hi - s) = hi - s by omega] at qb
      have qi := (fInner n k a x y z lo hi fp fl fc hnz).cf (w0 := w)
      rw [if_pos e1, e1, hb] at qi
      exact lbQ_1 w n k a x y z lo hi fp fl fc fk fd ft 2 dp dl dc u (hi + ft) (hi - s) (hi - lo) (hi - lo + 1) r s (s + ft) (s + ft + (hi - s)) (w64_in (by omega)) (w64_in (by omega)) hr (by rw [← hsr]; exact w64_in (by omega)) (w64_in (by omega)) (w64_in (by omega)) qv qb qi qh fs ds hfr hd hcd h1 h2 hnz hdn hz hfc (by decide) (by decide) (by simpa using (show s + ft + (hi - s) = hi + ft by omega)) hcv (by omega) (by omega) (by omega) w gl
    · have hE := exV_in (fm := 2) e1 hk
      rw [hb] at hE
      replace hE : exV n k a x y z lo hi 2 = lo := hE
      have qv := frVirtual n k a x y z lo hi fp fl fc fk fd ft 2 dp dl dc ds hnz hd hcd hdn hz
      rw [vV_in h3 (by decide) hE (by omega), hb, if_pos (by decide)] at qv
      have qb := frBonus n k a x y z lo hi fp fl fc fk fd ft 2 dp dl dc ds s hnz hd hcd hdn hz
      rw [bV_in h3 (by decide) hE hl (by omega) hs, show max (s - lo) (lo - s) = s - lo by omega] at qb
      have qi := (fInner n k a x y z lo hi fp fl fc hnz).cf (w0 := w)
      rw [if_pos e1, e1, hb] at qi
      exact lbS_1 w n k a x y z lo hi fp fl fc fk fd ft 2 dp dl dc u (lo - ft) (s - lo) (hi - lo) (hi - lo + 1) r s (s - ft) (s - ft - (s - lo)) (w64_in (by omega)) (w64_in (by omega)) hr (by rw [← hsr]; exact w64_in (by omega)) (w64_in (by omega)) (w64_in (by omega)) qv qb qi qh fs ds hfr hd hcd h1 h2 hnz hdn hz hfc (by decide) (by decide) (by simpa using (show s - ft - (s - lo) = lo - ft by omega)) hcv (by omega) (by omega) (by omega) w gl
end Go.Proofs.YtlfeinajjfbpkaaGreatDoor
