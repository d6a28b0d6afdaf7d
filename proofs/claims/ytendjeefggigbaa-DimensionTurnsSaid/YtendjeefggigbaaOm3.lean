/- Paths of dimensions: turned, and in two parts. -/
import Derived.Test.YtendjeefggigbaaOm2
namespace Go.Proofs.Ytendjeefggigbaa
open Go.RowKit

/-- a dimension seen from its other end -/
def tn (d : DimT) : DimT := (d.2.1, d.1, d.2.2.1, -d.2.2.2.2, -d.2.2.2.1)
theorem tn_tn (d : DimT) : tn (tn d) = d := by
  obtain ⟨f, t, a, l, h⟩ := d
  simp [tn]
theorem beq_symm {x y : List UInt8} (h : (x == y) = true) : (y == x) = true := by
  have := eq_of_beq h
  rw [this]; exact beq_self_eq_true _
theorem beq_symm_f {x y : List UInt8} (h : (x == y) = false) : (y == x) = false := by
  rcases Bool.eq_false_or_eq_true (y == x) with e | e
  · rw [beq_symm e] at h; cases h
  · exact e
theorem vdD_tn {d : DimT} (h : vdD d = 0) : vdD (tn d) = 0 := by
  obtain ⟨a1, a2, a3, a4, a5, a6⟩ := vdD_0 h
  obtain ⟨c1, c2, c3⟩ := lmE_0 a6
  exact vdD_mk a2 a1 (beq_symm_f a3) a4 a5 (lmE_ok ⟨by show -100000 ≤ -d.2.2.2.2; omega, by show -d.2.2.2.2 ≤ 100000; omega⟩ ⟨by show -100000 ≤ -d.2.2.2.1; omega, by show -d.2.2.2.1 ≤ 100000; omega⟩ (by show -d.2.2.2.2 ≤ -d.2.2.2.1; omega))
theorem sumL_congr {d e : Nat → DimT} : ∀ k, (∀ i, i ≤ k → d i = e i) → sumL d k = sumL e k
  | 0, h => by unfold sumL; rw [h 0 (Nat.le_refl _)]
  | k + 1, h => by unfold sumL; rw [h (k + 1) (Nat.le_refl _), sumL_congr k (fun i hi => h i (by omega))]
theorem sumH_congr {d e : Nat → DimT} : ∀ k, (∀ i, i ≤ k → d i = e i) → sumH d k = sumH e k
  | 0, h => by unfold sumH; rw [h 0 (Nat.le_refl _)]
  | k + 1, h => by unfold sumH; rw [h (k + 1) (Nat.le_refl _), sumH_congr k (fun i hi => h i (by omega))]
theorem ch_congr {d e : Nat → DimT} (k : Nat) (h : ∀ i, i ≤ k → d i = e i) : ch d k = ch e k := by
  unfold ch
  rw [h 0 (Nat.zero_le _), h k (Nat.le_refl _), sumL_congr k h, sumH_congr k h]
theorem sumL_shift (d : Nat → DimT) : ∀ k, sumL d (k + 1) = (d 0).2.2.2.1 + sumL (fun i => d (i + 1)) k
  | 0 => rfl
  | k + 1 => by
    rw [show sumL d (k + 1 + 1) = sumL d (k + 1) + (d (k + 1 + 1)).2.2.2.1 from rfl, sumL_shift d k]
    show _ = _ + (sumL (fun i => d (i + 1)) k + (d (k + 1 + 1)).2.2.2.1)
    omega
theorem sumH_shift (d : Nat → DimT) : ∀ k, sumH d (k + 1) = (d 0).2.2.2.2 + sumH (fun i => d (i + 1)) k
  | 0 => rfl
  | k + 1 => by
    rw [show sumH d (k + 1 + 1) = sumH d (k + 1) + (d (k + 1 + 1)).2.2.2.2 from rfl, sumH_shift d k]
    show _ = _ + (sumH (fun i => d (i + 1)) k + (d (k + 1 + 1)).2.2.2.2)
    omega
theorem sumL_rev (d : Nat → DimT) : ∀ n, sumL (fun i => tn (d (n - i))) n = -sumH d n
  | 0 => rfl
  | n + 1 => by
    rw [sumL_shift, sumL_congr (e := fun i => tn (d (n - i))) n (fun i hi => by show tn (d (n + 1 - (i + 1))) = tn (d (n - i)); rw [show n + 1 - (i + 1) = n - i by omega]), sumL_rev d n]
    show -(d (n + 1 - 0)).2.2.2.2 + -sumH d n = -(sumH d n + (d (n + 1)).2.2.2.2)
    rw [Nat.sub_zero]; omega
theorem sumH_rev (d : Nat → DimT) : ∀ n, sumH (fun i => tn (d (n - i))) n = -sumL d n
  | 0 => rfl
  | n + 1 => by
    rw [sumH_shift, sumH_congr (e := fun i => tn (d (n - i))) n (fun i hi => by show tn (d (n + 1 - (i + 1))) = tn (d (n - i)); rw [show n + 1 - (i + 1) = n - i by omega]), sumH_rev d n]
    show -(d (n + 1 - 0)).2.2.2.1 + -sumL d n = -(sumL d n + (d (n + 1)).2.2.2.1)
    rw [Nat.sub_zero]; omega
theorem sumL_split (d : Nat → DimT) (k : Nat) : ∀ m, sumL d k + sumL (fun i => d (k + 1 + i)) m = sumL d (k + 1 + m)
  | 0 => rfl
  | m + 1 => by
    have := sumL_split d k m
    show sumL d k + (sumL (fun i => d (k + 1 + i)) m + (d (k + 1 + (m + 1))).2.2.2.1) = sumL d (k + 1 + m) + (d (k + 1 + m + 1)).2.2.2.1
    rw [← this, show k + 1 + (m + 1) = k + 1 + m + 1 by omega]; omega
theorem sumH_split (d : Nat → DimT) (k : Nat) : ∀ m, sumH d k + sumH (fun i => d (k + 1 + i)) m = sumH d (k + 1 + m)
  | 0 => rfl
  | m + 1 => by
    have := sumH_split d k m
    show sumH d k + (sumH (fun i => d (k + 1 + i)) m + (d (k + 1 + (m + 1))).2.2.2.2) = sumH d (k + 1 + m) + (d (k + 1 + m + 1)).2.2.2.2
    rw [← this, show k + 1 + (m + 1) = k + 1 + m + 1 by omega]; omega
theorem turns_valid {ds : List DimT} (h : (path ds).2 = 0) : vdD (path ds).1 = 0 := by
  obtain ⟨hn, _, _, _, _, hp, hk⟩ := path_ok h
  rw [hp]
  exact (hk _ (by omega)).1
theorem turns_back {ds bs : List DimT} (h : (path ds).2 = 0) (hl : bs.length = ds.length) (hb : ∀ i, i < ds.length → gD bs i = tn (gD ds (ds.length - 1 - i))) :
    path bs = (tn (path ds).1, 0) ∨ path bs = (dim0, 7) ∨ path bs = (dim0, 2) := by
  obtain ⟨hn, hm, hv, hc, hz, hp, hk⟩ := path_ok h
  have hbv : ∀ i, i < bs.length → vdD (gD bs i) = 0 := fun i hi => by
    rw [hb i (by omega)]; exact vdD_tn (hv _ (by omega))
  have hbc : ∀ i, i + 1 < bs.length → Beh (gD bs i) (gD bs (i + 1)) := fun i hi => by
    rw [hb i (by omega), hb (i + 1) (by omega)]
    obtain ⟨c1, c2⟩ := hc (ds.length - 1 - (i + 1)) (by omega)
    rw [show ds.length - 1 - (i + 1) + 1 = ds.length - 1 - i by omega] at c1 c2
    exact ⟨c1.symm, beq_symm c2⟩
  rcases path_chain (by omega) (by omega) hbv hbc with ⟨e, _⟩ | e | e
  · refine .inl ?_
    rw [e, hp, hl]
    have hch : ch (gD bs) (ds.length - 1) = ch (fun i => tn (gD ds (ds.length - 1 - i))) (ds.length - 1) := ch_congr _ (fun i hi => hb i (by omega))
    rw [hch]
    show (((gD ds (ds.length - 1 - 0)).2.1, (gD ds (ds.length - 1 - (ds.length - 1))).1, (gD ds (ds.length - 1 - 0)).2.2.1, sumL (fun i => tn (gD ds (ds.length - 1 - i))) (ds.length - 1), sumH (fun i => tn (gD ds (ds.length - 1 - i))) (ds.length - 1)), (0 : Int)) = _
    rw [sumL_rev, sumH_rev, Nat.sub_zero, Nat.sub_self, ← (hk (ds.length - 1) (by omega)).2]
    rfl
  · exact .inr (.inl e)
  · exact .inr (.inr e)
theorem gD_take (ds : List DimT) {k i : Nat} (h : i < k) : gD (ds.take k) i = gD ds i := by
  unfold gD
  simp [List.getD_eq_getElem?_getD, List.getElem?_take, h]
theorem gD_drop (ds : List DimT) (k i : Nat) : gD (ds.drop k) i = gD ds (k + i) := by
  unfold gD
  simp [List.getD_eq_getElem?_getD, List.getElem?_drop]
theorem st_take (ds : List DimT) {k : Nat} (hk : 0 < k) : ∀ j, j < k → st (ds.take k) j = st ds j
  | 0, h => by
    have := gD_take ds hk
    unfold gD at this
    unfold st
    rw [this]
  | j + 1, h => by rw [st_succ, st_succ, st_take ds hk j (by omega), gD_take ds h]
theorem turns_first {ds : List DimT} {k : Nat} (h : (path ds).2 = 0) (h1 : 0 < k) (h2 : k < ds.length) : path (ds.take k) = (ch (gD ds) (k - 1), 0) := by
  obtain ⟨hn, hm, hv, hc, hz, hp, hk⟩ := path_ok h
  have hl : (ds.take k).length = k := by rw [List.length_take]; omega
  have hq := path_k (pathE_k (ds := ds.take k) (vals_all fun i hi => by rw [gD_take ds (by omega)]; exact hv i (by omega)) (by omega) (by omega))
  rw [hq, hl, pathG_ok _ _ 0 (fun j a b => by rw [st_take ds h1 j (by omega)]; exact hz j (by omega)), Nat.zero_add, st_take ds h1 (k - 1) (by omega), (st_ok hz hv (k - 1) (by omega)).1]
theorem turns_rest {ds : List DimT} {k : Nat} (h : (path ds).2 = 0) (h1 : 0 < k) (h2 : k < ds.length) :
    ((path (ds.drop k)).2 = 0 ∧ jnD (path (ds.take k)).1 (path (ds.drop k)).1 = ((path ds).1, 0)) ∨ (path (ds.drop k)).2 = 7 ∨ (path (ds.drop k)).2 = 2 := by
  obtain ⟨hn, hm, hv, hc, hz, hp, hk⟩ := path_ok h
  have hl : (ds.drop k).length = ds.length - k := List.length_drop
  rcases path_chain (ds := ds.drop k) (by omega) (by omega) (fun i hi => by rw [gD_drop]; exact hv _ (by omega)) (fun i hi => by rw [gD_drop, gD_drop]; exact hc (k + i) (by omega)) with ⟨e, hve⟩ | e | e
  · refine .inl ⟨by rw [e], ?_⟩
    rw [hl] at e hve
    have hce : ch (gD (ds.drop k)) (ds.length - k - 1) = ch (fun i => gD ds (k - 1 + 1 + i)) (ds.length - k - 1) := ch_congr _ (fun i _ => by rw [gD_drop]; show _ = gD ds (k - 1 + 1 + i); rw [show k - 1 + 1 = k by omega])
    rw [e, turns_first h h1 h2, hp]
    rw [hce] at hve ⊢
    obtain ⟨c1, c2⟩ := hc (k - 1) (by omega)
    have hx := vdD_0 (hk (ds.length - 1) (by omega)).1
    have hsL := sumL_split (gD ds) (k - 1) (ds.length - k - 1)
    have hsH := sumH_split (gD ds) (k - 1) (ds.length - k - 1)
    rw [show k - 1 + 1 + (ds.length - k - 1) = ds.length - 1 by omega] at hsL hsH
    have hlast : gD ds (k - 1 + 1 + (ds.length - k - 1)) = gD ds (ds.length - 1) := by rw [show k - 1 + 1 + (ds.length - k - 1) = ds.length - 1 by omega]
    have hr := lmE_0 hx.2.2.2.2.2
    have hfact := jn_fact (hk (k - 1) (by omega)).1 hve (show (gD ds 0).2.2.1 = (gD ds (k - 1 + 1 + 0)).2.2.1 from (hk (k - 1) (by omega)).2.trans c1) c2
    have hto : (ch (fun i => gD ds (k - 1 + 1 + i)) (ds.length - k - 1)).2.1 = (gD ds (ds.length - 1)).2.1 := by
      show (gD ds (k - 1 + 1 + (ds.length - k - 1))).2.1 = _; rw [hlast]
    have hL : (ch (gD ds) (k - 1)).2.2.2.1 + (ch (fun i => gD ds (k - 1 + 1 + i)) (ds.length - k - 1)).2.2.2.1 = sumL (gD ds) (ds.length - 1) := hsL
    have hH : (ch (gD ds) (k - 1)).2.2.2.2 + (ch (fun i => gD ds (k - 1 + 1 + i)) (ds.length - k - 1)).2.2.2.2 = sumH (gD ds) (ds.length - 1) := hsH
    have hjn : jn (ch (gD ds) (k - 1)) (ch (fun i => gD ds (k - 1 + 1 + i)) (ds.length - k - 1)) = ch (gD ds) (ds.length - 1) := by
      unfold jn
      rw [hL, hH, hto]
      rfl
    rcases hfact with ⟨e1, _⟩ | ⟨_, e1, _⟩ | ⟨_, _, e1, _⟩
    · rw [hto] at e1
      have h3 : ((gD ds 0).1.toList == (gD ds (ds.length - 1)).2.1.toList) = false := hx.2.2.1
      have h4 : ((gD ds 0).1.toList == (gD ds (ds.length - 1)).2.1.toList) = true := e1
      rw [h3] at h4; cases h4
    · rw [hL, hH] at e1
      exact absurd ⟨hr.1.1, hr.2.1.2⟩ e1
    · rw [e1, hjn]
  · exact .inr (.inl (by rw [e]))
  · exact .inr (.inr (by rw [e]))
end Go.Proofs.Ytendjeefggigbaa
