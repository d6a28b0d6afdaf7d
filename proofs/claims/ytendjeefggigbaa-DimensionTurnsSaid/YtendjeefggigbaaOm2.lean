/- Paths of dimensions: chains, each beginning where the one before ends. -/
import Derived.Test.YtendjeefggigbaaOm1
namespace Go.Proofs.Ytendjeefggigbaa
open Go.RowKit

def sumL (d : Nat → DimT) : Nat → Int
  | 0 => (d 0).2.2.2.1
  | k + 1 => sumL d k + (d (k + 1)).2.2.2.1
def sumH (d : Nat → DimT) : Nat → Int
  | 0 => (d 0).2.2.2.2
  | k + 1 => sumH d k + (d (k + 1)).2.2.2.2
def ch (d : Nat → DimT) (k : Nat) : DimT := ((d 0).1, (d k).2.1, (d 0).2.2.1, sumL d k, sumH d k)
theorem ch_0 (d : Nat → DimT) : ch d 0 = d 0 := rfl
theorem ch_succ (d : Nat → DimT) (k : Nat) : jn (ch d k) (d (k + 1)) = ch d (k + 1) := rfl
def gD (ds : List DimT) (i : Nat) : DimT := ds.getD i dim0
/-- two dimensions, the second one behind the first -/
def Beh (x y : DimT) : Prop := x.2.2.1 = y.2.2.1 ∧ (x.2.1.toList == y.1.toList) = true
theorem st_succ (ds : List DimT) (k : Nat) : st ds (k + 1) = jnD (st ds k).1 (gD ds (k + 1)) := rfl
theorem st_chain {ds : List DimT} {n : Nat} (hv : ∀ i, i < n → vdD (gD ds i) = 0) (hc : ∀ i, i + 1 < n → Beh (gD ds i) (gD ds (i + 1))) : ∀ k, k < n →
    ((∀ j, j ≤ k → (st ds j).2 = 0) ∧ (st ds k).1 = ch (gD ds) k ∧ vdD (ch (gD ds) k) = 0 ∧ (gD ds 0).2.2.1 = (gD ds k).2.2.1) ∨ ∃ j, 0 < j ∧ j ≤ k ∧ (∀ i, i < j → (st ds i).2 = 0) ∧ ((st ds j).2 = 7 ∨ (st ds j).2 = 2)
  | 0, h => .inl ⟨fun j hj => by rw [Nat.le_zero.1 hj]; rfl, rfl, hv 0 h, rfl⟩
  | k + 1, h => by
    rcases st_chain hv hc k (by omega) with ⟨h1, h2, h3, h4⟩ | ⟨j, h1, h2, h3, h4⟩
    · obtain ⟨b1, b2⟩ := hc k h
      have hf := jn_fact h3 (hv (k + 1) h) (show (gD ds 0).2.2.1 = _ from h4.trans b1) b2
      have hs := st_succ ds k
      rw [h2] at hs
      rcases hf with ⟨_, e⟩ | ⟨_, _, e⟩ | ⟨_, _, e, hvn⟩
      · exact .inr ⟨k + 1, by omega, Nat.le_refl _, fun i hi => h1 i (by omega), .inl (by rw [hs]; exact e)⟩
      · exact .inr ⟨k + 1, by omega, Nat.le_refl _, fun i hi => h1 i (by omega), .inr (by rw [hs]; exact e)⟩
      · refine .inl ⟨fun j hj => ?_, by rw [hs, e]; rfl, hvn, h4.trans b1⟩
        by_cases e2 : j = k + 1
        · subst e2; rw [hs, e]
        · exact h1 j (by omega)
    · exact .inr ⟨j, h1, by omega, h3, h4⟩
theorem st_ok {ds : List DimT} {n : Nat} (hz : ∀ j, j < n → (st ds j).2 = 0) (hv : ∀ i, i < n → vdD (gD ds i) = 0) : ∀ k, k < n →
    (st ds k).1 = ch (gD ds) k ∧ vdD (ch (gD ds) k) = 0 ∧ (gD ds 0).2.2.1 = (gD ds k).2.2.1 ∧ ∀ i, i + 1 ≤ k → Beh (gD ds i) (gD ds (i + 1))
  | 0, h => ⟨rfl, hv 0 h, rfl, fun i hi => by omega⟩
  | k + 1, h => by
    obtain ⟨h2, h3, h4, h5⟩ := st_ok hz hv k (by omega)
    have hs := st_succ ds k
    rw [h2] at hs
    have h0 := hz (k + 1) h
    rw [hs] at h0
    obtain ⟨_, _, c3, c4⟩ := jn_conv h0
    have b1 : (gD ds k).2.2.1 = (gD ds (k + 1)).2.2.1 := h4.symm.trans c3
    have hb : Beh (gD ds k) (gD ds (k + 1)) := ⟨b1, c4⟩
    rcases jn_fact h3 (hv (k + 1) h) c3 c4 with ⟨_, e⟩ | ⟨_, _, e⟩ | ⟨_, _, e, hvn⟩
    · rw [e] at h0; cases h0
    · rw [e] at h0; cases h0
    · refine ⟨by rw [hs, e]; rfl, hvn, h4.trans b1, fun i hi => ?_⟩
      by_cases e2 : i = k
      · subst e2; exact hb
      · exact h5 i (by omega)
theorem firstE_all : ∀ {l : List Int}, (∀ e ∈ l, e = 0) → firstE l = 0
  | [], _ => rfl
  | e :: l, h => by rw [h e (by simp), fst_0]; exact firstE_all fun x hx => h x (by simp [hx])
theorem firstE_each : ∀ {l : List Int}, firstE l = 0 → ∀ e ∈ l, e = 0
  | [], _, e, he => by cases he
  | x :: l, h, e, he => by
    by_cases hx : x = 0
    · subst hx
      rw [fst_0] at h
      rcases List.mem_cons.1 he with rfl | h2
      · rfl
      · exact firstE_each h e h2
    · rw [fst_e hx] at h; exact absurd h hx
theorem vals_all {ds : List DimT} (h : ∀ i, i < ds.length → vdD (gD ds i) = 0) : firstE (ds.map vdD) = 0 := firstE_all fun e he => by
  obtain ⟨d, hd, rfl⟩ := List.mem_map.1 he
  obtain ⟨i, hi, rfl⟩ := List.getElem_of_mem hd
  have := h i hi
  unfold gD at this
  rwa [List.getD_eq_getElem?_getD, List.getElem?_eq_getElem hi] at this
theorem vals_each {ds : List DimT} (h : firstE (ds.map vdD) = 0) (i : Nat) (hi : i < ds.length) : vdD (gD ds i) = 0 := by
  refine firstE_each h _ (List.mem_map.2 ⟨ds[i], List.getElem_mem hi, ?_⟩)
  unfold gD
  rw [List.getD_eq_getElem?_getD, List.getElem?_eq_getElem hi]
  rfl
theorem pathG_0 (ds : List DimT) : ∀ g k, (pathG ds g k).2 = 0 → ∀ j, k < j → j ≤ k + g → (st ds j).2 = 0
  | 0, _, _, j, h1, h2 => by omega
  | g + 1, k, h, j, h1, h2 => by
    unfold pathG at h
    by_cases e : (st ds (k + 1)).2 = 0
    · rw [if_pos e] at h
      by_cases ej : j = k + 1
      · subst ej; exact e
      · exact pathG_0 ds g (k + 1) h j (by omega) (by omega)
    · rw [if_neg e] at h; exact absurd h e
/-- the dimension of a path of chained dimensions -/
theorem path_chain {ds : List DimT} (hn : 0 < ds.length) (hm : ds.length ≤ 256) (hv : ∀ i, i < ds.length → vdD (gD ds i) = 0) (hc : ∀ i, i + 1 < ds.length → Beh (gD ds i) (gD ds (i + 1))) :
    (path ds = (ch (gD ds) (ds.length - 1), 0) ∧ vdD (ch (gD ds) (ds.length - 1)) = 0) ∨ path ds = (dim0, 7) ∨ path ds = (dim0, 2) := by
  have hp := path_k (pathE_k (vals_all hv) (by omega) (by omega))
  rcases st_chain hv hc (ds.length - 1) (by omega) with ⟨h1, h2, h3, _⟩ | ⟨j, h1, h2, h3, h4⟩
  · refine .inl ⟨?_, h3⟩
    rw [hp, pathG_ok ds _ 0 (fun j a b => h1 j (by omega)), Nat.zero_add, h2]
  · have hne : (st ds j).2 ≠ 0 := by rcases h4 with h | h <;> rw [h] <;> decide
    have := pathG_er ds (ds.length - 1) 0 j h1 (by omega) (fun i a b => h3 i b) hne
    rcases h4 with h | h
    · exact .inr (.inl (by rw [hp, this, h]))
    · exact .inr (.inr (by rw [hp, this, h]))
theorem path_ok {ds : List DimT} (h : (path ds).2 = 0) : 0 < ds.length ∧ ds.length ≤ 256 ∧ (∀ i, i < ds.length → vdD (gD ds i) = 0) ∧ (∀ i, i + 1 < ds.length → Beh (gD ds i) (gD ds (i + 1))) ∧ (∀ j, j < ds.length → (st ds j).2 = 0) ∧
    path ds = (ch (gD ds) (ds.length - 1), 0) ∧ ∀ k, k < ds.length → vdD (ch (gD ds) k) = 0 ∧ (gD ds 0).2.2.1 = (gD ds k).2.2.1 := by
  have hE : pathE ds = 0 := by
    by_cases e : pathE ds = 0
    · exact e
    · rw [path_e rfl e] at h; exact absurd h e
  have hF : firstE (ds.map vdD) = 0 := by
    by_cases e : firstE (ds.map vdD) = 0
    · exact e
    · rw [pathE_er e] at hE; exact absurd hE e
  have hn : 0 < ds.length := by
    rcases Nat.eq_zero_or_pos ds.length with e | e
    · rw [pathE_0 hF e] at hE; cases hE
    · exact e
  have hm : ds.length ≤ 256 := by
    rcases Nat.lt_or_ge 256 ds.length with e | e
    · rw [pathE_m hF (by omega) e] at hE; cases hE
    · exact e
  have hv := vals_each hF
  have hp := path_k hE
  have hz : ∀ j, j < ds.length → (st ds j).2 = 0 := fun j hj => by
    rw [hp] at h
    rcases Nat.eq_zero_or_pos j with e | e
    · subst e; rfl
    · exact pathG_0 ds _ 0 h j e (by omega)
  have ho := st_ok hz hv
  refine ⟨hn, hm, hv, fun i hi => (ho (i + 1) hi).2.2.2 i (Nat.le_refl _), hz, ?_, fun k hk => ⟨(ho k hk).2.1, (ho k hk).2.2.1⟩⟩
  rw [hp, pathG_ok ds _ 0 (fun j a b => hz j (by omega)), Nat.zero_add, (ho (ds.length - 1) (by omega)).1]
end Go.Proofs.Ytendjeefggigbaa
