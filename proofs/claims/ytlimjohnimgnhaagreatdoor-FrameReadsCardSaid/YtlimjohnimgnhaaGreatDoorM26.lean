/- Texts Ur2: each says in its own first comment what it proves. -/
import Derived.Test.YtlimjohnimgnhaaGreatDoorM40
import Derived.Test.YtlimjohnimgnhaaGreatDoorM37
/- Frames: a right frame's text is read as the frame. -/
namespace Go.Proofs.YtlimjohnimgnhaaGreatDoor
open Go.RowKit

def discB : ByteArray := ⟨#[100, 105, 115, 99]⟩
def datW (d : DatT) : ByteArray := wdM d.1 d.2.toNat
/-- the words of a frame's text -/
def wordsV (k : Nat) (d : Bool) (t : Int) (m : Nat) (ds : List DatT) : List ByteArray := kW k :: ((if d = true then [discB] else []) ++ wdM (itV t) m :: ds.map datW)
theorem joinL_ne {w : List UInt8} (l : List (List UInt8)) (h : w ≠ []) : joinL (w :: l) ≠ [] := by
  cases l with
  | nil => exact h
  | cons v l => rw [joinL_cons _ _ (by simp)]; simp
theorem putL_join (ws : List (List UInt8)) (s : ByteArray) (m : Nat) (h0 : ws ≠ []) (h1 : joinL ws ≠ []) : putL (joinL ws) s m = joinL (ws ++ [s.data.toList ++ mkL m]) := by
  unfold putL
  rw [if_neg (fun e => h1 (List.length_eq_zero_iff.1 e)), joinL_snoc _ _ h0]
  simp
theorem kW_ne {k : Nat} (h : k < 9) : (kW k).data.toList ≠ [] := by
  rcases (show k = 0 ∨ k = 1 ∨ k = 2 ∨ k = 3 ∨ k = 4 ∨ k = 5 ∨ k = 6 ∨ k = 7 ∨ k = 8 by omega) with rfl | rfl | rfl | rfl | rfl | rfl | rfl | rfl | rfl <;> decide
theorem kW_sz {k : Nat} (h : k < 9) : (kW k).size ≤ 8 ∧ (32 : UInt8) ∉ (kW k).data.toList := by
  rcases (show k = 0 ∨ k = 1 ∨ k = 2 ∨ k = 3 ∨ k = 4 ∨ k = 5 ∨ k = 6 ∨ k = 7 ∨ k = 8 by omega) with rfl | rfl | rfl | rfl | rfl | rfl | rfl | rfl | rfl <;> decide
theorem dsL_join (ds : List DatT) : ∀ (w : List UInt8) (l : List (List UInt8)), w ≠ [] → dsL (joinL (w :: l)) ds = joinL (w :: (l ++ ds.map fun d => (datW d).data.toList)) := by
  induction ds with
  | nil => intro w l _; simp [dsL]
  | cons d ds ih =>
    intro w l h
    show dsL (putL (joinL (w :: l)) d.1 d.2.toNat) ds = _
    rw [putL_join _ _ _ (by simp) (joinL_ne l h), List.cons_append, ih w _ h]
    unfold datW
    rw [List.map_cons, wdM_l]
    simp
theorem textV_join (k : Nat) (d : Bool) (t : Int) (m : Nat) (ds : List DatT) (hk : k < 9) : (textV k d t m ds).data.toList = joinL ((wordsV k d t m ds).map (·.data.toList)) := by
  have hn := kW_ne hk
  have h1 : putL [] (kW k) 0 = joinL [(kW k).data.toList] := by simp [putL, mkL, joinL]
  have hz : ∀ x : ByteArray, x.data.toList ++ mkL 0 = x.data.toList := fun x => by simp [mkL]
  show dsL (headL [] k d t m) ds = _
  unfold headL wordsV
  cases d
  · rw [if_neg (by decide), if_neg (by decide), h1, putL_join _ _ _ (by simp) (joinL_ne _ hn), List.cons_append, dsL_join ds _ _ hn]
    simp [wdM_l, List.map_map, Function.comp_def]
  · rw [if_pos rfl, if_pos rfl, h1, putL_join _ _ _ (by simp) (joinL_ne _ hn), hz, List.cons_append, putL_join _ _ _ (by simp) (joinL_ne _ hn), List.cons_append, dsL_join ds _ _ hn]
    simp [wdM_l, List.map_map, Function.comp_def, discB]
theorem chV_kW {k : Nat} (h : k < 9) : chV (kW k) = (k : Int) := by
  rw [chV_eq]
  rcases (show k = 0 ∨ k = 1 ∨ k = 2 ∨ k = 3 ∨ k = 4 ∨ k = 5 ∨ k = 6 ∨ k = 7 ∨ k = 8 by omega) with rfl | rfl | rfl | rfl | rfl | rfl | rfl | rfl | rfl <;> rfl
/-- a name without blanks and parentheses -/
def plainN (s : ByteArray) : Prop := (32 : UInt8) ∉ s.data.toList ∧ (41 : UInt8) ∉ s.data.toList
theorem itV_plain {t : Int} (h : 0 ≤ t) : plainN (itV t) := by
  unfold plainN
  rw [itV_l h]
  exact ⟨fun e => absurd (dig_all _ _ e).1 (by decide), fun e => absurd (dig_all _ _ e).1 (by decide)⟩
theorem num_not_disc {t : Int} (m : Nat) (h : 0 ≤ t) : ((wdM (itV t) m).toList == ([100, 105, 115, 99] : List UInt8)) = false := by
  rw [ByteArray.toList_eq, wdM_l, itV_l h, beq_eq_false_iff_ne]
  have hne := dig_ne t.toNat
  have hall := dig_all t.toNat
  cases hd : Lib.decDigits t.toNat with
  | nil => exact absurd hd hne
  | cons c r =>
    rw [hd] at hall
    intro e
    rw [List.cons_append] at e
    injection e with e1 _
    subst e1
    exact absurd (hall 100 (by simp)).2 (by decide)
theorem map_datW : ∀ ds : List DatT, (∀ d ∈ ds, plainN d.1 ∧ 0 ≤ d.2 ∧ d.2 < 3) → (ds.map datW).map spV = ds
  | [], _ => rfl
  | (s, c) :: ds, h => by
    have h1 := h (s, c) (by simp)
    have h2 := map_datW ds fun d hd => h d (by simp [hd])
    rw [List.map_cons, List.map_cons, h2]
    unfold datW
    dsimp only at h1 ⊢
    rw [spV_wdM s c.toNat (by omega) h1.1.2, Int.toNat_of_nonneg h1.2.1]
theorem rdV_words (k : Nat) (d : Bool) (t : Int) (m : Nat) (ds : List DatT) (hk : k < 9) (hm : m < 3) (h0 : 0 ≤ t) (h1 : t ≤ 1000000) (hd : ∀ x ∈ ds, plainN x.1 ∧ 0 ≤ x.2 ∧ x.2 < 3) : rdV (wordsV k d t m ds) = ⟨k, d, t, m, ds⟩ := by
  have hs := spV_wdM (itV t) m hm (itV_plain h0).2
  have hn := num_not_disc m h0
  have hmap := map_datW ds hd
  unfold wordsV
  cases d
  · rw [if_neg (by decide), List.nil_append]
    simp only [rdV, hn, Bool.false_eq_true, if_false, hs, atV_itV h0 h1, hmap, chV_kW hk]
  · rw [if_pos rfl]
    have hdd : (discB.toList == ([100, 105, 115, 99] : List UInt8)) = true := by rw [ByteArray.toList_eq]; decide
    show rdV (kW k :: discB :: wdM (itV t) m :: ds.map datW) = _
    simp only [rdV, hdd, if_true, hs, atV_itV h0 h1, hmap, chV_kW hk]
theorem nmB_plain {s : ByteArray} (h : nmB s = true) : plainN s := by
  unfold nmB nmR at h
  simp only [Bool.and_eq_true, List.all_eq_true] at h
  have hall : ∀ c ∈ s.data.toList, isL c = true ∨ isD c = true := fun c hc => by
    obtain ⟨i, hi, rfl⟩ := List.mem_iff_getElem.1 hc
    have hi' : i < s.size := by rw [Array.length_toList] at hi; exact hi
    have h2 := h.2 i (by simp [List.mem_range'_1]; omega)
    unfold okAt at h2
    rw [dif_pos hi'] at h2
    simp only [Bool.or_eq_true, Bool.and_eq_true] at h2
    have e : s[i] = s.data.toList[i] := rfl
    rw [e] at h2
    exact h2.imp id fun h => h.2
  exact ⟨fun e => by rcases hall _ e with h3 | h3 <;> exact absurd h3 (by decide), fun e => by rcases hall _ e with h3 | h3 <;> exact absurd h3 (by decide)⟩
theorem nmE_plain {s : ByteArray} (h : nmE s = 0) : plainN s ∧ s.size ≤ 24 := by
  unfold nmE at h
  have h1 := fE_z (by decide) (fst_z h).1
  have h2 := fE_z (by decide) (fst_z (fst_z h).2).1
  rw [decide_eq_false_iff_not] at h1
  exact ⟨nmB_plain (by simpa using h2), by omega⟩
theorem cmE_z {m : Int} (h : cmE m = 0) : 0 ≤ m ∧ m < 3 := by
  unfold cmE at h
  have h3 := fE_z (by decide) h
  rw [Bool.or_eq_false_iff, decide_eq_false_iff_not, decide_eq_false_iff_not] at h3
  omega
theorem dsF_all : ∀ (l b : List DatT), dsF b l = 0 → ∀ d ∈ l, nmE d.1 = 0 ∧ cmE d.2 = 0
  | [], _, _ => fun d hd => absurd hd (by simp)
  | d :: l, b, h => by
    rw [dsF] at h
    split at h
    · rename_i h1
      intro x hx
      rcases List.mem_cons.1 hx with rfl | hx
      · unfold dtE at h1
        exact ⟨(fst_z (fst_z h1).1).1, (fst_z (fst_z (fst_z (fst_z h1).2).2).1).1⟩
      · exact dsF_all l _ h x hx
    · rename_i h1
      exact absurd h h1
/-- a right frame -/
theorem fpE_all {k t m : Int} {ds : List DatT} (h : fpE k t m ds = 0) : (0 ≤ k ∧ k < 9) ∧ (0 ≤ m ∧ m < 3) ∧ (0 ≤ t ∧ t ≤ 100000) ∧ ds.length ≤ 3 ∧ ∀ d ∈ ds, plainN d.1 ∧ d.1.size ≤ 24 ∧ 0 ≤ d.2 ∧ d.2 < 3 := by
  obtain ⟨hm, ht⟩ := fpE_m h
  have hE : dsE ds = 0 := (fst_z (fst_z (fst_z (fst_z (fst_z h).2).2).2).2).1
  refine ⟨fpE_k h, by omega, ht, fpE_dl h, fun d hd => ?_⟩
  obtain ⟨h1, h2⟩ := dsF_all ds [] hE d hd
  have h3 := nmE_plain h1
  exact ⟨h3.1, h3.2, cmE_z h2⟩
theorem wordsV_plain (k : Nat) (d : Bool) (t : Int) (m : Nat) (ds : List DatT) (hk : k < 9) (hm : m < 3) (h0 : 0 ≤ t) (hd : ∀ x ∈ ds, plainN x.1 ∧ 0 ≤ x.2 ∧ x.2 < 3) : ∀ w ∈ wordsV k d t m ds, (32 : UInt8) ∉ w.data.toList := by
  have hmk : ∀ j, j < 3 → (32 : UInt8) ∉ mkL j := fun j hj => by rcases (show j = 0 ∨ j = 1 ∨ j = 2 by omega) with rfl | rfl | rfl <;> decide
  have hw : ∀ (x : ByteArray) (j : Nat), plainN x → j < 3 → (32 : UInt8) ∉ (wdM x j).data.toList := fun x j hx hj e => by
    rw [wdM_l] at e
    rcases List.mem_append.1 e with e | e
    · exact hx.1 e
    · exact hmk j hj e
  intro w h
  unfold wordsV at h
  rcases List.mem_cons.1 h with rfl | h
  · exact (kW_sz hk).2
  rcases List.mem_append.1 h with h | h
  · split at h
    · rw [List.mem_singleton] at h; subst h; decide
    · exact absurd h (by simp)
  rcases List.mem_cons.1 h with rfl | h
  · exact hw _ _ (itV_plain h0) hm
  · obtain ⟨x, hx, rfl⟩ := List.mem_map.1 h
    have := hd x hx
    exact hw _ _ this.1 (by omega)
theorem itV_size {t : Int} (h0 : 0 ≤ t) (h1 : t ≤ 1000000) : (itV t).size ≤ 7 := by
  have h2 := dig_len t.toNat (by omega)
  have h3 : (itV t).size = (itV t).data.toList.length := by rw [Array.length_toList]; rfl
  rw [h3, itV_l h0]; exact h2
theorem textV_size (k : Nat) (d : Bool) (t : Int) (m : Nat) (ds : List DatT) (hk : k < 9) (hm : m < 3) (h0 : 0 ≤ t) (h1 : t ≤ 1000000) (hl : ds.length ≤ 3) (hd : ∀ d ∈ ds, d.1.size ≤ 100 ∧ ∃ j : Nat, j < 3 ∧ d.2 = (j : Int)) : (textV k d t m ds).size ≤ 4096 := by
  have e : (textV k d t m ds).size = (dsL (headL [] k d t m) ds).length := by
    have h3 : (textV k d t m ds).size = (textV k d t m ds).data.toList.length := by rw [Array.length_toList]; rfl
    rw [h3]; rfl
  have h2 := dsL_len ds hd (headL [] k d t m)
  have h3 := itV_size h0 h1
  have h4 := (kW_sz hk).1
  have p1 := putL_len [] (kW k) 0 (by decide)
  have hh : (headL [] k d t m).length ≤ 100 := by
    unfold headL
    cases d
    · rw [if_neg (by decide)]
      have p2 := putL_len (putL [] (kW k) 0) (itV t) m hm
      simp at p1; omega
    · rw [if_pos rfl]
      have p2 := putL_len (putL [] (kW k) 0) ⟨#[100, 105, 115, 99]⟩ 0 (by decide)
      have p3 := putL_len (putL (putL [] (kW k) 0) ⟨#[100, 105, 115, 99]⟩ 0) (itV t) m hm
      have p4 : (⟨#[100, 105, 115, 99]⟩ : ByteArray).size = 4 := rfl
      simp at p1; omega
  omega
/-- the text of a right frame tells the frame -/
theorem textV_inj {k k' : Nat} {d d' : Bool} {t t' : Int} {m m' : Nat} {ds ds' : List DatT} (h : fpE k t m ds = 0) (h' : fpE k' t' m' ds' = 0) (he : textV k d t m ds = textV k' d' t' m' ds') : (⟨k, d, t, m, ds⟩ : FrT) = ⟨k', d', t', m', ds'⟩ := by
  obtain ⟨a1, a2, a3, _, a5⟩ := fpE_all h
  obtain ⟨b1, b2, b3, _, b5⟩ := fpE_all h'
  have ha : ∀ x ∈ ds, plainN x.1 ∧ 0 ≤ x.2 ∧ x.2 < 3 := fun x hx => ⟨(a5 x hx).1, (a5 x hx).2.2⟩
  have hb : ∀ x ∈ ds', plainN x.1 ∧ 0 ≤ x.2 ∧ x.2 < 3 := fun x hx => ⟨(b5 x hx).1, (b5 x hx).2.2⟩
  have s1 := (splV_join (ws := wordsV k d t m ds) (by simp [wordsV]) (wordsV_plain k d t m ds (by omega) (by omega) a3.1 ha) (textV_join k d t m ds (by omega))).1
  have s2 := (splV_join (ws := wordsV k' d' t' m' ds') (by simp [wordsV]) (wordsV_plain k' d' t' m' ds' (by omega) (by omega) b3.1 hb) (textV_join k' d' t' m' ds' (by omega))).1
  rw [← rdV_words k d t m ds (by omega) (by omega) a3.1 (by omega) ha, ← rdV_words k' d' t' m' ds' (by omega) (by omega) b3.1 (by omega) hb, ← s1, ← s2, he]
end Go.Proofs.YtlimjohnimgnhaaGreatDoor
