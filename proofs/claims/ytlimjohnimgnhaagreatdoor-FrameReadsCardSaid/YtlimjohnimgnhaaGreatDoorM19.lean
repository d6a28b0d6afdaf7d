/- Texts Uq1: each says in its own first comment what it proves. -/
import Derived.Test.YtlimjohnimgnhaaGreatDoorM02
import Derived.Test.YtlimjohnimgnhaaGreatDoorM35
import Derived.Shelf.SlicesQ.Reverse
import Derived.Shelf.SlSorted.IsSorted
/- Frames: a list of frames, cloned and turned round. -/
namespace Go.Proofs.YtlimjohnimgnhaaGreatDoor
open Go.RowKit

open Go.Sort
/-- a frame with the place of its datums -/
abbrev Fz : Type := FrT × Option Addr × Nat × Nat
instance : Inhabited Fz := ⟨(⟨0, false, 0, 0, []⟩, none, 0, 0)⟩
def slF (z : Fz) : Value := .slice z.2.1 z.2.2.1 z.2.2.2
def encF (z : Fz) : List Value := frRow z.1 (slF z)
def okF (w : World) (z : Fz) : Prop := DatS w (slF z) z.1.ds ∧ z.2.2.1 ≤ z.2.2.2
theorem encF_len (z : Fz) : (encF z).length = 5 := rfl
theorem encF_one (z : Fz) : ∀ u ∈ encF z, u.oneCell' = true := by
  intro u hu
  unfold encF frRow slF at hu
  simp only [List.mem_cons, List.not_mem_nil, or_false] at hu
  rcases hu with rfl | rfl | rfl | rfl | rfl <;> rfl
theorem encF_rows (zs : List Fz) : ∀ r ∈ zs.map encF, r.length = 5 ∧ ∀ u ∈ r, u.oneCell' = true := fun r hr => by
  obtain ⟨z, _, rfl⟩ := List.mem_map.1 hr
  exact ⟨rfl, encF_one z⟩
theorem FrP.zs {w : World} {v : Value} {fs : List FrT} (h : FrP w v fs) : ∃ zs : List Fz, zs.map (fun z => z.1) = fs ∧ Sl [] 5 w v (zs.map encF) ∧ ∀ z ∈ zs, okF w z := by
  obtain ⟨vs, h1, h2, h3, h4⟩ := h
  have : ∀ i, i < fs.length → ∃ q : Option Addr × Nat × Nat, vs.getD i undef = .slice q.1 q.2.1 q.2.2 ∧ q.2.1 ≤ q.2.2 := fun i hi => by
    obtain ⟨p, l, c, e, hc⟩ := h4 i hi
    exact ⟨(p, l, c), e, hc⟩
  obtain ⟨Q, hQ⟩ := Go.Deep.choose_lt this
  refine ⟨(List.range fs.length).map fun i => (fs.getD i ⟨0, false, 0, 0, []⟩, Q i), ?_, ?_, ?_⟩
  · refine List.ext_getElem (by simp) fun i h5 h6 => ?_
    simp [List.getD_eq_getElem?_getD, h6]
  · have e : ((List.range fs.length).map fun i => (fs.getD i ⟨0, false, 0, 0, []⟩, Q i)).map encF = List.zipWith frRow fs vs := by
      refine List.ext_getElem (by simp [h1]) fun i h5 h6 => ?_
      have hi : i < fs.length := by simpa using h5
      have hq := (hQ i hi).1
      have hv : i < vs.length := by omega
      rw [List.getD_eq_getElem?_getD, List.getElem?_eq_getElem hv, Option.getD_some] at hq
      simp only [List.getElem_map, List.getElem_range, List.getElem_zipWith]
      unfold encF slF
      dsimp only
      rw [hq, List.getD_eq_getElem?_getD, List.getElem?_eq_getElem hi]
      rfl
    rw [e]; exact h2
  · intro z hz
    obtain ⟨i, hi, rfl⟩ := List.mem_map.1 hz
    have hi' : i < fs.length := by simpa using hi
    obtain ⟨hq, hc⟩ := hQ i hi'
    refine ⟨?_, hc⟩
    have := h3 i _ (List.getElem?_eq_getElem hi')
    unfold slF
    dsimp only
    rw [← hq, List.getD_eq_getElem?_getD (l := fs), List.getElem?_eq_getElem hi']
    exact this
theorem frp_zs {w : World} {v : Value} {zs : List Fz} (h : Sl [] 5 w v (zs.map encF)) (hz : ∀ z ∈ zs, okF w z) : FrP w v (zs.map fun z => z.1) := by
  refine ⟨zs.map slF, by simp, ?_, fun i f hf => ?_, fun i hi => ?_⟩
  · have e : List.zipWith frRow (zs.map fun z => z.1) (zs.map slF) = zs.map encF := by
      rw [List.zipWith_map, List.zipWith_self]; rfl
    rw [e]; exact h
  · have hi : i < zs.length := by have := (List.getElem?_eq_some_iff.1 hf).1; simpa using this
    obtain rfl : (zs[i]'hi).1 = f := by simpa [hi] using hf
    have := (hz _ (List.getElem_mem hi)).1
    simpa [List.getD_eq_getElem?_getD, hi] using this
  · have hi' : i < zs.length := by simpa using hi
    have := (hz _ (List.getElem_mem hi')).2
    exact ⟨_, _, _, by simp [List.getD_eq_getElem?_getD, hi', slF]; rfl, this⟩
theorem okF.kx {w w' : World} {z : Fz} (h : okF w z) (k : Kb w w') : okF w' z := ⟨h.1.kb k, h.2⟩
/-- a slice of frames of our own, in a block from n on -/
def OwF (n : Nat) (w : World) (v : Value) (zs : List Fz) : Prop := ∃ p c, v = .slice p zs.length c ∧ (0 < zs.length → ∃ g, p = some ⟨g, 0, none⟩ ∧ n ≤ g ∧ g < w.heap.size ∧ zs.length ≤ c ∧ c ≤ maxLen ∧ HoldsK encF 5 w g 0 zs.toArray)
theorem holdsK_cell {w : World} {g : Nat} {zs : List Fz} (h : HoldsK encF 5 w g 0 zs.toArray) {i j : Nat} (hi : i < zs.length) (hj : j < 5) : w.cell? ⟨g, i * 5 + j, none⟩ = some ((encF (zs.getD i default)).getD j undef) := by
  have h1 := (HoldsK.cell h (i := i) (c := j) (by simpa using hi) hj).1
  rw [Nat.zero_add] at h1
  rw [h1]
  have e1 : zs.toArray[i]! = zs.getD i default := by
    rw [getElem!_pos zs.toArray i (by simpa using hi), List.getD_eq_getElem?_getD, List.getElem?_eq_getElem hi]; rfl
  rw [e1]
  have e2 : j < (encF (zs.getD i default)).length := hj
  generalize encF (zs.getD i default) = L at e2 ⊢
  rw [getElem!_pos L j e2, List.getD_eq_getElem?_getD, List.getElem?_eq_getElem e2]; rfl
theorem OwF.sl {n : Nat} {w : World} {v : Value} {zs : List Fz} (h : OwF n w v zs) : Sl [] 5 w v (zs.map encF) := by
  obtain ⟨p, c, rfl, h2⟩ := h
  refine ⟨p, c, by simp, fun hp => ?_⟩
  obtain ⟨g, rfl, _, hg, _, _, hk⟩ := h2 (by simpa using hp)
  refine ⟨g, 0, rfl, hg, by simp, fun i hi j hj => ?_⟩
  have hi' : i < zs.length := by simpa using hi
  have h3 := holdsK_cell hk hi' hj
  rw [Nat.zero_add, h3]
  simp [List.getD_eq_getElem?_getD, hi']
theorem holdsK_same {w w' : World} {g : Nat} {d : Array Fz} (h : HoldsK encF 5 w g 0 d) (hs : w'.heap[g]? = w.heap[g]?) : HoldsK encF 5 w' g 0 d := fun j hj => by
  obtain ⟨h1, h2⟩ := h j hj
  refine ⟨(World.cell?_of_block (w := w) hs).trans h1, ?_⟩
  unfold World.frozen? at h2 ⊢
  rw [hs]; exact h2
theorem OwF.kb {n : Nat} {w w' : World} {v : Value} {zs : List Fz} (h : OwF n w v zs) (k : Kb w w') : OwF n w' v zs := by
  obtain ⟨p, c, e, h2⟩ := h
  refine ⟨p, c, e, fun hp => ?_⟩
  obtain ⟨g, e1, e2, e3, e4, e5, e6⟩ := h2 hp
  exact ⟨g, e1, e2, Nat.lt_of_lt_of_le e3 k.size, e4, e5, holdsK_same e6 (Below.block k g e3)⟩
theorem OwF.far {n : Nat} {w : World} {v : Value} {zs : List Fz} (h : OwF n w v zs) {q : Addr} (hq : q.block < n) (u : Value) : OwF n (w.setCell q u) v zs := by
  obtain ⟨p, c, e, h2⟩ := h
  refine ⟨p, c, e, fun hp => ?_⟩
  obtain ⟨g, e1, e2, e3, e4, e5, e6⟩ := h2 hp
  exact ⟨g, e1, e2, by simpa using e3, e4, e5, holdsK_same e6 (Below.heap_setCell w q u g (by omega))⟩
theorem OwF.tail {n : Nat} {w : World} {p : Option Addr} {l c : Nat} {zs : List Fz} (h : OwF n w (.slice p l c) zs) (h0 : 0 < l) (hz : ∀ z ∈ zs, okF w z) : ∃ g, p = some ⟨g, 0, none⟩ ∧ l ≤ c ∧ c ≤ maxLen ∧ FrP w (.slice (some ⟨g, 5, none⟩) (l - 1) (c - 1)) ((zs.drop 1).map fun z => z.1) := by
  obtain ⟨p', c', e, h2⟩ := h
  injection e with e1 e2 e3
  subst e1 e2 e3
  obtain ⟨g, rfl, _, hg, hc, hm, hk⟩ := h2 h0
  refine ⟨g, rfl, hc, hm, frp_zs ⟨some ⟨g, 5, none⟩, c - 1, by simp, fun hp => ⟨g, 5, rfl, hg, by simp, fun i hi j hj => ?_⟩⟩ (fun z hzz => hz z (List.mem_of_mem_drop hzz))⟩
  have hi' : i + 1 < zs.length := by simp at hi; omega
  have h3 := holdsK_cell hk hi' hj
  rw [show 5 + i * 5 + j = (i + 1) * 5 + j by omega, h3]
  simp [List.getD_eq_getElem?_getD, hi']
set_option maxRecDepth 100000 in
theorem fCloneZ (p : Option Addr) (l c : Nat) (zs : List Fz) (w : World) (h : Sl [] 5 w (.slice p l c) (zs.map encF)) (hl : l = zs.length) (hn : l ≤ 1000) : Calls Tryz.prog 34 #[.slice p l c] w fun r W' => (∃ v', r = .returned v' ∧ OwF w.heap.size W' v' zs) ∧ Kb w W' := by
  refine (cCloneFr p l c (zs.map encF) w h (encF_rows zs) hn).mono ?_
  rintro r W' ⟨v', rfl, own, kb⟩
  refine ⟨⟨v', rfl, ?_⟩, kb⟩
  subst hl
  obtain ⟨_, ⟨rfl, h0⟩ | ⟨g, cap, cur, rfl, hb, hh, hn2, hc, hz, ht⟩⟩ := own
  · exact ⟨none, 0, by rw [h0], fun hp => absurd hp (by omega)⟩
  · refine ⟨_, cap, rfl, fun _ => ⟨g, rfl, hb, (Array.getElem?_eq_some_iff.1 hh).1, hn2, hc, fun j hj => ?_⟩⟩
    rw [size_flatK] at hj
    have hj2 : j < zs.length * 5 := by simpa using hj
    have hjd : j / 5 < zs.length := by omega
    have h8 := flat_at (rows := zs.map encF) (k := 5) (fun r hr => (encF_rows zs r hr).1) (j / 5) (j % 5) (Nat.mod_lt _ (by decide)) (by simpa using hjd)
    rw [show j / 5 * 5 + j % 5 = j by omega, ← ht, List.getElem?_take, if_pos hj2] at h8
    refine ⟨?_, ?_⟩
    · rw [Nat.zero_add]
      unfold World.cell?
      rw [hh]
      show cur[j]? = _
      rw [get_flatK encF 5 zs.toArray j hj]
      have e1 : zs.toArray[j / 5]! = zs.getD (j / 5) default := by
        rw [getElem!_pos zs.toArray (j / 5) (by simpa using hjd), List.getD_eq_getElem?_getD, List.getElem?_eq_getElem hjd]; rfl
      have e2 : j % 5 < (encF (zs.getD (j / 5) default)).length := Nat.mod_lt _ (by decide)
      have e3 : (zs.map encF).getD (j / 5) [] = encF (zs.getD (j / 5) default) := by simp [List.getD_eq_getElem?_getD, hjd]
      rw [e3] at h8
      rw [Array.getElem?_toList] at h8
      rw [h8, e1]
      generalize encF (zs.getD (j / 5) default) = L at e2 ⊢
      rw [getElem!_pos L _ e2, List.getD_eq_getElem?_getD, List.getElem?_eq_getElem e2]; rfl
    · simp [World.frozen?, hh]
theorem fReverse (n : Nat) (v : Value) (zs : List Fz) (w : World) (h : OwF n w v zs) (hl : zs.length ≤ 1000) : Calls Tryz.prog 35 #[v] w fun r W' => r = .returned (.tuple #[]) ∧ OwF n W' v zs.reverse ∧ ∃ L : List Nat, (∀ g ∈ L, n ≤ g) ∧ Kx L w W' := by
  obtain ⟨p, c, rfl, h2⟩ := h
  by_cases h0 : zs.length = 0
  · obtain rfl : zs = [] := List.length_eq_zero_iff.1 h0
    refine (AnyQ.slices_Reverse_empty Tryz.reverse35 p c w).mono ?_
    rintro r W' ⟨rfl, rfl⟩
    exact ⟨rfl, ⟨p, c, rfl, fun hp => absurd hp (by simp)⟩, [], by simp, Kx.refl _ _⟩
  · obtain ⟨g, rfl, e2, e3, e4, e5, e6⟩ := h2 (by omega)
    refine (AnyQ.slices_Reverse Tryz.reverse35 5 Tryz.isAgg31 Tryz.sizeOf31 encF encF_len encF_one g 0 c zs.toArray w e6 (by simp; omega)).mono ?_
    rintro r W' ⟨rfl, q, rfl⟩
    have hH : HoldsK encF 5 (putRowK encF 5 (Sort.ahead w q) g 0 zs.toArray.reverse) g 0 zs.toArray.reverse := holdsK_putRowK encF 5 _ g 0 zs.toArray _ (holdsK_ahead encF 5 w q g 0 _ e6) (by simp)
    have hsz : (putRowK encF 5 (Sort.ahead w q) g 0 zs.toArray.reverse).heap.size = w.heap.size := by
      unfold putRowK; rw [size_putRow]; rfl
    refine ⟨rfl, ⟨_, c, by simp, fun _ => ⟨g, rfl, e2, by rw [hsz]; exact e3, by simpa using e4, e5, by simpa using hH⟩⟩, [g], by simpa using e2, rfl, rfl, rfl, by rw [hsz]; exact Nat.le_refl _, fun k _ hk => ?_⟩
    have hne : g ≠ k := fun e => hk (by simp [e])
    unfold putRowK putRow mapBlock
    show (Array.modify _ _ _)[k]? = _
    rw [Array.getElem?_modify, if_neg hne]
    rfl
theorem fIsSorted {w : World} {v : Value} {ss : List (List UInt8)} (h : SlS w v ss) (ha : Asc ss) (hl : ss.length ≤ 100000) : Calls Tryz.prog 36 #[v] w fun r W' => r = .returned (.bool true) ∧ Kb w W' := by
  rcases h.cells with ⟨rfl, p, c, rfl⟩ | ⟨b, off, c, rfl, hc⟩
  · exact (AnyO.slices_IsSorted_string_none Tryz.isSorted36 p c w).mono fun r W' h => ⟨h.1, by rw [h.2]; exact Kb.refl w⟩
  · have hd : (ss.map fun x => (⟨x.toArray⟩ : ByteArray)).toArray.size = ss.length := by simp
    have q := AnyO.slices_IsSorted_string Tryz.isSorted36 b off c (ss.map fun x => (⟨x.toArray⟩ : ByteArray)).toArray w (fun i hi => by
      have hi' : i < ss.length := by rw [hd] at hi; exact hi
      rw [hc i (by simpa using hi')]
      rw [getElem!_pos _ i hi]
      simp [List.getD_eq_getElem?_getD, hi']) (by rw [hd]; omega)
    rw [hd] at q
    refine q.mono ?_
    rintro r W' ⟨rfl, m, rfl⟩
    refine ⟨?_, (Kb.refl w).drewN m⟩
    have hok : Lib.downOK (fun x y : ByteArray => decide (x.data.toList < y.data.toList)) (ss.map fun x => (⟨x.toArray⟩ : ByteArray)).toArray (ss.length - 1) = true := by
      rw [Lib.downOK_iff]
      intro i hi
      have h1 : i < ss.length := by omega
      have h2 : i + 1 < ss.length := by omega
      rw [getElem!_pos _ (i + 1) (by rw [hd]; exact h2), getElem!_pos _ i (by rw [hd]; exact h1)]
      simp only [List.getElem_toArray, List.getElem_map]
      refine decide_eq_false fun hlt => ?_
      have := List.pairwise_iff_getElem.1 ha i (i + 1) h1 h2 (by omega)
      exact this (List.le_of_lt (by simpa using hlt))
    rw [hok]
theorem fContains {w : World} {v : Value} {ss : List (List UInt8)} (h : SlS w v ss) (s : ByteArray) (hs : s.data.toList ∈ ss) (hl : ss.length ≤ 100000) : Calls Tryz.prog 37 #[v, .string s] w fun r W' => r = .returned (.bool true) ∧ Kb w W' := by
  rcases h.cells with ⟨rfl, p, c, rfl⟩ | ⟨b, off, c, rfl, hc⟩
  · exact absurd hs (by simp)
  · refine (Tryz.slices_Contains_string b off ss.length c (ss.map fun x => (⟨x.toArray⟩ : ByteArray)) s w (by simp) (by omega) hc).mono ?_
    rintro r W' ⟨rfl, rfl⟩
    have : Lib.containsS ((ss.map fun x => (⟨x.toArray⟩ : ByteArray)).take ss.length) s = true := by
      rw [Lib.containsS_iff, List.take_of_length_le (by simp)]
      exact List.mem_map.2 ⟨_, hs, by simp⟩
    exact ⟨by rw [this], Kb.refl _⟩
theorem fDatU {w0 : World} (n : ByteArray) (k a x y z lo hi : Int) (fp : Option Addr) (fl fc : Nat) (fs : List FrT) (hnz : n.size ≤ 1000000) (hf : FrP w0 (.slice fp fl fc) fs) (hF : fl ≤ 12) (hz : ∀ f ∈ fs, f.ds.length ≤ 6 ∧ ∀ d ∈ f.ds, d.1.size ≤ 1000000) (e1 : alE n k a x y z lo hi fs = 0) (W : World) (gl : Gf w0 W) : Calls Tryz.prog 17 #[.agg #[.string n, .int .i64 k, .int .i64 a, .int .i64 x, .int .i64 y, .int .i64 z, .int .i64 lo, .int .i64 hi, .slice fp fl fc]] W fun r W' => (∃ v, r = .returned (.tuple #[v, .int .i64 0]) ∧ SlU W.heap.size 1 W' v ((dtV n k a x y z lo hi fs).map fun x => [encStr x])) ∧ Kb W W' := by
  have hl := hf.len
  have hz2 : ∀ f ∈ fs, f.ds.length ≤ 100000 ∧ ∀ d ∈ f.ds, d.1.size ≤ 1000000 := fun f h => ⟨by have := (hz f h).1; omega, (hz f h).2⟩
  have q1 := frAll (w0 := w0) n k a x y z lo hi fp fl fc fs hnz hf (by omega) hz2
  have hN := nmL_le fs fun f h => (hz f h).1
  unfold dtV
  rw [if_pos e1]
  rw [e1] at q1
  by_cases h0 : fl = 0
  · subst h0
    obtain rfl : fs = [] := List.length_eq_zero_iff.1 hl.symm
    exact fDatZ n k a x y z lo hi fp fc q1 W gl
  · obtain ⟨b, off, rfl, _⟩ := hf.at (by omega)
    exact fDatD n k a x y z lo hi b off fl fc fs hf (fun f h => (hz f h).2) (by omega) (by omega) q1 W gl
end Go.Proofs.YtlimjohnimgnhaaGreatDoor
