/- Texts Right: each says in its own first comment what it proves. -/
import Derived.Test.YtminjcknmhgpiaaGreatDoorM42
import Derived.Test.YtminjcknmhgpiaaGreatDoorM44
/- slices.ContainsFunc over lists of texts, and right of metrolablaw02. -/
namespace Go.Proofs.YtminjcknmhgpiaaGreatDoor
open Go.RowKit
open Go.Lib (nDigits itoa decDigits)

/-- the index of the first text that f takes, or -1 -/
def idxF (f : ByteArray → Bool) (ss : List ByteArray) : Int := if ss.any f = true then (ss.findIdx f : Int) else -1
theorem idxF_at {f : ByteArray → Bool} {ss : List ByteArray} {k : Nat} (hk : k < ss.length) (hb : ∀ j (hj : j < k), f (ss[j]'(by omega)) = false) (h : f ss[k] = true) : idxF f ss = (k : Int) := by
  have ha : ss.any f = true := List.any_eq_true.2 ⟨_, List.getElem_mem hk, h⟩
  unfold idxF
  rw [if_pos ha, (List.findIdx_eq hk).2 ⟨h, hb⟩]
theorem idxF_no {f : ByteArray → Bool} {ss : List ByteArray} (hb : ∀ j (hj : j < ss.length), f ss[j] = false) : idxF f ss = -1 := by
  unfold idxF
  rw [if_neg]
  intro h
  obtain ⟨x, hx, h2⟩ := List.any_eq_true.1 h
  obtain ⟨j, hj, rfl⟩ := List.mem_iff_getElem.1 hx
  rw [hb j hj] at h2
  cases h2
theorem idxF_nn (f : ByteArray → Bool) (ss : List ByteArray) : decide (0 ≤ idxF f ss) = ss.any f := by
  unfold idxF
  cases h : ss.any f
  · rw [if_neg (by decide)]; rfl
  · rw [if_pos rfl]; exact decide_eq_true (by omega)

/-- what a predicate says of a text, in worlds that keep what w has -/
def Pred (F : Nat) (w : World) (f : ByteArray → Bool) (s : ByteArray) : Prop := Hid (∀ W : World, Kp [] w W → Calls Tryz.prog F #[.string s] W fun e w' => e = .returned (.bool (f s)) ∧ Kp [] W w')

set_option maxRecDepth 100000 in
set_option maxHeartbeats 2000000 in
theorem index_any (F g o c : Nat) (ss : List ByteArray) (f : ByteArray → Bool) (w : World) (hs : Strs w g o ss) (hg : g < w.heap.size) (hl : ss.length ≤ 1000000) (q : ∀ s ∈ ss, Pred F w f s)
    (he : ∀ args w, (callFunc F args).run Tryz.prog w = .ok (.enter F args) w) :
    Calls Tryz.prog 97 #[.slice (some ⟨g, o, none⟩) ss.length c, .func (.func F) #[] #[]] w fun x w' => x = .returned (.int .i64 (idxF f ss)) ∧ Kp [] w w' := by
  generalize hR : idxF f ss = R
  have HR := Lib.hid hR
  clear hR
  go_enter Tryz.func97, Tryz.ntmps97
  go_wp2
  go_loopg [8] ss.length (fun gk s8 wr => ∃ k : Nat, s8 = .int .i64 k ∧ k + gk = ss.length ∧ (∀ j (hj : j < k) (h : j < ss.length), f ss[j] = false) ∧ Kp [] w wr)
  case atStart => exact ⟨0, rfl, by omega, fun j hj => by omega, Kp.refl _ _⟩
  case round =>
    obtain ⟨k, rfl, hk, hb, hkp⟩ := hrel
    have hl1 : (ss.length : Int) ≤ 1000000 := by omega
    by_cases hlt : k < ss.length
    · have hcell := (hs.kp hg hkp (by simp)) k hlt
      have hq := Lib.hid ((q _ (List.getElem_mem hlt)).out wr hkp)
      have hlt' : (k : Int) < (ss.length : Int) := by omega
      have hz1 : 0 ≤ (k : Int) := by omega
      have Hb := Lib.hid hb
      have Hk := Lib.hid hk
      clear hb hk q
      cases hc : f ss[k] with
      | true =>
        have hv : Hid (R = (k : Int)) := by
          show _ = _
          rw [← HR.out]; exact idxF_at hlt (fun j hj => Hb.out j hj (by omega)) hc
        rw [hc] at hq
        clear Hb hc HR
        generalize ss[k] = s at *
        go_wp2_with (go_at_fn F; with_reducible refine hq.out.mono ?_; rintro e w' ⟨rfl, k2⟩)
        go_wp2
        go_ret
        exact ⟨by rw [hv.out]; rfl, hkp.trans k2⟩
      | false =>
        rw [hc] at hq
        have Hc := Lib.hid hc
        clear hc
        go_wp2_with (go_at_fn F; with_reducible refine hq.out.mono ?_; rintro e w' ⟨rfl, k2⟩)
        go_wp2
        have hk := Hk.out
        go_roundg (gk - 1)
        case measure => omega
        case rel =>
          refine ⟨k + 1, by go_num, by omega, fun j hj h => ?_, hkp.trans k2⟩
          by_cases e : j = k
          · subst e; exact Hc.out
          · exact Hb.out j (by omega) h
    · have hv : Hid (R = -1) := by
        show _ = _
        rw [← HR.out]; exact idxF_no (fun j hj => hb j (by omega) hj)
      have hlt' : ¬ (k : Int) < (ss.length : Int) := by omega
      clear hb HR q
      go_wp2
      go_ret
      exact ⟨by rw [hv.out]; rfl, hkp⟩

set_option maxRecDepth 100000 in
set_option maxHeartbeats 2000000 in
theorem contains_any (F g o c : Nat) (ss : List ByteArray) (f : ByteArray → Bool) (w : World) (hs : Strs w g o ss) (hg : g < w.heap.size) (hl : ss.length ≤ 1000000) (q : ∀ s ∈ ss, Pred F w f s)
    (he : ∀ args w, (callFunc F args).run Tryz.prog w = .ok (.enter F args) w) :
    Calls Tryz.prog 42 #[.slice (some ⟨g, o, none⟩) ss.length c, .func (.func F) #[] #[]] w fun x w' => x = .returned (.bool (ss.any f)) ∧ Kp [] w w' := by
  have h1 := Lib.hid (index_any F g o c ss f w hs hg hl q he)
  have h2 : Hid (decide (0 ≤ idxF f ss) = ss.any f) := idxF_nn f ss
  generalize idxF f ss = R at *
  clear hs q
  go_enter Tryz.func42, Tryz.ntmps42
  go_wp2_with fail
  with_reducible refine h1.out.mono ?_
  rintro e w1 ⟨rfl, k1⟩
  go_wp2
  go_ret
  exact ⟨by rw [← h2.out]; rfl, k1⟩

/-- a text with at most 30 bytes before and behind the slash -/
def shB (a : ByteArray) : Bool := decide ((cN a).size ≤ 30) && decide ((cD a).size ≤ 30)
def badB (a : ByteArray) : Bool := !(shB a) || decide (spE a ≠ 0)
set_option maxRecDepth 100000 in
set_option maxHeartbeats 2000000 in
theorem right1_any (a : ByteArray) (w : World) (ha : a.size ≤ 9223372036854775807) :
    Calls Tryz.prog 105 #[.string a] w fun x w' => x = .returned (.bool (badB a)) ∧ Kp [] w w' := by
  have q1 := Lib.hid (Short_any a w ha)
  have q2 := Lib.hid (fun (W : World) (hs : shB a = true) => rCheck2_any a W (by
    unfold shB at hs
    simp only [Bool.and_eq_true, decide_eq_true_eq] at hs
    have := cut_size a
    omega))
  have e0 : Hid (badB a = (!(shB a) || decide (spE a ≠ 0))) := rfl
  change Hid (Calls Tryz.prog 44 #[.string a] w fun x w' => x = .returned (.bool (shB a)) ∧ Kp [] w w') at q1
  rw [e0.out]
  clear e0
  cases hs : shB a with
  | false =>
    rw [hs] at q1
    clear hs q2
    go_enter Tryz.func105, Tryz.ntmps105
    go_wp2_with fail
    with_reducible refine q1.out.mono ?_
    rintro e w1 ⟨rfl, k1⟩
    go_wp2
    go_ret
    exact ⟨rfl, k1⟩
  | true =>
    rw [hs] at q1
    replace q2 := Lib.hid (fun W => q2.out W hs)
    clear hs
    by_cases h0 : spE a = 0
    · rw [h0] at q2
      rw [decide_eq_false (by rw [h0]; decide)]
      clear h0
      go_enter Tryz.func105, Tryz.ntmps105
      go_wp2_with fail
      with_reducible refine q1.out.mono ?_
      rintro e w1 ⟨rfl, k1⟩
      go_wp2_with fail
      with_reducible refine (q2.out _).mono ?_
      rintro e w2 ⟨rfl, k2⟩
      go_wp2
      go_ret
      exact ⟨rfl, k1.trans k2⟩
    · have hb : (spE a != 0) = true := bne_iff_ne.2 h0
      rw [decide_eq_true h0]
      generalize spE a = E at *
      clear h0
      go_enter Tryz.func105, Tryz.ntmps105
      go_wp2_with fail
      with_reducible refine q1.out.mono ?_
      rintro e w1 ⟨rfl, k1⟩
      go_wp2_with fail
      with_reducible refine (q2.out _).mono ?_
      rintro e w2 ⟨rfl, k2⟩
      go_wp2
      go_ret
      exact ⟨rfl, k1.trans k2⟩

set_option maxRecDepth 100000 in
set_option maxHeartbeats 2000000 in
theorem right_any (g o c : Nat) (ss : List ByteArray) (w : World) (hs : Strs w g o ss) (hg : g < w.heap.size) (hl : ss.length ≤ 1000000) (hz : ∀ s ∈ ss, s.size ≤ 9223372036854775807) :
    Calls Tryz.prog 49 #[.slice (some ⟨g, o, none⟩) ss.length c] w fun x w' => x = .returned (.bool (!(ss.any badB))) ∧ Kp [] w w' := by
  have h1 := Lib.hid (contains_any 105 g o c ss badB w hs hg hl (fun s h W _ => right1_any s W (hz s h)) (enters_of Tryz.func105 (by kernel_rfl) rfl))
  generalize ss.any badB = b at *
  clear hs
  go_enter Tryz.func49, Tryz.ntmps49
  go_wp2_with fail
  with_reducible refine h1.out.mono ?_
  rintro e w1 ⟨rfl, k1⟩
  go_wp2
  go_ret
  exact ⟨rfl, k1⟩

theorem nd_len_lt {n k : Nat} (h : nDigits n ≤ k) (hk : 0 < k) : n < 10 ^ k := (nd_le_iff hk).1 h
/-- a right, short text is that of a short number -/
theorem good_RS {a : ByteArray} (h : badB a = false) : ∃ q, a = RS q ∧ Sm 30 q := by
  unfold badB shB at h
  simp only [Bool.or_eq_false_iff, Bool.not_eq_false', Bool.and_eq_true, decide_eq_true_eq, decide_eq_false_iff_not, Classical.not_not] at h
  obtain ⟨⟨h1, h2⟩, h3⟩ := h
  obtain ⟨q, rfl, oq⟩ := RS_of_sp h3
  obtain ⟨a1, a2, a3⟩ := sp_RS oq
  rw [a1] at h1
  rw [a2] at h2
  have n1 : nDigits q.num.natAbs ≤ 30 := by
    have : nDigits q.num.natAbs ≤ (S q.num).size := by
      by_cases hn : q.num < 0
      · have := (S_neg hn).2; omega
      · have := (S_nn hn).2; omega
    omega
  have n2 : nDigits q.den ≤ 30 := by
    have := (S_nn (z := (q.den : Int)) (by omega)).2
    rw [Int.natAbs_natCast] at this
    omega
  exact ⟨q, rfl, nd_len_lt n1 (by omega), nd_len_lt n2 (by omega)⟩
end Go.Proofs.YtminjcknmhgpiaaGreatDoor
