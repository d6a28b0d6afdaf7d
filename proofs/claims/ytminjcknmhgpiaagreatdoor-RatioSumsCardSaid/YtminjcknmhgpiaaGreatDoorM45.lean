/- Texts Right, OrdersR, OrdersR2: each says in its own first comment what it proves. -/
import Derived.Test.YtminjcknmhgpiaaGreatDoorM42
import Derived.Test.YtminjcknmhgpiaaGreatDoorM44
/- slices.ContainsFunc over lists of texts, and right of metrolablaw02. -/
namespace Go.Proofs.YtminjcknmhgpiaaGreatDoor
open Go.RowKit
open Go.Lib (nDigits itoa decDigits)

/-- the index of the first text that f takes, or -1 -/
def idxF (f : ByteArray → Bool) (ss : List ByteArray) : Int := if ss.any f = true then (ss.findIdx f : Int) else -1
theorem idxF_at {f : ByteArray → Bool} {ss : List ByteArray} {k : Nat} (hk : k < ss.length) (hb : ∀ j (hj : j < k), f (ss[j]'(by omega)) = false) (h : f ss[k] = true) : idxF f ss = (k : Int) := by
  have ha : ss.any f = true := List.any_eq_true.2 ⟨_, List.getElem_mem hk, h⟩
  unfold idxF
  rw [if_pos ha, (List.findIdx_eq hk).2 ⟨h, hb⟩]
theorem idxF_no {f : ByteArray → Bool} {ss : List ByteArray} (hb : ∀ j (hj : j < ss.length), f ss[j] = false) : idxF f ss = -1 := by
  unfold idxF
  rw [if_neg]
  intro h
  obtain ⟨x, hx, h2⟩ := List.any_eq_true.1 h
  obtain ⟨j, hj, rfl⟩ := List.mem_iff_getElem.1 hx
  rw [hb j hj] at h2
  cases h2
theorem idxF_nn (f : ByteArray → Bool) (ss : List ByteArray) : decide (0 ≤ idxF f ss) = ss.any f := by
  unfold idxF
  cases h : ss.any f
  · rw [if_neg (by decide)]; rfl
  · rw [if_pos rfl]; exact decide_eq_true (by omega)

/-- what a predicate says of a text, in worlds that keep what w has -/
def Pred (F : Nat) (w : World) (f : ByteArray → Bool) (s : ByteArray) : Prop := Hid (∀ W : World, Kp [] w W → Calls Tryz.prog F #[.string s] W fun e w' => e = .returned (.bool (f s)) ∧ Kp [] W w')

set_option maxRecDepth 100000 in
set_option maxHeartbeats 2000000 in
theorem index_any (F g o c : Nat) (ss : List ByteArray) (f : ByteArray → Bool) (w : World) (hs : Strs w g o ss) (hg : g < w.heap.size) (hl : ss.length ≤ 1000000) (q : ∀ s ∈ ss, Pred F w f s)
    (he : ∀ args w, (callFunc F args).run Tryz.prog w = .ok (.enter F args) w) :
    Calls Tryz.prog 97 #[.slice (some ⟨g, o, none⟩) ss.length c, .func (.func F) #[] #[]] w fun x w' => x = .returned (.int .i64 (idxF f ss)) ∧ Kp [] w w' := by
  generalize hR : idxF f ss = R
  have HR := Lib.hid hR
  clear hR
  go_enter Tryz.func97, Tryz.ntmps97
  go_wp2
  go_loopg [8] ss.length (fun gk s8 wr => ∃ k : Nat, s8 = .int .i64 k ∧ k + gk = ss.length ∧ (∀ j (hj : j < k) (h : j < ss.length), f ss[j] = false) ∧ Kp [] w wr)
  case atStart => exact ⟨0, rfl, by omega, fun j hj => by omega, Kp.refl _ _⟩
  case round =>
    obtain ⟨k, rfl, hk, hb, hkp⟩ := hrel
    have hl1 : (ss.length : Int) ≤ 1000000 := by omega
    by_cases hlt : k < ss.length
    · have hcell := (hs.kp hg hkp (by simp)) k hlt
      have hq := Lib.hid ((q _ (List.getElem_mem hlt)).out wr hkp)
      have hlt' : (k : Int) < (ss.length : Int) := by omega
      have hz1 : 0 ≤ (k : Int) := by omega
      have Hb := Lib.hid hb
      have Hk := Lib.hid hk
      clear hb hk q
      cases hc : f ss[k] with
      | true =>
        have hv : Hid (R = (k : Int)) := by
          show _ = _
          rw [← HR.out]; exact idxF_at hlt (fun j hj => Hb.out j hj (by omega)) hc
        rw [hc] at hq
        clear Hb hc HR
        generalize ss[k] = s at *
        go_wp2_with (go_at_fn F; with_reducible refine hq.out.mono ?_; rintro e w' ⟨rfl, k2⟩)
        go_wp2
        go_ret
        exact ⟨by rw [hv.out]; rfl, hkp.trans k2⟩
      | false =>
        rw [hc] at hq
        have Hc := Lib.hid hc
        clear hc
        go_wp2_with (go_at_fn F; with_reducible refine hq.out.mono ?_; rintro e w' ⟨rfl, k2⟩)
        go_wp2
        have hk := Hk.out
        go_roundg (gk - 1)
        case measure => omega
        case rel =>
          refine ⟨k + 1, by go_num, by omega, fun j hj h => ?_, hkp.trans k2⟩
          by_cases e : j = k
          · subst e; exact Hc.out
          · exact Hb.out j (by omega) h
    · have hv : Hid (R = -1) := by
        show _ = _
        rw [← HR.out]; exact idxF_no (fun j hj => hb j (by omega) hj)
      have hlt' : ¬ (k : Int) < (ss.length : Int) := by omega
      clear hb HR q
      go_wp2
      go_ret
      exact ⟨by rw [hv.out]; rfl, hkp⟩

set_option maxRecDepth 100000 in
set_option maxHeartbeats 2000000 in
theorem contains_any (F g o c : Nat) (ss : List ByteArray) (f : ByteArray → Bool) (w : World) (hs : Strs w g o ss) (hg : g < w.heap.size) (hl : ss.length ≤ 1000000) (q : ∀ s ∈ ss, Pred F w f s)
    (he : ∀ args w, (callFunc F args).run Tryz.prog w = .ok (.enter F args) w) :
    Calls Tryz.prog 42 #[.slice (some ⟨g, o, none⟩) ss.length c, .func (.func F) #[] #[]] w fun x w' => x = .returned (.bool (ss.any f)) ∧ Kp [] w w' := by
  have h1 := Lib.hid (index_any F g o c ss f w hs hg hl q he)
  have h2 : Hid (decide (0 ≤ idxF f ss) = ss.any f) := idxF_nn f ss
  generalize idxF f ss = R at *
  clear hs q
  go_enter Tryz.func42, Tryz.ntmps42
  go_wp2_with fail
  with_reducible refine h1.out.mono ?_
  rintro e w1 ⟨rfl, k1⟩
  go_wp2
  go_ret
  exact ⟨by rw [← h2.out]; rfl, k1⟩

/-- a text with at most 30 bytes before and behind the slash -/
def shB (a : ByteArray) : Bool := decide ((cN a).size ≤ 30) && decide ((cD a).size ≤ 30)
def badB (a : ByteArray) : Bool := !(shB a) || decide (spE a ≠ 0)
set_option maxRecDepth 100000 in
set_option maxHeartbeats 2000000 in
theorem right1_any (a : ByteArray) (w : World) (ha : a.size ≤ 9223372036854775807) :
    Calls Tryz.prog 105 #[.string a] w fun x w' => x = .returned (.bool (badB a)) ∧ Kp [] w w' := by
  have q1 := Lib.hid (Short_any a w ha)
  have q2 := Lib.hid (fun (W : World) (hs : shB a = true) => rCheck2_any a W (by
    unfold shB at hs
    simp only [Bool.and_eq_true, decide_eq_true_eq] at hs
    have := cut_size a
    omega))
  have e0 : Hid (badB a = (!(shB a) || decide (spE a ≠ 0))) := rfl
  change Hid (Calls Tryz.prog 44 #[.string a] w fun x w' => x = .returned (.bool (shB a)) ∧ Kp [] w w') at q1
  rw [e0.out]
  clear e0
  cases hs : shB a with
  | false =>
    rw [hs] at q1
    clear hs q2
    go_enter Tryz.func105, Tryz.ntmps105
    go_wp2_with fail
    with_reducible refine q1.out.mono ?_
    rintro e w1 ⟨rfl, k1⟩
    go_wp2
    go_ret
    exact ⟨rfl, k1⟩
  | true =>
    rw [hs] at q1
    replace q2 := Lib.hid (fun W => q2.out W hs)
    clear hs
    by_cases h0 : spE a = 0
    · rw [h0] at q2
      rw [decide_eq_false (by rw [h0]; decide)]
      clear h0
      go_enter Tryz.func105, Tryz.ntmps105
      go_wp2_with fail
      with_reducible refine q1.out.mono ?_
      rintro e w1 ⟨rfl, k1⟩
      go_wp2_with fail
      with_reducible refine (q2.out _).mono ?_
      rintro e w2 ⟨rfl, k2⟩
      go_wp2
      go_ret
      exact ⟨rfl, k1.trans k2⟩
    · have hb : (spE a != 0) = true := bne_iff_ne.2 h0
      rw [decide_eq_true h0]
      generalize spE a = E at *
      clear h0
      go_enter Tryz.func105, Tryz.ntmps105
      go_wp2_with fail
      with_reducible refine q1.out.mono ?_
      rintro e w1 ⟨rfl, k1⟩
      go_wp2_with fail
      with_reducible refine (q2.out _).mono ?_
      rintro e w2 ⟨rfl, k2⟩
      go_wp2
      go_ret
      exact ⟨rfl, k1.trans k2⟩

set_option maxRecDepth 100000 in
set_option maxHeartbeats 2000000 in
theorem right_any (g o c : Nat) (ss : List ByteArray) (w : World) (hs : Strs w g o ss) (hg : g < w.heap.size) (hl : ss.length ≤ 1000000) (hz : ∀ s ∈ ss, s.size ≤ 9223372036854775807) :
    Calls Tryz.prog 49 #[.slice (some ⟨g, o, none⟩) ss.length c] w fun x w' => x = .returned (.bool (!(ss.any badB))) ∧ Kp [] w w' := by
  have h1 := Lib.hid (contains_any 105 g o c ss badB w hs hg hl (fun s h W _ => right1_any s W (hz s h)) (enters_of Tryz.func105 (by kernel_rfl) rfl))
  generalize ss.any badB = b at *
  clear hs
  go_enter Tryz.func49, Tryz.ntmps49
  go_wp2_with fail
  with_reducible refine h1.out.mono ?_
  rintro e w1 ⟨rfl, k1⟩
  go_wp2
  go_ret
  exact ⟨rfl, k1⟩

theorem nd_len_lt {n k : Nat} (h : nDigits n ≤ k) (hk : 0 < k) : n < 10 ^ k := (nd_le_iff hk).1 h
/-- a right, short text is that of a short number -/
theorem good_RS {a : ByteArray} (h : badB a = false) : ∃ q, a = RS q ∧ Sm 30 q := by
  unfold badB shB at h
  simp only [Bool.or_eq_false_iff, Bool.not_eq_false', Bool.and_eq_true, decide_eq_true_eq, decide_eq_false_iff_not, Classical.not_not] at h
  obtain ⟨⟨h1, h2⟩, h3⟩ := h
  obtain ⟨q, rfl, oq⟩ := RS_of_sp h3
  obtain ⟨a1, a2, a3⟩ := sp_RS oq
  rw [a1] at h1
  rw [a2] at h2
  have n1 : nDigits q.num.natAbs ≤ 30 := by
    have : nDigits q.num.natAbs ≤ (S q.num).size := by
      by_cases hn : q.num < 0
      · have := (S_neg hn).2; omega
      · have := (S_nn hn).2; omega
    omega
  have n2 : nDigits q.den ≤ 30 := by
    have := (S_nn (z := (q.den : Int)) (by omega)).2
    rw [Int.natAbs_natCast] at this
    omega
  exact ⟨q, rfl, nd_len_lt n1 (by omega), nd_len_lt n2 (by omega)⟩
end Go.Proofs.YtminjcknmhgpiaaGreatDoor

/- Walk over RatioOrders. -/
namespace Go.Proofs.YtminjcknmhgpiaaGreatDoor
open Go.RowKit
open Go.Lib (nDigits itoa decDigits)

theorem strs2Q {W : World} {g : Nat} {a b : ByteArray} {T : Nat} (hb : W.heap[g]? = some (.cells #[.string a, .string b] T (0, 0))) : Strs W g 0 [a, b] := by
  have hc : ∀ n, W.cell? ⟨g, n, none⟩ = (#[.string a, .string b] : Array Value)[n]? := fun n => by simp [World.cell?, hb]
  intro i h
  rw [hc]
  have h3 : i < 2 := h
  have : i = 0 ∨ i = 1 := by omega
  rcases this with rfl | rfl <;> rfl
/-- a call that returns a value and keeps the old blocks, in worlds that keep what w has -/
def Gv (w : World) (n : Nat) (args : Array Value) (v : Value) : Prop := ∀ W : World, Kp [] w W → Calls Tryz.prog n args W fun e w' => e = .returned v ∧ Kp [] W w'

set_option maxRecDepth 100000 in
set_option maxHeartbeats 4000000 in
theorem OrdersR_bad (a b : ByteArray) (n : Int) (w : World) (ha : a.size ≤ 9223372036854775807) (hb : b.size ≤ 9223372036854775807) (hsh : [a, b].any badB = true) (hl : Tab w) :
    Calls Tryz.prog 9 #[.string a, .string b, .int .u16 n] w fun e w' => e = .returned (.bool true) ∧ Kp [] w w' := by
  have hs := strs2Q (heap_alloc_new w (.cells #[.string a, .string b] 22 (0, 0)))
  have hk0 : Kp [] w (w.alloc (.cells #[.string a, .string b] 22 (0, 0))) := (Kp.refl _ _).alloc _
  have hq := Lib.hid (right_any w.heap.size 0 2 [a, b] _ hs (by simp) (by simp) (by intro s h; simp at h; rcases h with rfl | rfl <;> assumption))
  rw [hsh] at hq
  simp only [List.length_cons, List.length_nil, Nat.zero_add, Nat.reduceAdd] at hq
  have qa : Hid (Gv w 11 #[] (.bool true)) := fun W k => awakeR_any W (tab_kp hl k)
  unfold Gv at qa
  clear hs hsh ha hb hl
  go_enter Tryz.func9, Tryz.ntmps9
  go_wp2_with fail
  with_reducible refine hq.out.mono ?_
  rintro e w1 ⟨rfl, k⟩
  have k1 := hk0.trans k; clear k
  go_wp2_with fail
  with_reducible refine (qa.out _ k1).mono ?_
  rintro e w2 ⟨rfl, k⟩
  go_wp2
  go_ret
  exact ⟨rfl, k1.trans k⟩

set_option maxRecDepth 100000 in
set_option maxHeartbeats 8000000 in
theorem OrdersR_core (a b d m low rest p q c v z : ByteArray) (n x t : Int) (e0 : Bool) (w : World) (ha : a.size ≤ 9223372036854775807) (hb : b.size ≤ 9223372036854775807) (hsh : [a, b].any badB = false)
    (n0 : 0 ≤ n) (n1 : n ≤ 65535) (x0 : -1 ≤ x) (x1 : x ≤ 1) (hx : (x == 0) = e0) (hab : (a.toList == b.toList) = e0) (ht : ¬ t < 0)
    (q1 : Hid (Gv w 31 #[.string a, .string b] (.tuple #[.string d, .int .i64 0])))
    (q2 : Hid (Gv w 14 #[.string d] (.tuple #[.int .i64 x, .int .i64 0])))
    (q3 : Hid (Gv w 37 #[.string a, .string b] (.tuple #[.int .i64 x, .int .i64 0])))
    (q4 : Hid (Gv w 37 #[.string b, .string a] (.tuple #[.int .i64 (-x), .int .i64 0])))
    (q5 : Hid (Gv w 18 #[.string a] (.tuple #[.string m, .int .i64 0])))
    (q6 : Hid (Gv w 23 #[.string m, .string ⟨#[49]⟩] (.tuple #[.string low, .int .i64 0])))
    (q7 : Hid (Gv w 31 #[.string a, .string low] (.tuple #[.string rest, .int .i64 0])))
    (q8 : Hid (Gv w 14 #[.string rest] (.tuple #[.int .i64 t, .int .i64 0])))
    (q9 : Hid (Gv w 37 #[.string rest, .string ⟨#[49]⟩] (.tuple #[.int .i64 (-1), .int .i64 0])))
    (q10 : Hid (Gv w 12 #[.string a] (.tuple #[.string p, .string q, .int .i64 0])))
    (q11 : Hid (Gv w 53 #[.int .i64 (-1 - n)] (.string c)))
    (q12 : Hid (Gv w 54 #[.string p, .string c] (.tuple #[.string v, .int .i64 0])))
    (q13 : Hid (Gv w 54 #[.string q, .string c] (.tuple #[.string z, .int .i64 0])))
    (q14 : Hid (Gv w 23 #[.string v, .string z] (.tuple #[.string a, .int .i64 0])))
    (qa : Hid (Gv w 11 #[] (.bool true))) :
    Calls Tryz.prog 9 #[.string a, .string b, .int .u16 n] w fun e w' => e = .returned (.bool true) ∧ Kp [] w w' := by
  have hs := strs2Q (heap_alloc_new w (.cells #[.string a, .string b] 22 (0, 0)))
  have hk0 : Kp [] w (w.alloc (.cells #[.string a, .string b] 22 (0, 0))) := (Kp.refl _ _).alloc _
  have hq := Lib.hid (right_any w.heap.size 0 2 [a, b] _ hs (by simp) (by simp) (by intro s h; simp at h; rcases h with rfl | rfl <;> assumption))
  rw [hsh] at hq
  simp only [List.length_cons, List.length_nil, Nat.zero_add, Nat.reduceAdd] at hq
  unfold Gv at q1 q2 q3 q4 q5 q6 q7 q8 q9 q10 q11 q12 q13 q14 qa
  clear hs hsh ha hb
  go_enter Tryz.func9, Tryz.ntmps9
  go_wp2_with fail
  with_reducible refine hq.out.mono ?_
  rintro e w1 ⟨rfl, k⟩
  have k1 := hk0.trans k; clear k hk0 hq
  go_wp2_with fail
  with_reducible refine (q1.out _ k1).mono ?_
  rintro e w2 ⟨rfl, k⟩
  replace k1 := k1.trans k; clear k q1
  go_wp2_with fail
  with_reducible refine (q2.out _ k1).mono ?_
  rintro e w3 ⟨rfl, k⟩
  replace k1 := k1.trans k; clear k q2
  go_wp2_with fail
  with_reducible refine (q3.out _ k1).mono ?_
  rintro e w4 ⟨rfl, k⟩
  replace k1 := k1.trans k; clear k q3
  go_wp2_with fail
  with_reducible refine (q4.out _ k1).mono ?_
  rintro e w5 ⟨rfl, k⟩
  replace k1 := k1.trans k; clear k q4
  go_wp2_with fail
  with_reducible refine (q5.out _ k1).mono ?_
  rintro e w6 ⟨rfl, k⟩
  replace k1 := k1.trans k; clear k q5
  go_wp2_with fail
  with_reducible refine (q6.out _ k1).mono ?_
  rintro e w7 ⟨rfl, k⟩
  replace k1 := k1.trans k; clear k q6
  go_wp2_with fail
  with_reducible refine (q7.out _ k1).mono ?_
  rintro e w8 ⟨rfl, k⟩
  replace k1 := k1.trans k; clear k q7
  go_wp2_with fail
  with_reducible refine (q8.out _ k1).mono ?_
  rintro e w9 ⟨rfl, k⟩
  replace k1 := k1.trans k; clear k q8
  go_wp2_with fail
  with_reducible refine (q9.out _ k1).mono ?_
  rintro e w10 ⟨rfl, k⟩
  replace k1 := k1.trans k; clear k q9
  go_wp2_with fail
  with_reducible refine (q10.out _ k1).mono ?_
  rintro e w11 ⟨rfl, k⟩
  replace k1 := k1.trans k; clear k q10
  go_wp2_with fail
  with_reducible refine (q11.out _ k1).mono ?_
  rintro e w12 ⟨rfl, k⟩
  replace k1 := k1.trans k; clear k q11
  go_wp2_with fail
  with_reducible refine (q12.out _ k1).mono ?_
  rintro e w13 ⟨rfl, k⟩
  replace k1 := k1.trans k; clear k q12
  go_wp2_with fail
  with_reducible refine (q13.out _ k1).mono ?_
  rintro e w14 ⟨rfl, k⟩
  replace k1 := k1.trans k; clear k q13
  go_wp2_with fail
  with_reducible refine (q14.out _ k1).mono ?_
  rintro e w15 ⟨rfl, k⟩
  replace k1 := k1.trans k; clear k q14
  go_wp2_with fail
  with_reducible refine (qa.out _ k1).mono ?_
  rintro e w16 ⟨rfl, k⟩
  replace k1 := k1.trans k; clear k qa
  go_wp2
  go_ret
  exact ⟨rfl, k1⟩
end Go.Proofs.YtminjcknmhgpiaaGreatDoor

/- RatioOrders returns true for every input. -/
namespace Go.Proofs.YtminjcknmhgpiaaGreatDoor
open Go.RowKit
open Go.Lib (nDigits itoa decDigits)

theorem RS_inj {q r : Rat} (hq : OkR q) (hr : OkR r) (h : RS q = RS r) : q = r := by
  obtain ⟨a1, a2, _⟩ := sp_RS hq
  obtain ⟨b1, b2, _⟩ := sp_RS hr
  rw [h] at a1 a2
  have e1 := S_inj (a1.symm.trans b1)
  have e2 := S_inj (a2.symm.trans b2)
  rw [← Rat.num_divInt_den q, ← Rat.num_divInt_den r, e1, e2]
theorem RS_beq {q r : Rat} (hq : OkR q) (hr : OkR r) : ((RS q).toList == (RS r).toList) = decide (q = r) := by
  by_cases h : q = r
  · subst h; rw [decide_eq_true rfl]; exact beq_self_eq_true _
  · rw [decide_eq_false h]
    refine beq_eq_false_iff_ne.2 (fun e => h (RS_inj hq hr ?_))
    rw [ByteArray.toList_eq, ByteArray.toList_eq] at e
    exact bytes_eq e
theorem sgR_le (q : Rat) : -1 ≤ sgR q ∧ sgR q ≤ 1 := by
  rcases sg3 q with ⟨_, e⟩ | ⟨_, e⟩ | ⟨_, e⟩ <;> rw [e] <;> decide
theorem sgR_neg (q : Rat) : sgR (-q) = -sgR q := by
  rcases sg3 q with ⟨h, e⟩ | ⟨h, e⟩ | ⟨h, e⟩ <;> rw [e]
  · exact sg_pos (by grind)
  · subst h; decide
  · exact sg_neg (by grind)
theorem cmR_flip (q r : Rat) : cmR r q = -cmR q r := by
  rw [cm_sg, cm_sg, ← sgR_neg]
  congr 1
  grind
theorem sgR_zero_iff (q : Rat) : (sgR q == 0) = decide (q = 0) := by
  rcases sg3 q with ⟨h, e⟩ | ⟨h, e⟩ | ⟨h, e⟩ <;> rw [e]
  · exact (decide_eq_false (by grind)).symm
  · exact (decide_eq_true h).symm
  · exact (decide_eq_false (by grind)).symm
theorem divInt_one_eq (z : Int) : Rat.divInt z 1 = (z : Rat) := by
  have := Rat.num_divInt_den (z : Rat)
  rw [Rat.num_intCast, Rat.den_intCast] at this
  exact this
theorem floor_lo (q : Rat) : 0 ≤ q - ((q.num.fdiv (q.den : Int) : Int) : Rat) ∧ q - ((q.num.fdiv (q.den : Int) : Int) : Rat) < 1 := by
  have h1 := Rat.floor_le q
  have h2 := Rat.lt_floor_add_one q
  rw [Rat.floor_def] at h1 h2
  rw [Int.fdiv_eq_ediv_of_nonneg _ (by omega)]
  rw [Rat.intCast_add] at h2
  constructor
  · grind
  · grind

theorem floor_abs (q : Rat) : (q.num.fdiv (q.den : Int)).natAbs ≤ q.num.natAbs := by
  rw [Int.fdiv_eq_ediv_of_nonneg _ (by omega)]
  exact Int.natAbs_ediv_le_natAbs _ _

set_option maxRecDepth 100000 in
set_option maxHeartbeats 4000000 in
theorem OrdersR_any (a b : ByteArray) (n : Int) (w : World) (ha : a.size ≤ 9223372036854775807) (hb : b.size ≤ 9223372036854775807) (n0 : 0 ≤ n) (n1 : n ≤ 65535) (hl : Tab w) :
    Calls Tryz.prog 9 #[.string a, .string b, .int .u16 n] w fun e w' => e = .returned (.bool true) ∧ Kp [] w w' := by
  cases hsh : [a, b].any badB with
  | true => exact OrdersR_bad a b n w ha hb hsh hl
  | false =>
    have h2 := hsh
    simp only [List.any_cons, List.any_nil, Bool.or_false, Bool.or_eq_false_iff] at h2
    obtain ⟨q, rfl, hq⟩ := good_RS h2.1
    obtain ⟨r, rfl, hr⟩ := good_RS h2.2
    have oq := hq.ok (by omega)
    have or := hr.ok (by omega)
    obtain ⟨f1, f2⟩ := floor_lo q
    have cf := fun W => floor_c hq (by omega) W
    have hf : (q.num.fdiv (q.den : Int)).natAbs < 10 ^ 30 := Nat.lt_of_le_of_lt (floor_abs q) hq.1
    generalize q.num.fdiv (q.den : Int) = f at *
    have hlow : Sm 30 (f : Rat) := ⟨by rw [Rat.num_intCast]; exact hf, by rw [Rat.den_intCast]; exact Nat.one_lt_pow (by omega) (by omega)⟩
    have hfo : Ok f := ok_pow hf (by omega)
    have hc : (-1 - n).natAbs < 10 ^ 6 := by omega
    have oc : Ok (-1 - n) := ok_pow hc (by omega)
    have hx := sgR_le (q - r)
    have ov := ok_pow (mulI_lt hq.1 hc) (by omega)
    have oz := ok_pow (mulI_lt (x := (q.den : Int)) (by rw [Int.natAbs_natCast]; exact hq.2) hc) (by omega)
    refine OrdersR_core (RS q) (RS r) (RS (q - r)) (S f) (RS (f : Rat)) (RS (q - (f : Rat))) (S q.num) (S (q.den : Int)) (S (-1 - n)) (S (q.num * (-1 - n))) (S ((q.den : Int) * (-1 - n))) n (sgR (q - r)) (sgR (q - (f : Rat)))
      (decide (q = r)) w ha hb hsh n0 n1 hx.1 hx.2 ?_ (RS_beq oq or) ?_ ?_ ?_ ?_ ?_ ?_ ?_ ?_ ?_ ?_ ?_ ?_ ?_ ?_ ?_ ?_
    · rw [sgR_zero_iff]
      congr 1
      exact propext ⟨fun h => by grind, fun h => by grind⟩
    · rw [sgR_neg_iff]; grind
    · exact fun W _ => sub_c hq hr (by omega) W
    · exact fun W _ => sign_c (hq.sub hr) (by omega) W
    · exact fun W _ => by
        have c := cmp_c hq hr (by omega) W
        rwa [cm_sg] at c
    · exact fun W _ => by
        have c := cmp_c hr hq (by omega) W
        rwa [cmR_flip, cm_sg] at c
    · exact fun W _ => cf W
    · exact fun W _ => by
        have c := make_c hfo okq_one (by decide) W
        rwa [divInt_one_eq, ← one_S] at c
    · exact fun W _ => sub_c hq hlow (by omega) W
    · exact fun W _ => sign_c (hq.sub hlow) (by omega) W
    · exact fun W _ => by
        have c := cmp_c (hq.sub hlow) (sm_lit30 (q := 1) (by decide +kernel)) (by omega) W
        rw [l_1] at c
        rwa [show cmR (q - (f : Rat)) 1 = -1 from if_pos f2] at c
    · exact fun W _ => parts_c hq (by omega) W
    · exact fun W k => wOf_any _ W ⟨by omega, by omega⟩ (tab_kp hl k)
    · exact fun W _ => by
        have c := Mul_any (S q.num) (S (-1 - n)) W (Nat.le_trans oq.1.size (by omega)) (Nat.le_trans oc.size (by omega))
        rwa [(bin_S oq.1 oc).1, (bin_S oq.1 oc).2, resB_ok ov, resE_ok ov] at c
    · exact fun W _ => by
        have c := Mul_any (S (q.den : Int)) (S (-1 - n)) W (Nat.le_trans oq.2.size (by omega)) (Nat.le_trans oc.size (by omega))
        rwa [(bin_S oq.2 oc).1, (bin_S oq.2 oc).2, resB_ok oz, resE_ok oz] at c
    · exact fun W _ => by
        have c := make_c ov oz (Int.mul_ne_zero (by have := q.den_pos; omega) (by omega)) W
        rwa [Rat.divInt_mul_right (by omega), Rat.num_divInt_den] at c
    · exact fun W k => awakeR_any W (tab_kp hl k)
end Go.Proofs.YtminjcknmhgpiaaGreatDoor
