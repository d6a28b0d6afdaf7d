/- Texts RefSum, Sums2: each says in its own first comment what it proves. -/
import Derived.Test.YtminjcknmhgpiaaGreatDoorM52
import Derived.Test.YtminjcknmhgpiaaGreatDoorComp2
import Derived.Test.YtminjcknmhgpiaaGreatDoorM43
import Derived.Test.YtminjcknmhgpiaaGreatDoorM47
/- FewAll and Sum of the reference of layer 2. -/
namespace Go.Proofs.YtminjcknmhgpiaaGreatDoor
open Go.RowKit
open Go.Lib (nDigits itoa decDigits)

/-- how many bytes FewAll counts, in a machine's ints -/
def byB (ss : List ByteArray) : Int := ss.foldl (fun b s => wrap64 (b + (s.size : Int))) 0
def fewAllB (ss : List ByteArray) : Bool := decide (ss.length ≤ 40) && decide (byB (ss.take 40) ≤ 200) || (decide (4096 < ss.length) && decide (ss.length < 8192))
theorem byB_next {ss : List ByteArray} {k : Nat} (h : k < ss.length) : byB (ss.take (k + 1)) = wrap64 (byB (ss.take k) + (ss[k].size : Int)) := by
  rw [List.take_succ_eq_append_getElem h]
  unfold byB
  rw [List.foldl_append]
  rfl
set_option maxRecDepth 100000 in
set_option maxHeartbeats 4000000 in
theorem fewAll_any (l o c : Nat) (p : Option Addr) (ss : List ByteArray) (w : World) (hs : Strs w l o ss) (hp : 0 < ss.length → p = some ⟨l, o, none⟩ ∧ l < w.heap.size) (hz : ∀ s ∈ ss, s.size ≤ 9223372036854775807) (hn : ss.length ≤ 9223372036854775807) :
    Calls Tryz.prog 39 #[.slice p ss.length c] w fun x w' => x = .returned (.bool (fewAllB ss)) ∧ Kp [] w w' := by
  have hn1 : (ss.length : Int) ≤ 9223372036854775807 := by omega
  generalize hR : fewAllB ss = R
  have HR := Lib.hid hR
  clear hR
  go_enter Tryz.func39, Tryz.ntmps39
  go_wp2
  go_loopg [3, 4] (min ss.length 40) (fun gk s3 s4 wr => ∃ k : Nat, s4 = .int .i64 k ∧ s3 = .int .i64 (byB (ss.take k)) ∧ k + gk = min ss.length 40 ∧ wr = w)
  case atStart => exact ⟨0, rfl, rfl, by omega, rfl⟩
  case round =>
    obtain ⟨k, rfl, rfl, hk, rfl⟩ := hrel
    by_cases hlt : k < min ss.length 40
    · have hl0 : k < ss.length := by omega
      obtain ⟨rfl, hl⟩ := hp (by omega)
      have hcell := hs k hl0
      have hnx := Lib.hid (byB_next hl0)
      have hsz : ((ss[k]).size : Int) ≤ 9223372036854775807 := by have := hz _ (List.getElem_mem hl0); omega
      have h1 : (k : Int) < (ss.length : Int) := by omega
      have h2 : (k : Int) < 40 := by omega
      have hz1 : 0 ≤ (k : Int) := by omega
      have Hk := Lib.hid hk
      clear hk hlt hz
      generalize ss[k] = s at *
      generalize hB : byB (ss.take k) = bb at *
      go_wp2
      have hk := Hk.out
      go_roundg (gk - 1)
      case measure => omega
      case rel => exact ⟨k + 1, by go_num, by rw [hnx.out], by omega, rfl⟩
    · have e : k = min ss.length 40 := by omega
      have hst : ss.take k = ss.take 40 := by
        rw [e]
        by_cases h : ss.length ≤ 40
        · rw [Nat.min_eq_left h, List.take_length, List.take_of_length_le h]
        · rw [Nat.min_eq_right (by omega)]
      rw [hst]
      by_cases h40 : ss.length ≤ 40
      · have h1 : ¬ (k : Int) < (ss.length : Int) := by omega
        have h2 : (ss.length : Int) ≤ 40 := by omega
        have h4 : ¬ (4096 : Int) < (ss.length : Int) := by omega
        have h4n : ¬ 4096 < ss.length := by omega
        by_cases hb : byB (ss.take 40) ≤ 200
        · have Hv : Hid (R = true) := by
            show _ = _
            rw [← HR.out]
            unfold fewAllB
            simp [h40, hb]
          generalize byB (ss.take 40) = bb at *
          clear HR hs hp hz hst e hk hlt h40 h4n
          generalize ss.length = n at *
          go_wp2
          go_ret
          exact ⟨by rw [Hv.out]; rfl, Kp.refl _ _⟩
        · have Hv : Hid (R = false) := by
            show _ = _
            rw [← HR.out]
            unfold fewAllB
            simp [hb, h4n]
          generalize byB (ss.take 40) = bb at *
          clear HR hs hp hz hst e hk hlt h40 h4n
          generalize ss.length = n at *
          go_wp2
          go_ret
          exact ⟨by rw [Hv.out]; rfl, Kp.refl _ _⟩
      · have h0 : k = 40 := by omega
        subst h0
        have h1 : (40 : Int) < (ss.length : Int) := by omega
        have h2 : ¬ (ss.length : Int) ≤ 40 := by omega
        by_cases h4 : 4096 < ss.length
        · have h4' : (4096 : Int) < (ss.length : Int) := by omega
          by_cases h8 : ss.length < 8192
          · have h8' : (ss.length : Int) < 8192 := by omega
            have Hv : Hid (R = true) := by
              show _ = _
              rw [← HR.out]
              unfold fewAllB
              simp [h4, h8]
            generalize byB (ss.take 40) = bb at *
            clear HR hs hp hz hst e hk hlt h40 h4 h8
            generalize ss.length = n at *
            go_wp2
            go_ret
            exact ⟨by rw [Hv.out]; rfl, Kp.refl _ _⟩
          · have h8' : ¬ (ss.length : Int) < 8192 := by omega
            have Hv : Hid (R = false) := by
              show _ = _
              rw [← HR.out]
              unfold fewAllB
              simp [h40, h8]
            generalize byB (ss.take 40) = bb at *
            clear HR hs hp hz hst e hk hlt h40 h4 h8
            generalize ss.length = n at *
            go_wp2
            go_ret
            exact ⟨by rw [Hv.out]; rfl, Kp.refl _ _⟩
        · have h4' : ¬ (4096 : Int) < (ss.length : Int) := by omega
          have Hv : Hid (R = false) := by
            show _ = _
            rw [← HR.out]
            unfold fewAllB
            simp [h40, h4]
          generalize byB (ss.take 40) = bb at *
          clear HR hs hp hz hst e hk hlt h40 h4
          generalize ss.length = n at *
          go_wp2
          go_ret
          exact ⟨by rw [Hv.out]; rfl, Kp.refl _ _⟩

set_option maxRecDepth 100000 in
theorem rSum_many (p : Option Addr) (n c : Nat) (w : World) (h : 4096 < n) (hn : n ≤ 9223372036854775807) :
    Calls Tryz.prog 41 #[.slice p n c] w fun x w' => x = .returned (.tuple #[.string ⟨#[]⟩, .int .i64 5]) ∧ Kp [] w w' := by
  have h' : (4096 : Int) < (n : Int) := by omega
  have hn' : (n : Int) ≤ 9223372036854775807 := by omega
  go_enter Tryz.func41, Tryz.ntmps41
  go_wp2
  go_ret2
  exact ⟨rfl, Kp.refl _ _⟩
/-- the running totals -/
def tot (qs : List Rat) : Rat := qs.foldl (· + ·) 0
theorem tot_next {qs : List Rat} {k : Nat} (h : k < qs.length) : tot (qs.take (k + 1)) = tot (qs.take k) + qs[k] := by
  rw [List.take_succ_eq_append_getElem h]
  unfold tot
  rw [List.foldl_append]
  rfl

set_option maxRecDepth 100000 in
set_option maxHeartbeats 4000000 in
theorem rSum_e (l o c : Nat) (p : Option Addr) (ss : List ByteArray) (w : World) (hs : Strs w l o ss) (hp : 0 < ss.length → p = some ⟨l, o, none⟩ ∧ l < w.heap.size) (hn : ss.length ≤ 4096)
    (ck : ∀ s ∈ ss, Hid (Gw w 21 #[.string s] (.int .i64 (spE s)))) (R : Int) (hR : spL ss = R) (hne : (R == 0) = false) :
    Calls Tryz.prog 41 #[.slice p ss.length c] w fun x w' => x = .returned (.tuple #[.string ⟨#[]⟩, .int .i64 R]) ∧ Kp [] w w' := by
  have hn1 : (ss.length : Int) ≤ 4096 := by omega
  have HR := Lib.hid hR
  have HN := Lib.hid hne
  clear hR hne
  go_enter Tryz.func41, Tryz.ntmps41
  go_wp2
  go_loopg [4] ss.length (fun gk s4 wr => ∃ k : Nat, s4 = .int .i64 k ∧ k + gk = ss.length ∧ (∀ j (hj : j < k) (h : j < ss.length), spE ss[j] = 0) ∧ Kp [] w wr)
  case atStart => exact ⟨0, rfl, by omega, fun j hj => by omega, Kp.refl _ _⟩
  case round =>
    obtain ⟨k, rfl, hk, hb, kk⟩ := hrel
    by_cases hlt : k < ss.length
    · obtain ⟨rfl, hl⟩ := hp (by omega)
      have hcell := (hs.kp hl kk (by simp)) k hlt
      have hq := ck _ (List.getElem_mem hlt)
      unfold Gw at hq
      have hlt' : (k : Int) < (ss.length : Int) := by omega
      have hz1 : 0 ≤ (k : Int) := by omega
      have Hb := Lib.hid hb
      have Hk := Lib.hid hk
      cases hc : (spE ss[k] == 0) with
      | false =>
        have hv : R = spE ss[k] := by rw [← HR.out]; exact spL_at hlt (fun j hj h => Hb.out j hj h) (beq_eq_false_iff_ne.1 hc)
        have Hv := Lib.hid hv
        clear hv ck hs hb hk Hb hp
        generalize spE ss[k] = ev at *
        generalize ss[k] = s at *
        go_wp2_with fail
        with_reducible refine (hq.out _ kk).mono ?_
        rintro x w' ⟨rfl, k2⟩
        go_wp2
        go_ret2
        exact ⟨by rw [Hv.out]; rfl, kk.trans k2⟩
      | true =>
        have Hc : Hid (spE ss[k] = 0) := by show _ = _; simpa using hc
        rw [Hc.out] at hq
        clear hc ck hb hk
        generalize hS : ss[k] = s at *
        have HS := Lib.hid hS
        clear hS hs
        go_wp2_with fail
        with_reducible refine (hq.out _ kk).mono ?_
        rintro x w' ⟨rfl, k2⟩
        go_wp2
        have hk := Hk.out
        go_roundg (gk - 1)
        case measure => omega
        case rel =>
          refine ⟨k + 1, by go_num, by omega, fun j hj h => ?_, kk.trans k2⟩
          by_cases ejk : j = k
          · subst ejk; rw [HS.out]; exact Hc.out
          · exact Hb.out j (by omega) h
    · exact absurd (HR.out.symm.trans (spL_all fun s hm => by obtain ⟨j, hj, rfl⟩ := List.getElem_of_mem hm; exact hb j (by omega) hj)) (beq_eq_false_iff_ne.1 HN.out)

set_option maxRecDepth 100000 in
set_option maxHeartbeats 4000000 in
theorem rSum_0 (l o c : Nat) (p : Option Addr) (qs : List Rat) (w : World) (hs : Strs w l o (qs.map RS)) (hp : 0 < (qs.map RS).length → p = some ⟨l, o, none⟩ ∧ l < w.heap.size) (hn : (qs.map RS).length ≤ 4096)
    (ck : ∀ s ∈ qs.map RS, Hid (Gw w 21 #[.string s] (.int .i64 0)))
    (ad : ∀ (k : Nat) (hk : k < qs.length), Hid (Gw w 30 #[.string (RS (tot (qs.take k))), .string (RS qs[k])] (.tuple #[.string (RS (tot (qs.take (k + 1)))), .int .i64 0]))) :
    Calls Tryz.prog 41 #[.slice p (qs.map RS).length c] w fun x w' => x = .returned (.tuple #[.string (RS (tot qs)), .int .i64 0]) ∧ Kp [] w w' := by
  generalize hSS : qs.map RS = ss at *
  have HLEN : Hid (ss.length = qs.length) := by show _ = _; rw [← hSS, List.length_map]
  have hn1 : (ss.length : Int) ≤ 4096 := by omega
  have hz0 : (⟨#[48]⟩ : ByteArray) = RS (tot (qs.take 0)) := l_0.symm
  have HZ := Lib.hid hz0
  clear hz0
  go_enter Tryz.func41, Tryz.ntmps41
  go_wp2
  go_loopg [4] ss.length (fun gk s4 wr => ∃ k : Nat, s4 = .int .i64 k ∧ k + gk = ss.length ∧ Kp [] w wr)
  case atStart => exact ⟨0, rfl, by omega, Kp.refl _ _⟩
  case round =>
    obtain ⟨k, rfl, hk, kk⟩ := hrel
    by_cases hlt : k < ss.length
    · obtain ⟨rfl, hl⟩ := hp (by omega)
      have hcell := (hs.kp hl kk (by simp)) k hlt
      have hq := ck _ (List.getElem_mem hlt)
      unfold Gw at hq
      have hlt' : (k : Int) < (ss.length : Int) := by omega
      have hz1 : 0 ≤ (k : Int) := by omega
      have Hk := Lib.hid hk
      clear ck hk
      generalize ss[k] = s at *
      go_wp2_with fail
      with_reducible refine (hq.out _ kk).mono ?_
      rintro x w' ⟨rfl, k2⟩
      go_wp2
      have hk := Hk.out
      go_roundg (gk - 1)
      case measure => omega
      case rel => exact ⟨k + 1, by go_num, by omega, kk.trans k2⟩
    · have hlt' : ¬ (k : Int) < (ss.length : Int) := by omega
      clear hk hlt ck
      go_wp2
      go_loopg [6, 7] ss.length (fun gk s6 s7 wq => ∃ j : Nat, s7 = .int .i64 j ∧ s6 = .string (RS (tot (qs.take j))) ∧ j + gk = ss.length ∧ Kp [] w wq)
      case atStart => exact ⟨0, rfl, by rw [HZ.out], by omega, kk⟩
      case round =>
        obtain ⟨j, rfl, rfl, hj, kq⟩ := hrel
        by_cases hlt : j < ss.length
        · obtain ⟨rfl, hl⟩ := hp (by omega)
          have hcell := (hs.kp hl kq (by simp)) j hlt
          have hjq : j < qs.length := by have := HLEN.out; omega
          have hq := ad j hjq
          unfold Gw at hq
          have hge : ss[j] = RS (qs[j]) := by simp only [← hSS, List.getElem_map]
          rw [hge] at hcell
          have hlt' : (j : Int) < (ss.length : Int) := by omega
          have hz1 : 0 ≤ (j : Int) := by omega
          have Hj := Lib.hid hj
          clear hj ad hge hs
          generalize hA : RS (tot (qs.take (j + 1))) = tn at *
          generalize RS (tot (qs.take j)) = t0 at *
          generalize RS (qs[j]) = s at *
          have HA := Lib.hid hA
          clear hA
          go_wp2_with fail
          with_reducible refine (hq.out _ kq).mono ?_
          rintro x w' ⟨rfl, k2⟩
          go_wp2
          have hj := Hj.out
          go_roundg (gk - 1)
          case measure => omega
          case rel => exact ⟨j + 1, by go_num, by rw [HA.out], by omega, kq.trans k2⟩
        · have e : qs.take j = qs := List.take_of_length_le (by have := HLEN.out; omega)
          rw [e]
          have hlt' : ¬ (j : Int) < (ss.length : Int) := by omega
          clear hj hlt ad hs hp e
          generalize hRR : RS (tot qs) = R at *
          have HRR := Lib.hid hRR
          clear hRR
          go_wp2
          go_ret2
          exact ⟨by rw [HRR.out]; rfl, kq⟩

end Go.Proofs.YtminjcknmhgpiaaGreatDoor

/- RatioSums returns true for every input. -/
namespace Go.Proofs.YtminjcknmhgpiaaGreatDoor
open Go.RowKit
open Go.Lib (nDigits itoa decDigits)

/-- how many digits the running totals can have -/
def dg (qs : List Rat) : Nat := qs.foldl (fun n q => n + ((RS q).size + 1)) 0
theorem dg_next {qs : List Rat} {k : Nat} (h : k < qs.length) : dg (qs.take (k + 1)) = dg (qs.take k) + ((RS qs[k]).size + 1) := by
  rw [List.take_succ_eq_append_getElem h]
  unfold dg
  rw [List.foldl_append]
  rfl
theorem dg_le {qs : List Rat} : ∀ {k : Nat}, k ≤ qs.length → dg (qs.take k) ≤ dg qs := by
  intro k hk
  have : ∀ d k : Nat, k + d = qs.length → dg (qs.take k) ≤ dg qs := by
    intro d
    induction d with
    | zero => intro k h; rw [List.take_of_length_le (by omega)]; exact Nat.le_refl _
    | succ d ih => intro k h; have h1 := ih (k + 1) (by omega); rw [dg_next (by omega)] at h1; omega
  exact this (qs.length - k) k (by omega)
theorem sm_size {q : Rat} (h : OkR q) : Sm (RS q).size q := by
  obtain ⟨e1, e2, e3⟩ := sp_RS h
  have h1 := cN_size (m := (RS q).size) (a := RS q) (Nat.le_refl _)
  have hp : 1 ≤ (RS q).size := by
    have hs := (S_nn (z := (q.num.natAbs : Int)) (by omega)).2
    by_cases hn : q.num < 0
    · have := (S_neg hn).2; have := Lib.nDigits_pos q.num.natAbs; rw [e1] at h1; omega
    · have := (S_nn (z := q.num) (by omega)).2; have := Lib.nDigits_pos q.num.natAbs; rw [e1] at h1; omega
  have h2 := cD_size (m := (RS q).size) (a := RS q) (Nat.le_refl _) hp
  rw [e1] at h1
  rw [e2] at h2
  have n1 : nDigits q.num.natAbs ≤ (RS q).size := by
    by_cases hn : q.num < 0
    · have := (S_neg hn).2; omega
    · have := (S_nn (z := q.num) (by omega)).2; omega
  have n2 : nDigits q.den ≤ (RS q).size := by
    have := (S_nn (z := (q.den : Int)) (by omega)).2
    rw [Int.natAbs_natCast] at this
    omega
  exact ⟨nd_len_lt n1 (by omega), nd_len_lt n2 (by omega)⟩
theorem tot_sm {qs : List Rat} (h : ∀ q ∈ qs, OkR q) : ∀ {k : Nat}, k ≤ qs.length → Sm (2 + dg (qs.take k)) (tot (qs.take k)) := by
  intro k
  induction k with
  | zero => intro _; exact sm_lit (q := 0) (by decide)
  | succ k ih =>
    intro hk
    rw [tot_next (by omega), dg_next (by omega)]
    exact ((ih (by omega)).add (sm_size (h _ (List.getElem_mem (by omega))))).mono (by omega)
theorem sumO_tot {qs : List Rat} (h : ∀ q ∈ qs, OkR q) (hd : 2 + dg qs < 1024) : qs.foldl sumO (some 0) = some (tot qs) := by
  have : ∀ k, k ≤ qs.length → (qs.take k).foldl sumO (some 0) = some (tot (qs.take k)) := by
    intro k
    induction k with
    | zero => intro _; rfl
    | succ k ih =>
      intro hk
      have h1 := dg_le (qs := qs) hk
      rw [dg_next (by omega)] at h1
      rw [tot_next (by omega), List.take_succ_eq_append_getElem (by omega), List.foldl_append, ih (by omega)]
      have ok := (tot_sm h (k := k) (by omega)).sumOk (sm_size (h _ (List.getElem_mem (show k < qs.length by omega)))) (by omega)
      simp only [List.foldl_cons, List.foldl_nil, sumO, Option.bind_some]
      rw [if_pos ok]
  have := this qs.length (Nat.le_refl _)
  rwa [List.take_length] at this
theorem all_RS {ss : List ByteArray} (h : ∀ s ∈ ss, spE s = 0) : ∃ qs : List Rat, ss = qs.map RS ∧ ∀ q ∈ qs, OkR q := by
  induction ss with
  | nil => exact ⟨[], rfl, by simp⟩
  | cons s ss ih =>
    obtain ⟨qs, rfl, hq⟩ := ih fun t ht => h t (List.mem_cons_of_mem _ ht)
    obtain ⟨q, rfl, h1⟩ := RS_of_sp (h s List.mem_cons_self)
    exact ⟨q :: qs, rfl, by intro r hr; rcases List.mem_cons.1 hr with rfl | hr; exact h1; exact hq r hr⟩
theorem RS_len {q : Rat} (h : OkR q) : (RS q).size ≤ 2051 := by
  have z1 := h.1.size
  have z2 := h.2.size
  unfold RS
  split
  · omega
  · rw [ByteArray.size_append, ByteArray.size_append]
    have : (⟨#[47]⟩ : ByteArray).size = 1 := rfl
    omega
theorem byB_RS {qs : List Rat} (h : ∀ q ∈ qs, OkR q) (hl : qs.length ≤ 40) : byB (qs.map RS) = ((dg qs : Int) - qs.length) := by
  have : ∀ k, k ≤ qs.length → byB ((qs.map RS).take k) = (dg (qs.take k) : Int) - k ∧ k ≤ dg (qs.take k) ∧ dg (qs.take k) ≤ k * 2052 := by
    intro k
    induction k with
    | zero => intro _; exact ⟨rfl, Nat.zero_le _, Nat.le_refl _⟩
    | succ k ih =>
      intro hk
      obtain ⟨h1, h2, h3⟩ := ih (by omega)
      have hk' : k < (qs.map RS).length := by rw [List.length_map]; omega
      have hz := RS_len (h _ (List.getElem_mem (show k < qs.length by omega)))
      rw [byB_next hk', h1, dg_next (by omega), List.getElem_map]
      refine ⟨?_, by omega, by omega⟩
      rw [wrap64_in (by omega)]
      omega
  have := (this qs.length (Nat.le_refl _)).1
  rwa [List.take_of_length_le (by rw [List.length_map]; omega), List.take_length] at this
theorem smT_bad {ss : List ByteArray} (h : spL ss ≠ 0) : (smT ss).2.2 = spL ss := by
  unfold smT
  have : ∀ (ss : List ByteArray) (a : ByteArray × ByteArray × Int), a.2.2 ≠ 0 → (ss.foldl smStep a).2.2 = a.2.2 := by
    intro ss
    induction ss with
    | nil => intro a _; rfl
    | cons s t ih =>
      intro a ha
      have e : (smStep a s).2.2 = a.2.2 := kp_ne ha _
      rw [List.foldl_cons, ih _ (by rw [e]; exact ha), e]
  exact this ss _ h

set_option maxRecDepth 100000 in
set_option maxHeartbeats 4000000 in
theorem sums_no (p : Option Addr) (n c : Nat) (w : World) (f : Hid (Gw w 39 #[.slice p n c] (.bool false))) (aw : Hid (Gw w 11 #[] (.bool true))) :
    Calls Tryz.prog 6 #[.slice p n c] w fun r0 w' => r0 = .returned (.bool true) ∧ Kp [] w w' := by
  unfold Gw at f aw
  have kk := Kp.refl [] w
  go_enter Tryz.func6, Tryz.ntmps6
  go_wp2_with fail
  with_reducible refine (f.out _ kk).mono ?_
  rintro e w1 ⟨rfl, k⟩
  replace kk := kk.trans k; clear k
  go_wp2_with fail
  with_reducible refine (aw.out _ kk).mono ?_
  rintro e w2 ⟨rfl, k⟩
  replace kk := kk.trans k; clear k
  go_wp2
  go_ret
  exact ⟨rfl, kk⟩

set_option maxRecDepth 100000 in
set_option maxHeartbeats 4000000 in
theorem sums_core (p : Option Addr) (n c : Nat) (x : ByteArray) (e : Int) (w : World) (f : Hid (Gw w 39 #[.slice p n c] (.bool true))) (s1 : Hid (Gw w 40 #[.slice p n c] (.tuple #[.string x, .int .i64 e]))) (s2 : Hid (Gw w 41 #[.slice p n c] (.tuple #[.string x, .int .i64 e]))) (aw : Hid (Gw w 11 #[] (.bool true))) :
    Calls Tryz.prog 6 #[.slice p n c] w fun r0 w' => r0 = .returned (.bool true) ∧ Kp [] w w' := by
  unfold Gw at f s1 s2 aw
  have kk := Kp.refl [] w
  go_enter Tryz.func6, Tryz.ntmps6
  go_wp2_with fail
  with_reducible refine (f.out _ kk).mono ?_
  rintro e w1 ⟨rfl, k⟩
  replace kk := kk.trans k; clear k
  go_wp2_with fail
  with_reducible refine (s1.out _ kk).mono ?_
  rintro e w2 ⟨rfl, k⟩
  replace kk := kk.trans k; clear k
  go_wp2_with fail
  with_reducible refine (s2.out _ kk).mono ?_
  rintro e w3 ⟨rfl, k⟩
  replace kk := kk.trans k; clear k
  go_wp2_with fail
  with_reducible refine (aw.out _ kk).mono ?_
  rintro e w4 ⟨rfl, k⟩
  replace kk := kk.trans k; clear k
  go_wp2
  go_ret
  exact ⟨rfl, kk⟩

theorem strs_kp {w W : World} {l o : Nat} {p : Option Addr} {ss : List ByteArray} (hs : Strs w l o ss) (hp : 0 < ss.length → p = some ⟨l, o, none⟩ ∧ l < w.heap.size) (k : Kp [] w W) :
    Strs W l o ss ∧ (0 < ss.length → p = some ⟨l, o, none⟩ ∧ l < W.heap.size) := by
  refine ⟨fun i hi => ?_, fun h => ⟨(hp h).1, Nat.lt_of_lt_of_le (hp h).2 k.size⟩⟩
  exact (hs.kp (hp (by omega)).2 k (by simp)) i hi
theorem rSum_few (l o c : Nat) (p : Option Addr) (ss : List ByteArray) (w : World) (hs : Strs w l o ss) (hp : 0 < ss.length → p = some ⟨l, o, none⟩ ∧ l < w.heap.size) (hz : ∀ s ∈ ss, s.size ≤ 9223372036854775807) (hf : fewAllB ss = true) :
    Calls Tryz.prog 41 #[.slice p ss.length c] w fun x w' => x = .returned (.tuple #[.string (qSumB ss), .int .i64 (qSumE ss)]) ∧ Kp [] w w' := by
  unfold fewAllB at hf
  simp only [Bool.or_eq_true, Bool.and_eq_true, decide_eq_true_eq] at hf
  by_cases hm : 4096 < ss.length
  · have e1 : qSumB ss = ⟨#[]⟩ := if_pos hm
    have e2 : qSumE ss = 5 := if_pos hm
    rw [e1, e2]
    exact rSum_many p _ c w hm (by omega)
  · have h40 : ss.length ≤ 40 ∧ byB (ss.take 40) ≤ 200 := by omega
    have e1 : qSumB ss = rT (smT ss).1 (smT ss).2.1 (smT ss).2.2 := if_neg hm
    have e2 : qSumE ss = (smT ss).2.2 := if_neg hm
    by_cases h : spL ss = 0
    · have hall := spL_zero h
      obtain ⟨qs, rfl, hq⟩ := all_RS hall
      obtain ⟨h1, h2⟩ := h40
      rw [List.length_map] at h1
      rw [List.take_of_length_le (by rw [List.length_map]; omega), byB_RS hq h1] at h2
      have hd : 2 + dg qs < 1024 := by omega
      have hT := (smT_RS qs hq).1 _ (sumO_tot hq hd)
      rw [e1, e2, hT.1]
      rw [rT_RS]
      refine rSum_0 l o c p qs w hs hp (by rw [List.length_map]; omega) (fun s hs => ?_) (fun k hk => gw_of fun W => ?_)
      · have := ref_check (w := w) (hz s hs)
        rwa [hall s hs] at this
      · have hl := dg_le (qs := qs) (show k + 1 ≤ qs.length by omega)
        rw [dg_next hk] at hl
        rw [tot_next hk]
        exact rAdd_c (tot_sm hq (k := k) (by omega)) (sm_size (hq _ (List.getElem_mem hk))) (by omega) W
    · have e3 := smT_bad h
      rw [e1, e2, e3, rT_ne h]
      exact rSum_e l o c p ss w hs hp (by omega) (fun s hs => ref_check (hz s hs)) _ rfl (beq_eq_false_iff_ne.2 h)
theorem Sums2_any (l o c : Nat) (p : Option Addr) (ss : List ByteArray) (w : World) (hs : Strs w l o ss) (hp : 0 < ss.length → p = some ⟨l, o, none⟩ ∧ l < w.heap.size) (hz : ∀ s ∈ ss, s.size ≤ 9223372036854775807) (hn : ss.length ≤ 9223372036854775807) (hl : Tab w) :
    Calls Tryz.prog 6 #[.slice p ss.length c] w fun r0 w' => r0 = .returned (.bool true) ∧ Kp [] w w' := by
  have f : Hid (Gw w 39 #[.slice p ss.length c] (.bool (fewAllB ss))) := fun W k => fewAll_any l o c p ss W (strs_kp hs hp k).1 (strs_kp hs hp k).2 hz hn
  cases hf : fewAllB ss with
  | false =>
    rw [hf] at f
    exact sums_no p _ c w f (gw_awake hl)
  | true =>
    rw [hf] at f
    have hsm : ss.length ≤ 1000000000 := by
      unfold fewAllB at hf
      simp only [Bool.or_eq_true, Bool.and_eq_true, decide_eq_true_eq] at hf
      omega
    exact sums_core p _ c _ _ w f (fun W k => qSum_sl l o c p ss W (strs_kp hs hp k).1 (strs_kp hs hp k).2 hz hsm)
      (fun W k => rSum_few l o c p ss W (strs_kp hs hp k).1 (strs_kp hs hp k).2 hz hf) (gw_awake hl)

end Go.Proofs.YtminjcknmhgpiaaGreatDoor
