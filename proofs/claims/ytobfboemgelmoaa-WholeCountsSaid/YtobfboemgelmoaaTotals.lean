/- Walk over WholeTotals: sums of lists, against the reference. -/
import Derived.Test.YtobfboemgelmoaaM28
import Derived.Test.YtobfboemgelmoaaM14
import Derived.Test.YtobfboemgelmoaaM22
namespace Go.Proofs.Ytobfboemgelmoaa
open Go.RowKit
open Go.Lib (nDigits itoa decDigits)

/-- a text that Few lets in -/
def few1 (s : ByteArray) : Bool := decide (s.size ≤ 50) || (decide (s.size ≤ 2048) && (chk s.data.toList == 3))
set_option maxRecDepth 100000 in
set_option maxHeartbeats 1000000 in
theorem few_any (s : ByteArray) (w : World) (hs : s.size ≤ 9223372036854775807) :
    Calls Try.prog 23 #[.string s] w fun e w' => e = .returned (.bool (few1 s)) ∧ w = w' := by
  have q1 := Lib.hid (fun W => rcheck_any s W hs)
  by_cases h1 : s.size ≤ 50
  · have hv : Hid (few1 s = true) := by show few1 s = true; unfold few1; rw [decide_eq_true h1]; rfl
    go_enter Try.func23, Try.ntmps23
    go_wp2_with fail
    go_ret
    exact ⟨by rw [hv.out]; rfl, rfl⟩
  · have hd1 : decide ((s.size : Int) ≤ 50) = false := decide_eq_false (by omega)
    by_cases h2 : s.size ≤ 2048
    · have hv : Hid (few1 s = (chk s.data.toList == 3)) := by show few1 s = _; unfold few1; rw [decide_eq_false h1, decide_eq_true h2]; simp
      go_enter Try.func23, Try.ntmps23
      go_wp2_with fail
      refine (q1.out _).mono ?_
      rintro e w1 ⟨rfl, rfl⟩
      go_wp2
      go_ret
      exact ⟨by rw [hv.out]; rfl, rfl⟩
    · have hv : Hid (few1 s = false) := by show few1 s = _; unfold few1; rw [decide_eq_false h1, decide_eq_false h2]; rfl
      go_enter Try.func23, Try.ntmps23
      go_wp2_with fail
      go_ret
      exact ⟨by rw [hv.out]; rfl, rfl⟩

/-- FewAll at many texts -/
def manyOk (n : Nat) : Bool := decide (4096 < n) && decide (n < 8192)
set_option maxRecDepth 100000 in
set_option maxHeartbeats 1000000 in
theorem fewAll_many (a : Option Addr) (n c : Nat) (w : World) (hn : 30 < n) (hn' : n ≤ 9223372036854775807) :
    Calls Try.prog 20 #[.slice a n c] w fun e w' => e = .returned (.bool (manyOk n)) ∧ w = w' := by
  by_cases h1 : 4096 < n
  · have hv : Hid (manyOk n = decide (n < 8192)) := by show manyOk n = _; unfold manyOk; rw [decide_eq_true h1]; rfl
    have hd1 : decide ((n : Int) > 4096) = true := decide_eq_true (by omega)
    by_cases h2 : n < 8192
    · have hd2 : decide ((n : Int) < 8192) = true := decide_eq_true (by omega)
      have hv2 : Hid (manyOk n = true) := by show _ = _; rw [hv.out, decide_eq_true h2]
      go_enter Try.func20, Try.ntmps20
      go_wp2_with fail
      go_ret
      exact ⟨by rw [hv2.out]; rfl, rfl⟩
    · have hd2 : decide ((n : Int) < 8192) = false := decide_eq_false (by omega)
      have hv2 : Hid (manyOk n = false) := by show _ = _; rw [hv.out, decide_eq_false h2]
      go_enter Try.func20, Try.ntmps20
      go_wp2_with fail
      go_ret
      exact ⟨by rw [hv2.out]; rfl, rfl⟩
  · have hd1 : decide ((n : Int) > 4096) = false := decide_eq_false (by omega)
    have hv2 : Hid (manyOk n = false) := by show manyOk n = _; unfold manyOk; rw [decide_eq_false h1]; rfl
    go_enter Try.func20, Try.ntmps20
    go_wp2_with fail
    go_ret
    exact ⟨by rw [hv2.out]; rfl, rfl⟩

def fewL (ss : List ByteArray) : Bool := ss.all few1
theorem fewL_drop {ss : List ByteArray} {k : Nat} (hk : k < ss.length) : fewL (ss.drop k) = (few1 ss[k] && fewL (ss.drop (k + 1))) := by
  unfold fewL; rw [List.drop_eq_getElem_cons hk, List.all_cons]

set_option maxRecDepth 100000 in
set_option maxHeartbeats 2000000 in
theorem fewAll_few (g o c : Nat) (ss : List ByteArray) (w : World) (hs : Strs w g o ss) (hz : ∀ s ∈ ss, s.size ≤ 9223372036854775807) (hl : ss.length ≤ 30) :
    Calls Try.prog 20 #[.slice (some ⟨g, o, none⟩) ss.length c] w fun e w' => e = .returned (.bool (fewL ss)) ∧ w = w' := by
  go_enter Try.func20, Try.ntmps20
  go_wp2_with fail
  go_loopg [3] ss.length (fun gk s3 wr => ∃ k : Nat, s3 = .int .i64 k ∧ k + gk = ss.length ∧ fewL (ss.drop k) = fewL ss ∧ w = wr)
  case atStart => exact ⟨0, rfl, by omega, rfl, rfl⟩
  case round =>
    obtain ⟨k, rfl, hk, hc, rfl⟩ := hrel
    have Hc := Lib.hid hc; clear hc
    by_cases hlt : k < ss.length
    · have hcell := hs k hlt
      have hd := fewL_drop hlt
      have Hk := Lib.hid hk; clear hk
      have q := Lib.hid (fun W => few_any ss[k] W (hz _ (List.getElem_mem hlt)))
      generalize ss[k] = s at *
      have Hd := Lib.hid hd; clear hd
      cases hf : few1 s with
      | true =>
        rw [hf] at q
        have hv : Hid (fewL (ss.drop (k + 1)) = fewL ss) := by show _ = _; rw [← Hc.out, Hd.out, hf]; rfl
        clear hf
        go_wp2_with fail
        refine (q.out _).mono ?_
        rintro e w' ⟨rfl, rfl⟩
        go_wp2_with fail
        have hk := Hk.out
        go_roundg (gk - 1)
        case measure => omega
        case rel => exact ⟨k + 1, by go_num, by omega, hv.out, rfl⟩
      | false =>
        rw [hf] at q
        have hv : Hid (fewL ss = false) := by show _ = _; rw [← Hc.out, Hd.out, hf]; rfl
        clear hf
        go_wp2_with fail
        refine (q.out _).mono ?_
        rintro e w' ⟨rfl, rfl⟩
        go_wp2_with fail
        go_ret
        exact ⟨by rw [hv.out]; rfl, rfl⟩
    · obtain rfl : k = ss.length := by omega
      have hv : Hid (fewL ss = true) := by show _ = _; rw [← Hc.out, List.drop_of_length_le (Nat.le_refl _)]; rfl
      go_wp2_with fail
      go_ret
      exact ⟨by rw [hv.out]; rfl, rfl⟩
set_option maxRecDepth 100000 in
set_option maxHeartbeats 2000000 in
theorem fewAll_none (a : Option Addr) (c : Nat) (w : World) :
    Calls Try.prog 20 #[.slice a 0 c] w fun e w' => e = .returned (.bool true) ∧ w = w' := by
  go_enter Try.func20, Try.ntmps20
  go_wp2_with fail
  go_loopg [3] 1 (fun _ s3 wr => s3 = .int .i64 0 ∧ w = wr)
  case atStart => exact ⟨rfl, rfl⟩
  case round =>
    obtain ⟨rfl, rfl⟩ := hrel
    go_wp2_with fail
    go_ret
    exact ⟨rfl, rfl⟩

/-! the reference's sum -/
set_option exponentiation.threshold 5000 in
theorem nd_sum {zs : List Int} (h : ∀ z ∈ zs, Ok z) (hl : zs.length ≤ 4096) (k : Nat) : nDigits (zs.take k).sum.natAbs ≤ 3000 := by
  have h1 := sum_bound (zs := zs.take k) (M := 10 ^ 1024) (fun z hz => (nd_le_iff (by omega)).1 (h z (List.mem_of_mem_take hz)))
  have h2 : (zs.take k).length ≤ 4096 := Nat.le_trans (by rw [List.length_take]; omega) hl
  have h3 := Nat.mul_le_mul_right (10 ^ 1024) h2
  refine nd_le (by omega) (Nat.lt_of_le_of_lt (Nat.le_trans h1 h3) ?_)
  have h4 : 4096 * 10 ^ 1024 < 10 ^ 4 * 10 ^ 1024 := Nat.mul_lt_mul_of_pos_right (by decide) (Nat.pow_pos (by decide))
  rw [← Nat.pow_add] at h4
  exact Nat.lt_of_lt_of_le h4 (Nat.pow_le_pow_right (by decide) (by omega))

set_option maxRecDepth 100000 in
set_option maxHeartbeats 2000000 in
theorem summed_any (g o c : Nat) (zs : List Int) (w : World) (hs : Strs w g o (zs.map S)) (hg : g < w.heap.size) (hok : ∀ z ∈ zs, Ok z) (hl : zs.length ≤ 4096) :
    Calls Try.prog 50 #[.slice (some ⟨g, o, none⟩) zs.length c] w fun e w' => e = .returned (.string (S zs.sum)) ∧ Kp [] w w' := by
  go_enter Try.func50, Try.ntmps50
  go_wp2_with fail
  go_loopg [3, 4] zs.length (fun gk s3 s4 wr => ∃ k : Nat, s4 = .int .i64 k ∧ s3 = .string (S (zs.take k).sum) ∧ k + gk = zs.length ∧ Kp [] w wr)
  case atStart => exact ⟨0, rfl, by rw [List.take_zero]; show _ = Value.string (S 0); rw [S_zero], by omega, Kp.refl _ _⟩
  case round =>
    obtain ⟨k, rfl, rfl, hk, hkp⟩ := hrel
    by_cases hlt : k < zs.length
    · have hlt2 : k < (zs.map S).length := by simpa using hlt
      have hcell := hs.kp hg hkp (by simp) k hlt2
      rw [List.getElem_map] at hcell
      have q := Lib.hid (fun W => plus_any (zs.take k).sum zs[k] W (nd_sum hok hl k) (Nat.le_trans (hok _ (List.getElem_mem hlt)) (by omega)))
      have hsum : (zs.take k).sum + zs[k] = (zs.take (k + 1)).sum := by
        rw [List.take_succ_eq_append_getElem hlt, List.sum_append]; simp
      rw [hsum] at q
      have Hk := Lib.hid hk; clear hk hsum
      have hll : zs.length ≤ 4096 := hl
      generalize S zs[k] = t at *
      obtain ⟨r, hr⟩ : ∃ r, r = S (zs.take k).sum := ⟨_, rfl⟩
      rw [← hr] at q ⊢
      clear hr
      go_wp2_with fail
      refine (q.out _).mono ?_
      rintro e w' ⟨rfl, k1⟩
      go_wp2_with fail
      have hk := Hk.out
      go_roundg (gk - 1)
      case measure => omega
      case rel => exact ⟨k + 1, by go_num, rfl, by omega, hkp.trans k1⟩
    · obtain rfl : k = zs.length := by omega
      have hv : Hid (S (zs.take zs.length).sum = S zs.sum) := by show _ = _; rw [List.take_length]
      rw [hv.out]
      go_wp2_with fail
      go_ret
      exact ⟨rfl, hkp⟩

set_option maxRecDepth 100000 in
set_option maxHeartbeats 2000000 in
theorem rtotal_many (a : Option Addr) (n c : Nat) (w : World) (hn : 4096 < n) (hn' : n ≤ 9223372036854775807) :
    Calls Try.prog 22 #[.slice a n c] w fun e w' => e = .returned (.tuple #[.string ⟨#[]⟩, .int .i64 5]) ∧ w = w' := by
  go_enter Try.func22, Try.ntmps22
  go_wp2_with fail
  go_ret2
  exact ⟨rfl, rfl⟩

theorem chkL_step {ss : List ByteArray} {k : Nat} (hk : k < ss.length) : chkL (ss.drop k) = if chk ss[k].data.toList = 0 then chkL (ss.drop (k + 1)) else chk ss[k].data.toList := by
  rw [List.drop_eq_getElem_cons hk]; rfl

set_option maxRecDepth 100000 in
set_option maxHeartbeats 4000000 in
theorem rtotal_any (g o c : Nat) (ss : List ByteArray) (w : World) (hs : Strs w g o ss) (hg : g < w.heap.size) (hz : ∀ s ∈ ss, s.size ≤ 9223372036854775807) (hl : ss.length ≤ 4096) :
    Calls Try.prog 22 #[.slice (some ⟨g, o, none⟩) ss.length c] w fun e w' => e = .returned (.tuple #[.string (sumB ss), .int .i64 (sumE ss)]) ∧ Kp [] w w' := by
  go_enter Try.func22, Try.ntmps22
  go_wp2_with fail
  go_loopg [4] ss.length (fun gk s4 wr => ∃ k : Nat, s4 = .int .i64 k ∧ k + gk = ss.length ∧ chkL (ss.drop k) = chkL ss ∧ w = wr)
  case atStart => exact ⟨0, rfl, by omega, rfl, rfl⟩
  case round =>
    obtain ⟨k, rfl, hk, hc, rfl⟩ := hrel
    have Hc := Lib.hid hc; clear hc
    by_cases hlt : k < ss.length
    · have hcell := hs k hlt
      have hd := chkL_step hlt
      have Hk := Lib.hid hk; clear hk
      have q := Lib.hid (fun W => rcheck_any ss[k] W (hz _ (List.getElem_mem hlt)))
      generalize ss[k] = s at *
      have Hd := Lib.hid hd; clear hd
      by_cases h0 : chk s.data.toList = 0
      · rw [h0] at q
        have hv : Hid (chkL (ss.drop (k + 1)) = chkL ss) := by show _ = _; rw [← Hc.out, Hd.out, if_pos h0]
        clear h0
        go_wp2_with fail
        refine (q.out _).mono ?_
        rintro e w' ⟨rfl, rfl⟩
        go_wp2_with fail
        have hk := Hk.out
        go_roundg (gk - 1)
        case measure => omega
        case rel => exact ⟨k + 1, by go_num, by omega, hv.out, rfl⟩
      · have hb : (chk s.data.toList != 0) = true := bne_iff_ne.2 h0
        have hne : chkL ss = chk s.data.toList := by rw [← Hc.out, Hd.out, if_neg h0]
        have hv1 : Hid (sumB ss = ⟨#[]⟩) := by show sumB ss = _; unfold sumB; rw [if_neg (by rw [hne]; exact h0)]
        have hv2 : Hid (sumE ss = chk s.data.toList) := by show sumE ss = _; unfold sumE; rw [if_neg (by rw [hne]; exact h0), hne]
        clear h0 hne
        go_wp2_with fail
        refine (q.out _).mono ?_
        rintro e w' ⟨rfl, rfl⟩
        go_wp2_with fail
        go_ret2
        exact ⟨by rw [hv1.out, hv2.out]; rfl, Kp.refl _ _⟩
    · obtain rfl : k = ss.length := by omega
      have h0 : chkL ss = 0 := by rw [← Hc.out, List.drop_of_length_le (Nat.le_refl _)]; rfl
      obtain ⟨zs, rfl, hok⟩ := chkL_all h0
      have hlz : zs.length ≤ 4096 := by simpa using hl
      have hv1 : Hid (sumB (zs.map S) = resB zs.sum) := by show sumB _ = _; unfold sumB; rw [if_pos h0, map_valS]
      have hv2 : Hid (sumE (zs.map S) = resE zs.sum) := by show sumE _ = _; unfold sumE; rw [if_pos h0, map_valS]
      have q1 := Lib.hid (fun c => summed_any g o c zs w hs hg hok hlz)
      have q2 := Lib.hid (fun W => kept_any zs.sum W (Nat.le_trans (S_size _) (by have := nd_sum hok hlz zs.length; rw [List.take_length] at this; omega)))
      rw [← List.length_map S] at q1
      clear h0 hk hlt
      generalize (zs.map S).length = n at *
      go_wp2_with fail
      refine (q1.out _).mono ?_
      rintro e w1 ⟨rfl, k1⟩
      go_wp2_with fail
      refine (q2.out _).mono ?_
      rintro e w2 ⟨rfl, rfl⟩
      go_wp2_with fail
      go_ret2
      exact ⟨by rw [hv1.out, hv2.out]; rfl, k1⟩

theorem rtotal_nil (a : Option Addr) (c : Nat) (w : World) :
    Calls Try.prog 22 #[.slice a 0 c] w fun e w' => e = .returned (.tuple #[.string (sumB []), .int .i64 (sumE [])]) ∧ Kp [] w w' := by
  have hv1 : Hid (sumB [] = resB 0) := by show sumB [] = _; exact if_pos rfl
  have hv2 : Hid (sumE [] = resE 0) := by show sumE [] = _; exact if_pos rfl
  have hsm : Hid (∀ W, Calls Try.prog 50 #[.slice a 0 c] W fun e w' => e = .returned (.string (S 0)) ∧ W = w') := by
    intro W
    rw [S_zero]
    go_enter Try.func50, Try.ntmps50
    go_wp2_with fail
    go_loopg [3, 4] 1 (fun _ s3 s4 wr => s4 = .int .i64 0 ∧ s3 = .string ⟨#[48]⟩ ∧ W = wr)
    case atStart => exact ⟨rfl, rfl, rfl⟩
    case round =>
      obtain ⟨rfl, rfl, rfl⟩ := hrel
      go_wp2_with fail
      go_ret
      exact ⟨rfl, rfl⟩
  have q2 := Lib.hid (fun W => kept_any 0 W (by rw [S_zero]; decide))
  go_enter Try.func22, Try.ntmps22
  go_wp2_with fail
  go_loopg [4] 1 (fun _ s4 wr => s4 = .int .i64 0 ∧ w = wr)
  case atStart => exact ⟨rfl, rfl⟩
  case round =>
    obtain ⟨rfl, rfl⟩ := hrel
    go_wp2_with fail
    refine (hsm.out _).mono ?_
    rintro e w1 ⟨rfl, rfl⟩
    go_wp2_with fail
    refine (q2.out _).mono ?_
    rintro e w2 ⟨rfl, rfl⟩
    go_wp2_with fail
    go_ret2
    exact ⟨by rw [hv1.out, hv2.out]; rfl, Kp.refl _ _⟩

set_option maxRecDepth 100000 in
set_option maxHeartbeats 1000000 in
theorem Totals_no (a : Option Addr) (n c : Nat) (w : World)
    (q1 : Hid (Calls Try.prog 20 #[.slice a n c] w fun e w' => e = .returned (.bool false) ∧ w = w')) :
    Calls Try.prog 4 #[.slice a n c] w fun e w' => e = .returned (.bool true) ∧ Kp [] w w' := by
  go_enter Try.func4, Try.ntmps4
  go_wp2_with fail
  refine q1.out.mono ?_
  rintro e w1 ⟨rfl, rfl⟩
  go_wp2_with fail
  refine (awake_any _).mono ?_
  rintro e w2 ⟨rfl, k⟩
  go_wp2
  go_ret
  exact ⟨rfl, k⟩
set_option maxRecDepth 100000 in
set_option maxHeartbeats 1000000 in
theorem Totals_yes (a : Option Addr) (n c : Nat) (vB : ByteArray) (vE : Int) (w : World)
    (q1 : Hid (Calls Try.prog 20 #[.slice a n c] w fun e w' => e = .returned (.bool true) ∧ w = w'))
    (q2 : Hid (Calls Try.prog 21 #[.slice a n c] w fun e w' => e = .returned (.tuple #[.string vB, .int .i64 vE]) ∧ Kp [] w w'))
    (q3 : Hid (∀ W, Kp [] w W → Calls Try.prog 22 #[.slice a n c] W fun e w' => e = .returned (.tuple #[.string vB, .int .i64 vE]) ∧ Kp [] W w')) :
    Calls Try.prog 4 #[.slice a n c] w fun e w' => e = .returned (.bool true) ∧ Kp [] w w' := by
  go_enter Try.func4, Try.ntmps4
  go_wp2_with fail
  refine q1.out.mono ?_
  rintro e w1 ⟨rfl, rfl⟩
  go_wp2_with fail
  refine q2.out.mono ?_
  rintro e w2 ⟨rfl, k2⟩
  go_wp2_with fail
  refine (q3.out _ k2).mono ?_
  rintro e w3 ⟨rfl, k3⟩
  have k23 := k2.trans k3
  clear q1 q2 q3 k2 k3
  go_wp2_with fail
  refine (awake_any _).mono ?_
  rintro e w4 ⟨rfl, k⟩
  go_wp2
  go_ret
  exact ⟨rfl, k23.trans k⟩

theorem Totals_many (a : Option Addr) (n c : Nat) (w : World) (hn : 30 < n) (hn' : n ≤ 9223372036854775807) :
    Calls Try.prog 4 #[.slice a n c] w fun e w' => e = .returned (.bool true) ∧ Kp [] w w' := by
  have q := fewAll_many a n c w hn hn'
  cases hm : manyOk n with
  | false => rw [hm] at q; exact Totals_no a n c w q
  | true =>
    rw [hm] at q
    have h4 : 4096 < n := by
      unfold manyOk at hm
      rw [Bool.and_eq_true, decide_eq_true_eq, decide_eq_true_eq] at hm
      exact hm.1
    refine Totals_yes a n c ⟨#[]⟩ 5 w q ?_ ?_
    · refine (Total_many a n c w h4 hn').mono ?_
      rintro e w' ⟨h, rfl⟩; exact ⟨h, Kp.refl _ _⟩
    · intro W _
      refine (rtotal_many a n c W h4 hn').mono ?_
      rintro e w' ⟨h, rfl⟩; exact ⟨h, Kp.refl _ _⟩
theorem Totals_none (a : Option Addr) (c : Nat) (w : World) :
    Calls Try.prog 4 #[.slice a 0 c] w fun e w' => e = .returned (.bool true) ∧ Kp [] w w' :=
  Totals_yes a 0 c (sumB []) (sumE []) w (fewAll_none a c w) (Total_few a 0 c _ _ w (by omega) (sum_nil a c w)) (fun W _ => rtotal_nil a c W)
theorem Totals_few (g o c : Nat) (ss : List ByteArray) (w : World) (hs : Strs w g o ss) (hg : g < w.heap.size) (hz : ∀ s ∈ ss, s.size ≤ 9223372036854775807) (hl : ss.length ≤ 30) :
    Calls Try.prog 4 #[.slice (some ⟨g, o, none⟩) ss.length c] w fun e w' => e = .returned (.bool true) ∧ Kp [] w w' := by
  have q := fewAll_few g o c ss w hs hz hl
  cases hf : fewL ss with
  | false => rw [hf] at q; exact Totals_no _ _ c w q
  | true =>
    rw [hf] at q
    exact Totals_yes _ _ c (sumB ss) (sumE ss) w q (Total_few _ _ c _ _ w (by omega) (sum_all g o c ss w hs hg hz (by omega)))
      (fun W k => rtotal_any g o c ss W (hs.kp hg k (by simp)) (Nat.lt_of_lt_of_le hg k.size) hz (by omega))
end Go.Proofs.Ytobfboemgelmoaa
