/- Walks over order and (*number).against: the order of two magnitudes. -/
import Derived.Test.YtbhngccjacdlfaaKit
namespace Go.Proofs.Ytbhngccjacdlfaa
open Go.RowKit

/-- the order of two magnitudes -/
def ordN (A B : Nat) : Int := if A < B then -1 else if A = B then 0 else 1

theorem order_any (b : Bool) (w : World) :
    Calls Try.prog 48 #[.bool b] w fun e w' => e = .returned (.int .i64 (if b then -1 else 1)) ∧ w' = w := by
  cases b
  all_goals
    go_enter Try.func48, Try.ntmps48
    go_wp2
    go_ret
    exact ⟨rfl, rfl⟩
theorem order_quiet (b : Bool) (w : World) (a n : Nat) :
    Calls Try.prog 48 #[.bool b] (w.drewN (a + n)) fun e w' => e = .returned (.int .i64 (if b then -1 else 1)) ∧ ∃ m, w' = w.drewN (a + m) :=
  (order_any b _).mono fun _ _ ⟨he, hw⟩ => ⟨he, n, hw⟩

theorem lt_of_nw {A B : Nat} (h : nw A < nw B) : A < B := by
  rcases Nat.lt_or_ge A B with h1 | h1
  · exact h1
  · have h2 := nw_le (A := B) (k := nw A) (Nat.lt_of_le_of_lt h1 (lt_pow_nw A)); omega
theorem ordN_lt {A B : Nat} (h : A < B) : ordN A B = -1 := by unfold ordN; rw [if_pos h]
theorem ordN_gt {A B : Nat} (h : B < A) : ordN A B = 1 := by unfold ordN; rw [if_neg (by omega), if_neg (by omega)]
theorem ordN_eq (A : Nat) : ordN A A = 0 := by unfold ordN; rw [if_neg (by omega), if_pos rfl]
theorem lt_of_word {A B j : Nat} (hq : A / B9 ^ (j + 1) = B / B9 ^ (j + 1)) (h : wd A j < wd B j) : A < B := ge_of_words j h hq.symm

set_option maxRecDepth 100000 in
set_option maxHeartbeats 2000000 in
theorem against_ne (g b A B : Nat) (m mb : Bool) (w : World) (hA : Num w g A m) (hB : Num w b B mb) (hne : nw A ≠ nw B) :
    Calls Try.prog 79 #[.pointer (some ⟨g, 0, none⟩), .pointer (some ⟨b, 0, none⟩)] w fun e w' => e = .returned (.int .i64 (ordN A B)) ∧ ∃ n, w' = w.drewN n := by
  have hca := hA.1.cnt
  have hcb := hB.1.cnt
  have ha := nw_le hA.2
  have hb := nw_le hB.2
  have hbn : ((nw A : Int) != (nw B : Int)) = true := bne_iff_ne.2 (by omega)
  by_cases hlt : nw A < nw B
  · have hv := Lib.hid (ordN_lt (lt_of_nw hlt))
    have hd : decide (nw A < nw B) = true := decide_eq_true (by omega)
    clear hne hlt
    go_enter Try.func79, Try.ntmps79
    go_wp2
    go_quiet (fail)
    go_wp2
    go_quiet ((go_at_call 48; exact order_quiet _ _ _ _))
    go_wp2
    go_ret
    exact ⟨by rw [hv.out]; rfl, by first | exact ⟨_, rfl⟩ | (simp only [World.drewN_drewN]; exact ⟨_, rfl⟩)⟩
  · have hv := Lib.hid (ordN_gt (lt_of_nw (show nw B < nw A by omega)))
    have hd : decide (nw A < nw B) = false := decide_eq_false (by omega)
    clear hne hlt
    go_enter Try.func79, Try.ntmps79
    go_wp2
    go_quiet (fail)
    go_wp2
    go_quiet ((go_at_call 48; exact order_quiet _ _ _ _))
    go_wp2
    go_ret
    exact ⟨by rw [hv.out]; rfl, by first | exact ⟨_, rfl⟩ | (simp only [World.drewN_drewN]; exact ⟨_, rfl⟩)⟩

set_option maxRecDepth 100000 in
set_option maxHeartbeats 2000000 in
theorem against_eq (g b A B : Nat) (m mb : Bool) (w : World) (hA : Num w g A m) (hB : Num w b B mb) (he : nw A = nw B) :
    Calls Try.prog 79 #[.pointer (some ⟨g, 0, none⟩), .pointer (some ⟨b, 0, none⟩)] w fun e w' => e = .returned (.int .i64 (ordN A B)) ∧ ∃ n, w' = w.drewN n := by
  have hca := hA.1.cnt
  have hcb := hB.1.cnt
  rw [← he] at hcb
  have ha := nw_le hA.2
  have hbn : ((nw A : Int) != (nw A : Int)) = false := by simp
  have H := Lib.hid he; clear he
  go_enter Try.func79, Try.ntmps79
  go_wp2
  go_quiet (fail)
  go_wp2
  clear hca hcb
  go_loopg [5] (nw A) (fun k s5 wr => ∃ (n : Nat) (i : Int), s5 = .int .i64 i ∧ i + 1 = k ∧ k ≤ nw A ∧ A / B9 ^ k = B / B9 ^ k ∧ w.drewN n = wr)
  case atStart => exact ⟨_, _, rfl, by omega, Nat.le_refl _, by rw [Nat.div_eq_of_lt (lt_pow_nw A), H.out, Nat.div_eq_of_lt (lt_pow_nw B)], rfl⟩
  case round =>
    obtain ⟨n, i, rfl, hi, hk, hq, rfl⟩ := hrel
    cases gk with
    | zero =>
      obtain rfl : i = -1 := by omega
      have hv : Hid (ordN A B = 0) := by
        have : A = B := by simpa using hq
        subst this; exact ordN_eq A
      clear hq hi
      go_wp2
      go_ret
      exact ⟨by rw [hv.out]; rfl, _, rfl⟩
    | succ j =>
      obtain rfl : i = (j : Int) := by omega
      have hwa := hA.1.word (i := j) (by omega)
      have hwb := hB.1.word (i := j) (by omega)
      have hj : (j : Int) < 229 := by omega
      have l1 := wd_lt A j
      have l2 := wd_lt B j
      clear hi
      have hq' := Lib.hid hq; clear hq
      by_cases h0 : wd A j = wd B j
      · have hb0 : ((wd A j : Int) != (wd B j : Int)) = false := by rw [h0]; simp
        have h0' := Lib.hid h0; clear h0
        go_wp2
        go_quiet (fail)
        go_wp2
        go_roundg j
        case measure => omega
        case rel => exact ⟨_, _, rfl, by omega, by omega, by rw [div_step A, div_step B, hq'.out, h0'.out], rfl⟩
      · have hb0 : ((wd A j : Int) != (wd B j : Int)) = true := bne_iff_ne.2 (by omega)
        by_cases hlt : wd A j < wd B j
        · have hv := Lib.hid (ordN_lt (lt_of_word hq'.out hlt))
          have hd : decide (wd A j < wd B j) = true := decide_eq_true (by omega)
          clear h0 hlt
          go_wp2
          go_quiet (fail)
          go_wp2
          go_quiet ((go_at_call 48; exact order_quiet _ _ _ _))
          go_wp2
          go_ret
          exact ⟨by rw [hv.out]; rfl, by first | exact ⟨_, rfl⟩ | (simp only [World.drewN_drewN]; exact ⟨_, rfl⟩)⟩
        · have hv := Lib.hid (ordN_gt (lt_of_word hq'.out.symm (show wd B j < wd A j by omega)))
          have hd : decide (wd A j < wd B j) = false := decide_eq_false (by omega)
          clear h0 hlt
          go_wp2
          go_quiet (fail)
          go_wp2
          go_quiet ((go_at_call 48; exact order_quiet _ _ _ _))
          go_wp2
          go_ret
          exact ⟨by rw [hv.out]; rfl, by first | exact ⟨_, rfl⟩ | (simp only [World.drewN_drewN]; exact ⟨_, rfl⟩)⟩

theorem against_any (g b A B : Nat) (m mb : Bool) (w : World) (hA : Num w g A m) (hB : Num w b B mb) :
    Calls Try.prog 79 #[.pointer (some ⟨g, 0, none⟩), .pointer (some ⟨b, 0, none⟩)] w fun e w' => e = .returned (.int .i64 (ordN A B)) ∧ ∃ n, w' = w.drewN n := by
  by_cases h : nw A = nw B
  · exact against_eq g b A B m mb w hA hB h
  · exact against_ne g b A B m mb w hA hB h
end Go.Proofs.Ytbhngccjacdlfaa
