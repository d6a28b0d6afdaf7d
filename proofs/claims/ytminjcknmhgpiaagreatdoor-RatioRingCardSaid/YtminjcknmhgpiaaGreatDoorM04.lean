/- Texts Against, Scale: each says in its own first comment what it proves. -/
import Derived.Test.YtminjcknmhgpiaaGreatDoorM02
/- Walks over order and (*number).against: the order of two magnitudes. -/
namespace Go.Proofs.YtminjcknmhgpiaaGreatDoor
open Go.RowKit

/-- the order of two magnitudes -/
def ordN (A B : Nat) : Int := if A < B then -1 else if A = B then 0 else 1

theorem order_any (b : Bool) (w : World) :
    Calls Tryz.prog 156 #[.bool b] w fun e w' => e = .returned (.int .i64 (if b then -1 else 1)) ∧ w' = w := by
  cases b
  all_goals
    go_enter Tryz.func156, Tryz.ntmps156
    go_wp2
    go_ret
    exact ⟨rfl, rfl⟩
theorem order_quiet (b : Bool) (w : World) (a n : Nat) :
    Calls Tryz.prog 156 #[.bool b] (w.drewN (a + n)) fun e w' => e = .returned (.int .i64 (if b then -1 else 1)) ∧ ∃ m, w' = w.drewN (a + m) :=
  (order_any b _).mono fun _ _ ⟨he, hw⟩ => ⟨he, n, hw⟩

theorem lt_of_nw {A B : Nat} (h : nw A < nw B) : A < B := by
  rcases Nat.lt_or_ge A B with h1 | h1
  · exact h1
  · have h2 := nw_le (A := B) (k := nw A) (Nat.lt_of_le_of_lt h1 (lt_pow_nw A)); omega
theorem ordN_lt {A B : Nat} (h : A < B) : ordN A B = -1 := by unfold ordN; rw [if_pos h]
theorem ordN_gt {A B : Nat} (h : B < A) : ordN A B = 1 := by unfold ordN; rw [if_neg (by omega), if_neg (by omega)]
theorem ordN_eq (A : Nat) : ordN A A = 0 := by unfold ordN; rw [if_neg (by omega), if_pos rfl]
theorem lt_of_word {A B j : Nat} (hq : A / B9 ^ (j + 1) = B / B9 ^ (j + 1)) (h : wd A j < wd B j) : A < B := ge_of_words j h hq.symm

set_option maxRecDepth 100000 in
set_option maxHeartbeats 2000000 in
theorem against_ne (g b A B : Nat) (m mb : Bool) (w : World) (hA : Num w g A m) (hB : Num w b B mb) (hne : nw A ≠ nw B) :
    Calls Tryz.prog 174 #[.pointer (some ⟨g, 0, none⟩), .pointer (some ⟨b, 0, none⟩)] w fun e w' => e = .returned (.int .i64 (ordN A B)) ∧ ∃ n, w' = w.drewN n := by
  have hca := hA.1.cnt
  have hcb := hB.1.cnt
  have ha := nw_le hA.2
  have hb := nw_le hB.2
  have hbn : ((nw A : Int) != (nw B : Int)) = true := bne_iff_ne.2 (by omega)
  by_cases hlt : nw A < nw B
  · have hv := Lib.hid (ordN_lt (lt_of_nw hlt))
    have hd : decide (nw A < nw B) = true := decide_eq_true (by omega)
    clear hne hlt
    go_enter Tryz.func174, Tryz.ntmps174
    go_wp2
    go_quiet (fail)
    go_wp2
    go_quiet ((go_at_call 156; exact order_quiet _ _ _ _))
    go_wp2
    go_ret
    exact ⟨by rw [hv.out]; rfl, by first | exact ⟨_, rfl⟩ | (simp only [World.drewN_drewN]; exact ⟨_, rfl⟩)⟩
  · have hv := Lib.hid (ordN_gt (lt_of_nw (show nw B < nw A by omega)))
    have hd : decide (nw A < nw B) = false := decide_eq_false (by omega)
    clear hne hlt
    go_enter Tryz.func174, Tryz.ntmps174
    go_wp2
    go_quiet (fail)
    go_wp2
    go_quiet ((go_at_call 156; exact order_quiet _ _ _ _))
    go_wp2
    go_ret
    exact ⟨by rw [hv.out]; rfl, by first | exact ⟨_, rfl⟩ | (simp only [World.drewN_drewN]; exact ⟨_, rfl⟩)⟩

set_option maxRecDepth 100000 in
set_option maxHeartbeats 2000000 in
theorem against_eq (g b A B : Nat) (m mb : Bool) (w : World) (hA : Num w g A m) (hB : Num w b B mb) (he : nw A = nw B) :
    Calls Tryz.prog 174 #[.pointer (some ⟨g, 0, none⟩), .pointer (some ⟨b, 0, none⟩)] w fun e w' => e = .returned (.int .i64 (ordN A B)) ∧ ∃ n, w' = w.drewN n := by
  have hca := hA.1.cnt
  have hcb := hB.1.cnt
  rw [← he] at hcb
  have ha := nw_le hA.2
  have hbn : ((nw A : Int) != (nw A : Int)) = false := by simp
  have H := Lib.hid he; clear he
  go_enter Tryz.func174, Tryz.ntmps174
  go_wp2
  go_quiet (fail)
  go_wp2
  clear hca hcb
  go_loopg [5] (nw A) (fun k s5 wr => ∃ (n : Nat) (i : Int), s5 = .int .i64 i ∧ i + 1 = k ∧ k ≤ nw A ∧ A / B9 ^ k = B / B9 ^ k ∧ w.drewN n = wr)
  case atStart => exact ⟨_, _, rfl, by omega, Nat.le_refl _, by rw [Nat.div_eq_of_lt (lt_pow_nw A), H.out, Nat.div_eq_of_lt (lt_pow_nw B)], rfl⟩
  case round =>
    obtain ⟨n, i, rfl, hi, hk, hq, rfl⟩ := hrel
    cases gk with
    | zero =>
      obtain rfl : i = -1 := by omega
      have hv : Hid (ordN A B = 0) := by
        have : A = B := by simpa using hq
        subst this; exact ordN_eq A
      clear hq hi
      go_wp2
      go_ret
      exact ⟨by rw [hv.out]; rfl, _, rfl⟩
    | succ j =>
      obtain rfl : i = (j : Int) := by omega
      have hwa := hA.1.word (i := j) (by omega)
      have hwb := hB.1.word (i := j) (by omega)
      have hj : (j : Int) < 229 := by omega
      have l1 := wd_lt A j
      have l2 := wd_lt B j
      clear hi
      have hq' := Lib.hid hq; clear hq
      by_cases h0 : wd A j = wd B j
      · have hb0 : ((wd A j : Int) != (wd B j : Int)) = false := by rw [h0]; simp
        have h0' := Lib.hid h0; clear h0
        go_wp2
        go_quiet (fail)
        go_wp2
        go_roundg j
        case measure => omega
        case rel => exact ⟨_, _, rfl, by omega, by omega, by rw [div_step A, div_step B, hq'.out, h0'.out], rfl⟩
      · have hb0 : ((wd A j : Int) != (wd B j : Int)) = true := bne_iff_ne.2 (by omega)
        by_cases hlt : wd A j < wd B j
        · have hv := Lib.hid (ordN_lt (lt_of_word hq'.out hlt))
          have hd : decide (wd A j < wd B j) = true := decide_eq_true (by omega)
          clear h0 hlt
          go_wp2
          go_quiet (fail)
          go_wp2
          go_quiet ((go_at_call 156; exact order_quiet _ _ _ _))
          go_wp2
          go_ret
          exact ⟨by rw [hv.out]; rfl, by first | exact ⟨_, rfl⟩ | (simp only [World.drewN_drewN]; exact ⟨_, rfl⟩)⟩
        · have hv := Lib.hid (ordN_gt (lt_of_word hq'.out.symm (show wd B j < wd A j by omega)))
          have hd : decide (wd A j < wd B j) = false := decide_eq_false (by omega)
          clear h0 hlt
          go_wp2
          go_quiet (fail)
          go_wp2
          go_quiet ((go_at_call 156; exact order_quiet _ _ _ _))
          go_wp2
          go_ret
          exact ⟨by rw [hv.out]; rfl, by first | exact ⟨_, rfl⟩ | (simp only [World.drewN_drewN]; exact ⟨_, rfl⟩)⟩

theorem against_any (g b A B : Nat) (m mb : Bool) (w : World) (hA : Num w g A m) (hB : Num w b B mb) :
    Calls Tryz.prog 174 #[.pointer (some ⟨g, 0, none⟩), .pointer (some ⟨b, 0, none⟩)] w fun e w' => e = .returned (.int .i64 (ordN A B)) ∧ ∃ n, w' = w.drewN n := by
  by_cases h : nw A = nw B
  · exact against_eq g b A B m mb w hA hB h
  · exact against_ne g b A B m mb w hA hB h
end Go.Proofs.YtminjcknmhgpiaaGreatDoor

/- Walks over (*number).scale, (*number).split and (*number).low: a number times a word, and divided by one. -/
namespace Go.Proofs.YtminjcknmhgpiaaGreatDoor
open Go.RowKit

set_option maxRecDepth 100000 in
set_option maxHeartbeats 2000000 in
theorem scale_any (g A p : Nat) (m : Bool) (w : World) (hA : Num w g A m) (hA' : A < B9 ^ 228) (hp : 0 < p) (hp' : p < 1000000000) :
    Calls Tryz.prog 186 #[.pointer (some ⟨g, 0, none⟩), .int .u32 (p : Int)] w fun e w' => e = .returned (.tuple #[]) ∧ Num w' g (A * p) (m && decide (A * p ≠ 0)) ∧ Kp [g] w w' := by
  have hca := hA.1.cnt
  have ha := nw_le hA'
  have hsl := fun W => sl_high g (nw A) (by omega) W
  go_enter Tryz.func186, Tryz.ntmps186
  go_wp2
  go_quiet (fail)
  go_wp2
  clear hca
  go_loopw [4, 17] (fun s4 s17 wr => ∃ k : Nat, k ≤ nw A ∧ s17 = .int .i64 k ∧ s4 = .int .u64 (cm A p k) ∧ NumF wr g (mix (wd (A * p)) (wd A) k) (nw A) m ∧ Kp [g] w wr)
    (fun _ i _ => nw A - (intOf i).toNat)
  case atStart => exact ⟨0, Nat.zero_le _, rfl, by rw [cm_zero]; rfl, by rw [mix_zero]; exact hA.1.drewN _, (Kp.refl _ _).drewN _⟩
  case round =>
    obtain ⟨k, hk, rfl, rfl, hn, hkp⟩ := hrel
    have hk1 : (k : Int) ≤ 229 := by omega
    have hcm := cm_lt A p k hp
    have hfr := hn.free k
    by_cases hlt : k < nw A
    · have hwa := hn.word (i := k) (by omega)
      rw [mix_ge _ _ (Nat.le_refl _)] at hwa
      have l1 := wd_lt A k
      have hmul : wd A k * p ≤ 999999999 * 999999999 := Nat.mul_le_mul (by omega) (by omega)
      have hmul' : (wd A k : Int) * (p : Int) ≤ 999999998000000001 := by rw [← Int.natCast_mul]; omega
      have hmul0 : 0 ≤ (wd A k : Int) * (p : Int) := by rw [← Int.natCast_mul]; omega
      clear hmul
      go_wp2
      go_roundw
      case rel =>
        have e1 := wd_mul A p k
        have e2 := cm_succ A p k
        unfold B9 at e1 e2
        refine ⟨k + 1, by omega, by go_num, val_i (by rw [e2]; simp), ?_, hkp.setCell (.inl (by simp)) _⟩
        rw [← mix_set]; exact hn.setW' (by omega) (by rw [← e1]; simp)
      case measure => simp [intOf]; omega
    · obtain rfl : k = nw A := by omega
      have hcnt := hn.cnt
      have hf2 := hn.free 229
      have hwe := hn.word (i := nw A) (by omega)
      go_wp2
      go_region
      go_wp2_with fail
      have hX : A * p < B9 ^ (nw A + 1) := by
        rw [Nat.pow_succ]; exact Nat.mul_lt_mul'' (lt_pow_nw A) hp'
      have htop : wd (A * p) (nw A) = cm A p (nw A) := by
        have := cm_top p (lt_pow_nw A)
        rw [Nat.div_eq_of_lt hX] at this; omega
      have hn2 := ((hn.setW (i := nw A) (by omega) (cm A p (nw A))).setC' (x := nw A + 1) (y := (nw A : Int) + 1) (by omega)).drew
      rw [← htop, mix_set] at hn2
      rw [← htop]
      refine (trim_num g (nw A + 1) (A * p) _ m _ hn2 (by omega) hX (fun i _ => ?_)).mono ?_
      · by_cases h2 : i < nw A + 1
        · rw [mix_lt _ _ h2]
        · rw [mix_ge _ _ (by omega), wd_beyond (by omega), wd_of_lt (Nat.lt_of_lt_of_le hX (pow_le (by omega)))]
      rintro e w' ⟨rfl, hnum, hkp'⟩
      go_wp2
      go_end0
      exact ⟨rfl, hnum, ((hkp.setCell (.inl (by simp)) _).setCell (.inl (by simp)) _).drew.trans hkp'⟩

set_option maxRecDepth 100000 in
set_option maxHeartbeats 2000000 in
theorem split_any (g A p : Nat) (m : Bool) (w : World) (hA : Num w g A m) (hp : 0 < p) (hp' : p < 1000000000) :
    Calls Tryz.prog 185 #[.pointer (some ⟨g, 0, none⟩), .int .u32 (p : Int)] w fun e w' => e = .returned (.int .u32 ((A % p : Nat) : Int)) ∧ Num w' g (A / p) (m && decide (A / p ≠ 0)) ∧ Kp [g] w w' := by
  have hca := hA.1.cnt
  have ha := nw_le hA.2
  have hp0 : (0 : Int) < (p : Int) := by omega
  go_enter Tryz.func185, Tryz.ntmps185
  go_wp2
  clear hca
  go_loopg [5, 6] (nw A) (fun k s5 s6 wr => ∃ (i : Int), s6 = .int .i64 i ∧ i + 1 = k ∧ k ≤ nw A ∧ s5 = .int .u64 ((rs A p k : Nat) : Int) ∧ NumF wr g (mix (wd A) (wd (A / p)) k) (nw A) m ∧ Kp [g] w wr)
  case atStart => exact ⟨_, rfl, by omega, Nat.le_refl _, by rw [rs_top p (lt_pow_nw A)]; rfl, hA.1.congr (fun i _ => by
    by_cases h : i < nw A
    · rw [mix_lt _ _ h]
    · rw [mix_ge _ _ (by omega), wd_beyond (by omega), wd_beyond (Nat.le_trans (nw_le (Nat.lt_of_le_of_lt (Nat.div_le_self _ _) (lt_pow_nw A))) (by omega))]), Kp.refl _ _⟩
  case round =>
    obtain ⟨i, rfl, hi, hk, rfl, hn, hkp⟩ := hrel
    have hr := rs_lt A p gk hp
    cases gk with
    | zero =>
      obtain rfl : i = -1 := by omega
      clear hi
      go_wp2_with fail
      have hX : A / p < B9 ^ nw A := Nat.lt_of_le_of_lt (Nat.div_le_self _ _) (lt_pow_nw A)
      refine (trim_num g (nw A) (A / p) _ m _ hn (by omega) hX (fun i _ => ?_)).mono ?_
      · rw [mix_ge _ _ (by omega)]
      rintro e w' ⟨rfl, hnum, hkp'⟩
      have h0 := Lib.hid (rs_zero A p)
      go_wp2
      go_ret
      exact ⟨by rw [← h0.out]; rfl, hnum, hkp.trans hkp'⟩
    | succ j =>
      obtain rfl : i = (j : Int) := by omega
      have hwa := hn.word (i := j) (by omega)
      rw [mix_lt _ _ (by omega)] at hwa
      have hfr := hn.free j
      have hj : (j : Int) < 229 := by omega
      have l1 := wd_lt A j
      clear hi
      go_wp2
      go_region
      go_wp2
      go_roundg j
      case measure => omega
      case rel =>
        have e1 := wd_div A p j hp
        have e2 := rs_step A p j
        unfold B9 at e1 e2
        have l3 := wd_lt (A / p) j
        refine ⟨_, rfl, by omega, by omega, val_i ?_, ?_, (hkp.setCell (.inl (by simp)) _).drew⟩
        · rw [← e2]; simp
        · rw [← mix_down]
          refine (hn.setW' (by omega) ?_).drew
          have e3 : ((rs A p (j + 1) : Int) * 1000000000 + (wd A j : Int)) / (p : Int) = (wd (A / p) j : Int) := by rw [← e1]; simp
          rw [e3]; omega
end Go.Proofs.YtminjcknmhgpiaaGreatDoor
