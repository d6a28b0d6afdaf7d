/- Texts TakeAt: each says in its own first comment what it proves. -/
import Derived.Test.YtminjcknmhgpiaaGreatDoorM10
import Derived.Test.YtminjcknmhgpiaaGreatDoorM05
import Derived.Deep.RegionWith
/- Walk over (*number).takeAt: a part is taken out, as often as it goes. -/
namespace Go.Proofs.YtminjcknmhgpiaaGreatDoor
open Go.RowKit

def TakeInv (U V q i X c : Nat) : Prop := U % B9 ^ i + c * B9 ^ i = X + q * (V % B9 ^ i) ∧ X < B9 ^ i
theorem take_inv {U V q i X c : Nat} (h : TakeInv U V q i X c) :
    TakeInv U V q (i + 1) (X + B9 ^ i * lessW (wd U i) (c + q * wd V i)) (lessN (wd U i) (c + q * wd V i)) := by
  refine ⟨take_step h.1 (less_eq _ _), ?_⟩
  have h1 := lessW_lt (c + q * wd V i) (wd_lt U i)
  have h2 := Nat.mul_le_mul_left (B9 ^ i) (show lessW (wd U i) (c + q * wd V i) + 1 ≤ B9 from h1)
  rw [Nat.mul_add] at h2
  rw [Nat.pow_succ]
  have := h.2
  omega

theorem less_still (x t : Nat) (w : World) (hx : x < 1000000000) (ht : t < 4000000000000000000) :
    Calls Tryz.prog 195 #[.int .u32 (x : Int), .int .u64 (t : Int)] w fun e w' => e = .returned (.tuple #[.int .u32 (lessW x t : Int), .int .u64 (lessN x t : Int)]) ∧ w' = w :=
  (less_any x t w hx ht).mono fun _ _ ⟨h1, h2⟩ => ⟨h1, h2.symm⟩

set_option maxRecDepth 100000 in
set_option maxHeartbeats 4000000 in
theorem takeAt_any (g p R V at_ k c : Nat) (m mb : Bool) (w : World) (hn : NumF w g (wd R) c m) (hV : Num w p V mb) (hgp : g ≠ p) (hk : nw V = k + 2) (hat : at_ + (k + 2) < 229)
    (hU : R / B9 ^ at_ < V * B9) :
    Calls Tryz.prog 187 #[.pointer (some ⟨g, 0, none⟩), .pointer (some ⟨p, 0, none⟩), .int .i64 (at_ : Int)] w fun e w' => e = .returned (.int .u32 ((R / B9 ^ at_ / V : Nat) : Int)) ∧ NumF w' g (wd (R % B9 ^ at_ + B9 ^ at_ * (R / B9 ^ at_ % V))) c m ∧ Kp [g] w w' := by
  have q1 := Lib.hid (guess_any g p R V at_ k c m mb w hn hV hk hat hU)
  have hsl := fun W => sl_high p (nw V) (nw_le hV.2) W
  have hcv := hV.1.cnt
  have hK2 : 2 ≤ nw V := by omega
  have hat2 : at_ + nw V < 229 := by omega
  clear hk hat
  go_enter Tryz.func187, Tryz.ntmps187
  go_wp2_with fail
  refine q1.out.mono ?_
  rintro e w' ⟨q, n, rfl, hq1, hq2, hq3, rfl⟩
  clear q1
  have Hq1 := Lib.hid hq1; clear hq1
  have Hq2 := Lib.hid hq2; clear hq2
  go_wp2_with fail
  go_quiet (fail)
  go_wp2_with fail
  clear hcv hsl
  have hr := Nat.mod_lt R (B9p_pos at_)
  go_loopw [8, 25] (fun s8 s25 wr => ∃ i X cc : Nat, i ≤ nw V ∧ s25 = .int .i64 i ∧ s8 = .int .u64 (cc : Int) ∧ Hid (TakeInv (R / B9 ^ at_) V q i X cc) ∧ NumF wr g (mix (wd (R % B9 ^ at_ + B9 ^ at_ * X)) (wd R) (at_ + i)) c m ∧ Num wr p V mb ∧ Kp [g] w wr)
    (fun _ i _ => nw V - (intOf i).toNat)
  case atStart =>
    refine ⟨0, 0, 0, Nat.zero_le _, rfl, rfl, ⟨by simp [Nat.mod_one], by simp⟩, ((hn.drewN _).drewN _).congr fun i hi => ?_, ⟨(hV.1.drewN _).drewN _, hV.2⟩, ((Kp.refl _ _).drewN _).drewN _⟩
    by_cases h : i < at_
    · rw [mix_lt _ _ (by omega), Nat.mul_zero, Nat.add_zero]
      have e : R = R % B9 ^ at_ + B9 ^ at_ * (R / B9 ^ at_) := (Nat.mod_add_div R _).symm
      conv => lhs; rw [e]
      exact wd_low _ _ _ _ h
    · rw [mix_ge _ _ (by omega)]
  case round =>
    obtain ⟨i, X, cc, hi, rfl, rfl, hinv, hn2, hV2, hkp⟩ := hrel
    have hk1 : (at_ : Int) + (i : Int) ≤ 229 := by omega
    have hcq : cc ≤ q := take_bound hinv.out.1 hinv.out.2
    by_cases hlt : i < nw V
    · have hwa := hn2.word (i := at_ + i) (by omega)
      rw [mix_ge _ _ (Nat.le_refl _), wd_up] at hwa
      have hwb := hV2.1.word (i := i) (by omega)
      have hfr := hn2.free (at_ + i)
      have l1 := wd_lt (R / B9 ^ at_) i
      have l2 := wd_lt V i
      have hti := Lib.hid (take_inv hinv.out)
      obtain ⟨z, hz⟩ : ∃ z, z = q * wd V i := ⟨_, rfl⟩
      have hz1 : (q : Int) * (wd V i : Int) = (z : Int) := by rw [hz]; simp
      have hz2 : z ≤ 999999998000000001 := by rw [hz]; exact Nat.le_trans (Nat.mul_le_mul (show q ≤ 999999999 by omega) (show wd V i ≤ 999999999 by omega)) (by decide)
      rw [← hz] at hti
      clear hz
      obtain ⟨t, ht⟩ : ∃ t, t = cc + z := ⟨_, rfl⟩
      have ht1 : (cc : Int) + (z : Int) = (t : Int) := by omega
      have ht2 : t < 4000000000000000000 := by omega
      rw [← ht] at hti
      have hinvX := Lib.hid hinv.out.2
      clear ht hinv
      have hb1 : (at_ : Int) + (i : Int) < 229 := by omega
      have hb0 : (0 : Int) ≤ (at_ : Int) + (i : Int) := by omega
      have hw1 : IntKind.i64.wrap ((at_ : Int) + (i : Int)) = (at_ : Int) + (i : Int) := IntWalk.i64_in _ (by omega)
      have hn1 : ((at_ : Int) + (i : Int)).toNat = at_ + i := by omega
      go_wp2
      go_region_with (go_at_call 195; refine (less_any _ _ _ l1 ht2).mono ?_; rintro e w' ⟨rfl, rfl⟩)
      go_wp2
      go_roundw
      case rel =>
        refine ⟨i + 1, X + B9 ^ i * lessW (wd (R / B9 ^ at_) i) t, lessN (wd (R / B9 ^ at_) i) t, by omega, by go_num, rfl, hti, ?_, ⟨(hV2.1.far (p := ⟨g, at_ + i, none⟩) (fun e => hgp e.symm) _).drew, hV2.2⟩, (hkp.setCell (.inl (by simp)) _).drew⟩
        have hX := hinvX.out
        rw [show at_ + (i + 1) = at_ + i + 1 from rfl, ← mix_set' (F := wd (R % B9 ^ at_ + B9 ^ at_ * X)) (fun n hn => (part_low _ n hn).symm), part_word hX (lessW_lt _ (wd_lt _ _))]
        exact (hn2.setW' (by omega) rfl).drew
      case measure => simp [intOf]; omega
    · obtain rfl : i = nw V := by omega
      have hVlt := lt_pow_nw V
      have hUlt : R / B9 ^ at_ < B9 ^ (nw V + 1) := Nat.lt_trans hU (by rw [Nat.pow_succ]; exact Nat.mul_lt_mul_of_pos_right hVlt B9_pos)
      have hV0 : 0 < V := by
        rcases Nat.eq_zero_or_pos V with h | h
        · rw [h, nw_zero] at hK2; omega
        · exact h
      have hT := hinv.out
      have hzero : Hid (∀ j, j < 229 → upd (mix (wd (R % B9 ^ at_ + B9 ^ at_ * X)) (wd R) (at_ + nw V)) (at_ + nw V) 0 j = wd (R % B9 ^ at_ + B9 ^ at_ * X) j) := by
        intro j _
        have hXl := part_lt (R := R) (at_ := at_) hT.2
        unfold upd
        by_cases h1 : j = at_ + nw V
        · rw [if_pos h1, wd_of_lt (by rw [h1]; exact hXl)]
        · rw [if_neg h1]
          by_cases h2 : j < at_ + nw V
          · rw [mix_lt _ _ h2]
          · have hRl : R < B9 ^ (at_ + nw V + 1) := by
              rw [Nat.add_assoc, Nat.pow_add]
              exact (Nat.div_lt_iff_lt_mul (B9p_pos at_)).1 hUlt |> fun h => by rwa [Nat.mul_comm] at h
            rw [mix_ge _ _ (by omega), wd_of_lt (Nat.lt_of_lt_of_le hRl (pow_le (by omega))), wd_of_lt (Nat.lt_of_lt_of_le hXl (pow_le (by omega)))]
      have hb1 : (at_ : Int) + (nw V : Int) < 229 := by omega
      have hw1 : IntKind.i64.wrap ((at_ : Int) + (nw V : Int)) = (at_ : Int) + (nw V : Int) := IntWalk.i64_in _ (by omega)
      have hn1 : ((at_ : Int) + (nw V : Int)).toNat = at_ + nw V := by omega
      have hcv := hV2.1.cnt
      have hwt := hn2.word (i := at_ + nw V) (by omega)
      rw [mix_ge _ _ (Nat.le_refl _), wd_up] at hwt
      have hft := hn2.free (at_ + nw V)
      have l3 := wd_lt (R / B9 ^ at_) (nw V)
      by_cases hs : wd (R / B9 ^ at_) (nw V) < cc
      · obtain ⟨h1, h2⟩ := take_short hUlt hVlt hV0 hT.2 hT.1 Hq2.out hs
        have h3 : (X + V) % B9 ^ nw V = R / B9 ^ at_ % V := by
          rw [h2, Nat.add_mod_right, Nat.mod_eq_of_lt (Nat.lt_trans (Nat.mod_lt _ hV0) hVlt)]
        have H1 := Lib.hid h1; have H3 := Lib.hid h3; have HX := Lib.hid hT.2
        have hq1 : 1 ≤ q := by rw [h1]; exact Nat.le_add_left _ _
        clear h1 h2 h3 hT hinv hlt
        go_wp2
        go_quiet (fail)
        go_wp2
        go_region
        go_wp2_with fail
        have hn3 := ((((hn2.drewN nq).setW' (i := at_ + nw V) (x := 0) (y := 0) (by omega) rfl)).congr hzero.out).drew
        refine (addAt_any g p _ V at_ X c m mb _ hn3 ⟨((hV2.1.drewN nq).far (p := ⟨g, at_ + nw V, none⟩) (fun e => hgp e.symm) _).drew, hV2.2⟩ hgp hr HX.out (by omega)).mono ?_
        rintro e w2 ⟨rfl, hn4, hk4⟩
        rw [H3.out] at hn4
        go_wp2
        go_ret
        refine ⟨?_, hn4, (((hkp.drewN nq).setCell (.inl (by simp)) _).drew).trans hk4⟩
        rw [show R / B9 ^ at_ / V = q - 1 by rw [H1.out]; rfl]
        exact congrArg _ (val_i (by omega))
      · obtain ⟨h1, h2⟩ := take_right hUlt hVlt hV0 hT.1 Hq1.out hs
        have H1 := Lib.hid h1; have H2 := Lib.hid h2
        clear h1 h2 hT hinv hlt
        go_wp2
        go_quiet (fail)
        go_wp2
        go_region
        go_wp2
        go_ret
        have hn3 := ((((hn2.drewN nq).setW' (i := at_ + nw V) (x := 0) (y := 0) (by omega) rfl)).congr hzero.out).drew
        rw [H2.out] at hn3
        exact ⟨by rw [← H1.out]; rfl, hn3, ((hkp.drewN nq).setCell (.inl (by simp)) _).drew⟩
end Go.Proofs.YtminjcknmhgpiaaGreatDoor
