/- Texts TakeAt, TakeMany: each says in its own first comment what it proves. -/
import Derived.Test.YtiommpdbbpddpaaGreatM09
import Derived.Test.YtiommpdbbpddpaaGreatM04
import Derived.Deep.RegionWith
/- Walk over (*number).takeAt: a part is taken out, as often as it goes. -/
namespace Go.Proofs.YtiommpdbbpddpaaGreat
open Go.RowKit

def TakeInv (U V q i X c : Nat) : Prop := U % B9 ^ i + c * B9 ^ i = X + q * (V % B9 ^ i) ∧ X < B9 ^ i
theorem take_inv {U V q i X c : Nat} (h : TakeInv U V q i X c) :
    TakeInv U V q (i + 1) (X + B9 ^ i * lessW (wd U i) (c + q * wd V i)) (lessN (wd U i) (c + q * wd V i)) := by
  refine ⟨take_step h.1 (less_eq _ _), ?_⟩
  have h1 := lessW_lt (c + q * wd V i) (wd_lt U i)
  have h2 := Nat.mul_le_mul_left (B9 ^ i) (show lessW (wd U i) (c + q * wd V i) + 1 ≤ B9 from h1)
  rw [Nat.mul_add] at h2
  rw [Nat.pow_succ]
  have := h.2
  omega

set_option maxRecDepth 100000 in
set_option maxHeartbeats 4000000 in
theorem takeAt_any (g p R V at_ k c : Nat) (m mb : Bool) (w : World) (hn : NumF w g (wd R) c m) (hV : Num w p V mb) (hgp : g ≠ p) (hk : nw V = k + 2) (hat : at_ + (k + 2) < 229)
    (hU : R / B9 ^ at_ < V * B9) :
    Calls Tryz.prog 162 #[.pointer (some ⟨g, 0, none⟩), .pointer (some ⟨p, 0, none⟩), .int .i64 (at_ : Int)] w fun e w' => e = .returned (.int .u32 ((R / B9 ^ at_ / V : Nat) : Int)) ∧ NumF w' g (wd (R % B9 ^ at_ + B9 ^ at_ * (R / B9 ^ at_ % V))) c m ∧ Kp [g] w w' := by
  have q1 := Lib.hid (guess_any g p R V at_ k c m mb w hn hV hk hat hU)
  have hsl := fun W => sl_high p (nw V) (nw_le hV.2) W
  have hcv := hV.1.cnt
  have hK2 : 2 ≤ nw V := by omega
  have hat2 : at_ + nw V < 229 := by omega
  clear hk hat
  go_enter Tryz.func162, Tryz.ntmps162
  go_wp2_with fail
  refine q1.out.mono ?_
  rintro e w' ⟨q, n, rfl, hq1, hq2, hq3, rfl⟩
  clear q1
  have Hq1 := Lib.hid hq1; clear hq1
  have Hq2 := Lib.hid hq2; clear hq2
  go_wp2_with fail
  go_quiet (fail)
  go_wp2_with fail
  clear hcv hsl
  have hr := Nat.mod_lt R (B9p_pos at_)
  go_loopw [8, 25] (fun s8 s25 wr => ∃ i X cc : Nat, i ≤ nw V ∧ s25 = .int .i64 i ∧ s8 = .int .u64 (cc : Int) ∧ Hid (TakeInv (R / B9 ^ at_) V q i X cc) ∧ NumF wr g (mix (wd (R % B9 ^ at_ + B9 ^ at_ * X)) (wd R) (at_ + i)) c m ∧ Num wr p V mb ∧ Kp [g] w wr)
    (fun _ i _ => nw V - (intOf i).toNat)
  case atStart =>
    refine ⟨0, 0, 0, Nat.zero_le _, rfl, rfl, ⟨by simp [Nat.mod_one], by simp⟩, ((hn.drewN _).drewN _).congr fun i hi => ?_, ⟨(hV.1.drewN _).drewN _, hV.2⟩, ((Kp.refl _ _).drewN _).drewN _⟩
    by_cases h : i < at_
    · rw [mix_lt _ _ (by omega), Nat.mul_zero, Nat.add_zero]
      have e : R = R % B9 ^ at_ + B9 ^ at_ * (R / B9 ^ at_) := (Nat.mod_add_div R _).symm
      conv => lhs; rw [e]
      exact wd_low _ _ _ _ h
    · rw [mix_ge _ _ (by omega)]
  case round =>
    obtain ⟨i, X, cc, hi, rfl, rfl, hinv, hn2, hV2, hkp⟩ := hrel
    have hk1 : (at_ : Int) + (i : Int) ≤ 229 := by omega
    have hcq : cc ≤ q := take_bound hinv.out.1 hinv.out.2
    by_cases hlt : i < nw V
    · have hwa := hn2.word (i := at_ + i) (by omega)
      rw [mix_ge _ _ (Nat.le_refl _), wd_up] at hwa
      have hwb := hV2.1.word (i := i) (by omega)
      have hfr := hn2.free (at_ + i)
      have l1 := wd_lt (R / B9 ^ at_) i
      have l2 := wd_lt V i
      have hti := Lib.hid (take_inv hinv.out)
      obtain ⟨z, hz⟩ : ∃ z, z = q * wd V i := ⟨_, rfl⟩
      have hz1 : (q : Int) * (wd V i : Int) = (z : Int) := by rw [hz]; simp
      have hz2 : z ≤ 999999998000000001 := by rw [hz]; exact Nat.le_trans (Nat.mul_le_mul (show q ≤ 999999999 by omega) (show wd V i ≤ 999999999 by omega)) (by decide)
      rw [← hz] at hti
      clear hz
      obtain ⟨t, ht⟩ : ∃ t, t = cc + z := ⟨_, rfl⟩
      have ht1 : (cc : Int) + (z : Int) = (t : Int) := by omega
      have ht2 : t < 4000000000000000000 := by omega
      rw [← ht] at hti
      have hinvX := Lib.hid hinv.out.2
      clear ht hinv
      have hb1 : (at_ : Int) + (i : Int) < 229 := by omega
      have hb0 : (0 : Int) ≤ (at_ : Int) + (i : Int) := by omega
      have hw1 : IntKind.i64.wrap ((at_ : Int) + (i : Int)) = (at_ : Int) + (i : Int) := IntWalk.i64_in _ (by omega)
      have hn1 : ((at_ : Int) + (i : Int)).toNat = at_ + i := by omega
      go_wp2
      go_region_with (go_at_call 165; refine (less_any _ _ _ l1 ht2).mono ?_; rintro e w' ⟨rfl, rfl⟩)
      go_wp2
      go_roundw
      case rel =>
        refine ⟨i + 1, X + B9 ^ i * lessW (wd (R / B9 ^ at_) i) t, lessN (wd (R / B9 ^ at_) i) t, by omega, by go_num, rfl, hti, ?_, ⟨(hV2.1.far (p := ⟨g, at_ + i, none⟩) (fun e => hgp e.symm) _).drew, hV2.2⟩, (hkp.setCell (.inl (by simp)) _).drew⟩
        have hX := hinvX.out
        rw [show at_ + (i + 1) = at_ + i + 1 from rfl, ← mix_set' (F := wd (R % B9 ^ at_ + B9 ^ at_ * X)) (fun n hn => (part_low _ n hn).symm), part_word hX (lessW_lt _ (wd_lt _ _))]
        exact (hn2.setW' (by omega) rfl).drew
      case measure => simp [intOf]; omega
    · obtain rfl : i = nw V := by omega
      have hVlt := lt_pow_nw V
      have hUlt : R / B9 ^ at_ < B9 ^ (nw V + 1) := Nat.lt_trans hU (by rw [Nat.pow_succ]; exact Nat.mul_lt_mul_of_pos_right hVlt B9_pos)
      have hV0 : 0 < V := by
        rcases Nat.eq_zero_or_pos V with h | h
        · rw [h, nw_zero] at hK2; omega
        · exact h
      have hT := hinv.out
      have hzero : Hid (∀ j, j < 229 → upd (mix (wd (R % B9 ^ at_ + B9 ^ at_ * X)) (wd R) (at_ + nw V)) (at_ + nw V) 0 j = wd (R % B9 ^ at_ + B9 ^ at_ * X) j) := by
        intro j _
        have hXl := part_lt (R := R) (at_ := at_) hT.2
        unfold upd
        by_cases h1 : j = at_ + nw V
        · rw [if_pos h1, wd_of_lt (by rw [h1]; exact hXl)]
        · rw [if_neg h1]
          by_cases h2 : j < at_ + nw V
          · rw [mix_lt _ _ h2]
          · have hRl : R < B9 ^ (at_ + nw V + 1) := by
              rw [Nat.add_assoc, Nat.pow_add]
              exact (Nat.div_lt_iff_lt_mul (B9p_pos at_)).1 hUlt |> fun h => by rwa [Nat.mul_comm] at h
            rw [mix_ge _ _ (by omega), wd_of_lt (Nat.lt_of_lt_of_le hRl (pow_le (by omega))), wd_of_lt (Nat.lt_of_lt_of_le hXl (pow_le (by omega)))]
      have hb1 : (at_ : Int) + (nw V : Int) < 229 := by omega
      have hw1 : IntKind.i64.wrap ((at_ : Int) + (nw V : Int)) = (at_ : Int) + (nw V : Int) := IntWalk.i64_in _ (by omega)
      have hn1 : ((at_ : Int) + (nw V : Int)).toNat = at_ + nw V := by omega
      have hcv := hV2.1.cnt
      have hwt := hn2.word (i := at_ + nw V) (by omega)
      rw [mix_ge _ _ (Nat.le_refl _), wd_up] at hwt
      have hft := hn2.free (at_ + nw V)
      have l3 := wd_lt (R / B9 ^ at_) (nw V)
      by_cases hs : wd (R / B9 ^ at_) (nw V) < cc
      · obtain ⟨h1, h2⟩ := take_short hUlt hVlt hV0 hT.2 hT.1 Hq2.out hs
        have h3 : (X + V) % B9 ^ nw V = R / B9 ^ at_ % V := by
          rw [h2, Nat.add_mod_right, Nat.mod_eq_of_lt (Nat.lt_trans (Nat.mod_lt _ hV0) hVlt)]
        have H1 := Lib.hid h1; have H3 := Lib.hid h3; have HX := Lib.hid hT.2
        have hq1 : 1 ≤ q := by rw [h1]; exact Nat.le_add_left _ _
        clear h1 h2 h3 hT hinv hlt
        go_wp2
        go_quiet (fail)
        go_wp2
        go_region
        go_wp2_with fail
        have hn3 := ((((hn2.drewN nq).setW' (i := at_ + nw V) (x := 0) (y := 0) (by omega) rfl)).congr hzero.out).drew
        refine (addAt_any g p _ V at_ X c m mb _ hn3 ⟨((hV2.1.drewN nq).far (p := ⟨g, at_ + nw V, none⟩) (fun e => hgp e.symm) _).drew, hV2.2⟩ hgp hr HX.out (by omega)).mono ?_
        rintro e w2 ⟨rfl, hn4, hk4⟩
        rw [H3.out] at hn4
        go_wp2
        go_ret
        refine ⟨?_, hn4, (((hkp.drewN nq).setCell (.inl (by simp)) _).drew).trans hk4⟩
        rw [show R / B9 ^ at_ / V = q - 1 by rw [H1.out]; rfl]
        exact congrArg _ (val_i (by omega))
      · obtain ⟨h1, h2⟩ := take_right hUlt hVlt hV0 hT.1 Hq1.out hs
        have H1 := Lib.hid h1; have H2 := Lib.hid h2
        clear h1 h2 hT hinv hlt
        go_wp2
        go_quiet (fail)
        go_wp2
        go_region
        go_wp2
        go_ret
        have hn3 := ((((hn2.drewN nq).setW' (i := at_ + nw V) (x := 0) (y := 0) (by omega) rfl)).congr hzero.out).drew
        rw [H2.out] at hn3
        exact ⟨by rw [← H1.out]; rfl, hn3, ((hkp.drewN nq).setCell (.inl (by simp)) _).drew⟩
end Go.Proofs.YtiommpdbbpddpaaGreat

/- Walk over (*number).takeOut for a divisor of several words; with it takeOut is known for all numbers. -/
namespace Go.Proofs.YtiommpdbbpddpaaGreat
open Go.RowKit

theorem nw_mono {A B : Nat} (h : A ≤ B) : nw A ≤ nw B := nw_le (Nat.lt_of_le_of_lt h (lt_pow_nw B))
/-- a divisor that is scaled by its factor keeps its number of words -/
theorem nw_factor {B k F : Nat} (hB : nw B = k + 2) (hF : (wd B (k + 1) + 1) * F ≤ B9) (hF0 : 0 < F) : nw (B * F) = k + 2 := by
  have hlt : B < B9 ^ (k + 2) := by have := lt_pow_nw B; rwa [hB] at this
  have h1 : B < (wd B (k + 1) + 1) * B9 ^ (k + 1) := by
    rw [wd_top_eq hlt]
    have h4 := Nat.div_add_mod B (B9 ^ (k + 1))
    have h5 := Nat.mod_lt B (B9p_pos (k + 1))
    rw [Nat.add_mul, Nat.mul_comm (B / _)]
    generalize B % B9 ^ (k + 1) = r at *
    omega
  have h2 : B * F < B9 ^ (k + 2) := by
    have h3 : B * F < (wd B (k + 1) + 1) * B9 ^ (k + 1) * F := Nat.mul_lt_mul_of_pos_right h1 hF0
    rw [Nat.mul_right_comm] at h3
    refine Nat.lt_of_lt_of_le h3 ?_
    rw [Nat.pow_succ B9 (k + 1), Nat.mul_comm (B9 ^ (k + 1))]
    exact Nat.mul_le_mul_right _ hF
  have h3 := nw_le h2
  have h4 := nw_mono (Nat.le_mul_of_pos_right B hF0)
  omega
theorem factor_le (d : Nat) : (d + 1) * (1000000000 / (d + 1)) ≤ B9 := Nat.mul_div_le _ _
theorem quo_words {N V c m : Nat} (hN : N < B9 ^ c) (hV : B9 ^ m ≤ V) (hm : m ≤ c) : N < B9 ^ (c - m) * V := by
  refine Nat.lt_of_lt_of_le hN ?_
  have : B9 ^ c = B9 ^ (c - m) * B9 ^ m := by rw [← Nat.pow_add]; congr 1; omega
  rw [this]
  exact Nat.mul_le_mul_left _ hV

set_option maxRecDepth 100000 in
set_option maxHeartbeats 8000000 in
theorem takeOut_many {A B k : Nat} (hAB : ¬ A < B) (hk : nw B = k + 2) (hA9 : A < B9 ^ 227) : TakeOutOk A B := by
  intro g b q mA mB w hA hB hq hgb hgq hbq hm
  have ho : ¬ ordN A B < 0 := fun h => hAB (ordN_neg.1 h)
  have hcb := hB.1.cnt
  rw [hk] at hcb
  have htop := hB.1.word (i := k + 1) (by have := nw_le hB.2; omega)
  have hK1 : nw B ≤ 227 := Nat.le_trans (nw_mono (by omega : B ≤ A)) (nw_le hA9)
  have hk225 : k ≤ 225 := by omega
  have hb1 : ((k : Int) + 2 == 1) = false := beq_eq_false_iff_ne.2 (by omega)
  obtain ⟨F, hF⟩ : ∃ F, F = 1000000000 / (wd B (k + 1) + 1) := ⟨_, rfl⟩
  have l1 := wd_lt B (k + 1)
  have hd1 : 1 ≤ wd B (k + 1) := by have := wd_top (A := B) (by omega); rw [hk] at this; exact Nat.pos_of_ne_zero this
  have hF0 : 0 < F := by rw [hF]; exact Nat.div_pos (by omega) (by omega)
  have hF9 : F < 1000000000 := by rw [hF]; exact Nat.div_lt_self (by omega) (by omega)
  have hFi : (1000000000 : Int) / ((wd B (k + 1) : Int) + 1) = (F : Int) := by rw [hF]; rfl
  have hnV : nw (B * F) = k + 2 := nw_factor hk (by rw [hF]; exact factor_le _) hF0
  obtain ⟨d0, hd0⟩ : ∃ d0, d0 = wd B (k + 1) := ⟨_, rfl⟩
  rw [← hd0] at htop l1 hd1 hFi
  clear hF hd0
  have Hm := Lib.hid hm; clear hm
  have HAB := Lib.hid hAB; clear hAB
  have Hk := Lib.hid hk; clear hk
  have HnV := Lib.hid hnV; clear hnV
  go_enter Tryz.func154, Tryz.ntmps154
  go_wp2_with fail
  refine (against_any g b A B mA mB _ hA hB).mono ?_
  rintro e w' ⟨rfl, n, rfl⟩
  go_wp2_with fail
  go_quiet (fail)
  go_wp2_with fail
  have hlg := hA.1.lt
  have hlb := hB.1.lt
  have hlq := hq.lt
  refine (set_any w.heap.size b 0 B false mB _ ⟨by rw [nw_zero]; exact (NumF.made (w.drewN (n + nq))).congr fun i _ => (wd_zero i).symm, B9p_pos _⟩ ⟨(hB.1.drewN (n + nq)).alloc _, hB.2⟩ (by omega)).mono ?_
  rintro e w1 ⟨rfl, hp1, hk1⟩
  have hA1 : Num w1 g A mA := ⟨((hA.1.drewN (n + nq)).alloc _).kp hk1 (by simp; omega), hA.2⟩
  have hq1 : NumF w1 q (fun _ => 0) 0 false := ((hq.drewN (n + nq)).alloc _).kp hk1 (by simp; omega)
  have kk1 : Kp [g, q] w w1 := (((Kp.refl [g, q] w).drewN (n + nq)).alloc _).step hk1 (by simp)
  go_wp2_with fail
  refine (scale_any w.heap.size B F mB _ hp1 (Nat.lt_of_lt_of_le (lt_pow_nw B) (pow_le (by omega))) hF0 hF9).mono ?_
  rintro e w2 ⟨rfl, hp2, hk2⟩
  have hA2 : Num w2 g A mA := ⟨hA1.1.kp hk2 (by simp; omega), hA.2⟩
  have hq2 : NumF w2 q (fun _ => 0) 0 false := hq1.kp hk2 (by simp; omega)
  have kk2 := kk1.step hk2 (by simp)
  go_wp2_with fail
  refine (scale_any g A F mA _ hA2 (Nat.lt_of_lt_of_le hA9 (pow_le (by omega))) hF0 hF9).mono ?_
  rintro e w3 ⟨rfl, hA3, hk3⟩
  have hp3 : Num w3 w.heap.size (B * F) (mB && decide (B * F ≠ 0)) := ⟨hp2.1.kp hk3 (by simp; omega), hp2.2⟩
  have hq3 : NumF w3 q (fun _ => 0) 0 false := hq2.kp hk3 (by simp; omega)
  have kk3 := kk2.step hk3 (by simp)
  obtain ⟨c, hc⟩ : ∃ c, nw (A * F) = c := ⟨_, rfl⟩
  have hcm : k + 2 ≤ c := by rw [← hc, ← HnV.out]; exact nw_mono (Nat.mul_le_mul_right F (Nat.le_of_not_lt HAB.out))
  have hc228 : c ≤ 228 := by
    rw [← hc]
    refine nw_le ?_
    rw [Nat.pow_succ]
    exact Nat.mul_lt_mul'' hA9 hF9
  have hNc : A * F < B9 ^ c := by rw [← hc]; exact lt_pow_nw _
  have hca := hA3.1.cnt
  rw [hc] at hca
  have hcp := hp3.1.cnt
  rw [HnV.out] at hcp
  have hNV : Hid ((A * F) / (B * F) = A / B ∧ (A * F) % (B * F) = A % B * F) := ⟨Nat.mul_div_mul_right A B hF0, Nat.mul_mod_mul_right F A B⟩
  have hVlo : B9 ^ (k + 1) ≤ B * F := by
    rcases Nat.lt_or_ge (B * F) (B9 ^ (k + 1)) with h | h
    · have := nw_le h; rw [HnV.out] at this; omega
    · exact h
  generalize hmN : (mA && decide (A * F ≠ 0)) = mN at *
  have HmN := Lib.hid hmN; clear hmN
  generalize (mB && decide (B * F ≠ 0)) = mV at *
  obtain ⟨D, rfl⟩ : ∃ D, c = D + (k + 2) := ⟨c - (k + 2), by omega⟩
  have hNq : A * F < B9 ^ (D + 1) * (B * F) := by
    have := quo_words hNc hVlo (by omega)
    rwa [show D + (k + 2) - (k + 1) = D + 1 by omega] at this
  have hV0 : 0 < B * F := Nat.lt_of_lt_of_le (B9p_pos _) hVlo
  have hNf : NumF w3 g (wd (A * F)) (D + (k + 2)) mN := by have := hA3.1; rwa [hc] at this
  have hqw : A * F / (B * F) < B9 ^ (D + 1) := (Nat.div_lt_iff_lt_mul hV0).2 hNq
  generalize hN : A * F = N at *
  generalize hV : B * F = V at *
  have HN := Lib.hid hN; clear hN
  have HV := Lib.hid hV; clear hV
  have Hc := Lib.hid hc; clear hc
  go_wp2_with fail
  go_quiet (fail)
  go_wp2_with fail
  have HNq := Lib.hid hNq; clear hNq
  have Hqw := Lib.hid hqw; clear hqw hca hcp
  go_loopg [9] (D + 1) (fun gk s9 wr => ∃ i : Int, s9 = .int .i64 i ∧ i + 1 = gk ∧ gk ≤ D + 1 ∧ NumF wr g (wd (N % (B9 ^ gk * V))) (D + (k + 2)) mN ∧ Num wr w.heap.size V mV ∧ NumF wr q (mix (fun _ => 0) (wd (N / V)) gk) 0 false ∧ Kp [g, q] w wr)
  case atStart =>
    refine ⟨_, rfl, by omega, Nat.le_refl _, ?_, ⟨hp3.1.drewN _, hp3.2⟩, ?_, kk3.drewN _⟩
    · rw [Nat.mod_eq_of_lt HNq.out]; exact hNf.drewN _
    · refine (hq3.drewN _).congr fun i _ => ?_
      by_cases h : i < D + 1
      · rw [mix_lt _ _ h]
      · rw [mix_ge _ _ (by omega), wd_of_lt (Nat.lt_of_lt_of_le Hqw.out (pow_le (by omega)))]
  case round =>
    obtain ⟨i, rfl, hi, hg1, hnr, hpr, hqr, hkr⟩ := hrel
    cases gk with
    | zero =>
      obtain rfl : i = -1 := by omega
      clear hi
      have hcg := hnr.cnt
      have hcp := hpr.1.cnt
      rw [HnV.out] at hcp
      have hfq := hqr.free 229
      have hcq := hqr.cnt
      go_wp2_with fail
      go_region
      go_wp2_with fail
      have hq5 := (hqr.setC' (x := D + 1) (y := (D : Int) + 1) (by omega)).drew
      rw [mix_zero] at hq5
      refine (trim_num q (D + 1) (N / V) _ false _ hq5 (by omega) Hqw.out (fun _ _ => rfl)).mono ?_
      rintro e w5 ⟨rfl, hq6, hk5⟩
      have k5 : Kp [g, q] w w5 := ((hkr.setCell (p := ⟨q, 229, none⟩) (.inl (by simp)) _).drew).step hk5 (by simp)
      have hn5 : NumF w5 g (wd (N % (B9 ^ 0 * V))) (D + (k + 2)) mN := ((hnr.far (p := ⟨q, 229, none⟩) hgq _).drew).kp hk5 (by simpa using hgq)
      have hXlt : N % V < B9 ^ (D + (k + 2)) := by
        refine Nat.lt_of_lt_of_le (Nat.mod_lt _ hV0) ?_
        have := lt_pow_nw V
        rw [HnV.out] at this
        exact Nat.le_trans (Nat.le_of_lt this) (pow_le (by omega))
      go_wp2_with fail
      refine (trim_num g (D + (k + 2)) (N % V) _ mN _ hn5 (by omega) hXlt (fun i _ => by rw [Nat.pow_zero, Nat.one_mul])).mono ?_
      rintro e w6 ⟨rfl, hn6, hk6⟩
      have hq7 : Num w6 q (N / V) (false && decide (N / V ≠ 0)) := ⟨hq6.1.kp hk6 (by simpa using fun e => hgq e.symm), hq6.2⟩
      have k6 := k5.step hk6 (by simp)
      go_wp2_with fail
      refine (split_any g (N % V) F _ _ hn6 hF0 hF9).mono ?_
      rintro e w7 ⟨rfl, hn7, hk7⟩
      have hq8 : Num w7 q (N / V) (false && decide (N / V ≠ 0)) := ⟨hq7.1.kp hk7 (by simpa using fun e => hgq e.symm), hq7.2⟩
      have k7 := k6.step hk7 (by simp)
      have e2 : N % V / F = A % B := by rw [hNV.out.2]; exact Nat.mul_div_cancel _ hF0
      have e1 : N / V = A / B := hNV.out.1
      have e3 : ((mN && decide (N % V ≠ 0)) && decide (N % V / F ≠ 0)) = (mA && decide (A % B ≠ 0)) := by
        rw [e2, ← HmN.out]
        by_cases h0 : A % B = 0
        · simp [h0]
        · have hA0 : A ≠ 0 := fun e => h0 (by rw [e]; exact Nat.zero_mod B)
          have h1 : N ≠ 0 := by rw [← HN.out]; exact Nat.mul_ne_zero hA0 (by omega)
          have h2 : N % V ≠ 0 := by rw [hNV.out.2]; exact Nat.mul_ne_zero h0 (by omega)
          rw [decide_eq_true h0, decide_eq_true h1, decide_eq_true h2]; simp only [Bool.and_true]
      rw [e3, e2] at hn7
      rw [e1, Bool.false_and] at hq8
      go_wp2
      go_end0
      exact ⟨rfl, hn7, hq8, k7⟩
    | succ j =>
      obtain rfl : i = (j : Int) := by omega
      clear hi
      have hqT := takeAt_any g w.heap.size (N % (B9 ^ (j + 1) * V)) V j k (D + (k + 2)) mN mV wr.drew hnr.drew ⟨hpr.1.drew, hpr.2⟩ (by omega) HnV.out (by omega) (rest_lt N V j hV0)
      rw [rest_div, rest_next] at hqT
      have HqT := Lib.hid hqT; clear hqT
      have hj229 : (j : Int) < 229 := by omega
      go_wp2_with fail
      go_region_with (go_at_call 162; refine HqT.out.mono ?_; rintro e w' ⟨rfl, hn2, hk2⟩; have hq2' := hqr.drew.kp hk2 (by simp; omega); have hf2 := hq2'.free j; have hw2 := hq2'.word (i := j) (by omega))
      go_wp2_with fail
      go_roundg j
      case measure => omega
      case rel =>
        refine ⟨_, rfl, by omega, by omega, hn2.far (p := ⟨q, j, none⟩) hgq _, ⟨((hpr.1.drew).kp hk2 (by simp; omega)).far (p := ⟨q, j, none⟩) (by show w.heap.size ≠ q; omega) _, hpr.2⟩, ?_, (hkr.drew.step hk2 (by simp)).setCell (.inl (by simp)) _⟩
        rw [← mix_down]; exact hq2'.setW' (by omega) rfl

theorem takeOut_all {A B : Nat} (hB : 0 < B) (hA : A < B9 ^ 227) : TakeOutOk A B := by
  by_cases hAB : A < B
  · exact takeOut_less hAB
  · by_cases h1 : nw B = 1
    · exact takeOut_one hAB h1
    · have h0 : nw B ≠ 0 := fun e => by have := nw_eq_zero e; omega
      exact takeOut_many (k := nw B - 2) hAB (by omega) hA
end Go.Proofs.YtiommpdbbpddpaaGreat
