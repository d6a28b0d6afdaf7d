/- The reference's divided: division of digits, as on paper. -/
import Derived.Test.YtbhngccjacdlfaaM28
namespace Go.Proofs.Ytbhngccjacdlfaa
open Go.RowKit
open Go.Lib (nDigits itoa decDigits)

theorem wideB_snoc (z i : Nat) : (wideB (z / 10) i).data.toList ++ [UInt8.ofNat (48 + z % 10)] = (wideB z (i + 1)).data.toList := by
  rw [wideB_list, wideB_list, List.range_succ, List.map_append]
  congr 1
  · refine List.map_congr_left fun p hp => ?_
    have hp' : p < i := by simpa using hp
    unfold dgt
    rw [show i + 1 - 1 - p = (i - 1 - p) + 1 by omega, Nat.pow_succ, Nat.mul_comm, ← Nat.div_div_eq_div_mul]
  · unfold dgt
    simp
theorem cat_list (a b : ByteArray) : (a ++ b).data.toList = a.data.toList ++ b.data.toList := by simp
theorem bytes_eq {a b : ByteArray} (h : a.data.toList = b.data.toList) : a = b := by
  cases a; cases b; simp only at h; congr 1; exact Array.toList_inj.1 h
theorem quo_next (U v d : Nat) (hv : 0 < v) : (10 * U + d) / v = 10 * (U / v) + (10 * (U % v) + d) / v := by
  have h := Nat.div_add_mod U v
  conv => lhs; rw [← h]
  rw [show 10 * (v * (U / v) + U % v) + d = v * (10 * (U / v)) + (10 * (U % v) + d) by rw [Nat.mul_add, Nat.mul_left_comm]; omega, Nat.mul_add_div hv]
theorem rem_next (U v d : Nat) (hv : 0 < v) : (10 * U + d) % v = (10 * (U % v) + d) % v := by
  have h := Nat.div_add_mod U v
  conv => lhs; rw [← h]
  rw [show 10 * (v * (U / v) + U % v) + d = (10 * (U % v) + d) + v * (10 * (U / v)) by rw [Nat.mul_add, Nat.mul_left_comm]; omega, Nat.add_mul_mod_self_left]
theorem nd_mono {a b : Nat} (h : a ≤ b) : nDigits a ≤ nDigits b :=
  (nd_le_iff (Go.Lib.nDigits_pos b)).2 (Nat.lt_of_le_of_lt h (Go.Lib.lt_pow_nDigits b))
theorem S_at' (u i : Nat) (h : i < (S (u : Int)).size) : ((S (u : Int))[i]).toNat = 48 + u / 10 ^ (nDigits u - 1 - i) % 10 := by
  have hl : (S (u : Int)).data.toList = decDigits u := by rw [S_list, itoa_nn]
  have hs : (S (u : Int)).size = nDigits u := by have := (S_nn (z := (u : Int)) (by omega)).2; rwa [Int.natAbs_natCast, Nat.add_zero] at this
  rw [← dec_getD (by omega), ← hl]
  have hlen : i < (S (u : Int)).data.toList.length := by rw [← Lib.size_eq]; exact h
  rw [List.getD_eq_getElem?_getD, List.getElem?_eq_getElem hlen]
  rfl
/-- one digit more -/
theorem bare_next (R d : Nat) (c : UInt8) (hc : c.toNat = 48 + d) (hd : d ≤ 9) (s : ByteArray) (hs : s.data.toList = (S (R : Int)).data.toList ++ [c]) (hR : nDigits R ≤ 3000) (w : World) :
    Calls Try.prog 92 #[.string s] w fun e w' => e = .returned (.string (S ((10 * R + d : Nat) : Int))) ∧ w = w' := by
  have hl : (S (R : Int)).data.toList = decDigits R := by rw [S_list, itoa_nn]
  have hall : s.data.toList.all isDig = true := by
    rw [hs, hl, List.all_append, dec_all]
    simp [isDig_iff, hc]
    omega
  have hv : valN s.data.toList = 10 * R + d := by
    rw [hs, hl, valN_snoc, valN_dec, hc]; omega
  have hsz : s.size = nDigits R + 1 := by rw [Lib.size_eq, hs, hl, List.length_append, dec_len]; rfl
  have := bare_any s w (by omega) (by omega) hall
  rwa [hv] at this

set_option exponentiation.threshold 5000 in
set_option maxRecDepth 100000 in
set_option maxHeartbeats 8000000 in
theorem divided_S (u v : Nat) (w : World) (hu : nDigits u ≤ 2400) (hv : nDigits v ≤ 2400) (hv0 : 0 < v) :
    Calls Try.prog 78 #[.string (S (u : Int)), .string (S (v : Int))] w fun e w' => e = .returned (.tuple #[.string (S ((u / v : Nat) : Int)), .string (S ((u % v : Nat) : Int))]) ∧ Kp [] w w' := by
  obtain ⟨la, hla⟩ : ∃ la, la = nDigits u := ⟨_, rfl⟩
  have hlp := Go.Lib.nDigits_pos u
  have s1 : (S (u : Int)).size = la := by have := (S_nn (z := (u : Int)) (by omega)).2; rw [Int.natAbs_natCast, Nat.add_zero] at this; omega
  have hul : u < 10 ^ la := by rw [hla]; exact Go.Lib.lt_pow_nDigits u
  have hAt : Hid (∀ j (h : j < (S (u : Int)).size), (S (u : Int))[j].toNat = 48 + u / 10 ^ (la - 1 - j) % 10) := fun j h => by rw [hla]; exact S_at' u j h
  have hbare := Lib.hid (fun W => bare_any (wideB (u / v) la) W (by rw [wideB_size]; omega) (by rw [wideB_size]; omega) (wideB_dig _ _))
  rw [wideB_val, Nat.mod_eq_of_lt (Nat.lt_of_le_of_lt (Nat.div_le_self _ _) hul)] at hbare
  obtain ⟨r1, hr1⟩ : ∃ r, r = S ((u / v : Nat) : Int) := ⟨_, rfl⟩
  rw [← hr1] at hbare ⊢
  have Hla := Lib.hid hla
  have hla24 : la ≤ 2400 := by omega
  have hla1 : 1 ≤ la := by omega
  have hs1i : ((S (u : Int)).size : Int) = (la : Int) := by omega
  obtain ⟨A, hA⟩ : ∃ A, A = S (u : Int) := ⟨_, rfl⟩
  obtain ⟨B, hB⟩ : ∃ B, B = S (v : Int) := ⟨_, rfl⟩
  rw [← hA] at hAt s1 hs1i ⊢
  rw [← hB]
  have HB := Lib.hid hB
  clear hla hA hB hr1 hlp
  go_enter Try.func78, Try.ntmps78
  go_wp2_with fail
  go_loopw [6, 7, 8] (fun s6 s7 s8 wr => ∃ (i : Nat) (q r : ByteArray), i ≤ la ∧ s8 = .int .i64 i ∧ s6 = .string q ∧ s7 = .string r ∧ Hid (q = wideB (u / 10 ^ (la - i) / v) i) ∧ Hid (r = S ((u / 10 ^ (la - i) % v : Nat) : Int)) ∧ Kp [] w wr)
    (fun _ _ i _ => la - (intOf i).toNat)
  case atStart =>
    refine ⟨0, _, _, Nat.zero_le _, rfl, rfl, rfl, ?_, ?_, Kp.refl _ _⟩
    · show _ = _
      exact bytes_eq (by rw [wideB_list]; rfl)
    · show _ = _
      rw [Nat.sub_zero, Nat.div_eq_of_lt hul, Nat.zero_mod]; exact S_zero.symm
  case round =>
    obtain ⟨i, q, r, hi, rfl, rfl, rfl, hq, hr, hkp⟩ := hrel
    by_cases hlt : i < la
    · have hA1 : i < A.size := by omega
      have ea := hAt.out i hA1
      obtain ⟨d, hd⟩ : ∃ d, d = u / 10 ^ (la - 1 - i) % 10 := ⟨_, rfl⟩
      rw [← hd] at ea
      have hd9 : d ≤ 9 := by rw [hd]; omega
      have hU : Hid (u / 10 ^ (la - (i + 1)) = 10 * (u / 10 ^ (la - i)) + d) := by
        show _ = _
        rw [hd, show la - (i + 1) = la - 1 - i by omega, show la - i = (la - 1 - i) + 1 by omega, Nat.pow_succ, ← Nat.div_div_eq_div_mul]
        omega
      obtain ⟨U, hUd⟩ : ∃ U, U = u / 10 ^ (la - i) := ⟨_, rfl⟩
      rw [← hUd] at hU hq hr
      have hRv : U % v < v := Nat.mod_lt _ hv0
      have hRn : nDigits (U % v) ≤ 2400 := Nat.le_trans (nd_mono (Nat.le_of_lt hRv)) hv
      have hrs : r.size ≤ 2401 := by rw [hr.out]; exact Nat.le_trans (S_size _) (by rw [Int.natAbs_natCast]; omega)
      have hqs : q.size = i := by rw [hq.out, wideB_size]
      have hex : (A.extract i (i + 1)).data.toList = [A[i]] := by
        rw [Lib.extract_data]
        have h1 : i < A.data.toList.length := by rw [← Lib.size_eq]; exact hA1
        rw [List.drop_eq_getElem_cons h1, show i + 1 - i = 1 by omega]
        rfl
      have hexs : (A.extract i (i + 1)).size = 1 := by rw [Lib.size_eq, hex]; rfl
      have q1 := Lib.hid (fun W => bare_next (U % v) d A[i] ea hd9 (r ++ A.extract i (i + 1)) (by rw [cat_list, hex, hr.out]) (by omega) W)
      have hsum : r.size + (A.extract i (i + 1)).size ≤ 9223372036854775807 := by omega
      have hi1 : (i : Int) < (la : Int) := by omega
      have hi2 : (i : Int) + 1 ≤ (la : Int) := by omega
      obtain ⟨r0, hr0⟩ : ∃ r0, r0 = 10 * (U % v) + d := ⟨_, rfl⟩
      rw [← hr0] at q1
      have hr0v : r0 < 10 * v := by omega
      have hqn : Hid (u / 10 ^ (la - (i + 1)) / v = 10 * (U / v) + r0 / v) := by show _ = _; rw [hU.out, quo_next U v d hv0, hr0]
      have hrn : Hid (u / 10 ^ (la - (i + 1)) % v = r0 % v) := by show _ = _; rw [hU.out, rem_next U v d hv0, hr0]
      have hr0n : nDigits r0 ≤ 2401 := by
        have h1 := (nd_le_iff (u := v) (k := 2400) (by omega)).1 hv
        refine (nd_le_iff (by omega)).2 ?_
        rw [Nat.pow_succ]; omega
      clear ea hd hU hUd hr hex hRv hRn hr0
      go_wp2_with fail
      refine (q1.out _).mono ?_
      rintro e w1 ⟨rfl, rfl⟩
      clear q1 hsum hexs hrs
      go_wp2_with fail
      obtain ⟨wo, hwo⟩ : ∃ wo : World, wo = wr := ⟨_, rfl⟩
      subst hwo
      go_loopw [7, 9] (fun s7 s9 wq => ∃ (t : Nat) (r : ByteArray), s9 = .int .u8 ((48 + t : Nat) : Int) ∧ s7 = .string r ∧ t * v ≤ r0 ∧ Hid (r = S ((r0 - t * v : Nat) : Int)) ∧ Kp [] w wq)
        (fun _ s9 _ => 60 - (intOf s9).toNat)
      case atStart => exact ⟨0, _, rfl, rfl, by omega, by show _ = _; rw [Nat.zero_mul, Nat.sub_zero], hkp⟩
      case round =>
        obtain ⟨t, r2, rfl, rfl, htv, hr2, hkp2⟩ := hrel
        have ht10 : t < 10 := Nat.lt_of_mul_lt_mul_right (Nat.lt_of_le_of_lt htv hr0v)
        have q2 := Lib.hid (fun W => rless_S (r0 - t * v) v W)
        rw [← hr2.out, ← HB.out] at q2
        by_cases hle : r0 - t * v < v
        · rw [decide_eq_true hle] at q2
          have ht : t = r0 / v := by
            refine (Nat.div_eq_of_lt_le htv ?_).symm
            rw [Nat.add_mul]; omega
          have hcv := fun W => conv_one 9 Try.underlying9 (48 + t) W
          rw [show ((48 + t : Nat) : Int) = 48 + (t : Int) by omega] at hcv ⊢
          have hqt : Hid (q ++ (⟨#[UInt8.ofNat (48 + t)]⟩ : ByteArray) = wideB (u / 10 ^ (la - (i + 1)) / v) (i + 1)) := by
            show _ = _
            apply bytes_eq
            rw [hqn.out, ← wideB_snoc, show (10 * (U / v) + r0 / v) / 10 = U / v by rw [← ht]; omega, show (10 * (U / v) + r0 / v) % 10 = t by rw [← ht]; omega, hq.out]
            simp
          have hrt : Hid (r2 = S ((u / 10 ^ (la - (i + 1)) % v : Nat) : Int)) := by
            show _ = _
            rw [hr2.out, hrn.out, ht]
            have := Nat.div_add_mod r0 v
            rw [Nat.mul_comm] at this
            congr 2; omega
          obtain ⟨c, hc⟩ : ∃ c, UInt8.ofNat (48 + t) = c := ⟨_, rfl⟩
          rw [hc] at hcv hqt
          have hqs2 : q.size ≤ 3000 := by omega
          clear hc ht hle htv hr2
          go_wp2_with fail
          refine (q2.out _).mono ?_
          rintro e w2 ⟨rfl, rfl⟩
          go_wp2_with fail
          go_roundw
          case rel => exact ⟨i + 1, _, _, by omega, by go_num, rfl, rfl, hqt, hrt, hkp2.alloc _⟩
          case measure => simp [intOf]; omega
        · rw [decide_eq_false hle] at q2
          have q3 := Lib.hid (fun W => paper_sub (r0 - t * v) v (pMax (r0 - t * v) v) W (by omega) rfl (Nat.le_trans (pMax_le (k := 2401) (Nat.le_trans (nd_mono (Nat.sub_le _ _)) hr0n) (by omega)) (by omega)))
          rw [← hr2.out, ← HB.out, Nat.sub_sub, ← Nat.succ_mul] at q3
          have htv2 : (t + 1) * v ≤ r0 := by rw [Nat.add_mul]; omega
          rw [show ((48 + t : Nat) : Int) = 48 + (t : Int) by omega]
          clear hle hr2
          go_wp2_with fail
          refine (q2.out _).mono ?_
          rintro e w2 ⟨rfl, rfl⟩
          go_wp2_with fail
          refine (q3.out _).mono ?_
          rintro e w3 ⟨rfl, k3⟩
          go_wp2_with fail
          go_roundw
          case rel => exact ⟨t + 1, _, val_i (by omega), rfl, htv2, rfl, hkp2.trans k3⟩
          case measure => simp [intOf]; omega
    · obtain rfl : i = la := by omega
      have hv1 : Hid (q = wideB (u / v) i) := by show _ = _; rw [hq.out, Nat.sub_self, Nat.pow_zero, Nat.div_one]
      have hv2 : Hid (r = S ((u % v : Nat) : Int)) := by show _ = _; rw [hr.out, Nat.sub_self, Nat.pow_zero, Nat.div_one]
      rw [← hv1.out] at hbare
      go_wp2_with fail
      refine (hbare.out _).mono ?_
      rintro e w1 ⟨rfl, rfl⟩
      go_wp2_with fail
      go_ret2
      exact ⟨by rw [← hv2.out]; rfl, hkp⟩
end Go.Proofs.Ytbhngccjacdlfaa
