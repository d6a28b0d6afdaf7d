/- Texts RDiv, RPartM, RPart, RPart2, RShared: each says in its own first comment what it proves. -/
import Derived.Test.YtiommpdbbpddpaaGreatM19
import Derived.Test.YtiommpdbbpddpaaGreatM51
import Derived.Test.YtiommpdbbpddpaaGreatM11
/- The reference's divided: division of digits, as on paper. -/
namespace Go.Proofs.YtiommpdbbpddpaaGreat
open Go.RowKit
open Go.Lib (nDigits itoa decDigits)

theorem wideB_snoc (z i : Nat) : (wideB (z / 10) i).data.toList ++ [UInt8.ofNat (48 + z % 10)] = (wideB z (i + 1)).data.toList := by
  rw [wideB_list, wideB_list, List.range_succ, List.map_append]
  congr 1
  · refine List.map_congr_left fun p hp => ?_
    have hp' : p < i := by simpa using hp
    unfold dgt
    rw [show i + 1 - 1 - p = (i - 1 - p) + 1 by omega, Nat.pow_succ, Nat.mul_comm, ← Nat.div_div_eq_div_mul]
  · unfold dgt
    simp
theorem cat_list (a b : ByteArray) : (a ++ b).data.toList = a.data.toList ++ b.data.toList := by simp
theorem bytes_eqd {a b : ByteArray} (h : a.data.toList = b.data.toList) : a = b := by
  cases a; cases b; simp only at h; congr 1; exact Array.toList_inj.1 h
theorem quo_next (U v d : Nat) (hv : 0 < v) : (10 * U + d) / v = 10 * (U / v) + (10 * (U % v) + d) / v := by
  have h := Nat.div_add_mod U v
  conv => lhs; rw [← h]
  rw [show 10 * (v * (U / v) + U % v) + d = v * (10 * (U / v)) + (10 * (U % v) + d) by rw [Nat.mul_add, Nat.mul_left_comm]; omega, Nat.mul_add_div hv]
theorem rem_next (U v d : Nat) (_hv : 0 < v) : (10 * U + d) % v = (10 * (U % v) + d) % v := by
  have h := Nat.div_add_mod U v
  conv => lhs; rw [← h]
  rw [show 10 * (v * (U / v) + U % v) + d = (10 * (U % v) + d) + v * (10 * (U / v)) by rw [Nat.mul_add, Nat.mul_left_comm]; omega, Nat.add_mul_mod_self_left]
theorem nd_mono {a b : Nat} (h : a ≤ b) : nDigits a ≤ nDigits b :=
  (nd_le_iff (Go.Lib.nDigits_pos b)).2 (Nat.lt_of_le_of_lt h (Go.Lib.lt_pow_nDigits b))
theorem S_at' (u i : Nat) (h : i < (S (u : Int)).size) : ((S (u : Int))[i]).toNat = 48 + u / 10 ^ (nDigits u - 1 - i) % 10 := by
  have hl : (S (u : Int)).data.toList = decDigits u := by rw [S_list, itoa_nn]
  have hs : (S (u : Int)).size = nDigits u := by have := (S_nn (z := (u : Int)) (by omega)).2; rwa [Int.natAbs_natCast, Nat.add_zero] at this
  rw [← dec_getD (by omega), ← hl]
  have hlen : i < (S (u : Int)).data.toList.length := by rw [← Lib.size_eq]; exact h
  rw [List.getD_eq_getElem?_getD, List.getElem?_eq_getElem hlen]
  rfl
/-- one digit more -/
theorem bare_next (R d : Nat) (c : UInt8) (hc : c.toNat = 48 + d) (hd : d ≤ 9) (s : ByteArray) (hs : s.data.toList = (S (R : Int)).data.toList ++ [c]) (hR : nDigits R ≤ 3000) (w : World) :
    Calls Tryz.prog 100 #[.string s] w fun e w' => e = .returned (.string (S ((10 * R + d : Nat) : Int))) ∧ w = w' := by
  have hl : (S (R : Int)).data.toList = decDigits R := by rw [S_list, itoa_nn]
  have hall : s.data.toList.all isDig = true := by
    rw [hs, hl, List.all_append, dec_all]
    simp [isDig_iff, hc]
    omega
  have hv : valN s.data.toList = 10 * R + d := by
    rw [hs, hl, valN_snoc, valN_dec, hc]; omega
  have hsz : s.size = nDigits R + 1 := by rw [Lib.size_eq, hs, hl, List.length_append, dec_len]; rfl
  have := bare_any s w (by omega) (by omega) hall
  rwa [hv] at this

set_option exponentiation.threshold 5000 in
set_option maxRecDepth 100000 in
set_option maxHeartbeats 8000000 in
theorem divided_S (u v : Nat) (w : World) (hu : nDigits u ≤ 2400) (hv : nDigits v ≤ 2400) (hv0 : 0 < v) :
    Calls Tryz.prog 80 #[.string (S (u : Int)), .string (S (v : Int))] w fun e w' => e = .returned (.tuple #[.string (S ((u / v : Nat) : Int)), .string (S ((u % v : Nat) : Int))]) ∧ Kp [] w w' := by
  obtain ⟨la, hla⟩ : ∃ la, la = nDigits u := ⟨_, rfl⟩
  have hlp := Go.Lib.nDigits_pos u
  have s1 : (S (u : Int)).size = la := by have := (S_nn (z := (u : Int)) (by omega)).2; rw [Int.natAbs_natCast, Nat.add_zero] at this; omega
  have hul : u < 10 ^ la := by rw [hla]; exact Go.Lib.lt_pow_nDigits u
  have hAt : Hid (∀ j (h : j < (S (u : Int)).size), (S (u : Int))[j].toNat = 48 + u / 10 ^ (la - 1 - j) % 10) := fun j h => by rw [hla]; exact S_at' u j h
  have hbare := Lib.hid (fun W => bare_any (wideB (u / v) la) W (by rw [wideB_size]; omega) (by rw [wideB_size]; omega) (wideB_dig _ _))
  rw [wideB_val, Nat.mod_eq_of_lt (Nat.lt_of_le_of_lt (Nat.div_le_self _ _) hul)] at hbare
  obtain ⟨r1, hr1⟩ : ∃ r, r = S ((u / v : Nat) : Int) := ⟨_, rfl⟩
  rw [← hr1] at hbare ⊢
  have Hla := Lib.hid hla
  have hla24 : la ≤ 2400 := by omega
  have hla1 : 1 ≤ la := by omega
  have hs1i : ((S (u : Int)).size : Int) = (la : Int) := by omega
  obtain ⟨A, hA⟩ : ∃ A, A = S (u : Int) := ⟨_, rfl⟩
  obtain ⟨B, hB⟩ : ∃ B, B = S (v : Int) := ⟨_, rfl⟩
  rw [← hA] at hAt s1 hs1i ⊢
  rw [← hB]
  have HB := Lib.hid hB
  clear hla hA hB hr1 hlp
  go_enter Tryz.func80, Tryz.ntmps80
  go_wp2_with fail
  go_loopw [6, 7, 8] (fun s6 s7 s8 wr => ∃ (i : Nat) (q r : ByteArray), i ≤ la ∧ s8 = .int .i64 i ∧ s6 = .string q ∧ s7 = .string r ∧ Hid (q = wideB (u / 10 ^ (la - i) / v) i) ∧ Hid (r = S ((u / 10 ^ (la - i) % v : Nat) : Int)) ∧ Kp [] w wr)
    (fun _ _ i _ => la - (intOf i).toNat)
  case atStart =>
    refine ⟨0, _, _, Nat.zero_le _, rfl, rfl, rfl, ?_, ?_, Kp.refl _ _⟩
    · show _ = _
      exact bytes_eqd (by rw [wideB_list]; rfl)
    · show _ = _
      rw [Nat.sub_zero, Nat.div_eq_of_lt hul, Nat.zero_mod]; exact S_zero.symm
  case round =>
    obtain ⟨i, q, r, hi, rfl, rfl, rfl, hq, hr, hkp⟩ := hrel
    by_cases hlt : i < la
    · have hA1 : i < A.size := by omega
      have ea := hAt.out i hA1
      obtain ⟨d, hd⟩ : ∃ d, d = u / 10 ^ (la - 1 - i) % 10 := ⟨_, rfl⟩
      rw [← hd] at ea
      have hd9 : d ≤ 9 := by rw [hd]; omega
      have hU : Hid (u / 10 ^ (la - (i + 1)) = 10 * (u / 10 ^ (la - i)) + d) := by
        show _ = _
        rw [hd, show la - (i + 1) = la - 1 - i by omega, show la - i = (la - 1 - i) + 1 by omega, Nat.pow_succ, ← Nat.div_div_eq_div_mul]
        omega
      obtain ⟨U, hUd⟩ : ∃ U, U = u / 10 ^ (la - i) := ⟨_, rfl⟩
      rw [← hUd] at hU hq hr
      have hRv : U % v < v := Nat.mod_lt _ hv0
      have hRn : nDigits (U % v) ≤ 2400 := Nat.le_trans (nd_mono (Nat.le_of_lt hRv)) hv
      have hrs : r.size ≤ 2401 := by rw [hr.out]; exact Nat.le_trans (S_size _) (by rw [Int.natAbs_natCast]; omega)
      have hqs : q.size = i := by rw [hq.out, wideB_size]
      have hex : (A.extract i (i + 1)).data.toList = [A[i]] := by
        rw [Lib.extract_data]
        have h1 : i < A.data.toList.length := by rw [← Lib.size_eq]; exact hA1
        rw [List.drop_eq_getElem_cons h1, show i + 1 - i = 1 by omega]
        rfl
      have hexs : (A.extract i (i + 1)).size = 1 := by rw [Lib.size_eq, hex]; rfl
      have q1 := Lib.hid (fun W => bare_next (U % v) d A[i] ea hd9 (r ++ A.extract i (i + 1)) (by rw [cat_list, hex, hr.out]) (by omega) W)
      have hsum : r.size + (A.extract i (i + 1)).size ≤ 9223372036854775807 := by omega
      have hi1 : (i : Int) < (la : Int) := by omega
      have hi2 : (i : Int) + 1 ≤ (la : Int) := by omega
      obtain ⟨r0, hr0⟩ : ∃ r0, r0 = 10 * (U % v) + d := ⟨_, rfl⟩
      rw [← hr0] at q1
      have hr0v : r0 < 10 * v := by omega
      have hqn : Hid (u / 10 ^ (la - (i + 1)) / v = 10 * (U / v) + r0 / v) := by show _ = _; rw [hU.out, quo_next U v d hv0, hr0]
      have hrn : Hid (u / 10 ^ (la - (i + 1)) % v = r0 % v) := by show _ = _; rw [hU.out, rem_next U v d hv0, hr0]
      have hr0n : nDigits r0 ≤ 2401 := by
        have h1 := (nd_le_iff (u := v) (k := 2400) (by omega)).1 hv
        refine (nd_le_iff (by omega)).2 ?_
        rw [Nat.pow_succ]; omega
      clear ea hd hU hUd hr hex hRv hRn hr0
      go_wp2_with fail
      refine (q1.out _).mono ?_
      rintro e w1 ⟨rfl, rfl⟩
      clear q1 hsum hexs hrs
      go_wp2_with fail
      obtain ⟨wo, hwo⟩ : ∃ wo : World, wo = wr := ⟨_, rfl⟩
      subst hwo
      go_loopw [7, 9] (fun s7 s9 wq => ∃ (t : Nat) (r : ByteArray), s9 = .int .u8 ((48 + t : Nat) : Int) ∧ s7 = .string r ∧ t * v ≤ r0 ∧ Hid (r = S ((r0 - t * v : Nat) : Int)) ∧ Kp [] w wq)
        (fun _ s9 _ => 60 - (intOf s9).toNat)
      case atStart => exact ⟨0, _, rfl, rfl, by omega, by show _ = _; rw [Nat.zero_mul, Nat.sub_zero], hkp⟩
      case round =>
        obtain ⟨t, r2, rfl, rfl, htv, hr2, hkp2⟩ := hrel
        have ht10 : t < 10 := Nat.lt_of_mul_lt_mul_right (Nat.lt_of_le_of_lt htv hr0v)
        have q2 := Lib.hid (fun W => rless_S (r0 - t * v) v W)
        rw [← hr2.out, ← HB.out] at q2
        by_cases hle : r0 - t * v < v
        · rw [decide_eq_true hle] at q2
          have ht : t = r0 / v := by
            refine (Nat.div_eq_of_lt_le htv ?_).symm
            rw [Nat.add_mul]; omega
          have hcv := fun W => conv_one 9 Tryz.underlying9 (48 + t) W
          rw [show ((48 + t : Nat) : Int) = 48 + (t : Int) by omega] at hcv ⊢
          have hqt : Hid (q ++ (⟨#[UInt8.ofNat (48 + t)]⟩ : ByteArray) = wideB (u / 10 ^ (la - (i + 1)) / v) (i + 1)) := by
            show _ = _
            apply bytes_eqd
            rw [hqn.out, ← wideB_snoc, show (10 * (U / v) + r0 / v) / 10 = U / v by rw [← ht]; omega, show (10 * (U / v) + r0 / v) % 10 = t by rw [← ht]; omega, hq.out]
            simp
          have hrt : Hid (r2 = S ((u / 10 ^ (la - (i + 1)) % v : Nat) : Int)) := by
            show _ = _
            rw [hr2.out, hrn.out, ht]
            have := Nat.div_add_mod r0 v
            rw [Nat.mul_comm] at this
            congr 2; omega
          obtain ⟨c, hc⟩ : ∃ c, UInt8.ofNat (48 + t) = c := ⟨_, rfl⟩
          rw [hc] at hcv hqt
          have hqs2 : q.size ≤ 3000 := by omega
          clear hc ht hle htv hr2
          go_wp2_with fail
          refine (q2.out _).mono ?_
          rintro e w2 ⟨rfl, rfl⟩
          go_wp2_with fail
          go_roundw
          case rel => exact ⟨i + 1, _, _, by omega, by go_num, rfl, rfl, hqt, hrt, hkp2.alloc _⟩
          case measure => simp [intOf]; omega
        · rw [decide_eq_false hle] at q2
          have q3 := Lib.hid (fun W => paper_sub (r0 - t * v) v (pMax (r0 - t * v) v) W (by omega) rfl (Nat.le_trans (pMax_le (k := 2401) (Nat.le_trans (nd_mono (Nat.sub_le _ _)) hr0n) (by omega)) (by omega)))
          rw [← hr2.out, ← HB.out, Nat.sub_sub, ← Nat.succ_mul] at q3
          have htv2 : (t + 1) * v ≤ r0 := by rw [Nat.add_mul]; omega
          rw [show ((48 + t : Nat) : Int) = 48 + (t : Int) by omega]
          clear hle hr2
          go_wp2_with fail
          refine (q2.out _).mono ?_
          rintro e w2 ⟨rfl, rfl⟩
          go_wp2_with fail
          refine (q3.out _).mono ?_
          rintro e w3 ⟨rfl, k3⟩
          go_wp2_with fail
          go_roundw
          case rel => exact ⟨t + 1, _, val_i (by omega), rfl, htv2, rfl, hkp2.trans k3⟩
          case measure => simp [intOf]; omega
    · obtain rfl : i = la := by omega
      have hv1 : Hid (q = wideB (u / v) i) := by show _ = _; rw [hq.out, Nat.sub_self, Nat.pow_zero, Nat.div_one]
      have hv2 : Hid (r = S ((u % v : Nat) : Int)) := by show _ = _; rw [hr.out, Nat.sub_self, Nat.pow_zero, Nat.div_one]
      rw [← hv1.out] at hbare
      go_wp2_with fail
      refine (hbare.out _).mono ?_
      rintro e w1 ⟨rfl, rfl⟩
      go_wp2_with fail
      go_ret2
      exact ⟨by rw [← hv2.out]; rfl, hkp⟩
end Go.Proofs.YtiommpdbbpddpaaGreat

/- Mathematics for the reference's Parted. -/
namespace Go.Proofs.YtiommpdbbpddpaaGreat
open Go.RowKit
open Go.Lib (nDigits itoa decDigits)

theorem fmod_side {x y : Int} (hy : y ≠ 0) : (0 < y ∧ 0 ≤ x.fmod y ∧ x.fmod y < y) ∨ (y < 0 ∧ x.fmod y ≤ 0 ∧ y < x.fmod y) := by
  rcases Int.lt_or_gt_of_ne hy with h | h
  · have e := Int.neg_fmod_neg x y
    have h1 := Int.fmod_nonneg_of_pos (-x) (show 0 < -y by omega)
    have h2 := Int.fmod_lt_of_pos (-x) (show 0 < -y by omega)
    exact .inr ⟨h, by omega, by omega⟩
  · exact .inl ⟨h, Int.fmod_nonneg_of_pos x h, Int.fmod_lt_of_pos x h⟩
theorem tmod_side {x y : Int} (hy : y ≠ 0) : (0 < y ∧ -y < x.tmod y ∧ x.tmod y < y) ∨ (y < 0 ∧ y < x.tmod y ∧ x.tmod y < -y) := by
  rcases Int.lt_or_gt_of_ne hy with h | h
  · have e : x.tmod (-y) = x.tmod y := Int.tmod_neg x y
    have h1 := Int.lt_tmod_of_pos x (show 0 < -y by omega)
    have h2 := Int.tmod_lt_of_pos x (show 0 < -y by omega)
    exact .inr ⟨h, by omega, by omega⟩
  · exact .inl ⟨h, Int.lt_tmod_of_pos x h, Int.tmod_lt_of_pos x h⟩
theorem tmod_step {x y : Int} (hy : y ≠ 0) : x.fmod y = x.tmod y ∨ x.fmod y = x.tmod y + y := by
  have h1 := Int.mul_fdiv_add_fmod x y
  have h2 := Int.mul_tdiv_add_tmod x y
  have hk : y * (x.tdiv y - x.fdiv y) = x.fmod y - x.tmod y := by rw [Int.mul_sub]; omega
  generalize x.tdiv y - x.fdiv y = k at *
  have f := fmod_side (x := x) hy
  have t := tmod_side (x := x) hy
  rcases f with ⟨y0, f1, f2⟩ | ⟨y0, f1, f2⟩
  · have ha : k < 2 := Int.lt_of_mul_lt_mul_left (a := y) (by omega) (by omega)
    have hb : -1 < k := Int.lt_of_mul_lt_mul_left (a := y) (by omega) (by omega)
    have : k = 0 ∨ k = 1 := by omega
    rcases this with rfl | rfl
    · left; omega
    · right; omega
  · have hk2 : (-y) * k = -(x.fmod y - x.tmod y) := by rw [Int.neg_mul, hk]
    have ha : k < 2 := Int.lt_of_mul_lt_mul_left (a := -y) (by omega) (by omega)
    have hb : -1 < k := Int.lt_of_mul_lt_mul_left (a := -y) (by omega) (by omega)
    have : k = 0 ∨ k = 1 := by omega
    rcases this with rfl | rfl
    · left; omega
    · right; omega
theorem tmod_fix {x y : Int} (hy : y ≠ 0) : (x.tmod y = 0 ∨ (x.tmod y ≠ 0 ∧ (decide (x.tmod y < 0) != decide (y < 0)) = false)) ∧ x.fmod y = x.tmod y ∨
    x.tmod y ≠ 0 ∧ (decide (x.tmod y < 0) != decide (y < 0)) = true ∧ x.fmod y = x.tmod y + y := by
  have f := fmod_side (x := x) hy
  have t := tmod_side (x := x) hy
  have s := tmod_step (x := x) hy
  generalize x.fmod y = F at *
  generalize x.tmod y = T at *
  by_cases h0 : T = 0
  · left; exact ⟨.inl h0, by omega⟩
  · by_cases hn : T < 0 <;> by_cases hyn : y < 0 <;> simp [h0, hn, hyn] <;> omega
theorem part_exact {x y : Int} (hy : y ≠ 0) : (x - x.fmod y).tdiv y = x.fdiv y := by
  have h := Int.mul_fdiv_add_fmod x y
  rw [show x - x.fmod y = y * x.fdiv y by omega]
  exact Int.mul_tdiv_cancel_left _ hy
theorem fdiv_small {x y : Int} (hy : y ≠ 0) : (x.fdiv y).natAbs ≤ x.natAbs + 1 := by
  have h := Int.mul_fdiv_add_fmod x y
  have hm : (x.fmod y).natAbs < y.natAbs := by rcases fmod_side (x := x) hy with h | h <;> omega
  have e : (y * x.fdiv y).natAbs = y.natAbs * (x.fdiv y).natAbs := Int.natAbs_mul _ _
  have h1 : y.natAbs * (x.fdiv y).natAbs ≤ x.natAbs + y.natAbs := by rw [← e]; omega
  rcases Nat.lt_or_ge (x.natAbs + 1) (x.fdiv y).natAbs with h2 | h2
  · have h3 := Nat.mul_le_mul_left y.natAbs (show x.natAbs + 2 ≤ (x.fdiv y).natAbs by omega)
    have h4 := Nat.mul_le_mul_right x.natAbs (show 1 ≤ y.natAbs by omega)
    rw [Nat.mul_add] at h3
    omega
  · exact h2

theorem tdiv_abs (x y : Int) : (if (!(decide (x < 0) == decide (y < 0))) = true then -((x.natAbs / y.natAbs : Nat) : Int) else ((x.natAbs / y.natAbs : Nat) : Int)) = x.tdiv y := by
  rcases Int.natAbs_eq x with hx | hx <;> rcases Int.natAbs_eq y with hy | hy
  all_goals
    generalize x.natAbs = u at *
    generalize y.natAbs = v at *
    subst hx hy
  · have h1 : decide ((u : Int) < 0) = false := decide_eq_false (by omega)
    have h2 : decide ((v : Int) < 0) = false := decide_eq_false (by omega)
    rw [Int.ofNat_tdiv, h1, h2]; rfl
  · rw [Int.tdiv_neg, Int.ofNat_tdiv]
    rcases Nat.eq_zero_or_pos v with rfl | h
    · simp
    · have : decide (-(v : Int) < 0) = true := decide_eq_true (by omega)
      have h2 : decide ((u : Int) < 0) = false := decide_eq_false (by omega)
      rw [this, h2]; rfl
  · rw [Int.neg_tdiv, Int.ofNat_tdiv]
    rcases Nat.eq_zero_or_pos u with rfl | h
    · simp
    · have : decide (-(u : Int) < 0) = true := decide_eq_true (by omega)
      have h2 : decide ((v : Int) < 0) = false := decide_eq_false (by omega)
      rw [this, h2]; rfl
  · rw [Int.neg_tdiv_neg, Int.ofNat_tdiv]
    rcases Nat.eq_zero_or_pos u with rfl | h
    · simp
    · rcases Nat.eq_zero_or_pos v with rfl | h'
      · simp
      · have : decide (-(u : Int) < 0) = true := decide_eq_true (by omega)
        have h2 : decide (-(v : Int) < 0) = true := decide_eq_true (by omega)
        rw [this, h2]; rfl
theorem part_cases {x y : Int} (hy : y ≠ 0) :
    (x.natAbs % y.natAbs = 0 ∧ x.tdiv y = x.fdiv y) ∨
    (x.natAbs % y.natAbs ≠ 0 ∧ (!(decide (x < 0) == decide (y < 0))) = false ∧ x.tdiv y = x.fdiv y) ∨
    (x.natAbs % y.natAbs ≠ 0 ∧ (!(decide (x < 0) == decide (y < 0))) = true ∧ x.tdiv y - 1 = x.fdiv y) := by
  have h1 := Int.mul_fdiv_add_fmod x y
  have h2 := Int.mul_tdiv_add_tmod x y
  have ha : (x.tmod y).natAbs = x.natAbs % y.natAbs := Int.natAbs_tmod x y
  have hs : x.tmod y = 0 ∨ (decide (x.tmod y < 0) = decide (x < 0)) := by
    by_cases h0 : x.tmod y = 0
    · exact .inl h0
    · right
      rcases (show x < 0 ∨ 0 ≤ x by omega) with h | h
      · have : (-x).tmod y = -(x.tmod y) := Int.neg_tmod x y
        have h3 := Int.tmod_nonneg y (show 0 ≤ -x by omega)
        rw [decide_eq_true h, decide_eq_true (show x.tmod y < 0 by omega)]
      · have h3 := Int.tmod_nonneg y h
        rw [decide_eq_false (show ¬ x < 0 by omega), decide_eq_false (show ¬ x.tmod y < 0 by omega)]
  have f := fmod_side (x := x) hy
  have t := tmod_side (x := x) hy
  have s := tmod_fix (x := x) hy
  have hq : ∀ k : Int, y * (x.tdiv y) - y * (x.fdiv y) = k * y → x.tdiv y - x.fdiv y = k := by
    intro k hk
    rw [← Int.mul_sub, Int.mul_comm k y] at hk
    exact Int.eq_of_mul_eq_mul_left hy hk
  by_cases h0 : x.tmod y = 0
  · left
    have hF : x.fmod y = x.tmod y := by
      rcases s with ⟨_, h⟩ | ⟨h, _⟩
      · exact h
      · exact absurd h0 h
    have := hq 0 (by omega)
    exact ⟨by omega, by omega⟩
  · right
    have hs2 := hs.resolve_left h0
    rcases s with ⟨h | ⟨_, h⟩, hF⟩ | ⟨_, h, hF⟩
    · exact absurd h h0
    · left
      have := hq 0 (by omega)
      refine ⟨by omega, ?_, by omega⟩
      rw [← hs2]; exact h
    · right
      have := hq 1 (by omega)
      refine ⟨by omega, ?_, by omega⟩
      rw [← hs2]; exact h
theorem fdiv_back (x y : Int) : x - x.fdiv y * y = x.fmod y := by
  have h1 := Int.mul_fdiv_add_fmod x y
  rw [Int.mul_comm] at h1; omega
theorem nd_fdiv {x y : Int} {k : Nat} (hk : 1 ≤ k) (hy : y ≠ 0) (hx : nDigits x.natAbs ≤ k) : nDigits (x.fdiv y).natAbs ≤ k + 1 := by
  have h1 := (nd_le_iff hk).1 hx
  have h := fdiv_small (x := x) hy
  refine (nd_le_iff (by omega)).2 ?_
  rw [Nat.pow_succ]
  generalize 10 ^ k = p at *
  omega
theorem nd_back {x y : Int} {k : Nat} (hk : 1 ≤ k) (hy : y ≠ 0) (hx : nDigits x.natAbs ≤ k) (hy' : nDigits y.natAbs ≤ k) : nDigits (x.fdiv y * y).natAbs ≤ k + 1 := by
  have h1 := (nd_le_iff hk).1 hx
  have h2 := (nd_le_iff hk).1 hy'
  have h := fdiv_back x y
  have f := fmod_side (x := x) hy
  refine (nd_le_iff (by omega)).2 ?_
  rw [Nat.pow_succ]
  generalize 10 ^ k = p at *
  omega
end Go.Proofs.YtiommpdbbpddpaaGreat

/- The reference's Parted: quotient and remainder. -/
namespace Go.Proofs.YtiommpdbbpddpaaGreat
open Go.RowKit
open Go.Lib (nDigits itoa decDigits)

set_option maxRecDepth 100000 in
set_option maxHeartbeats 4000000 in
theorem parted_brief (x y : Int) (w : World) (hb : Brief x y) (hy : y ≠ 0) (sx : (S x).size ≤ 1000) (sy : (S y).size ≤ 1000) :
    Calls Tryz.prog 56 #[.string (S x), .string (S y)] w fun e w' => e = .returned (.tuple #[.string (S (x.fdiv y)), .string (S (x.fmod y))]) ∧ Kp [] w w' := by
  have q1 := Lib.hid (fun W => brief_S x y W (by omega) (by omega) hb)
  obtain ⟨x1, x2, y1, y2⟩ := brief_lt hb
  have f := fmod_side (x := x) hy
  have hfd := fdiv_small (x := x) hy
  have q2 := Lib.hid (fun W => of_any (x.fdiv y) W (by omega) (by omega))
  have q3 := Lib.hid (fun W => of_any (x.fmod y) W (by omega) (by omega))
  have hex := part_exact (x := x) hy
  have hy0 : (y == 0) = false := beq_eq_false_iff_ne.2 hy
  have ts := tmod_side (x := x) hy
  have tf := tmod_fix (x := x) hy
  obtain ⟨T, hT⟩ : ∃ T, x.tmod y = T := ⟨_, rfl⟩
  rw [hT] at ts tf
  generalize x.fdiv y = D at *
  generalize x.fmod y = F at *
  have t1 : -1000000000000000000 < T ∧ T < 1000000000000000000 := by omega
  have f1 : -1000000000000000000 < F ∧ F < 1000000000000000000 := by omega
  have d1 : -2000000000000000000 < D ∧ D < 2000000000000000000 := by omega
  obtain ⟨t2, t3⟩ := t1
  obtain ⟨f2, f3⟩ := f1
  obtain ⟨d2, d3⟩ := d1
  generalize S D = rd at *
  generalize S F = rf at *
  generalize S x = s at *
  generalize S y = t at *
  clear hb f hfd ts sx sy
  rcases tf with ⟨ha, rfl⟩ | ⟨ha, hb, rfl⟩
  · rcases ha with rfl | ⟨ha, hb⟩
    · rw [Int.sub_zero] at hex
      have hw : wrap64 (x.tdiv y) = D := by rw [hex]; unfold wrap64; omega
      go_enter Tryz.func56, Tryz.ntmps56
      go_wp2_with fail
      refine (q1.out _).mono ?_
      rintro e w1 ⟨rfl, rfl⟩
      go_wp2_with fail
      try rw [hw]
      with_reducible refine (q2.out _).mono ?_
      rintro e w2 ⟨rfl, k2⟩
      go_wp2_with fail
      with_reducible refine (q3.out _).mono ?_
      rintro e w3 ⟨rfl, k3⟩
      go_wp2
      go_ret2
      exact ⟨rfl, k2.trans k3⟩
    · have ha2 : (F != 0) = true := bne_iff_ne.2 ha
      have hb3 : (!(decide (F < 0) == decide (y < 0))) = false := hb
      have hw : wrap64 ((x - F).tdiv y) = D := by rw [hex]; unfold wrap64; omega
      clear ha hb
      go_enter Tryz.func56, Tryz.ntmps56
      go_wp2_with fail
      refine (q1.out _).mono ?_
      rintro e w1 ⟨rfl, rfl⟩
      go_wp2_with fail
      try rw [hw]
      with_reducible refine (q2.out _).mono ?_
      rintro e w2 ⟨rfl, k2⟩
      go_wp2_with fail
      with_reducible refine (q3.out _).mono ?_
      rintro e w3 ⟨rfl, k3⟩
      go_wp2
      go_ret2
      exact ⟨rfl, k2.trans k3⟩
  · have ha2 : (T != 0) = true := bne_iff_ne.2 ha
    clear ha
    have w1 : wrap64 (T + y) = T + y := by unfold wrap64; omega
    have hb3 : (!(decide (T < 0) == decide (y < 0))) = true := hb
    have hw : wrap64 ((x - (T + y)).tdiv y) = D := by rw [hex]; unfold wrap64; omega
    clear hb
    go_enter Tryz.func56, Tryz.ntmps56
    go_wp2_with fail
    refine (q1.out _).mono ?_
    rintro e w1 ⟨rfl, rfl⟩
    go_wp2_with fail
    try rw [hw]
    with_reducible refine (q2.out _).mono ?_
    rintro e w2 ⟨rfl, k2⟩
    go_wp2_with fail
    with_reducible refine (q3.out _).mono ?_
    rintro e w3 ⟨rfl, k3⟩
    go_wp2
    go_ret2
    exact ⟨rfl, k2.trans k3⟩
end Go.Proofs.YtiommpdbbpddpaaGreat

/- The reference's Parted, where a number is long. -/
namespace Go.Proofs.YtiommpdbbpddpaaGreat
open Go.RowKit
open Go.Lib (nDigits itoa decDigits)

set_option maxRecDepth 100000 in
set_option maxHeartbeats 4000000 in
theorem part_a (a b m n q out D F ty : ByteArray) (d f : Bool) (w : World) (q1 : Hid (∀ W, Calls Tryz.prog 54 #[.string a, .string b] W fun e w' => e = .returned (.tuple #[.int .i64 0, .int .i64 0, .bool false]) ∧ W = w'))
    (q2 : SizeIs a m) (q3 : SizeIs b n)
    (q4 : Hid (∀ W, Calls Tryz.prog 80 #[.string m, .string n] W fun e w' => e = .returned (.tuple #[.string q, .string ⟨#[48]⟩]) ∧ Kp [] W w'))
    (q5 : Hid (∀ W, Calls Tryz.prog 52 #[.string a] W fun e w' => e = .returned (.bool d) ∧ W = w'))
    (q6 : Hid (∀ W, Calls Tryz.prog 52 #[.string b] W fun e w' => e = .returned (.bool f) ∧ W = w'))
    (q7 : Hid (∀ W, Calls Tryz.prog 53 #[.string q, .bool (!(d == f))] W fun e w' => e = .returned (.string out) ∧ W = w'))
    (q8 : out = D)
    (q9 : Hid (∀ W, Calls Tryz.prog 57 #[.string D, .string b] W fun e w' => e = .returned (.string ty) ∧ Kp [] W w'))
    (q10 : Hid (∀ W, Calls Tryz.prog 51 #[.string a, .string ty] W fun e w' => e = .returned (.string F) ∧ Kp [] W w')) :
    Calls Tryz.prog 56 #[.string a, .string b] w fun e w' => e = .returned (.tuple #[.string D, .string F]) ∧ Kp [] w w' := by
  subst q8
  go_enter Tryz.func56, Tryz.ntmps56
  go_wp2_with fail
  with_reducible refine (q1.out _).mono ?_
  rintro e w1 ⟨rfl, rfl⟩
  go_wp2_with fail
  refine (q2.out _).mono ?_
  rintro e w2 ⟨rfl, rfl⟩
  go_wp2_with fail
  refine (q3.out _).mono ?_
  rintro e w3 ⟨rfl, rfl⟩
  go_wp2_with fail
  with_reducible refine (q4.out _).mono ?_
  rintro e w4 ⟨rfl, k4⟩
  go_wp2_with fail
  with_reducible refine (q5.out _).mono ?_
  rintro e w5 ⟨rfl, rfl⟩
  go_wp2_with fail
  with_reducible refine (q6.out _).mono ?_
  rintro e w6 ⟨rfl, rfl⟩
  go_wp2_with fail
  with_reducible refine (q7.out _).mono ?_
  rintro e w7 ⟨rfl, rfl⟩
  go_wp2_with fail
  with_reducible refine (q9.out _).mono ?_
  rintro e w9 ⟨rfl, k9⟩
  go_wp2_with fail
  with_reducible refine (q10.out _).mono ?_
  rintro e w10 ⟨rfl, k10⟩
  go_wp2
  go_ret2
  exact ⟨rfl, (k4.trans k9).trans k10⟩
set_option maxRecDepth 100000 in
set_option maxHeartbeats 4000000 in
theorem part_b (a b m n q r out D F ty : ByteArray) (d f : Bool) (w : World) (q1 : Hid (∀ W, Calls Tryz.prog 54 #[.string a, .string b] W fun e w' => e = .returned (.tuple #[.int .i64 0, .int .i64 0, .bool false]) ∧ W = w'))
    (q2 : SizeIs a m) (q3 : SizeIs b n)
    (q4 : Hid (∀ W, Calls Tryz.prog 80 #[.string m, .string n] W fun e w' => e = .returned (.tuple #[.string q, .string r]) ∧ Kp [] W w'))
    (q5 : Hid (∀ W, Calls Tryz.prog 52 #[.string a] W fun e w' => e = .returned (.bool d) ∧ W = w'))
    (q6 : Hid (∀ W, Calls Tryz.prog 52 #[.string b] W fun e w' => e = .returned (.bool f) ∧ W = w'))
    (q7 : Hid (∀ W, Calls Tryz.prog 53 #[.string q, .bool (!(d == f))] W fun e w' => e = .returned (.string out) ∧ W = w'))
    (hr : (r.toList == [48]) = false) (hdf : (!(d == f)) = false) (q8 : out = D)
    (q9 : Hid (∀ W, Calls Tryz.prog 57 #[.string D, .string b] W fun e w' => e = .returned (.string ty) ∧ Kp [] W w'))
    (q10 : Hid (∀ W, Calls Tryz.prog 51 #[.string a, .string ty] W fun e w' => e = .returned (.string F) ∧ Kp [] W w')) :
    Calls Tryz.prog 56 #[.string a, .string b] w fun e w' => e = .returned (.tuple #[.string D, .string F]) ∧ Kp [] w w' := by
  rw [hdf] at q7
  subst q8
  go_enter Tryz.func56, Tryz.ntmps56
  go_wp2_with fail
  with_reducible refine (q1.out _).mono ?_
  rintro e w1 ⟨rfl, rfl⟩
  go_wp2_with fail
  refine (q2.out _).mono ?_
  rintro e w2 ⟨rfl, rfl⟩
  go_wp2_with fail
  refine (q3.out _).mono ?_
  rintro e w3 ⟨rfl, rfl⟩
  go_wp2_with fail
  with_reducible refine (q4.out _).mono ?_
  rintro e w4 ⟨rfl, k4⟩
  go_wp2_with fail
  with_reducible refine (q5.out _).mono ?_
  rintro e w5 ⟨rfl, rfl⟩
  go_wp2_with fail
  with_reducible refine (q6.out _).mono ?_
  rintro e w6 ⟨rfl, rfl⟩
  go_wp2_with fail
  with_reducible refine (q7.out _).mono ?_
  rintro e w7 ⟨rfl, rfl⟩
  go_wp2_with fail
  with_reducible refine (q5.out _).mono ?_
  rintro e w5 ⟨rfl, rfl⟩
  go_wp2_with fail
  with_reducible refine (q6.out _).mono ?_
  rintro e w6 ⟨rfl, rfl⟩
  go_wp2_with fail
  with_reducible refine (q9.out _).mono ?_
  rintro e w9 ⟨rfl, k9⟩
  go_wp2_with fail
  with_reducible refine (q10.out _).mono ?_
  rintro e w10 ⟨rfl, k10⟩
  go_wp2
  go_ret2
  exact ⟨rfl, (k4.trans k9).trans k10⟩
set_option maxRecDepth 100000 in
set_option maxHeartbeats 4000000 in
theorem part_c (a b m n q r out D F ty : ByteArray) (d f : Bool) (w : World) (q1 : Hid (∀ W, Calls Tryz.prog 54 #[.string a, .string b] W fun e w' => e = .returned (.tuple #[.int .i64 0, .int .i64 0, .bool false]) ∧ W = w'))
    (q2 : SizeIs a m) (q3 : SizeIs b n)
    (q4 : Hid (∀ W, Calls Tryz.prog 80 #[.string m, .string n] W fun e w' => e = .returned (.tuple #[.string q, .string r]) ∧ Kp [] W w'))
    (q5 : Hid (∀ W, Calls Tryz.prog 52 #[.string a] W fun e w' => e = .returned (.bool d) ∧ W = w'))
    (q6 : Hid (∀ W, Calls Tryz.prog 52 #[.string b] W fun e w' => e = .returned (.bool f) ∧ W = w'))
    (q7 : Hid (∀ W, Calls Tryz.prog 53 #[.string q, .bool (!(d == f))] W fun e w' => e = .returned (.string out) ∧ W = w'))
    (hr : (r.toList == [48]) = false) (hdf : (!(d == f)) = true) (q8 : Hid (∀ W, Calls Tryz.prog 51 #[.string out, .string ⟨#[49]⟩] W fun e w' => e = .returned (.string D) ∧ Kp [] W w'))
    (q9 : Hid (∀ W, Calls Tryz.prog 57 #[.string D, .string b] W fun e w' => e = .returned (.string ty) ∧ Kp [] W w'))
    (q10 : Hid (∀ W, Calls Tryz.prog 51 #[.string a, .string ty] W fun e w' => e = .returned (.string F) ∧ Kp [] W w')) :
    Calls Tryz.prog 56 #[.string a, .string b] w fun e w' => e = .returned (.tuple #[.string D, .string F]) ∧ Kp [] w w' := by
  rw [hdf] at q7
  go_enter Tryz.func56, Tryz.ntmps56
  go_wp2_with fail
  with_reducible refine (q1.out _).mono ?_
  rintro e w1 ⟨rfl, rfl⟩
  go_wp2_with fail
  refine (q2.out _).mono ?_
  rintro e w2 ⟨rfl, rfl⟩
  go_wp2_with fail
  refine (q3.out _).mono ?_
  rintro e w3 ⟨rfl, rfl⟩
  go_wp2_with fail
  with_reducible refine (q4.out _).mono ?_
  rintro e w4 ⟨rfl, k4⟩
  go_wp2_with fail
  with_reducible refine (q5.out _).mono ?_
  rintro e w5 ⟨rfl, rfl⟩
  go_wp2_with fail
  with_reducible refine (q6.out _).mono ?_
  rintro e w6 ⟨rfl, rfl⟩
  go_wp2_with fail
  with_reducible refine (q7.out _).mono ?_
  rintro e w7 ⟨rfl, rfl⟩
  go_wp2_with fail
  with_reducible refine (q5.out _).mono ?_
  rintro e w5 ⟨rfl, rfl⟩
  go_wp2_with fail
  with_reducible refine (q6.out _).mono ?_
  rintro e w6 ⟨rfl, rfl⟩
  go_wp2_with fail
  with_reducible refine (q8.out _).mono ?_
  rintro e w8 ⟨rfl, k8⟩
  go_wp2_with fail
  with_reducible refine (q9.out _).mono ?_
  rintro e w9 ⟨rfl, k9⟩
  go_wp2_with fail
  with_reducible refine (q10.out _).mono ?_
  rintro e w10 ⟨rfl, k10⟩
  go_wp2
  go_ret2
  exact ⟨rfl, ((k4.trans k8).trans k9).trans k10⟩

theorem minus_big (x y : Int) (w : World) (hx : nDigits x.natAbs ≤ 3000) (hy : nDigits y.natAbs ≤ 3000) :
    Calls Tryz.prog 51 #[.string (S x), .string (S y)] w fun e w' => e = .returned (.string (S (x - y))) ∧ Kp [] w w' := by
  have q1 := Lib.hid (fun W => turned_any y W (Nat.le_trans (abs_sz hy) (by omega)))
  have q2 := Lib.hid (fun W => plus_any x (-y) W hx (by rw [Int.natAbs_neg]; exact hy))
  rw [← Int.sub_eq_add_neg] at q2
  clear hx hy
  generalize S (x - y) = r at *
  generalize S (-y) = n at *
  generalize S x = a at *
  generalize S y = b at *
  go_enter Tryz.func51, Tryz.ntmps51
  go_wp2_with fail
  refine (q1.out _).mono ?_
  rintro e w' ⟨rfl, rfl⟩
  go_wp2_with fail
  refine (q2.out _).mono ?_
  rintro e w' ⟨rfl, hk⟩
  go_wp2
  go_ret
  exact ⟨rfl, hk⟩

theorem parted_long (x y : Int) (w : World) (hb : ¬ Brief x y) (hy : y ≠ 0) (hx : nDigits x.natAbs ≤ 1024) (hv : nDigits y.natAbs ≤ 1024) :
    Calls Tryz.prog 56 #[.string (S x), .string (S y)] w fun e w' => e = .returned (.tuple #[.string (S (x.fdiv y)), .string (S (x.fmod y))]) ∧ Kp [] w w' := by
  have sx := abs_sz hx
  have sy := abs_sz hv
  have hd := nd_fdiv (by omega) hy hx
  have hk := nd_back (by omega) hy hx hv
  have q1 := Lib.hid (fun W => brief_not x y W (by omega) (by omega) hb)
  have q2 := size_S x (by omega)
  have q3 := size_S y (by omega)
  have q4 := Lib.hid (fun W => divided_S x.natAbs y.natAbs W (by omega) (by omega) (by omega))
  have q5 := Lib.hid (fun W => below_any x W)
  have q6 := Lib.hid (fun W => below_any y W)
  have hqd : nDigits (x.natAbs / y.natAbs) ≤ 1024 := Nat.le_trans (nd_mono (Nat.div_le_self _ _)) hx
  have q7 := Lib.hid (fun W => signed_any (x.natAbs / y.natAbs) (!(decide (x < 0) == decide (y < 0))) W (Nat.le_trans (abs_sz (k := 1024) (by rw [Int.natAbs_natCast]; exact hqd)) (by omega)))
  rw [tdiv_abs] at q7
  have q9 := Lib.hid (fun W => times_ref (x.fdiv y) y W (by omega) (by omega))
  have q10 := Lib.hid (fun W => minus_big x (x.fdiv y * y) W (by omega) (by omega))
  rw [fdiv_back] at q10
  rcases part_cases (x := x) hy with ⟨h0, h1⟩ | ⟨h0, hdf, h1⟩ | ⟨h0, hdf, h1⟩
  · rw [h0, show ((0 : Nat) : Int) = 0 from rfl, S_zero] at q4
    exact part_a _ _ _ _ _ _ _ _ _ _ _ w q1 q2 q3 q4 q5 q6 q7 (by rw [h1]) q9 q10
  · exact part_b _ _ _ _ _ _ _ _ _ _ _ _ w q1 q2 q3 q4 q5 q6 q7 (by simpa using S_ne_zero h0) hdf (by rw [h1]) q9 q10
  · have hq : Ok (x.tdiv y) := by
      have := tdiv_abs x y
      have e : (x.tdiv y).natAbs = x.natAbs / y.natAbs := Int.natAbs_tdiv x y
      unfold Ok; rw [e]; omega
    have q8 := Lib.hid (fun W => minus_any plus_all (x.tdiv y) 1 W hq (by unfold Ok; rw [show (1 : Int).natAbs = 1 from rfl]; exact Nat.le_trans ((nd_le_iff (k := 1) (by omega)).2 (by decide)) (by omega)))
    rw [h1, S_one] at q8
    exact part_c _ _ _ _ _ _ _ _ _ _ _ _ w q1 q2 q3 q4 q5 q6 q7 (by simpa using S_ne_zero h0) hdf q8 q9 q10
theorem parted_any (x y : Int) (w : World) (hy : y ≠ 0) (hx : nDigits x.natAbs ≤ 1024) (hv : nDigits y.natAbs ≤ 1024) :
    Calls Tryz.prog 56 #[.string (S x), .string (S y)] w fun e w' => e = .returned (.tuple #[.string (S (x.fdiv y)), .string (S (x.fmod y))]) ∧ Kp [] w w' := by
  by_cases hb : Brief x y
  · have sx : (S x).size ≤ 19 := abs_sz hb.1
    have sy : (S y).size ≤ 19 := abs_sz hb.2
    exact parted_brief x y w hb hy (by omega) (by omega)
  · exact parted_long x y w hb hy hx hv
end Go.Proofs.YtiommpdbbpddpaaGreat

/- The reference's Shared. -/
namespace Go.Proofs.YtiommpdbbpddpaaGreat
open Go.RowKit
open Go.Lib (nDigits itoa decDigits)

theorem nfmod (m n : Nat) : ((m : Int)).fmod (n : Int) = ((m % n : Nat) : Int) := by
  rw [Int.fmod_eq_emod_of_nonneg _ (by omega)]; rfl
theorem ntmod (m n : Nat) : ((m : Int)).tmod (n : Int) = ((m % n : Nat) : Int) := rfl
theorem gcd_next (X Y : Nat) : Nat.gcd Y (X % Y) = Nat.gcd X Y := by rw [Nat.gcd_comm X Y, Nat.gcd_rec Y X, Nat.gcd_comm]

set_option maxRecDepth 100000 in
set_option maxHeartbeats 2000000 in
theorem shared_any (x y : Int) (w : World) (hx : Ok x) (hy : Ok y) :
    Calls Tryz.prog 34 #[.string (S x), .string (S y)] w fun e w' => e = .returned (.string (S ((Nat.gcd x.natAbs y.natAbs : Nat) : Int))) ∧ Kp [] w w' := by
  have sx : (S x).size ≤ 1025 := abs_sz hx
  have sy : (S y).size ≤ 1025 := abs_sz hy
  have q2 := size_S x (by omega)
  have q3 := size_S y (by omega)
  have ax : (S (x.natAbs : Int)).size ≤ 1025 := abs_sz (by rw [Int.natAbs_natCast]; exact hx)
  have ay : (S (y.natAbs : Int)).size ≤ 1025 := abs_sz (by rw [Int.natAbs_natCast]; exact hy)
  have q4 := Lib.hid (fun W => signed_any x.natAbs false W (by omega))
  have q5 := Lib.hid (fun W => signed_any y.natAbs false W (by omega))
  rw [if_neg (by decide)] at q4 q5
  have Hx := Lib.hid hx
  have Hy := Lib.hid hy
  unfold Ok at Hx Hy
  generalize S x = s at *
  generalize S y = t at *
  clear sx sy ax ay hx hy
  generalize x.natAbs = u at *
  generalize y.natAbs = v at *
  obtain ⟨G, hG⟩ : ∃ G, Nat.gcd u v = G := ⟨_, rfl⟩
  rw [hG]
  have HG := Lib.hid hG
  clear hG
  go_enter Tryz.func34, Tryz.ntmps34
  go_wp2_with fail
  refine (q2.out _).mono ?_
  rintro e w1 ⟨rfl, rfl⟩
  go_wp2_with fail
  with_reducible refine (q4.out _).mono ?_
  rintro e w1 ⟨rfl, rfl⟩
  go_wp2_with fail
  refine (q3.out _).mono ?_
  rintro e w1 ⟨rfl, rfl⟩
  go_wp2_with fail
  with_reducible refine (q5.out _).mono ?_
  rintro e w1 ⟨rfl, rfl⟩
  go_wp2
  go_loopg [0, 1] v (fun gk s0 s1 wr => ∃ X : Nat, s0 = .string (S (X : Int)) ∧ s1 = .string (S (gk : Int)) ∧ Hid (nDigits X ≤ 1024) ∧ Hid (nDigits gk ≤ 1024) ∧ Hid (Nat.gcd X gk = G) ∧ Kp [] w wr)
  case atStart => exact ⟨u, rfl, rfl, Hx, Hy, HG, Kp.refl _ _⟩
  case round =>
    obtain ⟨X, rfl, rfl, dX, dY, hg, hk⟩ := hrel
    obtain ⟨Y, hY⟩ : ∃ Y, Y = gk := ⟨_, rfl⟩
    subst hY
    clear q2 q3 q4 q5
    by_cases h0 : Y = 0
    · subst h0
      rw [show ((0 : Nat) : Int) = 0 from rfl, S_zero] at *
      have hXG : G = X := by
        have := hg.out
        rw [Nat.gcd_zero_right] at this
        exact this.symm
      subst hXG
      clear hg dX dY HG Hx Hy
      go_wp2
      go_ret
      exact ⟨rfl, hk⟩
    · have hne : ((S (Y : Int)).toList == [48]) = false := by simpa using S_ne_zero h0
      have szX : (S (X : Int)).size ≤ 1025 := abs_sz (by rw [Int.natAbs_natCast]; exact dX.out)
      have szY : (S (Y : Int)).size ≤ 1025 := abs_sz (by rw [Int.natAbs_natCast]; exact dY.out)
      by_cases hb : Brief (X : Int) (Y : Int)
      · have q1 := Lib.hid (fun W => brief_S (X : Int) (Y : Int) W (by omega) (by omega) hb)
        obtain ⟨_, x2, _, y2⟩ := brief_lt hb
        have hX : X < 1000000000000000000 := by omega
        have hY : Y < 1000000000000000000 := by omega
        clear x2 y2 szX szY hb dX dY
        generalize S (X : Int) = r1 at *
        generalize S (Y : Int) = r2 at *
        go_wp2_with fail
        with_reducible refine (q1.out _).mono ?_
        rintro e w2 ⟨rfl, rfl⟩
        clear q1 hne h0 HG Hx Hy
        go_wp2
        go_loopg [5, 6] Y (fun gm s5 s6 wi => ∃ m : Nat, s5 = .int .i64 (m : Int) ∧ s6 = .int .i64 (gm : Int) ∧ m < 1000000000000000000 ∧ gm < 1000000000000000000 ∧ Hid (Nat.gcd m gm = G) ∧ Kp [] w wi)
        case atStart => exact ⟨X, rfl, rfl, hX, hY, hg, hk⟩
        case round =>
          obtain ⟨m, rfl, rfl, hm, hn, hgi, hki⟩ := hrel
          clear hX hY hg hk
          by_cases hz : gk = 0
          · subst hz
            have hmG : G = m := by
              have := hgi.out
              rw [Nat.gcd_zero_right] at this
              exact this.symm
            subst hmG
            clear hgi
            have q7 := Lib.hid (fun W => of_any (G : Int) W (by omega) (by omega))
            obtain ⟨r, hr⟩ : ∃ r, S (G : Int) = r := ⟨_, rfl⟩
            rw [hr] at q7
            have Hr := Lib.hid hr
            clear hr
            rw [show ((0 : Nat) : Int) = 0 from rfl] at *
            go_wp2_with fail
            with_reducible refine (q7.out _).mono ?_
            rintro e w7 ⟨rfl, k7⟩
            go_wp2
            go_ret
            exact ⟨by rw [Hr.out]; rfl, hki.trans k7⟩
          · have hp : (0 : Int) < (gk : Int) := by omega
            have hne2 : ((gk : Int) == 0) = false := by simp; omega
            have hg3 : Hid (Nat.gcd gk (m % gk) = G) := by show _ = _; rw [gcd_next]; exact hgi.out
            have hlt : m % gk < gk := Nat.mod_lt _ (by omega)
            have ht := ntmod m gk
            obtain ⟨Z, hZ⟩ : ∃ Z, m % gk = Z := ⟨_, rfl⟩
            rw [hZ] at hg3 hlt ht
            clear hZ hgi
            have hw1 : IntKind.i64.wrap (Z : Int) = (Z : Int) := IntWalk.i64_in _ (by omega)
            go_wp2
            go_quiet (fail)
            go_wp2
            go_roundg Z
            case measure => omega
            case rel => exact ⟨gk, rfl, rfl, by omega, by omega, hg3, hki.drewN _⟩
      · have q1 := Lib.hid (fun W => brief_not (X : Int) (Y : Int) W (by omega) (by omega) hb)
        have q6 := Lib.hid (fun W => parted_any (X : Int) (Y : Int) W (by omega) (by rw [Int.natAbs_natCast]; exact dX.out) (by rw [Int.natAbs_natCast]; exact dY.out))
        rw [nfmod] at q6
        have dZ : Hid (nDigits (X % Y) ≤ 1024) := Nat.le_trans (nd_mono (Nat.le_of_lt (Nat.mod_lt _ (by omega)))) dY.out
        have hg2 : Hid (Nat.gcd Y (X % Y) = G) := by show _ = _; rw [gcd_next]; exact hg.out
        have hlt : X % Y < Y := Nat.mod_lt _ (by omega)
        clear hg HG Hx Hy hb dX szX szY
        generalize S ((X : Int).fdiv (Y : Int)) = D at *
        obtain ⟨Z, hZ⟩ : ∃ Z, X % Y = Z := ⟨_, rfl⟩
        rw [hZ] at q6 dZ hg2 hlt
        clear hZ
        go_wp2_with fail
        with_reducible refine (q1.out _).mono ?_
        rintro e w2 ⟨rfl, rfl⟩
        go_wp2_with fail
        with_reducible refine (q6.out _).mono ?_
        rintro e w3 ⟨rfl, k3⟩
        go_wp2
        go_roundg Z
        case measure => omega
        case rel => exact ⟨Y, rfl, rfl, dY, dZ, hg2, hk.trans k3⟩
end Go.Proofs.YtiommpdbbpddpaaGreat
