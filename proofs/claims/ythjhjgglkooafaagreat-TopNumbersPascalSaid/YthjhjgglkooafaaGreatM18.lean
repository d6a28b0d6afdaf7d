/- Texts Pow, Powx: each says in its own first comment what it proves. -/
import Derived.Test.YthjhjgglkooafaaGreatM12
import Derived.Test.YthjhjgglkooafaaGreatM17
/- Walk over whole.Pow: powers by squaring. -/
namespace Go.Proofs.YthjhjgglkooafaaGreat
open Go.RowKit
open Go.Lib (nDigits itoa decDigits)

theorem natAbs_pow (x : Int) (n : Nat) : (x ^ n).natAbs = x.natAbs ^ n := Int.natAbs_pow x n
set_option exponentiation.threshold 2000 in
theorem ok_pow_le {x : Int} {j n : Nat} (h : j ≤ n) (hok : Ok (x ^ n)) : Ok (x ^ j) := by
  unfold Ok at *
  rw [natAbs_pow] at *
  refine (nd_le_iff (by omega)).2 ?_
  have h1 := (nd_le_iff (by omega)).1 hok
  rcases Nat.eq_zero_or_pos x.natAbs with h0 | h0
  · rw [h0]
    refine Nat.lt_of_le_of_lt (m := 1) ?_ (Nat.one_lt_pow (by omega) (by omega))
    cases j with
    | zero => simp
    | succ j => rw [Nat.pow_succ]; simp
  · exact Nat.lt_of_le_of_lt (Nat.pow_le_pow_right h0 h) h1

theorem lt_len (x : Nat) (hx : x < 2 ^ 64) : x < 2 ^ Lib.bitLen x := by
  induction x using Nat.strongRecOn with
  | _ x ih =>
    by_cases h0 : x = 0
    · subst h0; exact Nat.two_pow_pos _
    · have := ih (x / 2) (by omega) (by omega)
      rw [Lib.bitLen_half x h0 hx, Nat.add_comm, Nat.pow_succ]; omega
theorem len_le : ∀ (k x : Nat), x < 2 ^ 64 → x < 2 ^ k → Lib.bitLen x ≤ k
  | 0, x, _, h => by
    have : x = 0 := by simpa using h
    subst this; exact Nat.le_refl _
  | k + 1, x, hx, h => by
    by_cases h0 : x = 0
    · subst h0; exact Nat.zero_le _
    · have := len_le k (x / 2) (by omega) (by rw [Nat.pow_succ] at h; omega)
      rw [Lib.bitLen_half x h0 hx]; omega
theorem len_small (n : Nat) (hn : n ≤ 4096) : n < 2 ^ Lib.bitLen n ∧ Lib.bitLen n ≤ 13 := by
  have h64 : n < 2 ^ 64 := Nat.lt_of_le_of_lt hn (by decide)
  exact ⟨lt_len n h64, len_le 13 n h64 (Nat.lt_of_le_of_lt hn (by decide))⟩
theorem and_one (a : Nat) (ha : a ≤ 4096) : bits .and .i64 (a : Int) 1 = ((a % 2 : Nat) : Int) := by
  show IntKind.i64.wrap ((BitVec.ofInt 64 (a : Int) &&& BitVec.ofInt 64 ((1 : Nat) : Int)).toNat : Int) = _
  rw [BitVec.toNat_and, BitVec.ofInt_natCast, BitVec.ofInt_natCast, BitVec.toNat_ofNat, BitVec.toNat_ofNat, Nat.mod_eq_of_lt (Nat.lt_of_le_of_lt ha (by decide)), Nat.mod_eq_of_lt (by decide), Nat.and_one_is_mod, IntKind.wrap_i64]
  omega
theorem shift_bit (n j : Nat) (hn : n ≤ 4096) : bits .and .i64 ((n : Int) / 2 ^ j) 1 = ((n / 2 ^ j % 2 : Nat) : Int) := by
  have e : (n : Int) / 2 ^ j = ((n / 2 ^ j : Nat) : Int) := by rw [Int.natCast_ediv, Int.natCast_pow]; rfl
  rw [e, and_one _ (Nat.le_trans (Nat.div_le_self _ _) hn)]
theorem shift_step (n j : Nat) : n / 2 ^ j = 2 * (n / 2 ^ (j + 1)) + n / 2 ^ j % 2 := by
  rw [Nat.pow_succ, ← Nat.div_div_eq_div_mul]; omega

set_option maxRecDepth 100000 in
set_option maxHeartbeats 4000000 in
theorem Pow_ok (x : Int) (n : Nat) (w : World) (hx : Ok x) (hn : n ≤ 4096) :
    Calls Tryz.prog 8 #[.string (S x), .int .i64 (n : Int)] w fun e w' => e = .returned (.tuple #[.string (resB (x ^ n)), .int .i64 (resE (x ^ n))]) ∧ Kp [] w w' := by
  have hc := Lib.hid (check_any (S x))
  have hck := Lib.hid (chk_ok hx)
  have hsz : (S x).size ≤ 9223372036854775807 := Nat.le_trans hx.size (by decide)
  have n1 := NumF.made w
  have n2 := NumF.made (w.alloc (.cells Tryz.zeroCells38 38))
  rw [World.size_alloc] at n2
  have k2 : Kp [] w ((w.alloc (.cells Tryz.zeroCells38 38)).alloc (.cells Tryz.zeroCells38 38)) := ((Kp.refl _ _).alloc _).alloc _
  have hn' : (n : Int) ≤ 4096 := by omega
  have hread := Lib.hid (fun g w hg => readZ g x w hg hx)
  have HS := Lib.hid (S_list x)
  generalize S x = s at *
  go_enter Tryz.func8, Tryz.ntmps8
  go_wp2_with fail
  refine (hc.out _ hsz).mono ?_
  rw [HS.out, hck.out]
  rintro e w' ⟨rfl, rfl⟩
  go_wp2_with fail
  refine (hread.out w.heap.size _ (n1.alloc _)).mono ?_
  rintro e w1 ⟨rfl, hx1, hk1⟩
  go_wp2_with fail
  refine (read_one (w.heap.size + 1) _ (n2.kp hk1 (by simp <;> omega))).mono ?_
  rintro e w2 ⟨rfl, hp2, hk2⟩
  have hx2 := hx1.kp hk2 (by simp <;> omega)
  have kk2 : Kp [] w w2 := (k2.step hk1 (by simp <;> omega)).step hk2 (by simp <;> omega)
  go_wp2_with fail
  refine (Tryz.bits_Len _ _ (by omega) (by omega)).mono ?_
  rintro e w3 ⟨rfl, rfl⟩
  rw [Int.toNat_natCast]
  obtain ⟨L, hL⟩ : ∃ L, L = Lib.bitLen n := ⟨_, rfl⟩
  rw [← hL]
  have hLb : n < 2 ^ L ∧ L ≤ 13 := by rw [hL]; exact len_small n hn
  obtain ⟨hL1, hL2⟩ := hLb
  have HL1 := Lib.hid hL1; clear hL1 hL
  have hL3 : (L : Int) ≤ 13 := by omega
  go_wp2
  go_loopg [9] L (fun gk s9 wr => ∃ i : Int, s9 = .int .i64 i ∧ i + 1 = gk ∧ gk ≤ 13 ∧ NumZ wr w.heap.size x ∧ NumZ wr (w.heap.size + 1) (x ^ (n / 2 ^ gk)) ∧ Ok (x ^ (n / 2 ^ gk)) ∧ Kp [] w wr)
  case atStart => exact ⟨_, rfl, by omega, hL2, hx2, by rw [Nat.div_eq_of_lt HL1.out, Int.pow_zero]; exact hp2, by rw [Nat.div_eq_of_lt HL1.out, Int.pow_zero]; exact ok_one, kk2⟩
  case round =>
    obtain ⟨i, rfl, hi, hg13, hx3, hp3, hok, hkp⟩ := hrel
    cases gk with
    | zero =>
      obtain rfl : i = -1 := by omega
      have hv : Hid (x ^ (n / 2 ^ 0) = x ^ n) := by show _ = _; simp
      rw [hv.out] at hp3
      clear hi hok
      go_wp2_with fail
      refine (textZ (w.heap.size + 1) _ _ hp3).mono ?_
      rintro e w4 ⟨rfl, hk4⟩
      go_wp2
      go_ret2
      exact ⟨rfl, hkp.trans hk4⟩
    | succ j =>
      obtain rfl : i = (j : Int) := by omega
      have hj : (j : Int) ≤ 12 := by omega
      have hq : Hid (x ^ (n / 2 ^ (j + 1)) * x ^ (n / 2 ^ (j + 1)) = x ^ (2 * (n / 2 ^ (j + 1)))) := by show _ = _; rw [← Int.pow_add]; congr 1; omega
      have hle : Hid (2 * (n / 2 ^ (j + 1)) ≤ n) := by
        show _ ≤ _
        have := Nat.div_mul_le_self n (2 ^ (j + 1))
        have h2 : 1 ≤ 2 ^ j := Nat.one_le_two_pow
        rw [Nat.pow_succ] at this ⊢
        generalize n / (2 ^ j * 2) = q at *
        have h3 : q * (1 * 2) ≤ q * (2 ^ j * 2) := Nat.mul_le_mul_left _ (Nat.mul_le_mul_right _ h2)
        omega
      clear hi
      go_wp2_with fail
      refine (times_any (w.heap.size + 1) (w.heap.size + 1) _ _ _ hp3 hp3 hok.lt hok.lt).mono ?_
      rw [hq.out]
      rintro e w4 ⟨rfl, hp4, hk4⟩
      have hx4 := hx3.kp hk4 (by simp <;> omega)
      have kk4 : Kp [] w w4 := hkp.step hk4 (by simp <;> omega)
      by_cases hok2 : Ok (x ^ (2 * (n / 2 ^ (j + 1))))
      · have hd : decide (Ok (x ^ (2 * (n / 2 ^ (j + 1))))) = true := decide_eq_true hok2
        rw [hd]
        have HO := Lib.hid hok2; clear hok2 hd hok
        have hbit := shift_bit n j hn
        have hst := shift_step n j
        rcases Nat.mod_two_eq_zero_or_one (n / 2 ^ j) with h2 | h2
        · rw [h2] at hbit hst
          have hb0 : bits .and .i64 ((n : Int) / 2 ^ j) 1 = 0 := hbit
          have Hst := Lib.hid hst; clear hst h2 hbit
          go_wp2_with fail
          go_roundg j
          case measure => omega
          case rel => exact ⟨_, rfl, by omega, by omega, hx4, by rw [Hst.out, Nat.add_zero]; exact hp4, by rw [Hst.out, Nat.add_zero]; exact HO.out, kk4⟩
        · rw [h2] at hbit hst
          have hb1 : bits .and .i64 ((n : Int) / 2 ^ j) 1 = 1 := hbit
          have Hst := Lib.hid hst; clear hst h2 hbit
          have hle2 : Hid (n / 2 ^ j ≤ n) := Nat.div_le_self _ _
          have hpm : Hid (x ^ (2 * (n / 2 ^ (j + 1))) * x = x ^ (n / 2 ^ j)) := by show _ = _; rw [Hst.out, Int.pow_succ]
          go_wp2_with fail
          refine (times_any (w.heap.size + 1) w.heap.size _ _ _ hp4 hx4 HO.out.lt hx.lt).mono ?_
          rw [hpm.out]
          rintro e w5 ⟨rfl, hp5, hk5⟩
          have hx5 := hx4.kp hk5 (by simp <;> omega)
          have kk5 : Kp [] w w5 := kk4.step hk5 (by simp <;> omega)
          by_cases hok3 : Ok (x ^ (n / 2 ^ j))
          · have hd : decide (Ok (x ^ (n / 2 ^ j))) = true := decide_eq_true hok3
            rw [hd]
            have HO3 := Lib.hid hok3; clear hok3 hd
            go_wp2_with fail
            go_roundg j
            case measure => omega
            case rel => exact ⟨_, rfl, by omega, by omega, hx5, hp5, HO3.out, kk5⟩
          · have hd : decide (Ok (x ^ (n / 2 ^ j))) = false := decide_eq_false hok3
            have hv1 : Hid (resB (x ^ n) = ⟨#[]⟩) := if_neg (fun h => hok3 (ok_pow_le hle2.out h))
            have hv2 : Hid (resE (x ^ n) = 11) := if_neg (fun h => hok3 (ok_pow_le hle2.out h))
            rw [hd]
            clear hok3 hd
            go_wp2
            go_ret2
            exact ⟨by rw [hv1.out, hv2.out]; rfl, kk5⟩
      · have hd : decide (Ok (x ^ (2 * (n / 2 ^ (j + 1))))) = false := decide_eq_false hok2
        have hv1 : Hid (resB (x ^ n) = ⟨#[]⟩) := if_neg (fun h => hok2 (ok_pow_le hle.out h))
        have hv2 : Hid (resE (x ^ n) = 11) := if_neg (fun h => hok2 (ok_pow_le hle.out h))
        rw [hd]
        clear hok2 hd hok
        go_wp2
        go_ret2
        exact ⟨by rw [hv1.out, hv2.out]; rfl, kk4⟩
end Go.Proofs.YthjhjgglkooafaaGreat

/- Pow at a text that is none, and at an exponent out of range. -/
namespace Go.Proofs.YthjhjgglkooafaaGreat
open Go.RowKit

set_option maxHeartbeats 1000000 in
theorem Pow_bad (a : ByteArray) (n : Int) (w : World) (ha : a.size ≤ 9223372036854775807) (h : chk a.data.toList ≠ 0) :
    Calls Tryz.prog 8 #[.string a, .int .i64 n] w fun e w' => e = .returned (.tuple #[.string ⟨#[]⟩, .int .i64 (chk a.data.toList)]) ∧ w = w' := by
  have hb : (chk a.data.toList != 0) = true := bne_iff_ne.2 h
  clear h
  go_enter Tryz.func8, Tryz.ntmps8
  go_wp2_with fail
  refine (check_any a _ ha).mono ?_
  rintro e w' ⟨rfl, rfl⟩
  go_wp2
  go_ret2
  exact ⟨rfl, rfl⟩

set_option maxHeartbeats 1000000 in
theorem Pow_low (a : ByteArray) (n : Int) (w : World) (ha : a.size ≤ 9223372036854775807) (h : chk a.data.toList = 0) (hn : n < 0) :
    Calls Tryz.prog 8 #[.string a, .int .i64 n] w fun e w' => e = .returned (.tuple #[.string ⟨#[]⟩, .int .i64 2]) ∧ w = w' := by
  have hc := Lib.hid (check_any a w ha)
  rw [h] at hc
  clear h
  go_enter Tryz.func8, Tryz.ntmps8
  go_wp2_with fail
  refine hc.out.mono ?_
  rintro e w' ⟨rfl, rfl⟩
  go_wp2
  go_ret2
  exact ⟨rfl, rfl⟩

set_option maxHeartbeats 1000000 in
theorem Pow_high (a : ByteArray) (n : Int) (w : World) (ha : a.size ≤ 9223372036854775807) (h : chk a.data.toList = 0) (hn : 4096 < n) :
    Calls Tryz.prog 8 #[.string a, .int .i64 n] w fun e w' => e = .returned (.tuple #[.string ⟨#[]⟩, .int .i64 2]) ∧ w = w' := by
  have hc := Lib.hid (check_any a w ha)
  rw [h] at hc
  have h0 : ¬ n < 0 := by omega
  clear h
  go_enter Tryz.func8, Tryz.ntmps8
  go_wp2_with fail
  refine hc.out.mono ?_
  rintro e w' ⟨rfl, rfl⟩
  go_wp2
  go_ret2
  exact ⟨rfl, rfl⟩

/-- the text and the error of a power, of every text and every exponent -/
def powB (a : ByteArray) (n : Int) : ByteArray := if chk a.data.toList = 0 ∧ 0 ≤ n ∧ n ≤ 4096 then resB (valS a ^ n.toNat) else ⟨#[]⟩
def powE (a : ByteArray) (n : Int) : Int := if chk a.data.toList = 0 then (if 0 ≤ n ∧ n ≤ 4096 then resE (valS a ^ n.toNat) else 2) else chk a.data.toList

theorem Pow_any (a : ByteArray) (n : Int) (w : World) (ha : a.size ≤ 9223372036854775807) :
    Calls Tryz.prog 8 #[.string a, .int .i64 n] w fun e w' => e = .returned (.tuple #[.string (powB a n), .int .i64 (powE a n)]) ∧ Kp [] w w' := by
  by_cases h : chk a.data.toList = 0
  · by_cases hn : 0 ≤ n ∧ n ≤ 4096
    · obtain ⟨k, rfl⟩ := Int.eq_ofNat_of_zero_le hn.1
      obtain ⟨z, rfl, hz⟩ := of_chk_zero h
      have := Pow_ok z k w hz (by omega)
      unfold powB powE
      rw [if_pos ⟨h, hn⟩, if_pos h, if_pos hn, valS_S]
      exact this
    · unfold powB powE
      rw [if_neg (fun k => hn k.2), if_pos h, if_neg hn]
      by_cases h0 : n < 0
      · refine (Pow_low a n w ha h h0).mono ?_
        rintro e w' ⟨he, rfl⟩; exact ⟨he, Kp.refl _ _⟩
      · refine (Pow_high a n w ha h (by omega)).mono ?_
        rintro e w' ⟨he, rfl⟩; exact ⟨he, Kp.refl _ _⟩
  · unfold powB powE
    rw [if_neg (fun k => h k.1), if_neg h]
    refine (Pow_bad a n w ha h).mono ?_
    rintro e w' ⟨he, rfl⟩; exact ⟨he, Kp.refl _ _⟩
end Go.Proofs.YthjhjgglkooafaaGreat
