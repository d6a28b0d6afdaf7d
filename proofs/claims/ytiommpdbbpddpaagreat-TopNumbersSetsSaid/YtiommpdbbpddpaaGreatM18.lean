/- Texts RPaper2: each says in its own first comment what it proves. -/
import Derived.Test.YtiommpdbbpddpaaGreatM17
/- The reference's paper: sums and differences digit by digit. -/
namespace Go.Proofs.YtiommpdbbpddpaaGreat
open Go.RowKit
open Go.Lib (nDigits itoa decDigits)

def c10 (u v k : Nat) : Nat := (u % 10 ^ k + v % 10 ^ k) / 10 ^ k
def b10 (u v k : Nat) : Nat := if u % 10 ^ k < v % 10 ^ k then 1 else 0
theorem ten_pos (k : Nat) : 0 < 10 ^ k := Nat.pow_pos (by decide)
theorem mod10_succ (u k : Nat) : u % 10 ^ (k + 1) = u % 10 ^ k + 10 ^ k * (u / 10 ^ k % 10) := by rw [Nat.pow_succ, Nat.mod_mul]
theorem c10_zero (u v : Nat) : c10 u v 0 = 0 := by unfold c10; simp [Nat.mod_one]
theorem b10_zero (u v : Nat) : b10 u v 0 = 0 := by unfold b10; simp [Nat.mod_one]
theorem c10_le (u v k : Nat) : c10 u v k ≤ 1 := by
  unfold c10
  have h1 := Nat.mod_lt u (ten_pos k); have h2 := Nat.mod_lt v (ten_pos k)
  have : (u % 10 ^ k + v % 10 ^ k) / 10 ^ k < 2 := Nat.div_lt_of_lt_mul (by omega)
  omega
theorem b10_le (u v k : Nat) : b10 u v k ≤ 1 := by unfold b10; split <;> omega
theorem add10_div (u v k : Nat) : (u + v) / 10 ^ k = u / 10 ^ k + v / 10 ^ k + c10 u v k := by
  unfold c10
  have hA := Nat.div_add_mod u (10 ^ k); have hB := Nat.div_add_mod v (10 ^ k)
  conv => lhs; rw [← hA, ← hB]
  rw [show 10 ^ k * (u / 10 ^ k) + u % 10 ^ k + (10 ^ k * (v / 10 ^ k) + v % 10 ^ k) = 10 ^ k * (u / 10 ^ k + v / 10 ^ k) + (u % 10 ^ k + v % 10 ^ k) by rw [Nat.mul_add]; omega]
  rw [Nat.mul_add_div (ten_pos k)]
theorem add10_digit (u v k : Nat) : (u / 10 ^ k % 10 + v / 10 ^ k % 10 + c10 u v k) % 10 = (u + v) / 10 ^ k % 10 := by rw [add10_div]; omega
theorem c10_succ (u v k : Nat) : c10 u v (k + 1) = (u / 10 ^ k % 10 + v / 10 ^ k % 10 + c10 u v k) / 10 := by
  show (u % 10 ^ (k + 1) + v % 10 ^ (k + 1)) / 10 ^ (k + 1) = (_ + (u % 10 ^ k + v % 10 ^ k) / 10 ^ k) / 10
  rw [mod10_succ, mod10_succ, Nat.pow_succ, ← Nat.div_div_eq_div_mul]
  rw [show u % 10 ^ k + 10 ^ k * (u / 10 ^ k % 10) + (v % 10 ^ k + 10 ^ k * (v / 10 ^ k % 10)) = 10 ^ k * (u / 10 ^ k % 10 + v / 10 ^ k % 10) + (u % 10 ^ k + v % 10 ^ k) by rw [Nat.mul_add]; omega]
  rw [Nat.mul_add_div (ten_pos k)]
theorem sub10_div {u v : Nat} (k : Nat) (h : v ≤ u) : u / 10 ^ k = (u - v) / 10 ^ k + v / 10 ^ k + b10 u v k := by
  have h1 := add10_div (u - v) v k
  rw [Nat.sub_add_cancel h] at h1
  rw [h1]
  have : c10 (u - v) v k = b10 u v k := by
    unfold c10 b10
    have hp := ten_pos k
    have hm1 := Nat.mod_lt (u - v) hp; have hm2 := Nat.mod_lt v hp
    have ha : u % 10 ^ k = ((u - v) % 10 ^ k + v % 10 ^ k) % 10 ^ k := by rw [← Nat.add_mod, Nat.sub_add_cancel h]
    generalize (u - v) % 10 ^ k = a at *; generalize v % 10 ^ k = b at *; generalize 10 ^ k = p at *
    by_cases hs : a + b < p
    · rw [ha, Nat.mod_eq_of_lt hs, Nat.div_eq_of_lt hs, if_neg (by omega)]
    · have e1 : (a + b) % p = a + b - p := by rw [Nat.mod_eq_sub_mod (by omega), Nat.mod_eq_of_lt (by omega)]
      have e2 : (a + b) / p = 1 := by rw [Nat.div_eq_iff hp]; omega
      rw [ha, e1, e2, if_pos (by omega)]
  omega
theorem sub10_digit {u v : Nat} (k : Nat) (h : v ≤ u) : (u / 10 ^ k % 10 + 10 - v / 10 ^ k % 10 - b10 u v k) % 10 = (u - v) / 10 ^ k % 10 := by
  have h1 := sub10_div k h
  have h2 := b10_le u v k
  rw [h1]
  generalize (u - v) / 10 ^ k = z at *
  generalize v / 10 ^ k = y at *
  omega
theorem b10_succ (u v k : Nat) : b10 u v (k + 1) = if u / 10 ^ k % 10 < v / 10 ^ k % 10 + b10 u v k then 1 else 0 := by
  unfold b10
  rw [mod10_succ u, mod10_succ v]
  have h1 := Nat.mod_lt u (ten_pos k); have h2 := Nat.mod_lt v (ten_pos k)
  generalize u % 10 ^ k = a at *; generalize v % 10 ^ k = b at *; generalize u / 10 ^ k % 10 = x; generalize v / 10 ^ k % 10 = y; generalize 10 ^ k = p at *
  rcases Nat.lt_trichotomy x y with h | h | h
  · have : p * (x + 1) ≤ p * y := Nat.mul_le_mul_left _ h
    rw [Nat.mul_add] at this
    rw [if_pos (by omega), if_pos (by omega)]
  · subst h
    by_cases hab : a < b
    · rw [if_pos (by omega), if_pos (by rw [if_pos hab]; omega)]
    · rw [if_neg (by omega), if_neg (by rw [if_neg hab]; omega)]
  · have : p * (y + 1) ≤ p * x := Nat.mul_le_mul_left _ h
    rw [Nat.mul_add] at this
    rw [if_neg (by omega), if_neg (by split <;> omega)]

theorem wideB_list (z n : Nat) : (wideB z n).data.toList = (List.range n).map fun i => UInt8.ofNat (dgt z n i) := by
  unfold wideB strOf
  show ((List.range n).map fun i => UInt8.ofNat (dgt z n (0 + i))) = _
  simp
theorem wideB_dig (z n : Nat) : (wideB z n).data.toList.all isDig = true := by
  rw [wideB_list, List.all_eq_true]
  intro c hc
  obtain ⟨i, _, rfl⟩ := List.mem_map.1 hc
  rw [isDig_iff]
  unfold dgt
  rw [ofNat_dig _ (Nat.mod_lt _ (by decide))]
  omega
theorem wideB_val (z : Nat) : ∀ n : Nat, valN (wideB z n).data.toList = z % 10 ^ n
  | 0 => by rw [wideB_list]; simp [valN, Nat.mod_one]
  | n + 1 => by
    have ih := wideB_val z n
    rw [wideB_list] at ih ⊢
    rw [List.range_succ_eq_map, List.map_cons, List.map_map, valN_cons]
    have e : ((List.range n).map ((fun i => UInt8.ofNat (dgt z (n + 1) i)) ∘ Nat.succ)) = (List.range n).map fun i => UInt8.ofNat (dgt z n i) := by
      refine List.map_congr_left fun i _ => ?_
      show UInt8.ofNat (dgt z (n + 1) (i + 1)) = _
      unfold dgt
      rw [show n + 1 - 1 - (i + 1) = n - 1 - i by omega]
    rw [e, ih, List.length_map, List.length_range]
    have e2 : (UInt8.ofNat (dgt z (n + 1) 0)).toNat - 48 = z / 10 ^ n % 10 := by
      unfold dgt
      rw [ofNat_dig _ (Nat.mod_lt _ (by decide))]
      simp
    rw [e2, mod10_succ, Nat.mul_comm]; omega

set_option maxRecDepth 100000 in
set_option maxHeartbeats 4000000 in
theorem paper_add (u v n : Nat) (w : World) (hn : n = (if nDigits u < nDigits v then nDigits v else nDigits u) + 1) (hn' : n ≤ 5000) :
    Calls Tryz.prog 98 #[.string (S (u : Int)), .string (S (v : Int)), .bool true] w fun e w' => e = .returned (.string (S ((u + v : Nat) : Int))) ∧ Kp [] w w' := by
  have q1 := Lib.hid (fun W => wide_any u n W (by rw [hn]; split <;> omega) (by omega))
  have q2 := Lib.hid (fun W => wide_any v n W (by rw [hn]; split <;> omega) (by omega))
  have hmk : ∀ W : World, (Instr.makeSlice 110 (.int .i64 (n : Int)) (.int .i64 (n : Int))).run Tryz.prog W = .ok (.slice (some ⟨W.heap.size, 0, none⟩) n n) (W.alloc (.cells (madeCells #[.int .u8 0] n) 5)) := fun W => make_bytes n (by omega) W
  have sz1 := (S_nn (z := (u : Int)) (by omega)).2
  have sz2 := (S_nn (z := (v : Int)) (by omega)).2
  rw [Int.natAbs_natCast, Nat.add_zero] at sz1 sz2
  have hub : u < 10 ^ (n - 1) := Nat.lt_of_lt_of_le (Go.Lib.lt_pow_nDigits u) (Nat.pow_le_pow_right (by decide) (by rw [hn]; split <;> omega))
  have hvb : v < 10 ^ (n - 1) := Nat.lt_of_lt_of_le (Go.Lib.lt_pow_nDigits v) (Nat.pow_le_pow_right (by decide) (by rw [hn]; split <;> omega))
  have hn1 : 1 ≤ n := by omega
  have hzb : u + v < 10 ^ n := by
    have : 10 ^ n = 10 ^ (n - 1) * 10 := by rw [← Nat.pow_succ]; congr 1; omega
    omega
  have hbare := Lib.hid (fun W => bare_any (wideB (u + v) n) W (by rw [wideB_size]; omega) (by rw [wideB_size]; omega) (wideB_dig _ _))
  rw [wideB_val, Nat.mod_eq_of_lt hzb] at hbare
  have hmx : Hid ((n : Int) = (if (S (u : Int)).size < (S (v : Int)).size then ((S (v : Int)).size : Int) else ((S (u : Int)).size : Int)) + 1) := by
    show _ = _
    rw [sz1, sz2, hn]; split <;> omega
  obtain ⟨A, hA⟩ : ∃ A, A = wideB u n := ⟨_, rfl⟩
  obtain ⟨B, hB⟩ : ∃ B, B = wideB v n := ⟨_, rfl⟩
  have hAs : A.size = n := by rw [hA, wideB_size]
  have hBs : B.size = n := by rw [hB, wideB_size]
  have hAt : Hid (∀ j (h : j < A.size), A[j].toNat = dgt u n j) := by
    intro j h; subst hA; exact wideB_at u n j (by rw [wideB_size] at h; exact h)
  have hBt : Hid (∀ j (h : j < B.size), B[j].toNat = dgt v n j) := by
    intro j h; subst hB; exact wideB_at v n j (by rw [wideB_size] at h; exact h)
  rw [← hA] at q1
  rw [← hB] at q2
  generalize S ((u + v : Nat) : Int) = res at *
  generalize S (u : Int) = s at *
  generalize S (v : Int) = t at *
  have Hn := Lib.hid hn
  clear hA hB hub hvb hzb hn sz1 sz2
  by_cases hlen : (s.size : Int) < (t.size : Int)
  · have hlen2 : (s.size : Int) < (t.size : Int) := hlen
    have hnt : (t.size : Int) + 1 = (n : Int) := by have := hmx.out; rw [if_pos (by omega)] at this; omega
    clear hlen hmx
    go_enter Tryz.func98, Tryz.ntmps98
    go_wp2_with fail
    refine (q1.out _).mono ?_
    rintro e w1 ⟨rfl, k1⟩
    go_wp2_with fail
    refine (q2.out _).mono ?_
    rintro e w2 ⟨rfl, k2⟩
    have hk2 := k1.trans k2
    clear q1 q2 k1 k2 hnt hlen2
    have hby0 : Byt (w2.alloc (.cells (madeCells #[.int .u8 0] n) 5)) w2.heap.size n (fun _ => 0) := Byt.made w2 n
    have hkp0 : Kp [] w (w2.alloc (.cells (madeCells #[.int .u8 0] n) 5)) := hk2.alloc _
    have hh : w.heap.size ≤ w2.heap.size := hk2.size
    go_wp2_with fail
    generalize w2.heap.size = h at *
    clear hmk hk2
    go_loopg [9, 10] n (fun gk s9 s10 wr => ∃ i : Int, s10 = .int .i64 i ∧ i + 1 = gk ∧ gk ≤ n ∧ s9 = .int .i64 ((c10 u v (n - gk) : Nat) : Int) ∧ Byt wr h n (mix (fun _ => 0) (dgt (u + v) n) gk) ∧ Kp [] w wr)
    case atStart => exact ⟨_, rfl, by omega, Nat.le_refl _, by rw [Nat.sub_self, c10_zero]; rfl, hby0.congr fun i hi => (mix_lt (fun _ => 0) _ hi).symm, hkp0⟩
    case round =>
      obtain ⟨i, rfl, hi, hg, rfl, hby, hkp⟩ := hrel
      cases gk with
      | zero =>
        obtain rfl : i = -1 := by omega
        clear hi
        have hcv := conv_bytes 9 Tryz.underlying9 hby 0 n n (by omega)
        rw [mix_zero, show strOf (dgt (u + v) n) 0 n = wideB (u + v) n from rfl] at hcv
        go_wp2_with fail
        refine (hbare.out _).mono ?_
        rintro e w3 ⟨rfl, rfl⟩
        go_wp2
        go_ret
        exact ⟨rfl, hkp⟩
      | succ j =>
        obtain rfl : i = (j : Int) := by omega
        clear hi
        have hA1 : j < A.size := by omega
        have hB1 : j < B.size := by omega
        have ea := hAt.out j hA1
        have eb := hBt.out j hB1
        obtain ⟨a1, a2⟩ := dgt_bd u n j
        obtain ⟨b1, b2⟩ := dgt_bd v n j
        rw [← ea] at a1 a2
        rw [← eb] at b1 b2
        have hcl := c10_le u v (n - (j + 1))
        obtain ⟨c, hc⟩ : ∃ c, c = c10 u v (n - (j + 1)) := ⟨_, rfl⟩
        have ek : n - 1 - j = n - (j + 1) := by omega
        have eu : A[j].toNat - 48 = u / 10 ^ (n - (j + 1)) % 10 := by rw [ea]; unfold dgt; rw [ek]; omega
        have ev : B[j].toNat - 48 = v / 10 ^ (n - (j + 1)) % 10 := by rw [eb]; unfold dgt; rw [ek]; omega
        have hdig : Hid (48 + (A[j].toNat - 48 + (B[j].toNat - 48) + c) % 10 = dgt (u + v) n j) := by
          show _ = _
          rw [hc, eu, ev]; unfold dgt; rw [ek, add10_digit]
        have hcar : Hid ((A[j].toNat - 48 + (B[j].toNat - 48) + c) / 10 = c10 u v (n - j)) := by
          show _ = _
          rw [hc, eu, ev, show n - j = n - (j + 1) + 1 by omega, c10_succ]
        rw [← hc] at hcl ⊢
        have hAi : (j : Int) < (A.size : Int) := by omega
        have hBi : (j : Int) < (B.size : Int) := by omega
        have hbj := hby.byte (show j < n by omega)
        have hfj := hby.free j
        clear ea eb eu ev hc
        go_wp2_with fail
        go_region_with (go_at_call 128; refine (column_add _ _ _ _ a1 a2 b1 b2 hcl).mono ?_; rintro e w' ⟨rfl, rfl⟩)
        all_goals
          go_wp2_with fail
          go_roundg j
          case measure => omega
          case rel =>
            refine ⟨_, rfl, by omega, by omega, val_i (by have := hcar.out; omega), ?_, (hkp.setCell (.inr (by show w.heap.size ≤ h; omega)) _).drew⟩
            rw [← mix_down]; exact (hby.set_ (by omega) (by have := hdig.out; omega)).drew
  · have hlen2 : ¬ (s.size : Int) < (t.size : Int) := hlen
    have hnt : (s.size : Int) + 1 = (n : Int) := by have := hmx.out; rw [if_neg (by omega)] at this; omega
    clear hlen hmx
    go_enter Tryz.func98, Tryz.ntmps98
    go_wp2_with fail
    refine (q1.out _).mono ?_
    rintro e w1 ⟨rfl, k1⟩
    go_wp2_with fail
    refine (q2.out _).mono ?_
    rintro e w2 ⟨rfl, k2⟩
    have hk2 := k1.trans k2
    clear q1 q2 k1 k2 hnt hlen2
    have hby0 : Byt (w2.alloc (.cells (madeCells #[.int .u8 0] n) 5)) w2.heap.size n (fun _ => 0) := Byt.made w2 n
    have hkp0 : Kp [] w (w2.alloc (.cells (madeCells #[.int .u8 0] n) 5)) := hk2.alloc _
    have hh : w.heap.size ≤ w2.heap.size := hk2.size
    go_wp2_with fail
    generalize w2.heap.size = h at *
    clear hmk hk2
    go_loopg [9, 10] n (fun gk s9 s10 wr => ∃ i : Int, s10 = .int .i64 i ∧ i + 1 = gk ∧ gk ≤ n ∧ s9 = .int .i64 ((c10 u v (n - gk) : Nat) : Int) ∧ Byt wr h n (mix (fun _ => 0) (dgt (u + v) n) gk) ∧ Kp [] w wr)
    case atStart => exact ⟨_, rfl, by omega, Nat.le_refl _, by rw [Nat.sub_self, c10_zero]; rfl, hby0.congr fun i hi => (mix_lt (fun _ => 0) _ hi).symm, hkp0⟩
    case round =>
      obtain ⟨i, rfl, hi, hg, rfl, hby, hkp⟩ := hrel
      cases gk with
      | zero =>
        obtain rfl : i = -1 := by omega
        clear hi
        have hcv := conv_bytes 9 Tryz.underlying9 hby 0 n n (by omega)
        rw [mix_zero, show strOf (dgt (u + v) n) 0 n = wideB (u + v) n from rfl] at hcv
        go_wp2_with fail
        refine (hbare.out _).mono ?_
        rintro e w3 ⟨rfl, rfl⟩
        go_wp2
        go_ret
        exact ⟨rfl, hkp⟩
      | succ j =>
        obtain rfl : i = (j : Int) := by omega
        clear hi
        have hA1 : j < A.size := by omega
        have hB1 : j < B.size := by omega
        have ea := hAt.out j hA1
        have eb := hBt.out j hB1
        obtain ⟨a1, a2⟩ := dgt_bd u n j
        obtain ⟨b1, b2⟩ := dgt_bd v n j
        rw [← ea] at a1 a2
        rw [← eb] at b1 b2
        have hcl := c10_le u v (n - (j + 1))
        obtain ⟨c, hc⟩ : ∃ c, c = c10 u v (n - (j + 1)) := ⟨_, rfl⟩
        have ek : n - 1 - j = n - (j + 1) := by omega
        have eu : A[j].toNat - 48 = u / 10 ^ (n - (j + 1)) % 10 := by rw [ea]; unfold dgt; rw [ek]; omega
        have ev : B[j].toNat - 48 = v / 10 ^ (n - (j + 1)) % 10 := by rw [eb]; unfold dgt; rw [ek]; omega
        have hdig : Hid (48 + (A[j].toNat - 48 + (B[j].toNat - 48) + c) % 10 = dgt (u + v) n j) := by
          show _ = _
          rw [hc, eu, ev]; unfold dgt; rw [ek, add10_digit]
        have hcar : Hid ((A[j].toNat - 48 + (B[j].toNat - 48) + c) / 10 = c10 u v (n - j)) := by
          show _ = _
          rw [hc, eu, ev, show n - j = n - (j + 1) + 1 by omega, c10_succ]
        rw [← hc] at hcl ⊢
        have hAi : (j : Int) < (A.size : Int) := by omega
        have hBi : (j : Int) < (B.size : Int) := by omega
        have hbj := hby.byte (show j < n by omega)
        have hfj := hby.free j
        clear ea eb eu ev hc
        go_wp2_with fail
        go_region_with (go_at_call 128; refine (column_add _ _ _ _ a1 a2 b1 b2 hcl).mono ?_; rintro e w' ⟨rfl, rfl⟩)
        all_goals
          go_wp2_with fail
          go_roundg j
          case measure => omega
          case rel =>
            refine ⟨_, rfl, by omega, by omega, val_i (by have := hcar.out; omega), ?_, (hkp.setCell (.inr (by show w.heap.size ≤ h; omega)) _).drew⟩
            rw [← mix_down]; exact (hby.set_ (by omega) (by have := hdig.out; omega)).drew

set_option maxRecDepth 100000 in
set_option maxHeartbeats 4000000 in
theorem paper_sub (u v n : Nat) (w : World) (hvu : v ≤ u) (hn : n = (if nDigits u < nDigits v then nDigits v else nDigits u) + 1) (hn' : n ≤ 5000) :
    Calls Tryz.prog 98 #[.string (S (u : Int)), .string (S (v : Int)), .bool false] w fun e w' => e = .returned (.string (S ((u - v : Nat) : Int))) ∧ Kp [] w w' := by
  have q1 := Lib.hid (fun W => wide_any u n W (by rw [hn]; split <;> omega) (by omega))
  have q2 := Lib.hid (fun W => wide_any v n W (by rw [hn]; split <;> omega) (by omega))
  have hmk : ∀ W : World, (Instr.makeSlice 110 (.int .i64 (n : Int)) (.int .i64 (n : Int))).run Tryz.prog W = .ok (.slice (some ⟨W.heap.size, 0, none⟩) n n) (W.alloc (.cells (madeCells #[.int .u8 0] n) 5)) := fun W => make_bytes n (by omega) W
  have sz1 := (S_nn (z := (u : Int)) (by omega)).2
  have sz2 := (S_nn (z := (v : Int)) (by omega)).2
  rw [Int.natAbs_natCast, Nat.add_zero] at sz1 sz2
  have hub : u < 10 ^ (n - 1) := Nat.lt_of_lt_of_le (Go.Lib.lt_pow_nDigits u) (Nat.pow_le_pow_right (by decide) (by rw [hn]; split <;> omega))
  have hvb : v < 10 ^ (n - 1) := Nat.lt_of_lt_of_le (Go.Lib.lt_pow_nDigits v) (Nat.pow_le_pow_right (by decide) (by rw [hn]; split <;> omega))
  have hn1 : 1 ≤ n := by omega
  have hzb : u - v < 10 ^ n := by
    have : 10 ^ n = 10 ^ (n - 1) * 10 := by rw [← Nat.pow_succ]; congr 1; omega
    omega
  have hbare := Lib.hid (fun W => bare_any (wideB (u - v) n) W (by rw [wideB_size]; omega) (by rw [wideB_size]; omega) (wideB_dig _ _))
  rw [wideB_val, Nat.mod_eq_of_lt hzb] at hbare
  have hmx : Hid ((n : Int) = (if (S (u : Int)).size < (S (v : Int)).size then ((S (v : Int)).size : Int) else ((S (u : Int)).size : Int)) + 1) := by
    show _ = _
    rw [sz1, sz2, hn]; split <;> omega
  obtain ⟨A, hA⟩ : ∃ A, A = wideB u n := ⟨_, rfl⟩
  obtain ⟨B, hB⟩ : ∃ B, B = wideB v n := ⟨_, rfl⟩
  have hAs : A.size = n := by rw [hA, wideB_size]
  have hBs : B.size = n := by rw [hB, wideB_size]
  have hAt : Hid (∀ j (h : j < A.size), A[j].toNat = dgt u n j) := by
    intro j h; subst hA; exact wideB_at u n j (by rw [wideB_size] at h; exact h)
  have hBt : Hid (∀ j (h : j < B.size), B[j].toNat = dgt v n j) := by
    intro j h; subst hB; exact wideB_at v n j (by rw [wideB_size] at h; exact h)
  rw [← hA] at q1
  rw [← hB] at q2
  generalize S ((u - v : Nat) : Int) = res at *
  generalize S (u : Int) = s at *
  generalize S (v : Int) = t at *
  have Hn := Lib.hid hn
  clear hA hB hub hvb hzb hn sz1 sz2
  by_cases hlen : (s.size : Int) < (t.size : Int)
  · have hlen2 : (s.size : Int) < (t.size : Int) := hlen
    have hnt : (t.size : Int) + 1 = (n : Int) := by have := hmx.out; rw [if_pos (by omega)] at this; omega
    clear hlen hmx
    go_enter Tryz.func98, Tryz.ntmps98
    go_wp2_with fail
    refine (q1.out _).mono ?_
    rintro e w1 ⟨rfl, k1⟩
    go_wp2_with fail
    refine (q2.out _).mono ?_
    rintro e w2 ⟨rfl, k2⟩
    have hk2 := k1.trans k2
    clear q1 q2 k1 k2 hnt hlen2
    have hby0 : Byt (w2.alloc (.cells (madeCells #[.int .u8 0] n) 5)) w2.heap.size n (fun _ => 0) := Byt.made w2 n
    have hkp0 : Kp [] w (w2.alloc (.cells (madeCells #[.int .u8 0] n) 5)) := hk2.alloc _
    have hh : w.heap.size ≤ w2.heap.size := hk2.size
    go_wp2_with fail
    generalize w2.heap.size = h at *
    clear hmk hk2
    go_loopg [9, 10] n (fun gk s9 s10 wr => ∃ i : Int, s10 = .int .i64 i ∧ i + 1 = gk ∧ gk ≤ n ∧ s9 = .int .i64 ((b10 u v (n - gk) : Nat) : Int) ∧ Byt wr h n (mix (fun _ => 0) (dgt (u - v) n) gk) ∧ Kp [] w wr)
    case atStart => exact ⟨_, rfl, by omega, Nat.le_refl _, by rw [Nat.sub_self, b10_zero]; rfl, hby0.congr fun i hi => (mix_lt (fun _ => 0) _ hi).symm, hkp0⟩
    case round =>
      obtain ⟨i, rfl, hi, hg, rfl, hby, hkp⟩ := hrel
      cases gk with
      | zero =>
        obtain rfl : i = -1 := by omega
        clear hi
        have hcv := conv_bytes 9 Tryz.underlying9 hby 0 n n (by omega)
        rw [mix_zero, show strOf (dgt (u - v) n) 0 n = wideB (u - v) n from rfl] at hcv
        go_wp2_with fail
        refine (hbare.out _).mono ?_
        rintro e w3 ⟨rfl, rfl⟩
        go_wp2
        go_ret
        exact ⟨rfl, hkp⟩
      | succ j =>
        obtain rfl : i = (j : Int) := by omega
        clear hi
        have hA1 : j < A.size := by omega
        have hB1 : j < B.size := by omega
        have ea := hAt.out j hA1
        have eb := hBt.out j hB1
        obtain ⟨a1, a2⟩ := dgt_bd u n j
        obtain ⟨b1, b2⟩ := dgt_bd v n j
        rw [← ea] at a1 a2
        rw [← eb] at b1 b2
        have hcl := b10_le u v (n - (j + 1))
        obtain ⟨c, hc⟩ : ∃ c, c = b10 u v (n - (j + 1)) := ⟨_, rfl⟩
        have ek : n - 1 - j = n - (j + 1) := by omega
        have eu : A[j].toNat - 48 = u / 10 ^ (n - (j + 1)) % 10 := by rw [ea]; unfold dgt; rw [ek]; omega
        have ev : B[j].toNat - 48 = v / 10 ^ (n - (j + 1)) % 10 := by rw [eb]; unfold dgt; rw [ek]; omega
        have hdig : Hid (48 + (A[j].toNat - 48 + 10 - (B[j].toNat - 48) - c) % 10 = dgt (u - v) n j) := by
          show _ = _
          rw [hc, eu, ev]; unfold dgt; rw [ek, sub10_digit _ hvu]
        have hcar : Hid (bor A[j].toNat B[j].toNat c = b10 u v (n - j)) := by
          show _ = _
          unfold bor
          rw [hc, eu, ev, show n - j = n - (j + 1) + 1 by omega, b10_succ]
        rw [← hc] at hcl ⊢
        have hAi : (j : Int) < (A.size : Int) := by omega
        have hBi : (j : Int) < (B.size : Int) := by omega
        have hbj := hby.byte (show j < n by omega)
        have hfj := hby.free j
        clear ea eb eu ev hc
        go_wp2_with fail
        go_region_with (go_at_call 128; refine (column_sub _ _ _ _ a1 a2 b1 b2 hcl).mono ?_; rintro e w' ⟨rfl, rfl⟩)
        all_goals
          go_wp2_with fail
          go_roundg j
          case measure => omega
          case rel =>
            refine ⟨_, rfl, by omega, by omega, val_i (by have := hcar.out; omega), ?_, (hkp.setCell (.inr (by show w.heap.size ≤ h; omega)) _).drew⟩
            rw [← mix_down]; exact (hby.set_ (by omega) (by have := hdig.out; omega)).drew
  · have hlen2 : ¬ (s.size : Int) < (t.size : Int) := hlen
    have hnt : (s.size : Int) + 1 = (n : Int) := by have := hmx.out; rw [if_neg (by omega)] at this; omega
    clear hlen hmx
    go_enter Tryz.func98, Tryz.ntmps98
    go_wp2_with fail
    refine (q1.out _).mono ?_
    rintro e w1 ⟨rfl, k1⟩
    go_wp2_with fail
    refine (q2.out _).mono ?_
    rintro e w2 ⟨rfl, k2⟩
    have hk2 := k1.trans k2
    clear q1 q2 k1 k2 hnt hlen2
    have hby0 : Byt (w2.alloc (.cells (madeCells #[.int .u8 0] n) 5)) w2.heap.size n (fun _ => 0) := Byt.made w2 n
    have hkp0 : Kp [] w (w2.alloc (.cells (madeCells #[.int .u8 0] n) 5)) := hk2.alloc _
    have hh : w.heap.size ≤ w2.heap.size := hk2.size
    go_wp2_with fail
    generalize w2.heap.size = h at *
    clear hmk hk2
    go_loopg [9, 10] n (fun gk s9 s10 wr => ∃ i : Int, s10 = .int .i64 i ∧ i + 1 = gk ∧ gk ≤ n ∧ s9 = .int .i64 ((b10 u v (n - gk) : Nat) : Int) ∧ Byt wr h n (mix (fun _ => 0) (dgt (u - v) n) gk) ∧ Kp [] w wr)
    case atStart => exact ⟨_, rfl, by omega, Nat.le_refl _, by rw [Nat.sub_self, b10_zero]; rfl, hby0.congr fun i hi => (mix_lt (fun _ => 0) _ hi).symm, hkp0⟩
    case round =>
      obtain ⟨i, rfl, hi, hg, rfl, hby, hkp⟩ := hrel
      cases gk with
      | zero =>
        obtain rfl : i = -1 := by omega
        clear hi
        have hcv := conv_bytes 9 Tryz.underlying9 hby 0 n n (by omega)
        rw [mix_zero, show strOf (dgt (u - v) n) 0 n = wideB (u - v) n from rfl] at hcv
        go_wp2_with fail
        refine (hbare.out _).mono ?_
        rintro e w3 ⟨rfl, rfl⟩
        go_wp2
        go_ret
        exact ⟨rfl, hkp⟩
      | succ j =>
        obtain rfl : i = (j : Int) := by omega
        clear hi
        have hA1 : j < A.size := by omega
        have hB1 : j < B.size := by omega
        have ea := hAt.out j hA1
        have eb := hBt.out j hB1
        obtain ⟨a1, a2⟩ := dgt_bd u n j
        obtain ⟨b1, b2⟩ := dgt_bd v n j
        rw [← ea] at a1 a2
        rw [← eb] at b1 b2
        have hcl := b10_le u v (n - (j + 1))
        obtain ⟨c, hc⟩ : ∃ c, c = b10 u v (n - (j + 1)) := ⟨_, rfl⟩
        have ek : n - 1 - j = n - (j + 1) := by omega
        have eu : A[j].toNat - 48 = u / 10 ^ (n - (j + 1)) % 10 := by rw [ea]; unfold dgt; rw [ek]; omega
        have ev : B[j].toNat - 48 = v / 10 ^ (n - (j + 1)) % 10 := by rw [eb]; unfold dgt; rw [ek]; omega
        have hdig : Hid (48 + (A[j].toNat - 48 + 10 - (B[j].toNat - 48) - c) % 10 = dgt (u - v) n j) := by
          show _ = _
          rw [hc, eu, ev]; unfold dgt; rw [ek, sub10_digit _ hvu]
        have hcar : Hid (bor A[j].toNat B[j].toNat c = b10 u v (n - j)) := by
          show _ = _
          unfold bor
          rw [hc, eu, ev, show n - j = n - (j + 1) + 1 by omega, b10_succ]
        rw [← hc] at hcl ⊢
        have hAi : (j : Int) < (A.size : Int) := by omega
        have hBi : (j : Int) < (B.size : Int) := by omega
        have hbj := hby.byte (show j < n by omega)
        have hfj := hby.free j
        clear ea eb eu ev hc
        go_wp2_with fail
        go_region_with (go_at_call 128; refine (column_sub _ _ _ _ a1 a2 b1 b2 hcl).mono ?_; rintro e w' ⟨rfl, rfl⟩)
        all_goals
          go_wp2_with fail
          go_roundg j
          case measure => omega
          case rel =>
            refine ⟨_, rfl, by omega, by omega, val_i (by have := hcar.out; omega), ?_, (hkp.setCell (.inr (by show w.heap.size ≤ h; omega)) _).drew⟩
            rw [← mix_down]; exact (hby.set_ (by omega) (by have := hdig.out; omega)).drew
end Go.Proofs.YtiommpdbbpddpaaGreat
