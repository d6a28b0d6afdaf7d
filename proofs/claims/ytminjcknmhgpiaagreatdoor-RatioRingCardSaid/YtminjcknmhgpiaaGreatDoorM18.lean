/- Texts Leap: each says in its own first comment what it proves. -/
import Derived.Test.YtminjcknmhgpiaaGreatDoorM17
import Derived.Deep.RegionWith
/- Walk over whole.leap: many steps of Euclid's algorithm at once. -/
namespace Go.Proofs.YtminjcknmhgpiaaGreatDoor
open Go.RowKit

/-- what goes into word i of a X + b Y -/
def lc (a b : Int) (X Y i : Nat) : Int := (a * ((X % B9 ^ i : Nat) : Int) + b * ((Y % B9 ^ i : Nat) : Int)) / ((B9 ^ i : Nat) : Int)
theorem lc_zero (a b : Int) (X Y : Nat) : lc a b X Y 0 = 0 := by unfold lc; simp [Nat.mod_one]
theorem lc_sum (a b : Int) (X Y i : Nat) : lc a b X Y i + a * (wd X i : Int) + b * (wd Y i : Int) = (a * ((X % B9 ^ (i + 1) : Nat) : Int) + b * ((Y % B9 ^ (i + 1) : Nat) : Int)) / ((B9 ^ i : Nat) : Int) := by
  unfold lc
  have hp : ((B9 ^ i : Nat) : Int) ≠ 0 := by have := B9p_pos i; omega
  rw [mod_succ, mod_succ, Int.natCast_add, Int.natCast_add, Int.natCast_mul, Int.natCast_mul]
  have e : a * (((X % B9 ^ i : Nat) : Int) + ((B9 ^ i : Nat) : Int) * (wd X i : Int)) + b * (((Y % B9 ^ i : Nat) : Int) + ((B9 ^ i : Nat) : Int) * (wd Y i : Int)) =
      (a * ((X % B9 ^ i : Nat) : Int) + b * ((Y % B9 ^ i : Nat) : Int)) + ((B9 ^ i : Nat) : Int) * (a * (wd X i : Int) + b * (wd Y i : Int)) := by
    simp only [Int.mul_add]
    rw [Int.mul_left_comm a, Int.mul_left_comm b]; omega
  rw [e, Int.add_mul_ediv_left _ _ hp]; omega
theorem lc_next (a b : Int) (X Y i : Nat) : (lc a b X Y i + a * (wd X i : Int) + b * (wd Y i : Int)) / 1000000000 = lc a b X Y (i + 1) := by
  rw [lc_sum, Int.ediv_ediv_of_nonneg (by omega)]
  unfold lc
  rw [Nat.pow_succ, Int.natCast_mul]; rfl
theorem lc_word {a b : Int} {X Y Z : Nat} (i : Nat) (hZ : (Z : Int) = a * X + b * Y) : (lc a b X Y i + a * (wd X i : Int) + b * (wd Y i : Int)) % 1000000000 = (wd Z i : Int) := by
  rw [lc_sum]
  have hX := (Nat.mod_add_div X (B9 ^ (i + 1))).symm
  have hY := (Nat.mod_add_div Y (B9 ^ (i + 1))).symm
  have hp : ((B9 ^ i : Nat) : Int) ≠ 0 := by have := B9p_pos i; omega
  have e : (Z : Int) = (a * ((X % B9 ^ (i + 1) : Nat) : Int) + b * ((Y % B9 ^ (i + 1) : Nat) : Int)) + ((B9 ^ i : Nat) : Int) * (1000000000 * (a * ((X / B9 ^ (i + 1) : Nat) : Int) + b * ((Y / B9 ^ (i + 1) : Nat) : Int))) := by
    rw [hZ]
    conv => lhs; rw [hX, hY]
    rw [Int.natCast_add, Int.natCast_add, Int.natCast_mul, Int.natCast_mul, Nat.pow_succ B9 i, Int.natCast_mul (B9 ^ i), show ((B9 : Nat) : Int) = 1000000000 from rfl]
    simp only [Int.mul_add]
    generalize ((X / (B9 ^ i * B9) : Nat) : Int) = u
    generalize ((Y / (B9 ^ i * B9) : Nat) : Int) = v
    generalize ((B9 ^ i : Nat) : Int) = p
    rw [Int.mul_left_comm a, Int.mul_left_comm b, Int.mul_assoc p, Int.mul_assoc p]
    omega
  have ew : ((wd Z i : Nat) : Int) = (Z : Int) / ((B9 ^ i : Nat) : Int) % ((B9 : Nat) : Int) := by unfold wd; rw [Int.natCast_emod, Int.natCast_ediv]
  rw [ew, e, Int.add_mul_ediv_left _ _ hp, show ((B9 : Nat) : Int) = 1000000000 from rfl, Int.add_mul_emod_self_left]
theorem lc_bound {a b : Int} (X Y i : Nat) (ha : -1000000000 ≤ a ∧ a ≤ 1000000000) (hb : -1000000000 ≤ b ∧ b ≤ 1000000000) : -2000000000 ≤ lc a b X Y i ∧ lc a b X Y i ≤ 2000000000 := by
  have hp : (0 : Int) < ((B9 ^ i : Nat) : Int) := by have := B9p_pos i; omega
  have h1 := Nat.mod_lt X (B9p_pos i)
  have h2 := Nat.mod_lt Y (B9p_pos i)
  unfold lc
  generalize X % B9 ^ i = x at *
  generalize Y % B9 ^ i = y at *
  generalize B9 ^ i = p at *
  have k : ∀ {u : Int} {z : Nat}, -1000000000 ≤ u ∧ u ≤ 1000000000 → z < p → -(1000000000 * (p : Int)) ≤ u * (z : Int) ∧ u * (z : Int) ≤ 1000000000 * (p : Int) := by
    intro u z hu hz
    have a1 : (-1000000000) * (z : Int) ≤ u * (z : Int) := Int.mul_le_mul_of_nonneg_right hu.1 (by omega)
    have a2 : u * (z : Int) ≤ 1000000000 * (z : Int) := Int.mul_le_mul_of_nonneg_right hu.2 (by omega)
    omega
  have a1 := k ha h1
  have a2 := k hb h2
  constructor
  · exact Int.le_ediv_of_mul_le hp (by omega)
  · refine Int.ediv_le_of_le_mul hp (by omega)
theorem prod_bound {u : Int} {z : Nat} (hu : -1000000000 ≤ u ∧ u ≤ 1000000000) (hz : z < 1000000000) : -1000000000000000000 ≤ u * (z : Int) ∧ u * (z : Int) ≤ 1000000000000000000 := by
  have a1 : (-1000000000) * (z : Int) ≤ u * (z : Int) := Int.mul_le_mul_of_nonneg_right hu.1 (by omega)
  have a2 : u * (z : Int) ≤ 1000000000 * (z : Int) := Int.mul_le_mul_of_nonneg_right hu.2 (by omega)
  omega

/-- one round of leap writes one word of each number -/
structure LeapWords (a b c d : Int) (X Y X' Y' : Nat) : Prop where
  hX : (X' : Int) = a * X + b * Y
  hY : (Y' : Int) = c * X + d * Y
  ba : -1000000000 ≤ a ∧ a ≤ 1000000000
  bb : -1000000000 ≤ b ∧ b ≤ 1000000000
  bc : -1000000000 ≤ c ∧ c ≤ 1000000000
  bd : -1000000000 ≤ d ∧ d ≤ 1000000000

def LeapPost (gx gy X Y : Nat) (w w' : World) (r : Bool) : Prop :=
  (r = false ∧ Kp [] w w') ∨ (r = true ∧ ∃ X' Y', Num w' gx X' false ∧ Num w' gy Y' false ∧ Nat.gcd X' Y' = Nat.gcd X Y ∧ Y' < Y ∧ Y' ≤ X' ∧ X' < B9 ^ nw X ∧ Kp [gx, gy] w w')

set_option maxRecDepth 100000 in
set_option maxHeartbeats 8000000 in
theorem leap_any (gx gy X Y k : Nat) (w : World) (hX : Num w gx X false) (hY : Num w gy Y false) (hg : gx ≠ gy) (hXY : Y ≤ X) (hk : nw X = k + 3) :
    Calls Tryz.prog 175 #[.pointer (some ⟨gx, 0, none⟩), .pointer (some ⟨gy, 0, none⟩)] w fun e w' => ∃ r, e = .returned (.bool r) ∧ LeapPost gx gy X Y w w' r := by
  have q1 := Lib.hid (heads_any gx gy X Y k false false w hX hY hXY hk)
  have hXlt : X < B9 ^ (k + 3) := by have := lt_pow_nw X; rwa [hk] at this
  have hk226 : k ≤ 226 := by have := nw_le hX.2; omega
  go_enter Tryz.func175, Tryz.ntmps175
  go_wp2_with fail
  refine q1.out.mono ?_
  rintro e w1 ⟨T, hT, hx9, hxT, rfl, hk1⟩
  clear q1
  have hyx : Y / T ≤ X / T := Nat.div_le_div_right hXY
  have q2 := Lib.hid (fun W => steps_any ((X / T : Nat) : Int) ((Y / T : Nat) : Int) W (Int.natCast_nonneg _) (Int.ofNat_le.2 hyx) (Int.ofNat_lt.2 (show X / T < 1000000000000000000 from hx9)))
  go_wp2_with fail
  refine (q2.out _).mono ?_
  rintro e w2 ⟨x1, y1, a, b, c, d, rfl, hlr, rfl⟩
  clear q2
  have Hlr := Lib.hid hlr; clear hlr
  by_cases hb : b = 0
  · have hb1 : (b == 0) = true := by simp [hb]
    clear hb
    go_wp2
    go_ret
    exact ⟨false, rfl, .inl ⟨rfl, hk1⟩⟩
  · have hb1 : (b == 0) = false := by simp [hb]
    obtain ⟨X', Y', hlw, hgcd, hlt, hle, hX'9⟩ : ∃ X' Y' : Nat, LeapWords a b c d X Y X' Y' ∧ Nat.gcd X' Y' = Nat.gcd X Y ∧ Y' < Y ∧ Y' ≤ X' ∧ X' < B9 ^ (k + 3) := by
      obtain ⟨⟨e, lm⟩, ls, ba, bb, bc, bd, _, _⟩ := Hlr.out
      have ls := ls.resolve_left hb
      have hXd := Nat.div_add_mod X T
      have hXm := Nat.mod_lt X hT
      have hYd := Nat.div_add_mod Y T
      have hYm := Nat.mod_lt Y hT
      have ex : ∀ z : Nat, ((z / T : Nat) : Int) * (T : Int) = ((T * (z / T) : Nat) : Int) := fun z => by rw [Int.natCast_mul, Int.mul_comm]
      have m := lm.made (X := (X : Int)) (Y := (Y : Int)) (T := (T : Int)) ls (by omega) (by rw [ex]; omega) (by rw [Int.add_mul, ex]; omega) (by rw [ex]; omega) (by rw [Int.add_mul, ex]; omega)
      have gg := lm.gcd (X := (X : Int)) (Y := (Y : Int))
      obtain ⟨m1, m2, m3, m4⟩ := m
      have hxT' : (((X / T : Nat) : Int) + 1) * (T : Int) ≤ ((B9 ^ (k + 3) : Nat) : Int) := by
        have := hxT
        rw [Nat.add_mul, Nat.mul_comm] at this
        rw [Int.add_mul, ex]; omega
      obtain ⟨X', hX'⟩ := Int.eq_ofNat_of_zero_le (Int.le_trans m1 m3)
      obtain ⟨Y', hY'⟩ := Int.eq_ofNat_of_zero_le m1
      refine ⟨X', Y', ⟨hX'.symm, hY'.symm, ba, bb, bc, bd⟩, ?_, by omega, by omega, by omega⟩
      rw [hX', hY'] at gg
      exact gg
    clear hb
    have hX1 := hX.1.kp hk1 (by simp)
    have hY1 := hY.1.kp hk1 (by simp)
    have hcx := hX1.cnt
    rw [hk] at hcx
    go_wp2
    clear hcx
    go_loopw [9, 10, 31] (fun s9 s10 s31 wr => ∃ i : Nat, i ≤ k + 3 ∧ s31 = .int .i64 i ∧ s9 = .int .i64 (lc a b X Y i) ∧ s10 = .int .i64 (lc c d X Y i) ∧ NumF wr gx (mix (wd X') (wd X) i) (k + 3) false ∧ NumF wr gy (mix (wd Y') (wd Y) i) (nw Y) false ∧ Kp [gx, gy] w wr)
      (fun _ _ i _ => k + 3 - (intOf i).toNat)
    case atStart => exact ⟨0, Nat.zero_le _, rfl, by rw [lc_zero], by rw [lc_zero], by rw [mix_zero, ← hk]; exact hX1, by rw [mix_zero]; exact hY1, hk1.mono (by simp)⟩
    case round =>
      obtain ⟨i, hi, rfl, rfl, rfl, hn, hm, hkp⟩ := hrel
      by_cases hlt2 : i < k + 3
      · have hi229 : (i : Int) < 229 := by omega
        have fx := hn.word (i := i) (by omega)
        have fy := hm.word (i := i) (by omega)
        rw [mix_ge _ _ (Nat.le_refl _)] at fx fy
        have gx1 := hn.free i
        have gy1 := hm.free i
        have l1 := wd_lt X i
        have l2 := wd_lt Y i
        obtain ⟨s1, s2⟩ := lc_bound X Y i hlw.ba hlw.bb
        obtain ⟨t1, t2⟩ := lc_bound X Y i hlw.bc hlw.bd
        have E1 := Lib.hid (lc_word i hlw.hX)
        have E2 := Lib.hid (lc_next a b X Y i)
        have E3 := Lib.hid (lc_word i hlw.hY)
        have E4 := Lib.hid (lc_next c d X Y i)
        obtain ⟨a1, a2⟩ := prod_bound hlw.ba l1
        obtain ⟨b1, b2⟩ := prod_bound hlw.bb l2
        obtain ⟨c1, c2⟩ := prod_bound hlw.bc l1
        obtain ⟨d1, d2⟩ := prod_bound hlw.bd l2
        obtain ⟨s, hs⟩ : ∃ s, s = lc a b X Y i := ⟨_, rfl⟩
        obtain ⟨t, ht⟩ : ∃ t, t = lc c d X Y i := ⟨_, rfl⟩
        rw [← hs] at E1 E2 s1 s2 ⊢
        rw [← ht] at E3 E4 t1 t2 ⊢
        obtain ⟨x, hx⟩ : ∃ x, x = wd X i := ⟨_, rfl⟩
        obtain ⟨y, hy⟩ : ∃ y, y = wd Y i := ⟨_, rfl⟩
        rw [← hx] at E1 E2 E3 E4 a1 a2 c1 c2 fx l1
        rw [← hy] at E1 E2 E3 E4 b1 b2 d1 d2 fy l2
        have Hy := Lib.hid hy
        clear hs ht hx hy
        obtain ⟨au, hau⟩ : ∃ au, a * (x : Int) = au := ⟨_, rfl⟩
        obtain ⟨bv, hbv⟩ : ∃ bv, b * (y : Int) = bv := ⟨_, rfl⟩
        obtain ⟨cu, hcu⟩ : ∃ cu, c * (x : Int) = cu := ⟨_, rfl⟩
        obtain ⟨dv, hdv⟩ : ∃ dv, d * (y : Int) = dv := ⟨_, rfl⟩
        rw [hau] at E1 E2 a1 a2
        rw [hbv] at E1 E2 b1 b2
        rw [hcu] at E3 E4 c1 c2
        rw [hdv] at E3 E4 d1 d2
        have z1 : -4000000000000000000 ≤ s + au + bv ∧ s + au + bv ≤ 4000000000000000000 := by omega
        have z2 : -4000000000000000000 ≤ t + cu + dv ∧ t + cu + dv ≤ 4000000000000000000 := by omega
        have w1 : IntKind.i64.wrap au = au := IntWalk.i64_in _ (by omega)
        have w2 : IntKind.i64.wrap bv = bv := IntWalk.i64_in _ (by omega)
        have w3 : IntKind.i64.wrap cu = cu := IntWalk.i64_in _ (by omega)
        have w4 : IntKind.i64.wrap dv = dv := IntWalk.i64_in _ (by omega)
        have w5 : IntKind.i64.wrap (s + au) = s + au := IntWalk.i64_in _ (by omega)
        have w6 : IntKind.i64.wrap (s + au + bv) = s + au + bv := IntWalk.i64_in _ (by omega)
        have w7 : IntKind.i64.wrap (t + cu) = t + cu := IntWalk.i64_in _ (by omega)
        have w8 : IntKind.i64.wrap (t + cu + dv) = t + cu + dv := IntWalk.i64_in _ (by omega)
        have Z1 := Lib.hid z1
        have Z2 := Lib.hid z2
        clear a1 a2 b1 b2 c1 c2 d1 d2 z1 z2 s1 s2 t1 t2
        go_wp2
        go_quiet (fail)
        go_wp2
        go_region_with (go_at_call 191; refine (carry_any _ _ Z1.out.1 Z1.out.2).mono ?_; rintro e w' ⟨rfl, rfl⟩)
        go_wp2
        have hn2 := ((hn.drewN (nq + 1)).setW' (i := i) (x := wd X' i) (y := (s + au + bv) % 1000000000) (by omega) E1.out)
        have hm2 := ((hm.drewN (nq + 1)).far (p := ⟨gx, i, none⟩) (fun e => hg e.symm) (.int .u32 ((s + au + bv) % 1000000000)))
        have hk2 : Kp [gx, gy] w _ := (hkp.drewN (nq + 1)).setCell (p := ⟨gx, i, none⟩) (.inl (by simp)) (.int .u32 ((s + au + bv) % 1000000000))
        clear hau hbv w1 w2 w5 w6 fx gx1 hn hm hkp
        generalize (wr.drewN (nq + 1)).setCell ⟨gx, i, none⟩ (.int .u32 ((s + au + bv) % 1000000000)) = wq at *
        have fy2 := hm2.word (i := i) (by omega)
        rw [mix_ge _ _ (Nat.le_refl _), ← Hy.out] at fy2
        have gy2 := hm2.free i
        clear fy gy1
        go_region_with (go_at_call 191; refine (carry_any _ _ Z2.out.1 Z2.out.2).mono ?_; rintro e w' ⟨rfl, rfl⟩)
        go_wp2
        rw [mix_set] at hn2
        have hm3 := hm2.setW' (i := i) (x := wd Y' i) (y := (t + cu + dv) % 1000000000) (by omega) E3.out
        rw [mix_set] at hm3
        go_roundw
        case rel =>
          exact ⟨i + 1, by omega, by go_num, val_i E2.out, val_i E4.out, (hn2.far (p := ⟨gy, i, none⟩) hg _).drew, hm3.drew, (hk2.setCell (p := ⟨gy, i, none⟩) (.inl (by simp)) _).drew⟩
        case measure => simp [intOf]; omega
      · obtain rfl : i = k + 3 := by omega
        have hcx := hn.cnt
        have hcy := hm.cnt
        have hfy := hm.free 229
        have Hlw := Lib.hid hlw; clear hlw
        go_wp2_with fail
        have hX9 : ∀ j, j < 229 → mix (wd X') (wd X) (k + 3) j = wd X' j := fun j _ => by
          by_cases h : j < k + 3
          · rw [mix_lt _ _ h]
          · rw [mix_ge _ _ (by omega), wd_of_lt (Nat.lt_of_lt_of_le hXlt (pow_le (by omega))), wd_of_lt (Nat.lt_of_lt_of_le hX'9 (pow_le (by omega)))]
        have hY9 : ∀ j, j < 229 → mix (wd Y') (wd Y) (k + 3) j = wd Y' j := fun j _ => by
          by_cases h : j < k + 3
          · rw [mix_lt _ _ h]
          · rw [mix_ge _ _ (by omega), wd_of_lt (Nat.lt_of_lt_of_le (Nat.lt_of_le_of_lt hXY hXlt) (pow_le (by omega))), wd_of_lt (Nat.lt_of_lt_of_le (Nat.lt_of_le_of_lt hle hX'9) (pow_le (by omega)))]
        have hm4 := hm.setC' (x := k + 3) (y := (k : Int) + 3) (by omega)
        refine (trim_num gx (k + 3) X' _ false _ (hn.far (p := ⟨gy, 229, none⟩) hg _) (by omega) hX'9 hX9).mono ?_
        rintro e w5 ⟨rfl, hn5, hk5⟩
        have hm5 := hm4.kp hk5 (by simpa using fun e => hg e.symm)
        have k5 := (hkp.setCell (p := ⟨gy, 229, none⟩) (.inl (by simp)) (.int .i64 ((k : Int) + 3))).step hk5 (by simp)
        go_wp2_with fail
        refine (trim_num gy (k + 3) Y' _ false _ hm5 (by omega) (Nat.lt_of_le_of_lt hle hX'9) hY9).mono ?_
        rintro e w6 ⟨rfl, hm6, hk6⟩
        have hn6 : Num w6 gx X' (false && decide (X' ≠ 0)) := ⟨hn5.1.kp hk6 (by simpa using hg), hn5.2⟩
        have k6 := k5.step hk6 (by simp)
        go_wp2
        go_ret
        exact ⟨true, rfl, .inr ⟨rfl, X', Y', hn6, hm6, hgcd, hlt, hle, by rw [hk]; exact hX'9, k6⟩⟩
end Go.Proofs.YtminjcknmhgpiaaGreatDoor
