/- TopNumbersCounted returns true for every input. -/
import Derived.Test.YthjhjgglkooafaaGreatDoorPlay
import Derived.Test.YthjhjgglkooafaaGreatDoorM20
import Derived.Test.YthjhjgglkooafaaGreatDoorM57
import Derived.Test.YthjhjgglkooafaaGreatDoorM51
import Derived.Test.YthjhjgglkooafaaGreatDoorM50
import Derived.Test.YthjhjgglkooafaaGreatDoorSmall
import Derived.Test.YthjhjgglkooafaaGreatDoorM45
import Derived.Test.YthjhjgglkooafaaGreatDoorM47
namespace Go.Proofs.YthjhjgglkooafaaGreatDoor
open Go.RowKit
open Go.Lib (nDigits itoa decDigits)

set_option maxRecDepth 100000 in
set_option maxHeartbeats 4000000 in
theorem counted_no0 (a b : ByteArray) (n : Int) (w : World) (x : Hid (Gw w 4 #[.string a] (.bool false))) (pl : Hid (Gw w 8 #[] (.bool true))) :
    Calls Tryz.prog 3 #[.string a, .int .u8 n, .string b] w fun r0 w' => r0 = .returned (.bool true) ∧ Kp [] w w' := by
  unfold Gw at x pl
  have kk := Kp.refl [] w
  go_enter Tryz.func3, Tryz.ntmps3
  go_wp2_with fail
  with_reducible refine (x.out _ kk).mono ?_
  rintro e w1 ⟨rfl, k⟩
  replace kk := kk.trans k; clear k
  go_wp2_with fail
  with_reducible refine (pl.out _ kk).mono ?_
  rintro e w2 ⟨rfl, k⟩
  replace kk := kk.trans k; clear k
  go_wp2
  go_ret
  exact ⟨rfl, kk⟩

set_option maxRecDepth 100000 in
set_option maxHeartbeats 4000000 in
theorem counted_no1 (a b : ByteArray) (n : Int) (e : Int) (w : World) (s1 : Hid (Gw w 4 #[.string a] (.bool true))) (x : Hid (Gw w 5 #[.string a] (.int .i64 e))) (he2 : (e != 0) = true) (pl : Hid (Gw w 8 #[] (.bool true))) :
    Calls Tryz.prog 3 #[.string a, .int .u8 n, .string b] w fun r0 w' => r0 = .returned (.bool true) ∧ Kp [] w w' := by
  unfold Gw at s1 x pl
  have kk := Kp.refl [] w
  go_enter Tryz.func3, Tryz.ntmps3
  go_wp2_with fail
  with_reducible refine (s1.out _ kk).mono ?_
  rintro e w1 ⟨rfl, k⟩
  replace kk := kk.trans k; clear k
  go_wp2_with fail
  with_reducible refine (x.out _ kk).mono ?_
  rintro e w2 ⟨rfl, k⟩
  replace kk := kk.trans k; clear k
  go_wp2_with fail
  with_reducible refine (pl.out _ kk).mono ?_
  rintro e w3 ⟨rfl, k⟩
  replace kk := kk.trans k; clear k
  go_wp2
  go_ret
  exact ⟨rfl, kk⟩

set_option maxRecDepth 100000 in
set_option maxHeartbeats 4000000 in
theorem counted_no2 (a b : ByteArray) (n : Int) (w : World) (s1 : Hid (Gw w 4 #[.string a] (.bool true))) (c1 : Hid (Gw w 5 #[.string a] (.int .i64 0))) (x : Hid (Gw w 4 #[.string b] (.bool false))) (pl : Hid (Gw w 8 #[] (.bool true))) :
    Calls Tryz.prog 3 #[.string a, .int .u8 n, .string b] w fun r0 w' => r0 = .returned (.bool true) ∧ Kp [] w w' := by
  unfold Gw at s1 c1 x pl
  have kk := Kp.refl [] w
  go_enter Tryz.func3, Tryz.ntmps3
  go_wp2_with fail
  with_reducible refine (s1.out _ kk).mono ?_
  rintro e w1 ⟨rfl, k⟩
  replace kk := kk.trans k; clear k
  go_wp2_with fail
  with_reducible refine (c1.out _ kk).mono ?_
  rintro e w2 ⟨rfl, k⟩
  replace kk := kk.trans k; clear k
  go_wp2_with fail
  with_reducible refine (x.out _ kk).mono ?_
  rintro e w3 ⟨rfl, k⟩
  replace kk := kk.trans k; clear k
  go_wp2_with fail
  with_reducible refine (pl.out _ kk).mono ?_
  rintro e w4 ⟨rfl, k⟩
  replace kk := kk.trans k; clear k
  go_wp2
  go_ret
  exact ⟨rfl, kk⟩

set_option maxRecDepth 100000 in
set_option maxHeartbeats 4000000 in
theorem counted_no3 (a b : ByteArray) (n : Int) (e : Int) (w : World) (s1 : Hid (Gw w 4 #[.string a] (.bool true))) (c1 : Hid (Gw w 5 #[.string a] (.int .i64 0))) (s2 : Hid (Gw w 4 #[.string b] (.bool true))) (x : Hid (Gw w 5 #[.string b] (.int .i64 e))) (he2 : (e != 0) = true) (pl : Hid (Gw w 8 #[] (.bool true))) :
    Calls Tryz.prog 3 #[.string a, .int .u8 n, .string b] w fun r0 w' => r0 = .returned (.bool true) ∧ Kp [] w w' := by
  unfold Gw at s1 c1 s2 x pl
  have kk := Kp.refl [] w
  go_enter Tryz.func3, Tryz.ntmps3
  go_wp2_with fail
  with_reducible refine (s1.out _ kk).mono ?_
  rintro e w1 ⟨rfl, k⟩
  replace kk := kk.trans k; clear k
  go_wp2_with fail
  with_reducible refine (c1.out _ kk).mono ?_
  rintro e w2 ⟨rfl, k⟩
  replace kk := kk.trans k; clear k
  go_wp2_with fail
  with_reducible refine (s2.out _ kk).mono ?_
  rintro e w3 ⟨rfl, k⟩
  replace kk := kk.trans k; clear k
  go_wp2_with fail
  with_reducible refine (x.out _ kk).mono ?_
  rintro e w4 ⟨rfl, k⟩
  replace kk := kk.trans k; clear k
  go_wp2_with fail
  with_reducible refine (pl.out _ kk).mono ?_
  rintro e w5 ⟨rfl, k⟩
  replace kk := kk.trans k; clear k
  go_wp2
  go_ret
  exact ⟨rfl, kk⟩

set_option maxRecDepth 100000 in
set_option maxHeartbeats 4000000 in
theorem counted_no4 (a b : ByteArray) (n : Int) (v : Int) (w : World) (s1 : Hid (Gw w 4 #[.string a] (.bool true))) (c1 : Hid (Gw w 5 #[.string a] (.int .i64 0))) (s2 : Hid (Gw w 4 #[.string b] (.bool true))) (c2 : Hid (Gw w 5 #[.string b] (.int .i64 0))) (x : Hid (Gw w 6 #[.string b] (.int .i64 v))) (hv : v < 0) (pl : Hid (Gw w 8 #[] (.bool true))) :
    Calls Tryz.prog 3 #[.string a, .int .u8 n, .string b] w fun r0 w' => r0 = .returned (.bool true) ∧ Kp [] w w' := by
  unfold Gw at s1 c1 s2 c2 x pl
  have kk := Kp.refl [] w
  go_enter Tryz.func3, Tryz.ntmps3
  go_wp2_with fail
  with_reducible refine (s1.out _ kk).mono ?_
  rintro e w1 ⟨rfl, k⟩
  replace kk := kk.trans k; clear k
  go_wp2_with fail
  with_reducible refine (c1.out _ kk).mono ?_
  rintro e w2 ⟨rfl, k⟩
  replace kk := kk.trans k; clear k
  go_wp2_with fail
  with_reducible refine (s2.out _ kk).mono ?_
  rintro e w3 ⟨rfl, k⟩
  replace kk := kk.trans k; clear k
  go_wp2_with fail
  with_reducible refine (c2.out _ kk).mono ?_
  rintro e w4 ⟨rfl, k⟩
  replace kk := kk.trans k; clear k
  go_wp2_with fail
  with_reducible refine (x.out _ kk).mono ?_
  rintro e w5 ⟨rfl, k⟩
  replace kk := kk.trans k; clear k
  go_wp2_with fail
  with_reducible refine (pl.out _ kk).mono ?_
  rintro e w6 ⟨rfl, k⟩
  replace kk := kk.trans k; clear k
  go_wp2
  go_ret
  exact ⟨rfl, kk⟩

set_option maxRecDepth 100000 in
set_option maxHeartbeats 4000000 in
theorem counted_no5 (a b : ByteArray) (n : Int) (v u : Int) (w : World) (s1 : Hid (Gw w 4 #[.string a] (.bool true))) (c1 : Hid (Gw w 5 #[.string a] (.int .i64 0))) (s2 : Hid (Gw w 4 #[.string b] (.bool true))) (c2 : Hid (Gw w 5 #[.string b] (.int .i64 0))) (sg : Hid (Gw w 6 #[.string b] (.int .i64 v))) (hv0 : ¬ v < 0) (x : Hid (Gw w 7 #[.string b, .string ⟨#[49]⟩] (.int .i64 u))) (hu : 0 < u) (pl : Hid (Gw w 8 #[] (.bool true))) :
    Calls Tryz.prog 3 #[.string a, .int .u8 n, .string b] w fun r0 w' => r0 = .returned (.bool true) ∧ Kp [] w w' := by
  unfold Gw at s1 c1 s2 c2 sg x pl
  have kk := Kp.refl [] w
  go_enter Tryz.func3, Tryz.ntmps3
  go_wp2_with fail
  with_reducible refine (s1.out _ kk).mono ?_
  rintro e w1 ⟨rfl, k⟩
  replace kk := kk.trans k; clear k
  go_wp2_with fail
  with_reducible refine (c1.out _ kk).mono ?_
  rintro e w2 ⟨rfl, k⟩
  replace kk := kk.trans k; clear k
  go_wp2_with fail
  with_reducible refine (s2.out _ kk).mono ?_
  rintro e w3 ⟨rfl, k⟩
  replace kk := kk.trans k; clear k
  go_wp2_with fail
  with_reducible refine (c2.out _ kk).mono ?_
  rintro e w4 ⟨rfl, k⟩
  replace kk := kk.trans k; clear k
  go_wp2_with fail
  with_reducible refine (sg.out _ kk).mono ?_
  rintro e w5 ⟨rfl, k⟩
  replace kk := kk.trans k; clear k
  go_wp2_with fail
  with_reducible refine (x.out _ kk).mono ?_
  rintro e w6 ⟨rfl, k⟩
  replace kk := kk.trans k; clear k
  go_wp2_with fail
  with_reducible refine (pl.out _ kk).mono ?_
  rintro e w7 ⟨rfl, k⟩
  replace kk := kk.trans k; clear k
  go_wp2
  go_ret
  exact ⟨rfl, kk⟩

set_option maxRecDepth 100000 in
set_option maxHeartbeats 4000000 in
theorem counted_core (a b wm t hi top mi bt sm ft : ByteArray) (xo xt : Nat → ByteArray) (ib : Nat → Bool) (fo : Nat → Int) (n m v u c : Int) (w : World) (hn : 0 ≤ n ∧ n ≤ 255) (hm : n % 20 = m)
    (hc : fo 24 = c + 1 ∧ -1 ≤ c ∧ c ≤ 22) (hF : fo 0 = 0 ∧ ∀ j, j < 24 → fo (j + 1) = if ib j = true then fo j + 1 else fo j) (hB : ∀ j, 0 ≤ fo j ∧ fo j ≤ 100)
    (of : Hid (∀ j : Nat, j < 24 → Gw w 16 #[.int .i64 ((j : Int) - 1)] (.string (xo j)))) (lo : Hid (∀ j : Nat, j < 24 → Gw w 13 #[.string ft, .string (xo j)] (.tuple #[.string (xt j), .int .i64 0])))
    (ct : Hid (∀ j : Nat, j < 24 → Gw w 17 #[.agg #[.string a, .string hi], .string (xt j)] (.tuple #[.bool (ib j), .int .i64 0])))
    (s1 : Hid (Gw w 4 #[.string a] (.bool true)))
    (c1 : Hid (Gw w 5 #[.string a] (.int .i64 0)))
    (s2 : Hid (Gw w 4 #[.string b] (.bool true)))
    (c2 : Hid (Gw w 5 #[.string b] (.int .i64 0)))
    (sg : Hid (Gw w 6 #[.string b] (.int .i64 v)))
    (hv0 : ¬ v < 0)
    (od : Hid (Gw w 7 #[.string b, .string ⟨#[49]⟩] (.int .i64 u)))
    (hu : ¬ 0 < u)
    (wh : Hid (Gw w 10 #[.int .i64 m] (.string wm)))
    (p1 : Hid (Gw w 9 #[.string wm, .string b] (.string t)))
    (p2 : Hid (Gw w 9 #[.string a, .string t] (.string hi)))
    (f1 : Hid (Gw w 11 #[.string hi] (.tuple #[.string top, .int .i64 0])))
    (ng : Hid (Gw w 12 #[.string a] (.tuple #[.string mi, .int .i64 0])))
    (f2 : Hid (Gw w 11 #[.string mi] (.tuple #[.string bt, .int .i64 0])))
    (ad : Hid (Gw w 13 #[.string top, .string bt] (.tuple #[.string sm, .int .i64 0])))
    (sl : Hid (Gw w 14 #[.string sm] (.tuple #[.int .i64 c, .int .i64 0])))
    (n2 : Hid (Gw w 15 #[.string bt] (.tuple #[.string ft, .int .i64 0])))
    (pl : Hid (Gw w 8 #[] (.bool true))) :
    Calls Tryz.prog 3 #[.string a, .int .u8 n, .string b] w fun r0 w' => r0 = .returned (.bool true) ∧ Kp [] w w' := by
  obtain ⟨hn0, hn1⟩ := hn
  have HC := Lib.hid hc
  clear hc
  have HF := Lib.hid hF
  clear hF
  unfold Gw at s1 c1 s2 c2 sg od wh p1 p2 f1 ng f2 ad sl n2 pl of lo ct
  have kk := Kp.refl [] w
  go_enter Tryz.func3, Tryz.ntmps3
  go_wp2_with fail
  with_reducible refine (s1.out _ kk).mono ?_
  rintro e w1 ⟨rfl, k⟩
  replace kk := kk.trans k; clear k s1
  go_wp2_with fail
  with_reducible refine (c1.out _ kk).mono ?_
  rintro e w2 ⟨rfl, k⟩
  replace kk := kk.trans k; clear k c1
  go_wp2_with fail
  with_reducible refine (s2.out _ kk).mono ?_
  rintro e w3 ⟨rfl, k⟩
  replace kk := kk.trans k; clear k s2
  go_wp2_with fail
  with_reducible refine (c2.out _ kk).mono ?_
  rintro e w4 ⟨rfl, k⟩
  replace kk := kk.trans k; clear k c2
  go_wp2_with fail
  with_reducible refine (sg.out _ kk).mono ?_
  rintro e w5 ⟨rfl, k⟩
  replace kk := kk.trans k; clear k sg
  go_wp2_with fail
  with_reducible refine (od.out _ kk).mono ?_
  rintro e w6 ⟨rfl, k⟩
  replace kk := kk.trans k; clear k od
  go_wp2_with fail
  with_reducible refine (wh.out _ kk).mono ?_
  rintro e w7 ⟨rfl, k⟩
  replace kk := kk.trans k; clear k wh
  go_wp2_with fail
  with_reducible refine (p1.out _ kk).mono ?_
  rintro e w8 ⟨rfl, k⟩
  replace kk := kk.trans k; clear k p1
  go_wp2_with fail
  with_reducible refine (p2.out _ kk).mono ?_
  rintro e w9 ⟨rfl, k⟩
  replace kk := kk.trans k; clear k p2
  go_wp2_with fail
  with_reducible refine (f1.out _ kk).mono ?_
  rintro e w10 ⟨rfl, k⟩
  replace kk := kk.trans k; clear k f1
  go_wp2_with fail
  with_reducible refine (ng.out _ kk).mono ?_
  rintro e w11 ⟨rfl, k⟩
  replace kk := kk.trans k; clear k ng
  go_wp2_with fail
  with_reducible refine (f2.out _ kk).mono ?_
  rintro e w12 ⟨rfl, k⟩
  replace kk := kk.trans k; clear k f2
  go_wp2_with fail
  with_reducible refine (ad.out _ kk).mono ?_
  rintro e w13 ⟨rfl, k⟩
  replace kk := kk.trans k; clear k ad
  go_wp2_with fail
  with_reducible refine (sl.out _ kk).mono ?_
  rintro e w14 ⟨rfl, k⟩
  replace kk := kk.trans k; clear k sl
  go_wp2_with fail
  with_reducible refine (n2.out _ kk).mono ?_
  rintro e w15 ⟨rfl, k⟩
  replace kk := kk.trans k; clear k n2
  go_wp2_with fail
  go_loopg [19, 20] 24 (fun gk s19 s20 wr => ∃ j : Nat, s20 = .int .i64 ((j : Int) - 1) ∧ s19 = .int .i64 (fo j) ∧ j + gk = 24 ∧ Kp [] w wr)
  case atStart => exact ⟨0, by go_num, by rw [HF.out.1], by omega, kk⟩
  case round =>
    obtain ⟨j, rfl, rfl, hj, kr⟩ := hrel
    clear kk
    by_cases hlt : j < 24
    · have hstep := HF.out.2 j hlt
      have o1 := Lib.hid (of.out j hlt)
      have o2 := Lib.hid (lo.out j hlt)
      have o3 := Lib.hid (ct.out j hlt)
      obtain ⟨kz, hkz⟩ : ∃ kz : Int, (j : Int) - 1 = kz := ⟨_, rfl⟩
      have hk1 : kz ≤ 22 := by omega
      have hk2 : -1 ≤ kz := by omega
      have HJ : Hid ((j : Int) - 1 = kz) := hkz
      have HS := Lib.hid hstep
      have HLT := Lib.hid hlt
      rw [hkz] at o1
      rw [hkz]
      have hfb := Lib.hid (hB j)
      clear hstep of lo ct hkz
      generalize xo j = x0 at *
      generalize xt j = x1 at *
      cases hi0 : ib j with
      | true =>
        rw [hi0] at o3
        have hfo : Hid (fo (j + 1) = fo j + 1) := by show _ = _; rw [HS.out, hi0, if_pos rfl]
        have hfb0 := hfb.out
        have Hj := Lib.hid hj
        generalize fo j = f0 at *
        clear HS hfb hj hlt hi0
        go_wp2_with fail
        with_reducible refine (o1.out _ kr).mono ?_
        rintro e u1 ⟨rfl, k⟩
        have kr2 := kr.trans k; clear k
        go_wp2_with fail
        with_reducible refine (o2.out _ kr2).mono ?_
        rintro e u2 ⟨rfl, k⟩
        replace kr2 := kr2.trans k; clear k
        go_wp2_with fail
        with_reducible refine (o3.out _ kr2).mono ?_
        rintro e u3 ⟨rfl, k⟩
        replace kr2 := kr2.trans k; clear k
        go_wp2
        have hj := Hj.out
        have hlt := HLT.out
        go_roundg (gk - 1)
        case measure => omega
        case rel => exact ⟨j + 1, by rw [← HJ.out]; go_num, by rw [hfo.out], by omega, kr2⟩
      | false =>
        rw [hi0] at o3
        have hfo : Hid (fo (j + 1) = fo j) := by show _ = _; rw [HS.out, hi0]; simp
        have Hj := Lib.hid hj
        generalize fo j = f0 at *
        clear HS hfb hj hlt hi0
        go_wp2_with fail
        with_reducible refine (o1.out _ kr).mono ?_
        rintro e u1 ⟨rfl, k⟩
        have kr2 := kr.trans k; clear k
        go_wp2_with fail
        with_reducible refine (o2.out _ kr2).mono ?_
        rintro e u2 ⟨rfl, k⟩
        replace kr2 := kr2.trans k; clear k
        go_wp2_with fail
        with_reducible refine (o3.out _ kr2).mono ?_
        rintro e u3 ⟨rfl, k⟩
        replace kr2 := kr2.trans k; clear k
        go_wp2
        have hj := Hj.out
        have hlt := HLT.out
        go_roundg (gk - 1)
        case measure => omega
        case rel => exact ⟨j + 1, by rw [← HJ.out]; go_num, by rw [hfo.out], by omega, kr2⟩
    · obtain rfl : j = 24 := by omega
      have hcc := HC.out.1
      have hc1 := HC.out.2.1
      have hc2 := HC.out.2.2
      rw [hcc]
      clear HC HF of lo ct hj hlt hB hcc
      go_wp2_with fail
      with_reducible refine (pl.out _ kr).mono ?_
      rintro e u1 ⟨rfl, k⟩
      replace kr := kr.trans k; clear k
      go_wp2
      go_ret
      exact ⟨rfl, kr⟩


theorem RS_int_eq (z : Int) : RS (z : Rat) = S z := by
  unfold RS
  rw [if_pos (Rat.den_intCast ..), Rat.num_intCast]
theorem sm_int {k : Nat} {z : Int} (h : z.natAbs < 10 ^ k) (hk : 0 < k) : Sm k (z : Rat) := ⟨by rw [Rat.num_intCast]; exact h, by rw [Rat.den_intCast]; exact Nat.one_lt_pow (by omega) (by omega)⟩
theorem le_floor (z : Int) (q : Rat) : (z : Rat) ≤ q ↔ z ≤ q.num.fdiv (q.den : Int) := by
  obtain ⟨h1, h2⟩ := floor_lo q
  generalize q.num.fdiv (q.den : Int) = f at *
  constructor
  · intro h
    refine Classical.byContradiction fun hn => ?_
    have h3 : f + 1 ≤ z := by omega
    have h4 : ((f + 1 : Int) : Rat) ≤ (z : Rat) := Rat.intCast_le_intCast.2 h3
    rw [Rat.intCast_add] at h4
    grind
  · intro h
    have h4 : (f : Rat) ≤ (z : Rat) → True := fun _ => trivial
    have h5 : ((z : Int) : Rat) ≤ (f : Rat) := Rat.intCast_le_intCast.2 h
    grind
theorem ge_ceil (z : Int) (q : Rat) : q ≤ (z : Rat) ↔ -((-q).num.fdiv ((-q).den : Int)) ≤ z := by
  have h := le_floor (-z) (-q)
  rw [Rat.intCast_neg] at h
  constructor
  · intro h1
    have := h.1 (by grind)
    omega
  · intro h1
    have := h.2 (by omega)
    grind
/-- how many of the first numbers are in a span -/
def cnt (c : Int) (j : Nat) : Int := max 0 (min ((j : Int) - 1) (c + 1))
theorem Counted_any (a b : ByteArray) (n : Int) (w : World) (ha : a.size ≤ 9223372036854775807) (hb : b.size ≤ 9223372036854775807) (n0 : 0 ≤ n) (n1 : n ≤ 255) (hl : Lay w) :
    Calls Tryz.prog 3 #[.string a, .int .u8 n, .string b] w fun r0 w' => r0 = .returned (.bool true) ∧ Kp [] w w' := by
  have pl : Hid (Gw w 8 #[] (.bool true)) := gw_of fun W => play_any W
  have s1 : Hid (Gw w 4 #[.string a] (.bool (shB a))) := gw_of fun W => Short_any a W ha
  have s2 : Hid (Gw w 4 #[.string b] (.bool (shB b))) := gw_of fun W => Short_any b W hb
  have c1 : Hid (Gw w 5 #[.string a] (.int .i64 (spE a))) := ref_check ha
  have c2 : Hid (Gw w 5 #[.string b] (.int .i64 (spE b))) := ref_check hb
  cases ha1 : shB a with
  | false => rw [ha1] at s1; exact counted_no0 a b n w s1 pl
  | true =>
  rw [ha1] at s1
  by_cases ha2 : spE a = 0
  rotate_left
  · exact counted_no1 a b n _ w s1 c1 (bne_iff_ne.2 ha2) pl
  rw [ha2] at c1
  cases hb1 : shB b with
  | false => rw [hb1] at s2; exact counted_no2 a b n w s1 c1 s2 pl
  | true =>
  rw [hb1] at s2
  by_cases hb2 : spE b = 0
  rotate_left
  · exact counted_no3 a b n _ w s1 c1 s2 c2 (bne_iff_ne.2 hb2) pl
  rw [hb2] at c2
  have bad : ∀ x : ByteArray, shB x = true → spE x = 0 → badB x = false := fun x h1 h2 => by unfold badB; rw [h1, h2]; rfl
  obtain ⟨q, rfl, hq⟩ := good_RS (bad a ha1 ha2)
  obtain ⟨r, rfl, hr⟩ := good_RS (bad b hb1 hb2)
  have sg : Hid (Gw w 6 #[.string (RS r)] (.int .i64 (sgR r))) := gw_of fun W => rSignum_c (hr.ok (by omega)) W
  by_cases hr0 : r < 0
  · exact counted_no4 _ _ n _ w s1 c1 s2 c2 sg (by rw [sg_neg hr0]; decide) pl
  have hv0 : ¬ sgR r < 0 := by
    rcases sg3 r with ⟨h, _⟩ | ⟨_, e⟩ | ⟨_, e⟩
    · exact absurd h hr0
    · rw [e]; decide
    · rw [e]; decide
  have od : Hid (Gw w 7 #[.string (RS r), .string ⟨#[49]⟩] (.int .i64 (cmR r 1))) := gw_of fun W => by
    have c := rorder2 hr (sm_lit (q := 1) (by decide)) (by omega) W
    rwa [l_1] at c
  by_cases hr1 : cmR r 1 ≤ 0
  rotate_left
  · exact counted_no5 _ _ n _ _ w s1 c1 s2 c2 sg hv0 od (by omega) pl
  have hr2 : r ≤ 1 := cm_le.1 hr1
  obtain ⟨m, hm⟩ : ∃ m : Int, n % 20 = m := ⟨_, rfl⟩
  have hm0 : 0 ≤ m ∧ m ≤ 19 := by omega
  have sm : Sm 2 ((m : Int) : Rat) := sm_int (by omega) (by omega)
  have st := sm.add hr
  have sh := hq.add st
  have hq2 := hq.neg
  have hm1 : (0 : Rat) ≤ (m : Rat) := by have := Rat.intCast_le_intCast.2 hm0.1; simpa using this
  have hm2 : (m : Rat) ≤ 19 := by have := Rat.intCast_le_intCast.2 hm0.2; simpa using this
  have ht0 : 0 ≤ (m : Rat) + r := by grind
  have ht1 : (m : Rat) + r ≤ 20 := by grind
  obtain ⟨t, ht⟩ : ∃ t, (m : Rat) + r = t := ⟨_, rfl⟩
  obtain ⟨hi, hhi⟩ : ∃ hi, q + t = hi := ⟨_, rfl⟩
  have hle : q ≤ hi := by grind
  obtain ⟨F1, hF1⟩ : ∃ z, hi.num.fdiv (hi.den : Int) = z := ⟨_, rfl⟩
  obtain ⟨F2, hF2⟩ : ∃ z, (-q).num.fdiv ((-q).den : Int) = z := ⟨_, rfl⟩
  have g1 := floor_lo hi
  have g2 := floor_lo (-q)
  have z1 : F1.natAbs < 10 ^ 64 := by rw [← hF1]; exact Nat.lt_of_le_of_lt (floor_abs hi) (by rw [← hhi, ← ht]; exact (sh.mono (by omega : 30 + (2 + 30 + 1) + 1 ≤ 64)).1)
  have z2 : F2.natAbs < 10 ^ 30 := by rw [← hF2]; exact Nat.lt_of_le_of_lt (floor_abs (-q)) hq2.1
  have le1 := fun z => le_floor z hi
  have ge1 := fun z => ge_ceil z q
  rw [hF1] at g1
  simp only [hF1] at le1
  rw [hF2] at g2
  simp only [hF2] at ge1
  have hc1 : F1 + F2 ≤ 20 := by
    have h1 : ((F1 + F2 : Int) : Rat) ≤ ((20 : Int) : Rat) := by rw [Rat.intCast_add]; have : ((20 : Int) : Rat) = 20 := rfl; grind
    exact Rat.intCast_le_intCast.1 h1
  have hc0 : -2 < F1 + F2 := by
    have h1 : ((-2 : Int) : Rat) < ((F1 + F2 : Int) : Rat) := by rw [Rat.intCast_add]; have : ((-2 : Int) : Rat) = -2 := rfl; grind
    exact Rat.intCast_lt_intCast.1 h1
  have ok1 : Ok F1 := ok_pow z1 (by omega)
  have ok2 : Ok F2 := ok_pow z2 (by omega)
  have ok3 : Ok (F1 + F2) := ok_pow (k := 2) (by omega) (by omega)
  have p64 : (10 : Nat) ^ 30 + 100 < 10 ^ 64 := by decide
  have okx : ∀ j : Nat, j < 24 → (-F2 + ((j : Int) - 1)).natAbs < 10 ^ 64 := fun j hj => by omega
  have hsmh : Sm 64 hi := by rw [← hhi, ← ht]; exact sh.mono (by omega)
  refine counted_core (RS q) (RS r) (RS (m : Rat)) (RS t) (RS hi) (S F1) (RS (-q)) (S F2) (S (F1 + F2)) (S (-F2)) (fun j => S ((j : Int) - 1)) (fun j => S (-F2 + ((j : Int) - 1))) (fun j => decide (q ≤ ((-F2 + ((j : Int) - 1) : Int) : Rat)) && decide (((-F2 + ((j : Int) - 1) : Int) : Rat) ≤ hi)) (cnt (F1 + F2)) n m (sgR r) (cmR r 1) (F1 + F2) w ⟨n0, n1⟩ hm
    ?_ ?_ ?_ ?_ ?_ ?_ s1 c1 s2 c2 sg hv0 od (by omega) ?_ ?_ ?_ ?_ ?_ ?_ ?_ ?_ ?_ pl
  · unfold cnt; omega
  · refine ⟨by unfold cnt; omega, fun j hj => ?_⟩
    have e : (decide (q ≤ ((-F2 + ((j : Int) - 1) : Int) : Rat)) && decide (((-F2 + ((j : Int) - 1) : Int) : Rat) ≤ hi)) = (decide (-F2 ≤ -F2 + ((j : Int) - 1)) && decide (-F2 + ((j : Int) - 1) ≤ F1)) := by
      simp only [ge1, le1]
    rw [e]
    unfold cnt
    by_cases h1 : -F2 ≤ -F2 + ((j : Int) - 1) <;> by_cases h2 : -F2 + ((j : Int) - 1) ≤ F1
    · rw [decide_eq_true h1, decide_eq_true h2, if_pos (by decide)]; omega
    · rw [decide_eq_false h2, Bool.and_false, if_neg (by decide)]; omega
    · rw [decide_eq_false h1, Bool.false_and, if_neg (by decide)]; omega
    · rw [decide_eq_false h1, Bool.false_and, if_neg (by decide)]; omega
  · intro j; unfold cnt; omega
  · exact fun j hj W k => Of_any _ W (by unfold InI; omega) (hl.kp k)
  · exact fun j hj W _ => addS _ _ W ok2.neg (ok_pow (k := 2) (by omega) (by omega)) (ok_pow (okx j hj) (by omega))
  · intro j hj W _
    have c := contains_c (j := 64) (hq.mono (by omega)) hsmh (sm_int (okx j hj) (by omega)) (by omega) hle W
    rwa [RS_int_eq] at c
  · exact gw_of fun W => by
      have c := rwhole_any m W (by unfold I64; omega)
      rwa [← RS_int_eq] at c
  · exact gw_of fun W => by rw [← ht]; exact rplus2 sm hr (by omega) W
  · exact gw_of fun W => by rw [← hhi, ← ht]; exact rplus2 hq st (by omega) W
  · exact gw_of fun W => by
      have c := floor_c hsmh (by omega) W
      rwa [hF1] at c
  · exact gw_of fun W => neg_c hq (by omega) W
  · exact gw_of fun W => by
      have c := floor_c hq2 (by omega) W
      rwa [hF2] at c
  · exact gw_of fun W => addS _ _ W ok1 ok2 ok3
  · refine fun W k => ?_
    have c := Small_any (S (F1 + F2)) W (Nat.le_trans ok3.size (by omega)) (hl.kp k)
    have hi : InI (F1 + F2) := by unfold InI; omega
    have e1 : smV (S (F1 + F2)) = F1 + F2 := by unfold smV; rw [valS_S, if_pos ⟨chk_S0 ok3, hi⟩]
    have e2 : smE (S (F1 + F2)) = 0 := by unfold smE; rw [valS_S, if_pos (chk_S0 ok3), if_pos hi]
    rwa [e1, e2] at c
  · exact gw_same fun W => negS _ W ok2

end Go.Proofs.YthjhjgglkooafaaGreatDoor
