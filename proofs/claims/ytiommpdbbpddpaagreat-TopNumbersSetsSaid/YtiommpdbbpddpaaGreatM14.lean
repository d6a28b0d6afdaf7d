/- Texts Carry, Steps, Heads, Leap: each says in its own first comment what it proves. -/
import Derived.Test.YtiommpdbbpddpaaGreatM02
import Derived.OwnWalk
import Derived.OneCell
import Derived.Deep.RegionWith
/- Walks over whole.carry and whole.steps. -/
namespace Go.Proofs.YtiommpdbbpddpaaGreat
open Go.RowKit

theorem tdiv_floor (z : Int) : (z.tdiv 1000000000 * 1000000000 ≤ z ∧ z.tdiv 1000000000 = z / 1000000000) ∨ (z < z.tdiv 1000000000 * 1000000000 ∧ z.tdiv 1000000000 - 1 = z / 1000000000) := by
  rcases Int.lt_or_le z 0 with h | h
  · have e : z.tdiv 1000000000 = -((-z) / 1000000000) := by
      rw [← Int.tdiv_eq_ediv_of_nonneg (show 0 ≤ -z by omega), Int.neg_tdiv]; omega
    rw [e]; omega
  · left
    rw [Int.tdiv_eq_ediv_of_nonneg h]; omega
theorem ret_uw {a b c d : Int} (h1 : a = c) (h2 : b = d) : Ending.returned (.tuple #[.int .u32 a, .int .i64 b]) = Ending.returned (.tuple #[.int .u32 c, .int .i64 d]) := by rw [h1, h2]

set_option maxHeartbeats 1000000 in
theorem carry_any (z : Int) (w : World) (h1 : -4000000000000000000 ≤ z) (h2 : z ≤ 4000000000000000000) :
    Calls Tryz.prog 159 #[.int .i64 z] w fun e w' => e = .returned (.tuple #[.int .u32 (z % 1000000000), .int .i64 (z / 1000000000)]) ∧ w = w' := by
  obtain ⟨n, hn⟩ : ∃ n, z.tdiv 1000000000 = n := ⟨_, rfl⟩
  have hf := tdiv_floor z
  rw [hn] at hf
  rcases hf with ⟨a1, a2⟩ | ⟨a1, a2⟩
  · have Ha := Lib.hid a2
    have b1 : -4000000001 ≤ n := by omega
    have b2 : n ≤ 4000000001 := by omega
    have b3 : ¬ z < n * 1000000000 := by omega
    have b4 : z - n * 1000000000 < 1000000000 := by omega
    have b5 : 0 ≤ z - n * 1000000000 := by omega
    clear a1 a2
    go_enter Tryz.func159, Tryz.ntmps159
    go_wp2
    go_ret2
    exact ⟨ret_uw (by have := Ha.out; omega) Ha.out, rfl⟩
  · have Ha := Lib.hid a2
    have b1 : -4000000001 ≤ n := by omega
    have b2 : n ≤ 4000000001 := by omega
    have b4 : z - (n - 1) * 1000000000 < 1000000000 := by omega
    have b5 : 0 ≤ z - (n - 1) * 1000000000 := by omega
    clear a2
    go_enter Tryz.func159, Tryz.ntmps159
    go_wp2
    go_ret2
    exact ⟨ret_uw (by have := Ha.out; omega) Ha.out, rfl⟩
end Go.Proofs.YtiommpdbbpddpaaGreat

/- Walk over whole.steps: the factors of Lehmer's steps. -/
namespace Go.Proofs.YtiommpdbbpddpaaGreat
open Go.RowKit

theorem results_tmp4 {fn : Func} {t u v x : Tmp} (h : fn.results = #[.tmp t, .tmp u, .tmp v, .tmp x]) (tmps : Array Value) (P : Program) (w : World) :
    (results fn tmps).run P w = .ok (.tuple #[tmps.getD t undef, tmps.getD u undef, tmps.getD v undef, tmps.getD x undef]) w := by
  simp [results, h]

/-- what holds of the factors at each round -/
structure Lr (x0 y0 : Int) (x y a b c d : Int) : Prop where
  lm : ∃ e, Lm x0 y0 e x y a b c d
  ls : b = 0 ∨ Ls y0 x y a b c d
  ba : -1000000000 ≤ a ∧ a ≤ 1000000000
  bb : -1000000000 ≤ b ∧ b ≤ 1000000000
  bc : -1000000000 ≤ c ∧ c ≤ 1000000000
  bd : -1000000000 ≤ d ∧ d ≤ 1000000000
  rx : -1000000000 ≤ x ∧ x ≤ 2000000000000000000
  ry : -1000000000 ≤ y ∧ y ≤ 2000000000000000000
theorem Lr.start {x0 y0 : Int} (h : y0 ≤ x0) (h0 : 0 ≤ y0) (hx : x0 < 1000000000000000000) : Lr x0 y0 x0 y0 1 0 0 1 :=
  ⟨⟨true, Lm.start h h0⟩, .inl rfl, by omega, by omega, by omega, by omega, by omega, by omega⟩
/-- the next round -/
theorem Lr.step {x0 y0 x y a b c d q : Int} (h : Lr x0 y0 x y a b c d) (h0 : y0 ≤ x0) (hx0 : x0 < 1000000000000000000) (hc : y + c ≠ 0) (hd : y + d ≠ 0)
    (q1 : (x + a) / (y + c) = q) (q2 : (x + b) / (y + d) = q) :
    Lr x0 y0 y (x - q * y) c d (a - q * c) (b - q * d) ∧ (x - q * y) + (a - q * c) < y + c := by
  obtain ⟨⟨e, lm⟩, _, ba, bb, bc, bd, rx, ry⟩ := h
  obtain ⟨l2, s2⟩ := lm.step h0 hc hd q1 q2
  have hb := l2.bound s2 h0 (M := 1000000000) (by omega) (by omega)
  have hp3 := l2.p3
  have hu3 := l2.u3
  refine ⟨⟨⟨_, l2⟩, .inr s2, bc, bd, ⟨hb.1, hb.2.1⟩, ⟨hb.2.2.1, hb.2.2.2⟩, ry, ?_⟩, s2.s1⟩
  omega

set_option maxRecDepth 100000 in
set_option maxHeartbeats 4000000 in
theorem steps_any (x0 y0 : Int) (w : World) (h0 : 0 ≤ y0) (h : y0 ≤ x0) (hx : x0 < 1000000000000000000) :
    Calls Tryz.prog 157 #[.int .i64 x0, .int .i64 y0] w fun e w' => ∃ x y a b c d, e = .returned (.tuple #[.int .i64 a, .int .i64 b, .int .i64 c, .int .i64 d]) ∧ Lr x0 y0 x y a b c d ∧ w = w' := by
  have hst := Lib.hid (Lr.start h h0 hx)
  go_enter Tryz.func157, Tryz.ntmps157
  go_wp2
  go_loopw [0, 1, 4, 5, 6, 7] (fun s0 s1 s4 s5 s6 s7 wr => ∃ x y a b c d : Int, s0 = .int .i64 x ∧ s1 = .int .i64 y ∧ s4 = .int .i64 a ∧ s5 = .int .i64 b ∧ s6 = .int .i64 c ∧ s7 = .int .i64 d ∧ Hid (Lr x0 y0 x y a b c d) ∧ w = wr)
    (fun _ s1 _ _ s6 _ _ => (intOf s1 + intOf s6).toNat)
  case atStart => exact ⟨x0, y0, 1, 0, 0, 1, rfl, rfl, rfl, rfl, rfl, rfl, hst, rfl⟩
  case round =>
    obtain ⟨x, y, a, b, c, d, rfl, rfl, rfl, rfl, rfl, rfl, hlr, rfl⟩ := hrel
    obtain ⟨⟨a1, a2⟩, ⟨b1, b2⟩, ⟨c1, c2⟩, ⟨d1, d2⟩, ⟨x1, x2⟩, ⟨y1, y2⟩⟩ : (-1000000000 ≤ a ∧ a ≤ 1000000000) ∧ (-1000000000 ≤ b ∧ b ≤ 1000000000) ∧ (-1000000000 ≤ c ∧ c ≤ 1000000000) ∧ (-1000000000 ≤ d ∧ d ≤ 1000000000) ∧ (-1000000000 ≤ x ∧ x ≤ 2000000000000000000) ∧ (-1000000000 ≤ y ∧ y ≤ 2000000000000000000) :=
      ⟨hlr.out.ba, hlr.out.bb, hlr.out.bc, hlr.out.bd, hlr.out.rx, hlr.out.ry⟩
    obtain ⟨p1, p2, p3, p4⟩ : 0 ≤ x + a ∧ 0 ≤ x + b ∧ 0 ≤ y + c ∧ 0 ≤ y + d := by obtain ⟨e, l⟩ := hlr.out.lm; exact ⟨l.p1, l.p2, l.p3, l.p4⟩
    by_cases hc : y + c = 0
    · have hc1 : (y + c != 0) = false := by simp [hc]
      clear hc
      go_wp2
      refine bodyPost_ret (results_tmp4 rfl _ _ _) rfl ?_
      exact ⟨x, y, a, b, c, d, rfl, hlr.out, rfl⟩
    · have hc1 : (y + c != 0) = true := by simp [hc]
      by_cases hd : y + d = 0
      · have hd1 : (y + d != 0) = false := by simp [hd]
        clear hd hc
        go_wp2
        refine bodyPost_ret (results_tmp4 rfl _ _ _) rfl ?_
        exact ⟨x, y, a, b, c, d, rfl, hlr.out, rfl⟩
      · have hd1 : (y + d != 0) = true := by simp [hd]
        have hcp : 0 < y + c := by omega
        have hdp : 0 < y + d := by omega
        obtain ⟨q, hq⟩ : ∃ q, (x + a) / (y + c) = q := ⟨_, rfl⟩
        obtain ⟨r, hr⟩ : ∃ r, (x + b) / (y + d) = r := ⟨_, rfl⟩
        have hq1 : (x + a).tdiv (y + c) = q := by rw [Int.tdiv_eq_ediv_of_nonneg p1]; exact hq
        have hr1 : (x + b).tdiv (y + d) = r := by rw [Int.tdiv_eq_ediv_of_nonneg p2]; exact hr
        have hq0 : 0 ≤ q := by rw [← hq]; exact Int.ediv_nonneg p1 p3
        have hr0 : 0 ≤ r := by rw [← hr]; exact Int.ediv_nonneg p2 p4
        have hq2 : q ≤ 2000000001000000000 := by rw [← hq]; exact Int.le_trans (Int.ediv_le_self _ p1) (by omega)
        have hr2 : r ≤ 2000000001000000000 := by rw [← hr]; exact Int.le_trans (Int.ediv_le_self _ p2) (by omega)
        by_cases hqr : q = r
        · subst hqr
          have hn := Lr.step hlr.out h hx hc hd hq hr
          obtain ⟨pc, hpc⟩ : ∃ pc, q * c = pc := ⟨_, rfl⟩
          obtain ⟨pd, hpd⟩ : ∃ pd, q * d = pd := ⟨_, rfl⟩
          obtain ⟨py, hpy⟩ : ∃ py, q * y = py := ⟨_, rfl⟩
          rw [hpc, hpd, hpy] at hn
          obtain ⟨⟨m1, m2⟩, ⟨n1, n2⟩, ⟨o1, o2⟩⟩ : (-1000000000 ≤ a - pc ∧ a - pc ≤ 1000000000) ∧ (-1000000000 ≤ b - pd ∧ b - pd ≤ 1000000000) ∧ (-1000000000 ≤ x - py ∧ x - py ≤ 2000000000000000000) := ⟨hn.1.bc, hn.1.bd, hn.1.ry⟩
          have Hn1 := Lib.hid hn.1
          have hn2 := hn.2
          have hqr1 : (q != q) = false := by simp
          have hp31 := Hn1.out.lm
          have hp3 : 0 ≤ x - py + (a - pc) := by obtain ⟨_, l⟩ := hp31; exact l.p3
          clear hn hp31 hq hr hc hd
          go_wp2
          go_roundw
          case rel => exact ⟨_, _, _, _, _, _, rfl, rfl, rfl, rfl, rfl, rfl, Hn1, trivial⟩
          case measure => simp [intOf]; omega
        · have hqr1 : (q != r) = true := by simp [hqr]
          clear hq hr hc hd hqr
          go_wp2
          refine bodyPost_ret (results_tmp4 rfl _ _ _) rfl ?_
          exact ⟨x, y, a, b, c, d, rfl, hlr.out, rfl⟩
end Go.Proofs.YtiommpdbbpddpaaGreat

/- Walk over whole.heads: the leading digits of two numbers. -/
namespace Go.Proofs.YtiommpdbbpddpaaGreat
open Go.RowKit

theorem sl_part (g lo hi : Nat) (h1 : lo ≤ hi) (h2 : hi ≤ 229) (h5 : lo < 229) (w : World) :
    (Instr.sliceAt 146 (.pointer (some ⟨g, 0, none⟩)) (some (.int .i64 (lo : Int))) (some (.int .i64 (hi : Int))) none).run Tryz.prog w = .ok (.slice (some ⟨g, lo, none⟩) (hi - lo) (229 - lo)) w := by
  have h3 : (0 : Int) ≤ (hi : Int) ∧ (hi : Int) ≤ (229 : Nat) := by omega
  have h4 : (0 : Int) ≤ (lo : Int) ∧ (lo : Int) ≤ (hi : Int) := by omega
  simp [Instr.sliceAt, run_underlying Tryz.underlying146, Instr.sliceBounds, Instr.sliceBound, asIntOf, go_sem, h3, h4]
  rw [if_pos h2, if_pos h1, if_neg (by omega)]

/-- the 18 leading digits -/
theorem head_val {Z k P D : Nat} (hZ : Z < B9 ^ (k + 3)) (hPD : P * D = B9) : Z / (B9 ^ k * D) = (wd Z (k + 2) * B9 + wd Z (k + 1)) * P + wd Z k * P / B9 := by
  have hD : 0 < D := by
    rcases Nat.eq_zero_or_pos D with h | h
    · rw [h, Nat.mul_zero] at hPD; exact absurd hPD (by decide)
    · exact h
  have hP : 0 < P := by
    rcases Nat.eq_zero_or_pos P with h | h
    · rw [h, Nat.zero_mul] at hPD; exact absurd hPD (by decide)
    · exact h
  rw [← Nat.div_div_eq_div_mul, lead_U hZ]
  have e1 : wd Z k * P / B9 = wd Z k / D := by rw [← hPD, Nat.mul_comm P D, Nat.mul_div_mul_right _ _ hP]
  rw [e1]
  have e2 : (wd Z (k + 2) * B9 + wd Z (k + 1)) * B9 = D * ((wd Z (k + 2) * B9 + wd Z (k + 1)) * P) := by
    generalize wd Z (k + 2) * B9 + wd Z (k + 1) = t
    rw [← hPD, Nat.mul_comm P D, Nat.mul_left_comm]
  rw [e2, Nat.mul_add_div hD]
theorem head_lt {X k P D : Nat} (hX : X < B9 ^ (k + 3)) (hPD : P * D = B9) (ht : wd X (k + 2) * P < B9) : X / (B9 ^ k * D) < B9 * B9 := by
  have hD : wd X (k + 2) < D := by
    rw [← hPD, Nat.mul_comm P D] at ht
    exact Nat.lt_of_mul_lt_mul_right ht
  have hD0 : 0 < D := by omega
  refine (Nat.div_lt_iff_lt_mul (Nat.mul_pos (B9p_pos k) hD0)).2 ?_
  have h1 : X < (wd X (k + 2) + 1) * B9 ^ (k + 2) := by
    rw [wd_top_eq hX]
    have h4 := Nat.div_add_mod X (B9 ^ (k + 2))
    have h5 := Nat.mod_lt X (B9p_pos (k + 2))
    rw [Nat.add_mul, Nat.mul_comm (X / _)]
    generalize X % B9 ^ (k + 2) = r at *
    omega
  refine Nat.lt_of_lt_of_le h1 (Nat.le_trans (Nat.mul_le_mul_right _ (show wd X (k + 2) + 1 ≤ D from hD)) ?_)
  rw [Nat.pow_add B9 k 2, show B9 ^ 2 = B9 * B9 from by rw [Nat.pow_succ, Nat.pow_one], Nat.mul_comm, Nat.mul_right_comm, Nat.mul_comm (B9 ^ k * _)]
  exact Nat.le_of_eq (by rw [Nat.mul_assoc, Nat.mul_comm])

set_option maxRecDepth 100000 in
set_option maxHeartbeats 4000000 in
theorem head_core (g bx bp gx k P w2 w1 w0 A1 A0 : Nat) (w : World)
    (hc : w.cell? ⟨gx, 229, none⟩ = some (.int .i64 ((k + 3 : Nat) : Int))) (hbx : w.cell? ⟨bx, 0, none⟩ = some (.pointer (some ⟨gx, 0, none⟩))) (hbp : w.cell? ⟨bp, 0, none⟩ = some (.int .i64 (P : Int)))
    (f2 : w.cell? ⟨g, k + 2, none⟩ = some (.int .u32 (w2 : Int))) (f1 : w.cell? ⟨g, k + 1, none⟩ = some (.int .u32 (w1 : Int))) (f0 : w.cell? ⟨g, k, none⟩ = some (.int .u32 (w0 : Int)))
    (hk : k ≤ 226) (l2 : w2 < 1000000000) (l1 : w1 < 1000000000) (l0 : w0 < 1000000000) (_hP : P ≤ 1000000000)
    (hA1 : ((w2 : Int) * 1000000000 + (w1 : Int)) * (P : Int) = (A1 : Int)) (hA0 : (w0 : Int) * (P : Int) = (A0 : Int)) (h1 : A1 < 1000000000000000000) (h0 : A0 < 1000000000000000000) :
    Calls Tryz.prog 163 #[.pointer (some ⟨g, 0, none⟩), .pointer (some ⟨bx, 0, none⟩), .pointer (some ⟨bp, 0, none⟩)] w fun e w' => ∃ n, e = .returned (.int .i64 ((A1 + A0 / 1000000000 : Nat) : Int)) ∧ w' = w.drewN n := by
  have hsl := fun W => sl_part g k (k + 3) (by omega) (by omega) (by omega) W
  rw [show ((k + 3 : Nat) : Int) = (k : Int) + 3 by omega, show k + 3 - k = 3 by omega] at hsl
  have ht : (A0 : Int).tdiv 1000000000 = ((A0 / 1000000000 : Nat) : Int) := by rw [Int.tdiv_eq_ediv_of_nonneg (by omega)]; rfl
  obtain ⟨Q, hQ⟩ : ∃ Q, Q = A0 / 1000000000 := ⟨_, rfl⟩
  rw [← hQ] at ht ⊢
  have hQ1 : Q < 1000000000 := by omega
  clear hQ
  go_enter Tryz.func163, Tryz.ntmps163
  go_wp2
  go_quiet (fail)
  go_wp2
  go_quiet (fail)
  go_wp2
  go_ret
  exact ⟨_, by rw [Int.natCast_add]; rfl, World.drewN_drewN _ _ _⟩

theorem head_any (g bx bp gx Z cx k P D : Nat) (m : Bool) (w : World) (hZ : NumF w g (wd Z) cx m) (hZ' : Z < B9 ^ (k + 3)) (hk : k ≤ 226)
    (hc : w.cell? ⟨gx, 229, none⟩ = some (.int .i64 ((k + 3 : Nat) : Int))) (hbx : w.cell? ⟨bx, 0, none⟩ = some (.pointer (some ⟨gx, 0, none⟩))) (hbp : w.cell? ⟨bp, 0, none⟩ = some (.int .i64 (P : Int)))
    (hPD : P * D = B9) (hlt : Z / (B9 ^ k * D) < B9 * B9) :
    Calls Tryz.prog 163 #[.pointer (some ⟨g, 0, none⟩), .pointer (some ⟨bx, 0, none⟩), .pointer (some ⟨bp, 0, none⟩)] w fun e w' => ∃ n, e = .returned (.int .i64 ((Z / (B9 ^ k * D) : Nat) : Int)) ∧ w' = w.drewN n := by
  have hv := head_val hZ' hPD
  have hP : P ≤ 1000000000 := by
    have hD : 0 < D := by
      rcases Nat.eq_zero_or_pos D with h | h
      · rw [h, Nat.mul_zero] at hPD; exact absurd hPD (by decide)
      · exact h
    have := Nat.le_mul_of_pos_right P hD
    rw [hPD] at this; exact this
  rw [hv] at hlt ⊢
  have h0 : wd Z k * P ≤ 999999999 * 1000000000 := Nat.mul_le_mul (by have := wd_lt Z k; omega) hP
  have hbb : B9 * B9 = 1000000000000000000 := rfl
  rw [hbb] at hlt
  exact head_core g bx bp gx k P _ _ _ _ _ w hc hbx hbp (hZ.word (by omega)) (hZ.word (by omega)) (hZ.word (by omega)) hk (wd_lt _ _) (wd_lt _ _) (wd_lt _ _) hP (by simp [B9]) (by simp)
    (Nat.lt_of_le_of_lt (Nat.le_add_right _ _) hlt) (by omega)

theorem wrap64_in {z : Int} (h : -9223372036854775808 ≤ z ∧ z ≤ 9223372036854775807) : wrap64 z = z := by
  unfold wrap64; omega
set_option maxRecDepth 100000 in
set_option maxHeartbeats 4000000 in
theorem heads_any (gx gy X Y k : Nat) (mx my : Bool) (w : World) (hX : Num w gx X mx) (hY : Num w gy Y my) (hXY : Y ≤ X) (hk : nw X = k + 3) :
    Calls Tryz.prog 158 #[.pointer (some ⟨gx, 0, none⟩), .pointer (some ⟨gy, 0, none⟩)] w fun e w' => ∃ S : Nat, 0 < S ∧ X / S < B9 * B9 ∧ (X / S + 1) * S ≤ B9 ^ (k + 3) ∧ e = .returned (.tuple #[.int .i64 ((X / S : Nat) : Int), .int .i64 ((Y / S : Nat) : Int)]) ∧ Kp [] w w' := by
  have hcx := hX.1.cnt
  rw [hk] at hcx
  have hk226 : k ≤ 226 := by have := nw_le hX.2; omega
  have htop := hX.1.word (i := k + 2) (by omega)
  have ht1 : 1 ≤ wd X (k + 2) := by have := wd_top (A := X) (by omega); rw [hk] at this; exact Nat.pos_of_ne_zero this
  have ht9 := wd_lt X (k + 2)
  have hXlt : X < B9 ^ (k + 3) := by have := lt_pow_nw X; rwa [hk] at this
  have hlx := hX.1.lt
  have hly := hY.1.lt
  obtain ⟨t, ht⟩ : ∃ t, t = wd X (k + 2) := ⟨_, rfl⟩
  rw [← ht] at htop ht1 ht9
  have Ht := Lib.hid ht; clear ht
  go_enter Tryz.func158, Tryz.ntmps158
  go_wp2
  clear hcx htop
  go_loopg [21] 8 (fun gk _ wr => ∃ i : Nat, i + gk = 8 ∧ wr.heap[w.heap.size + 1]? = some (.cells #[.int .i64 ((10 ^ i : Nat) : Int)] 2 (0, 0)) ∧ wr.cell? ⟨w.heap.size, 0, none⟩ = some (.pointer (some ⟨gx, 0, none⟩)) ∧
      Num wr gx X mx ∧ Num wr gy Y my ∧ t * 10 ^ i < 1000000000 ∧ Kp [] w wr)
  case atStart =>
    refine ⟨0, rfl, ?_, ?_, ⟨(hX.1.alloc _).alloc _, hX.2⟩, ⟨(hY.1.alloc _).alloc _, hY.2⟩, by omega, ((Kp.refl _ _).alloc _).alloc _⟩
    · have := heap_alloc_new (w.alloc (.cells #[.pointer (some ⟨gx, 0, none⟩)] 151)) (.cells #[.int .i64 1] 2)
      rwa [World.size_alloc] at this
    · go_simp
  case round =>
    obtain ⟨i, hi, hbp, hbx, hX2, hY2, hti, hkp⟩ := hrel
    have hcx := hX2.1.cnt
    rw [hk] at hcx
    have htop := hX2.1.word (i := k + 2) (by omega)
    rw [← Ht.out] at htop
    have hcp := cell_of_one hbp
    have hfp := free_of_one hbp
    obtain ⟨P, hP⟩ : ∃ P, P = 10 ^ i := ⟨_, rfl⟩
    rw [← hP] at hcp hti hbp
    have hP1 : 1 ≤ P := by rw [hP]; exact Nat.one_le_pow _ _ (by decide)
    have hP9 : P < 1000000000 := Nat.lt_of_le_of_lt (Nat.le_mul_of_pos_left P (by omega : 0 < t)) hti
    obtain ⟨z, hz⟩ : ∃ z, z = t * P := ⟨_, rfl⟩
    have hz1 : (t : Int) * (P : Int) = (z : Int) := by rw [hz]; simp
    rw [← hz] at hti
    have Hz := Lib.hid hz; clear hz
    have HP := Lib.hid hP; clear hP
    by_cases hlt : z < 100000000
    · have Hi := Lib.hid hi; clear hi
      have Hbp := Lib.hid hbp; clear hbp
      have hd : decide ((z : Int) < 100000000) = true := decide_eq_true (by omega)
      have hw : wrap64 (z : Int) = (z : Int) := wrap64_in (by omega)
      have Hlt := Lib.hid hlt; have Hti := Lib.hid hti; clear hlt hti
      go_wp2
      go_quiet (fail)
      have Hbx := Lib.hid hbx
      clear hz1 hcx htop hbx
      have HX2 := Lib.hid hX2; clear hX2
      have HY2 := Lib.hid hY2; clear hY2
      have HX := Lib.hid hX; clear hX
      have HY := Lib.hid hY; clear hY
      have Hkp := Lib.hid hkp; clear hkp
      clear hXY hk hXlt hd
      go_wp2
      have hi := Hi.out
      have hi8 : i < 8 := by
        have h1 : 10 ^ i ≤ z := by rw [Hz.out, ← HP.out]; exact Nat.le_mul_of_pos_left P (by omega)
        have h2 : 10 ^ i < 10 ^ 8 := Nat.lt_of_le_of_lt h1 Hlt.out
        exact (Nat.pow_lt_pow_iff_right (by decide)).1 h2
      go_roundg (gk - 1)
      case measure => omega
      case rel =>
        have e1 : ((10 ^ (i + 1) : Nat) : Int) = (P : Int) * 10 := by rw [Nat.pow_succ, ← HP.out]; simp
        refine ⟨i + 1, by omega, ?_, ?_, ⟨(HX2.out.1.drewN nq).far (p := ⟨w.heap.size + 1, 0, none⟩) (by show gx ≠ w.heap.size + 1; omega) _, HX2.out.2⟩, ⟨(HY2.out.1.drewN nq).far (p := ⟨w.heap.size + 1, 0, none⟩) (by show gy ≠ w.heap.size + 1; omega) _, HY2.out.2⟩, ?_, (Hkp.out.drewN nq).setCell (.inr (by show w.heap.size ≤ w.heap.size + 1; omega)) _⟩
        · rw [e1]; exact one_setCell (w := wr.drewN nq) Hbp.out
        · rw [World.cell?_of_block (Below.heap_setCell (wr.drewN nq) ⟨w.heap.size + 1, 0, none⟩ _ w.heap.size (by show w.heap.size ≠ w.heap.size + 1; omega))]
          exact Hbx.out
        · rw [Nat.pow_succ, ← HP.out, ← Nat.mul_assoc, ← Hz.out]; have := Hlt.out; omega
    · have Hi := Lib.hid hi; clear hi
      have Hbp := Lib.hid hbp; clear hbp
      have hd : decide ((z : Int) < 100000000) = false := decide_eq_false (by omega)
      have hw : wrap64 (z : Int) = (z : Int) := wrap64_in (by omega)
      have Hlt := Lib.hid hlt; have Hti := Lib.hid hti; clear hlt hti
      have HX2 := Lib.hid hX2; clear hX2
      have HY2 := Lib.hid hY2; clear hY2
      have HX := Lib.hid hX; clear hX
      have HY := Lib.hid hY; clear hY
      have Hkp := Lib.hid hkp; clear hkp
      go_wp2
      go_quiet (fail)
      clear hz1 htop
      go_wp2_with fail
      have hi := Hi.out
      obtain ⟨D, hD⟩ : ∃ D, P * D = B9 := ⟨10 ^ (9 - i), by rw [HP.out, ← Nat.pow_add, show i + (9 - i) = 9 by omega]; rfl⟩
      have hD0 : 0 < D := by
        rcases Nat.eq_zero_or_pos D with h | h
        · rw [h, Nat.mul_zero] at hD; exact absurd hD (by decide)
        · exact h
      have htP : wd X (k + 2) * P < B9 := by rw [← Ht.out, ← Hz.out]; exact Hti.out
      have hl1 := head_lt hXlt hD htP
      have hYlt : Y < B9 ^ (k + 3) := Nat.lt_of_le_of_lt hXY hXlt
      have hl2 : Y / (B9 ^ k * D) < B9 * B9 := Nat.lt_of_le_of_lt (Nat.div_le_div_right hXY) hl1
      have hs1 : (X / (B9 ^ k * D) + 1) * (B9 ^ k * D) ≤ B9 ^ (k + 3) := by
        have e : B9 ^ (k + 3) = (P * (B9 * B9)) * (B9 ^ k * D) := by
          rw [Nat.pow_add, show B9 ^ 3 = B9 * B9 * B9 from by rw [Nat.pow_succ, Nat.pow_succ, Nat.pow_one]]
          conv => lhs; rw [show B9 * B9 * B9 = B9 * B9 * (P * D) by rw [hD]]
          generalize B9 ^ k = p
          generalize B9 * B9 = u
          rw [Nat.mul_comm p, ← Nat.mul_assoc, Nat.mul_comm u P, Nat.mul_assoc (P * u), Nat.mul_comm D p]
        have h1 : X / (B9 ^ k * D) < P * (B9 * B9) := (Nat.div_lt_iff_lt_mul (Nat.mul_pos (B9p_pos k) hD0)).2 (by rw [← e]; exact hXlt)
        rw [e]
        exact Nat.mul_le_mul_right _ h1
      have qx := head_any gx w.heap.size (w.heap.size + 1) gx X _ k P D mx _ (HX2.out.1.drewN nq) hXlt hk226 hcx hbx hcp hD hl1
      refine qx.mono ?_
      rintro e w2 ⟨n2, rfl, rfl⟩
      go_wp2_with fail
      have qy := head_any gy w.heap.size (w.heap.size + 1) gx Y _ k P D my _ (HY2.out.1.drewN (nq + n2)) hYlt hk226 hcx hbx hcp hD hl2
      refine qy.mono ?_
      rintro e w3 ⟨n3, rfl, rfl⟩
      go_wp2
      go_ret2
      exact ⟨B9 ^ k * D, Nat.mul_pos (B9p_pos k) hD0, hl1, hs1, rfl, Hkp.out.drewN (nq + n2 + n3)⟩
end Go.Proofs.YtiommpdbbpddpaaGreat

/- Walk over whole.leap: many steps of Euclid's algorithm at once. -/
namespace Go.Proofs.YtiommpdbbpddpaaGreat
open Go.RowKit

/-- what goes into word i of a X + b Y -/
def lc (a b : Int) (X Y i : Nat) : Int := (a * ((X % B9 ^ i : Nat) : Int) + b * ((Y % B9 ^ i : Nat) : Int)) / ((B9 ^ i : Nat) : Int)
theorem lc_zero (a b : Int) (X Y : Nat) : lc a b X Y 0 = 0 := by unfold lc; simp [Nat.mod_one]
theorem lc_sum (a b : Int) (X Y i : Nat) : lc a b X Y i + a * (wd X i : Int) + b * (wd Y i : Int) = (a * ((X % B9 ^ (i + 1) : Nat) : Int) + b * ((Y % B9 ^ (i + 1) : Nat) : Int)) / ((B9 ^ i : Nat) : Int) := by
  unfold lc
  have hp : ((B9 ^ i : Nat) : Int) ≠ 0 := by have := B9p_pos i; omega
  rw [mod_succ, mod_succ, Int.natCast_add, Int.natCast_add, Int.natCast_mul, Int.natCast_mul]
  have e : a * (((X % B9 ^ i : Nat) : Int) + ((B9 ^ i : Nat) : Int) * (wd X i : Int)) + b * (((Y % B9 ^ i : Nat) : Int) + ((B9 ^ i : Nat) : Int) * (wd Y i : Int)) =
      (a * ((X % B9 ^ i : Nat) : Int) + b * ((Y % B9 ^ i : Nat) : Int)) + ((B9 ^ i : Nat) : Int) * (a * (wd X i : Int) + b * (wd Y i : Int)) := by
    simp only [Int.mul_add]
    rw [Int.mul_left_comm a, Int.mul_left_comm b]; omega
  rw [e, Int.add_mul_ediv_left _ _ hp]; omega
theorem lc_next (a b : Int) (X Y i : Nat) : (lc a b X Y i + a * (wd X i : Int) + b * (wd Y i : Int)) / 1000000000 = lc a b X Y (i + 1) := by
  rw [lc_sum, Int.ediv_ediv_of_nonneg (by omega)]
  unfold lc
  rw [Nat.pow_succ, Int.natCast_mul]; rfl
theorem lc_word {a b : Int} {X Y Z : Nat} (i : Nat) (hZ : (Z : Int) = a * X + b * Y) : (lc a b X Y i + a * (wd X i : Int) + b * (wd Y i : Int)) % 1000000000 = (wd Z i : Int) := by
  rw [lc_sum]
  have hX := (Nat.mod_add_div X (B9 ^ (i + 1))).symm
  have hY := (Nat.mod_add_div Y (B9 ^ (i + 1))).symm
  have hp : ((B9 ^ i : Nat) : Int) ≠ 0 := by have := B9p_pos i; omega
  have e : (Z : Int) = (a * ((X % B9 ^ (i + 1) : Nat) : Int) + b * ((Y % B9 ^ (i + 1) : Nat) : Int)) + ((B9 ^ i : Nat) : Int) * (1000000000 * (a * ((X / B9 ^ (i + 1) : Nat) : Int) + b * ((Y / B9 ^ (i + 1) : Nat) : Int))) := by
    rw [hZ]
    conv => lhs; rw [hX, hY]
    rw [Int.natCast_add, Int.natCast_add, Int.natCast_mul, Int.natCast_mul, Nat.pow_succ B9 i, Int.natCast_mul (B9 ^ i), show ((B9 : Nat) : Int) = 1000000000 from rfl]
    simp only [Int.mul_add]
    generalize ((X / (B9 ^ i * B9) : Nat) : Int) = u
    generalize ((Y / (B9 ^ i * B9) : Nat) : Int) = v
    generalize ((B9 ^ i : Nat) : Int) = p
    rw [Int.mul_left_comm a, Int.mul_left_comm b, Int.mul_assoc p, Int.mul_assoc p]
    omega
  have ew : ((wd Z i : Nat) : Int) = (Z : Int) / ((B9 ^ i : Nat) : Int) % ((B9 : Nat) : Int) := by unfold wd; rw [Int.natCast_emod, Int.natCast_ediv]
  rw [ew, e, Int.add_mul_ediv_left _ _ hp, show ((B9 : Nat) : Int) = 1000000000 from rfl, Int.add_mul_emod_self_left]
theorem lc_bound {a b : Int} (X Y i : Nat) (ha : -1000000000 ≤ a ∧ a ≤ 1000000000) (hb : -1000000000 ≤ b ∧ b ≤ 1000000000) : -2000000000 ≤ lc a b X Y i ∧ lc a b X Y i ≤ 2000000000 := by
  have hp : (0 : Int) < ((B9 ^ i : Nat) : Int) := by have := B9p_pos i; omega
  have h1 := Nat.mod_lt X (B9p_pos i)
  have h2 := Nat.mod_lt Y (B9p_pos i)
  unfold lc
  generalize X % B9 ^ i = x at *
  generalize Y % B9 ^ i = y at *
  generalize B9 ^ i = p at *
  have k : ∀ {u : Int} {z : Nat}, -1000000000 ≤ u ∧ u ≤ 1000000000 → z < p → -(1000000000 * (p : Int)) ≤ u * (z : Int) ∧ u * (z : Int) ≤ 1000000000 * (p : Int) := by
    intro u z hu hz
    have a1 : (-1000000000) * (z : Int) ≤ u * (z : Int) := Int.mul_le_mul_of_nonneg_right hu.1 (by omega)
    have a2 : u * (z : Int) ≤ 1000000000 * (z : Int) := Int.mul_le_mul_of_nonneg_right hu.2 (by omega)
    omega
  have a1 := k ha h1
  have a2 := k hb h2
  constructor
  · exact Int.le_ediv_of_mul_le hp (by omega)
  · refine Int.ediv_le_of_le_mul hp (by omega)
theorem prod_bound {u : Int} {z : Nat} (hu : -1000000000 ≤ u ∧ u ≤ 1000000000) (hz : z < 1000000000) : -1000000000000000000 ≤ u * (z : Int) ∧ u * (z : Int) ≤ 1000000000000000000 := by
  have a1 : (-1000000000) * (z : Int) ≤ u * (z : Int) := Int.mul_le_mul_of_nonneg_right hu.1 (by omega)
  have a2 : u * (z : Int) ≤ 1000000000 * (z : Int) := Int.mul_le_mul_of_nonneg_right hu.2 (by omega)
  omega

/-- one round of leap writes one word of each number -/
structure LeapWords (a b c d : Int) (X Y X' Y' : Nat) : Prop where
  hX : (X' : Int) = a * X + b * Y
  hY : (Y' : Int) = c * X + d * Y
  ba : -1000000000 ≤ a ∧ a ≤ 1000000000
  bb : -1000000000 ≤ b ∧ b ≤ 1000000000
  bc : -1000000000 ≤ c ∧ c ≤ 1000000000
  bd : -1000000000 ≤ d ∧ d ≤ 1000000000

def LeapPost (gx gy X Y : Nat) (w w' : World) (r : Bool) : Prop :=
  (r = false ∧ Kp [] w w') ∨ (r = true ∧ ∃ X' Y', Num w' gx X' false ∧ Num w' gy Y' false ∧ Nat.gcd X' Y' = Nat.gcd X Y ∧ Y' < Y ∧ Y' ≤ X' ∧ X' < B9 ^ nw X ∧ Kp [gx, gy] w w')

set_option maxRecDepth 100000 in
set_option maxHeartbeats 8000000 in
theorem leap_any (gx gy X Y k : Nat) (w : World) (hX : Num w gx X false) (hY : Num w gy Y false) (hg : gx ≠ gy) (hXY : Y ≤ X) (hk : nw X = k + 3) :
    Calls Tryz.prog 153 #[.pointer (some ⟨gx, 0, none⟩), .pointer (some ⟨gy, 0, none⟩)] w fun e w' => ∃ r, e = .returned (.bool r) ∧ LeapPost gx gy X Y w w' r := by
  have q1 := Lib.hid (heads_any gx gy X Y k false false w hX hY hXY hk)
  have hXlt : X < B9 ^ (k + 3) := by have := lt_pow_nw X; rwa [hk] at this
  have hk226 : k ≤ 226 := by have := nw_le hX.2; omega
  go_enter Tryz.func153, Tryz.ntmps153
  go_wp2_with fail
  refine q1.out.mono ?_
  rintro e w1 ⟨T, hT, hx9, hxT, rfl, hk1⟩
  clear q1
  have hyx : Y / T ≤ X / T := Nat.div_le_div_right hXY
  have q2 := Lib.hid (fun W => steps_any ((X / T : Nat) : Int) ((Y / T : Nat) : Int) W (Int.natCast_nonneg _) (Int.ofNat_le.2 hyx) (Int.ofNat_lt.2 (show X / T < 1000000000000000000 from hx9)))
  go_wp2_with fail
  refine (q2.out _).mono ?_
  rintro e w2 ⟨x1, y1, a, b, c, d, rfl, hlr, rfl⟩
  clear q2
  have Hlr := Lib.hid hlr; clear hlr
  by_cases hb : b = 0
  · have hb1 : (b == 0) = true := by simp [hb]
    clear hb
    go_wp2
    go_ret
    exact ⟨false, rfl, .inl ⟨rfl, hk1⟩⟩
  · have hb1 : (b == 0) = false := by simp [hb]
    obtain ⟨X', Y', hlw, hgcd, hlt, hle, hX'9⟩ : ∃ X' Y' : Nat, LeapWords a b c d X Y X' Y' ∧ Nat.gcd X' Y' = Nat.gcd X Y ∧ Y' < Y ∧ Y' ≤ X' ∧ X' < B9 ^ (k + 3) := by
      obtain ⟨⟨e, lm⟩, ls, ba, bb, bc, bd, _, _⟩ := Hlr.out
      have ls := ls.resolve_left hb
      have hXd := Nat.div_add_mod X T
      have hXm := Nat.mod_lt X hT
      have hYd := Nat.div_add_mod Y T
      have hYm := Nat.mod_lt Y hT
      have ex : ∀ z : Nat, ((z / T : Nat) : Int) * (T : Int) = ((T * (z / T) : Nat) : Int) := fun z => by rw [Int.natCast_mul, Int.mul_comm]
      have m := lm.made (X := (X : Int)) (Y := (Y : Int)) (T := (T : Int)) ls (by omega) (by rw [ex]; omega) (by rw [Int.add_mul, ex]; omega) (by rw [ex]; omega) (by rw [Int.add_mul, ex]; omega)
      have gg := lm.gcd (X := (X : Int)) (Y := (Y : Int))
      obtain ⟨m1, m2, m3, m4⟩ := m
      have hxT' : (((X / T : Nat) : Int) + 1) * (T : Int) ≤ ((B9 ^ (k + 3) : Nat) : Int) := by
        have := hxT
        rw [Nat.add_mul, Nat.mul_comm] at this
        rw [Int.add_mul, ex]; omega
      obtain ⟨X', hX'⟩ := Int.eq_ofNat_of_zero_le (Int.le_trans m1 m3)
      obtain ⟨Y', hY'⟩ := Int.eq_ofNat_of_zero_le m1
      refine ⟨X', Y', ⟨hX'.symm, hY'.symm, ba, bb, bc, bd⟩, ?_, by omega, by omega, by omega⟩
      rw [hX', hY'] at gg
      exact gg
    clear hb
    have hX1 := hX.1.kp hk1 (by simp)
    have hY1 := hY.1.kp hk1 (by simp)
    have hcx := hX1.cnt
    rw [hk] at hcx
    go_wp2
    clear hcx
    go_loopw [9, 10, 31] (fun s9 s10 s31 wr => ∃ i : Nat, i ≤ k + 3 ∧ s31 = .int .i64 i ∧ s9 = .int .i64 (lc a b X Y i) ∧ s10 = .int .i64 (lc c d X Y i) ∧ NumF wr gx (mix (wd X') (wd X) i) (k + 3) false ∧ NumF wr gy (mix (wd Y') (wd Y) i) (nw Y) false ∧ Kp [gx, gy] w wr)
      (fun _ _ i _ => k + 3 - (intOf i).toNat)
    case atStart => exact ⟨0, Nat.zero_le _, rfl, by rw [lc_zero], by rw [lc_zero], by rw [mix_zero, ← hk]; exact hX1, by rw [mix_zero]; exact hY1, hk1.mono (by simp)⟩
    case round =>
      obtain ⟨i, hi, rfl, rfl, rfl, hn, hm, hkp⟩ := hrel
      by_cases hlt2 : i < k + 3
      · have hi229 : (i : Int) < 229 := by omega
        have fx := hn.word (i := i) (by omega)
        have fy := hm.word (i := i) (by omega)
        rw [mix_ge _ _ (Nat.le_refl _)] at fx fy
        have gx1 := hn.free i
        have gy1 := hm.free i
        have l1 := wd_lt X i
        have l2 := wd_lt Y i
        obtain ⟨s1, s2⟩ := lc_bound X Y i hlw.ba hlw.bb
        obtain ⟨t1, t2⟩ := lc_bound X Y i hlw.bc hlw.bd
        have E1 := Lib.hid (lc_word i hlw.hX)
        have E2 := Lib.hid (lc_next a b X Y i)
        have E3 := Lib.hid (lc_word i hlw.hY)
        have E4 := Lib.hid (lc_next c d X Y i)
        obtain ⟨a1, a2⟩ := prod_bound hlw.ba l1
        obtain ⟨b1, b2⟩ := prod_bound hlw.bb l2
        obtain ⟨c1, c2⟩ := prod_bound hlw.bc l1
        obtain ⟨d1, d2⟩ := prod_bound hlw.bd l2
        obtain ⟨s, hs⟩ : ∃ s, s = lc a b X Y i := ⟨_, rfl⟩
        obtain ⟨t, ht⟩ : ∃ t, t = lc c d X Y i := ⟨_, rfl⟩
        rw [← hs] at E1 E2 s1 s2 ⊢
        rw [← ht] at E3 E4 t1 t2 ⊢
        obtain ⟨x, hx⟩ : ∃ x, x = wd X i := ⟨_, rfl⟩
        obtain ⟨y, hy⟩ : ∃ y, y = wd Y i := ⟨_, rfl⟩
        rw [← hx] at E1 E2 E3 E4 a1 a2 c1 c2 fx l1
        rw [← hy] at E1 E2 E3 E4 b1 b2 d1 d2 fy l2
        have Hy := Lib.hid hy
        clear hs ht hx hy
        obtain ⟨au, hau⟩ : ∃ au, a * (x : Int) = au := ⟨_, rfl⟩
        obtain ⟨bv, hbv⟩ : ∃ bv, b * (y : Int) = bv := ⟨_, rfl⟩
        obtain ⟨cu, hcu⟩ : ∃ cu, c * (x : Int) = cu := ⟨_, rfl⟩
        obtain ⟨dv, hdv⟩ : ∃ dv, d * (y : Int) = dv := ⟨_, rfl⟩
        rw [hau] at E1 E2 a1 a2
        rw [hbv] at E1 E2 b1 b2
        rw [hcu] at E3 E4 c1 c2
        rw [hdv] at E3 E4 d1 d2
        have z1 : -4000000000000000000 ≤ s + au + bv ∧ s + au + bv ≤ 4000000000000000000 := by omega
        have z2 : -4000000000000000000 ≤ t + cu + dv ∧ t + cu + dv ≤ 4000000000000000000 := by omega
        have w1 : IntKind.i64.wrap au = au := IntWalk.i64_in _ (by omega)
        have w2 : IntKind.i64.wrap bv = bv := IntWalk.i64_in _ (by omega)
        have w3 : IntKind.i64.wrap cu = cu := IntWalk.i64_in _ (by omega)
        have w4 : IntKind.i64.wrap dv = dv := IntWalk.i64_in _ (by omega)
        have w5 : IntKind.i64.wrap (s + au) = s + au := IntWalk.i64_in _ (by omega)
        have w6 : IntKind.i64.wrap (s + au + bv) = s + au + bv := IntWalk.i64_in _ (by omega)
        have w7 : IntKind.i64.wrap (t + cu) = t + cu := IntWalk.i64_in _ (by omega)
        have w8 : IntKind.i64.wrap (t + cu + dv) = t + cu + dv := IntWalk.i64_in _ (by omega)
        have Z1 := Lib.hid z1
        have Z2 := Lib.hid z2
        clear a1 a2 b1 b2 c1 c2 d1 d2 z1 z2 s1 s2 t1 t2
        go_wp2
        go_quiet (fail)
        go_wp2
        go_region_with (go_at_call 159; refine (carry_any _ _ Z1.out.1 Z1.out.2).mono ?_; rintro e w' ⟨rfl, rfl⟩)
        go_wp2
        have hn2 := ((hn.drewN (nq + 1)).setW' (i := i) (x := wd X' i) (y := (s + au + bv) % 1000000000) (by omega) E1.out)
        have hm2 := ((hm.drewN (nq + 1)).far (p := ⟨gx, i, none⟩) (fun e => hg e.symm) (.int .u32 ((s + au + bv) % 1000000000)))
        have hk2 : Kp [gx, gy] w _ := (hkp.drewN (nq + 1)).setCell (p := ⟨gx, i, none⟩) (.inl (by simp)) (.int .u32 ((s + au + bv) % 1000000000))
        clear hau hbv w1 w2 w5 w6 fx gx1 hn hm hkp
        generalize (wr.drewN (nq + 1)).setCell ⟨gx, i, none⟩ (.int .u32 ((s + au + bv) % 1000000000)) = wq at *
        have fy2 := hm2.word (i := i) (by omega)
        rw [mix_ge _ _ (Nat.le_refl _), ← Hy.out] at fy2
        have gy2 := hm2.free i
        clear fy gy1
        go_region_with (go_at_call 159; refine (carry_any _ _ Z2.out.1 Z2.out.2).mono ?_; rintro e w' ⟨rfl, rfl⟩)
        go_wp2
        rw [mix_set] at hn2
        have hm3 := hm2.setW' (i := i) (x := wd Y' i) (y := (t + cu + dv) % 1000000000) (by omega) E3.out
        rw [mix_set] at hm3
        go_roundw
        case rel =>
          exact ⟨i + 1, by omega, by go_num, val_i E2.out, val_i E4.out, (hn2.far (p := ⟨gy, i, none⟩) hg _).drew, hm3.drew, (hk2.setCell (p := ⟨gy, i, none⟩) (.inl (by simp)) _).drew⟩
        case measure => simp [intOf]; omega
      · obtain rfl : i = k + 3 := by omega
        have hcx := hn.cnt
        have hcy := hm.cnt
        have hfy := hm.free 229
        have Hlw := Lib.hid hlw; clear hlw
        go_wp2_with fail
        have hX9 : ∀ j, j < 229 → mix (wd X') (wd X) (k + 3) j = wd X' j := fun j _ => by
          by_cases h : j < k + 3
          · rw [mix_lt _ _ h]
          · rw [mix_ge _ _ (by omega), wd_of_lt (Nat.lt_of_lt_of_le hXlt (pow_le (by omega))), wd_of_lt (Nat.lt_of_lt_of_le hX'9 (pow_le (by omega)))]
        have hY9 : ∀ j, j < 229 → mix (wd Y') (wd Y) (k + 3) j = wd Y' j := fun j _ => by
          by_cases h : j < k + 3
          · rw [mix_lt _ _ h]
          · rw [mix_ge _ _ (by omega), wd_of_lt (Nat.lt_of_lt_of_le (Nat.lt_of_le_of_lt hXY hXlt) (pow_le (by omega))), wd_of_lt (Nat.lt_of_lt_of_le (Nat.lt_of_le_of_lt hle hX'9) (pow_le (by omega)))]
        have hm4 := hm.setC' (x := k + 3) (y := (k : Int) + 3) (by omega)
        refine (trim_num gx (k + 3) X' _ false _ (hn.far (p := ⟨gy, 229, none⟩) hg _) (by omega) hX'9 hX9).mono ?_
        rintro e w5 ⟨rfl, hn5, hk5⟩
        have hm5 := hm4.kp hk5 (by simpa using fun e => hg e.symm)
        have k5 := (hkp.setCell (p := ⟨gy, 229, none⟩) (.inl (by simp)) (.int .i64 ((k : Int) + 3))).step hk5 (by simp)
        go_wp2_with fail
        refine (trim_num gy (k + 3) Y' _ false _ hm5 (by omega) (Nat.lt_of_le_of_lt hle hX'9) hY9).mono ?_
        rintro e w6 ⟨rfl, hm6, hk6⟩
        have hn6 : Num w6 gx X' (false && decide (X' ≠ 0)) := ⟨hn5.1.kp hk6 (by simpa using hg), hn5.2⟩
        have k6 := k5.step hk6 (by simp)
        go_wp2
        go_ret
        exact ⟨true, rfl, .inr ⟨rfl, X', Y', hn6, hm6, hgcd, hlt, hle, by rw [hk]; exact hX'9, k6⟩⟩
end Go.Proofs.YtiommpdbbpddpaaGreat
