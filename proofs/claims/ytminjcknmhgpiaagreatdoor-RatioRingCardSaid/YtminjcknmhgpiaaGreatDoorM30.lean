/- Texts RProd2: each says in its own first comment what it proves. -/
import Derived.Test.YtminjcknmhgpiaaGreatDoorM29
/- The reference's product: all pairs of digits. -/
namespace Go.Proofs.YtminjcknmhgpiaaGreatDoor
open Go.RowKit
open Go.Lib (nDigits itoa decDigits)

theorem wrap_in {z : Int} (h : -9223372036854775808 ≤ z ∧ z ≤ 9223372036854775807) : wrap64 z = z := by
  unfold wrap64; omega

set_option maxRecDepth 100000 in
set_option maxHeartbeats 8000000 in
theorem prod_core (A B : ByteArray) (u v la lb : Nat) (res : ByteArray) (w : World) (hA : A.size = la) (hB : B.size = lb) (ha1 : 1 ≤ la) (hb1 : 1 ≤ lb) (ha : la ≤ 3000) (hb : lb ≤ 3000)
    (hu : u < 10 ^ la) (hv : v < 10 ^ lb)
    (hAt : Hid (∀ j (h : j < A.size), A[j].toNat = 48 + u / 10 ^ (la - 1 - j) % 10)) (hBt : Hid (∀ j (h : j < B.size), B[j].toNat = 48 + v / 10 ^ (lb - 1 - j) % 10))
    (hbare : Hid (∀ W, Calls Tryz.prog 154 #[.string (wideB (u * v) (la + lb))] W fun e w' => e = .returned (.string res) ∧ W = w')) :
    Calls Tryz.prog 151 #[.string A, .string B] w fun e w' => e = .returned (.string res) ∧ Kp [] w w' := by
  obtain ⟨n, hn⟩ : ∃ n, n = la + lb := ⟨_, rfl⟩
  have hAi : (A.size : Int) = (la : Int) := by omega
  have hBi : (B.size : Int) = (lb : Int) := by omega
  have hni : (la : Int) + (lb : Int) = (n : Int) := by omega
  have hmk : ∀ W : World, (Instr.makeSlice 162 (.int .i64 (n : Int)) (.int .i64 (n : Int))).run Tryz.prog W = .ok (.slice (some ⟨W.heap.size, 0, none⟩) n n) (W.alloc (.cells (madeCells #[.int .i64 0] n) 3)) := fun W => make_ints n (by omega) W
  have hmk2 : ∀ W : World, (Instr.makeSlice 141 (.int .i64 (n : Int)) (.int .i64 (n : Int))).run Tryz.prog W = .ok (.slice (some ⟨W.heap.size, 0, none⟩) n n) (W.alloc (.cells (madeCells #[.int .u8 0] n) 5)) := fun W => make_bytes n (by omega) W
  have hco0 : Col (w.alloc (.cells (madeCells #[.int .i64 0] n) 3)) w.heap.size n (fun _ => 0) := Col.made w n
  have hkp0 : Kp [] w (w.alloc (.cells (madeCells #[.int .i64 0] n) 3)) := (Kp.refl _ _).alloc _
  have Hn := Lib.hid hn
  have HA := Lib.hid hA
  have HB := Lib.hid hB
  rw [← hn] at hbare
  clear hA hB hn
  go_enter Tryz.func151, Tryz.ntmps151
  go_wp2_with fail
  clear hmk
  go_loopw [6] (fun s6 wr => ∃ (i : Nat) (f : Nat → Nat), i ≤ la ∧ s6 = .int .i64 i ∧ Col wr w.heap.size n f ∧ Hid (ts f n n = hd10 u la i * v) ∧ (∀ p, f p ≤ 81 * i) ∧ Kp [] w wr)
    (fun i _ => la - (intOf i).toNat)
  case atStart => exact ⟨0, fun _ => 0, Nat.zero_le _, rfl, hco0, by show _ = _; rw [ts_zero, hd10_zero hu, Nat.zero_mul], fun _ => Nat.zero_le _, hkp0⟩
  case round =>
    obtain ⟨i, f, hi, rfl, hco, hts, hfb, hkp⟩ := hrel
    clear hco0 hkp0
    by_cases hlt : i < la
    · have hA1 : i < A.size := by have := HA.out; omega
      have ea := hAt.out i hA1
      go_wp2_with fail
      obtain ⟨wo, hwo⟩ : ∃ wo : World, wo = wr := ⟨_, rfl⟩
      subst hwo
      go_loopw [7] (fun s7 wq => ∃ (k : Nat) (f : Nat → Nat), k ≤ lb ∧ s7 = .int .i64 k ∧ Col wq w.heap.size n f ∧ Hid (ts f n n = hd10 u la i * v + u / 10 ^ (la - 1 - i) % 10 * 10 ^ (la - 1 - i) * hd10 v lb k) ∧ (∀ p, f p ≤ 81 * i + (if p < i + k + 1 then 81 else 0)) ∧ Kp [] w wq)
        (fun k _ => lb - (intOf k).toNat)
      case atStart => exact ⟨0, f, Nat.zero_le _, rfl, hco, by show _ = _; rw [hts.out, hd10_zero hv, Nat.mul_zero, Nat.add_zero], fun p => Nat.le_trans (hfb p) (Nat.le_add_right _ _), hkp⟩
      case round =>
        obtain ⟨k, f2, hk, rfl, hco2, hts2, hfb2, hkp2⟩ := hrel
        by_cases hlt2 : k < lb
        · have hB1 : k < B.size := by have := HB.out; omega
          have eb := hBt.out k hB1
          have hin : i + k + 1 < n := by have := Hn.out; omega
          have hcell := hco2.int hin
          have hfree := hco2.free (i + k + 1)
          have hfp := hfb2 (i + k + 1)
          rw [if_neg (by omega), Nat.add_zero] at hfp
          obtain ⟨x, hx⟩ : ∃ x, x = u / 10 ^ (la - 1 - i) % 10 := ⟨_, rfl⟩
          obtain ⟨y, hy⟩ : ∃ y, y = v / 10 ^ (lb - 1 - k) % 10 := ⟨_, rfl⟩
          have hx9 : x ≤ 9 := by rw [hx]; omega
          have hy9 : y ≤ 9 := by rw [hy]; omega
          rw [← hx] at ea
          rw [← hy] at eb
          have eai : ((A[i].toNat : Nat) : Int) = 48 + (x : Int) := by omega
          have ebi : ((B[k].toNat : Nat) : Int) = 48 + (y : Int) := by omega
          obtain ⟨z, hz⟩ : ∃ z, x * y = z := ⟨_, rfl⟩
          have hz81 : z ≤ 81 := by rw [← hz]; exact Nat.mul_le_mul hx9 hy9
          have hzi : (x : Int) * (y : Int) = (z : Int) := by rw [← hz]; simp
          obtain ⟨q, hq⟩ : ∃ q, q = f2 (i + k + 1) := ⟨_, rfl⟩
          have Hq := Lib.hid hq
          rw [← hq] at hcell hfp
          have hnew : Hid (ts (upd f2 (i + k + 1) (q + z)) n n = hd10 u la i * v + u / 10 ^ (la - 1 - i) % 10 * 10 ^ (la - 1 - i) * hd10 v lb (k + 1)) := by
            show _ = _
            rw [hq, ts_upd f2 n (i + k + 1) z hin n (Nat.le_refl _), if_pos (by omega), hts2.out, ← hz, hx, hy, ← col_step u v la lb i k hlt hlt2, Hn.out]
          have hbi2 : (i : Int) + (k : Int) + 1 < (n : Int) := by omega
          have c1 : (i : Int) < (la : Int) := by omega
          have c2 : (k : Int) < (lb : Int) := by omega
          have t1 : ((i : Int) + (k : Int) + 1).toNat = i + k + 1 := by omega
          have v1 : IntKind.i64.wrap ((i : Int) + (k : Int)) = (i : Int) + (k : Int) := IntWalk.i64_in _ (by omega)
          have v2 : IntKind.i64.wrap ((i : Int) + (k : Int) + 1) = (i : Int) + (k : Int) + 1 := IntWalk.i64_in _ (by omega)
          have v3 : IntKind.u8.wrap (x : Int) = (x : Int) := IntWalk.u8_in _ (by omega)
          have v4 : IntKind.u8.wrap (y : Int) = (y : Int) := IntWalk.u8_in _ (by omega)
          have v5 : IntKind.i64.wrap (x : Int) = (x : Int) := IntWalk.i64_in _ (by omega)
          have v6 : IntKind.i64.wrap (y : Int) = (y : Int) := IntWalk.i64_in _ (by omega)
          have v7 : IntKind.i64.wrap (z : Int) = (z : Int) := IntWalk.i64_in _ (by omega)
          have v8 : IntKind.i64.wrap ((q : Int) + (z : Int)) = (q : Int) + (z : Int) := IntWalk.i64_in _ (by omega)
          have key : wrap64 ((q : Int) + wrap64 ((48 + (x : Int) - 48) * (48 + (y : Int) - 48))) = ((q + z : Nat) : Int) := by
            rw [show 48 + (x : Int) - 48 = x by omega, show 48 + (y : Int) - 48 = y by omega, hzi, wrap_in (z := (z : Int)) (by omega), wrap_in (by omega)]; omega
          clear hx hy hz hq ea eb
          go_wp2
          go_region
          go_wp2
          go_roundw
          case rel =>
            refine ⟨k + 1, _, by omega, by go_num, (hco2.set_ (i := i + k + 1) (x := q + z) (by omega) (show (q : Int) + (z : Int) = ((q + z : Nat) : Int) by omega)).drew, hnew, fun p => ?_, (hkp2.setCell (.inr (Nat.le_refl _)) _).drew⟩
            unfold upd
            by_cases hp : p = i + k + 1
            · rw [if_pos hp, if_pos (by omega)]; omega
            · rw [if_neg hp]
              have := hfb2 p
              by_cases h3 : p < i + k + 1
              · rw [if_pos h3] at this; rw [if_pos (by omega)]; omega
              · rw [if_neg h3] at this; rw [if_neg (by omega)]; omega
          case measure => simp [intOf]; omega
        · obtain rfl : k = lb := by omega
          go_wp2_with fail
          go_roundw
          case rel =>
            refine ⟨i + 1, f2, by omega, by go_num, hco2, ?_, fun p => ?_, hkp2⟩
            · show _ = _
              rw [hts2.out, col_next u v la k i hlt]
            · have := hfb2 p
              split at this <;> omega
          case measure => simp [intOf]; omega
    · obtain rfl : i = la := by omega
      have hW : ts f n n = u * v := by rw [hts.out, hd10_all]
      have hco3 : Col (wr.alloc (.cells (madeCells #[.int .u8 0] n) 5)) w.heap.size n f := hco.alloc _
      have hby3 : Byt (wr.alloc (.cells (madeCells #[.int .u8 0] n) 5)) wr.heap.size n (fun _ => 0) := Byt.made wr n
      have hkp3 : Kp [] w (wr.alloc (.cells (madeCells #[.int .u8 0] n) 5)) := hkp.alloc _
      have hhw : w.heap.size ≤ wr.heap.size := hkp.size
      have hhl := hco.lt
      have HW := Lib.hid hW
      have Hfb := Lib.hid hfb
      obtain ⟨h, hh⟩ : ∃ h, h = wr.heap.size := ⟨_, rfl⟩
      rw [← hh] at hby3 hhw hhl
      go_wp2_with fail
      rw [← hh]
      clear hco hkp hts hmk2 hW hfb hh
      go_loopg [9, 10] n (fun gk s9 s10 wq => ∃ c : Int, s10 = .int .i64 c ∧ c + 1 = gk ∧ gk ≤ n ∧ s9 = .int .i64 ((cr f n (n - gk) : Nat) : Int) ∧ Col wq w.heap.size n f ∧ Byt wq h n (mix (fun _ => 0) (dgt (u * v) n) gk) ∧ Kp [] w wq)
      case atStart => exact ⟨_, rfl, by omega, Nat.le_refl _, by rw [Nat.sub_self, cr_zero]; rfl, hco3, hby3.congr fun j hj => (mix_lt (fun _ => 0) _ hj).symm, hkp3⟩
      case round =>
        obtain ⟨c, rfl, hc, hg, rfl, hco4, hby4, hkp4⟩ := hrel
        cases gk with
        | zero =>
          obtain rfl : c = -1 := by omega
          clear hc
          have hcv := conv_bytes 9 Tryz.underlying9 hby4 0 n n (by omega)
          rw [mix_zero, show strOf (dgt (u * v) n) 0 n = wideB (u * v) n from rfl] at hcv
          go_wp2_with fail
          refine (hbare.out _).mono ?_
          rintro e w3 ⟨rfl, rfl⟩
          go_wp2
          go_ret
          exact ⟨rfl, hkp4⟩
        | succ j =>
          obtain rfl : c = (j : Int) := by omega
          clear hc
          have hjn : j < n := by omega
          have hji : (j : Int) < (n : Int) := by omega
          have hcol := hco4.int hjn
          have hbj := hby4.byte hjn
          have hfj := hby4.free j
          have hcl := cr_le (n := n) Hfb.out (n - (j + 1))
          have hfj2 := Hfb.out j
          obtain ⟨t, ht⟩ : ∃ t, t = cr f n (n - (j + 1)) := ⟨_, rfl⟩
          obtain ⟨q, hq⟩ : ∃ q, q = f j := ⟨_, rfl⟩
          have ej : n - 1 - (n - (j + 1)) = j := by omega
          have hdig : Hid (48 + (t + q) % 10 = dgt (u * v) n j) := by
            show _ = _
            have e := cr_digit f n (n - (j + 1)) (by omega)
            rw [ej] at e
            rw [ht, hq, e, HW.out]
            unfold dgt
            rw [show n - 1 - j = n - (j + 1) by omega]
          have hcar : Hid ((t + q) / 10 = cr f n (n - j)) := by
            show _ = _
            have e := cr_succ f n (n - (j + 1))
            rw [ej, show n - (j + 1) + 1 = n - j by omega] at e
            rw [ht, hq, e]
          rw [← ht] at hcl ⊢
          rw [← hq] at hcol hfj2
          have hla : i ≤ 3000 := ha
          clear ht hq
          go_wp2_with fail
          go_roundg j
          case measure => omega
          case rel =>
            refine ⟨_, rfl, by omega, by omega, val_i (by have := hcar.out; omega), hco4.far (p := ⟨h, j, none⟩) (by show w.heap.size ≠ h; omega) _, ?_, hkp4.setCell (.inr (by show w.heap.size ≤ h; omega)) _⟩
            rw [← mix_down]; exact hby4.set_ hjn (by have := hdig.out; omega)

theorem prod_S (u v : Nat) (w : World) (hu : nDigits u ≤ 2400) (hv : nDigits v ≤ 2400) :
    Calls Tryz.prog 151 #[.string (S (u : Int)), .string (S (v : Int))] w fun e w' => e = .returned (.string (S ((u * v : Nat) : Int))) ∧ Kp [] w w' := by
  have s1 : (S (u : Int)).size = nDigits u := by have := (S_nn (z := (u : Int)) (by omega)).2; rwa [Int.natAbs_natCast, Nat.add_zero] at this
  have s2 : (S (v : Int)).size = nDigits v := by have := (S_nn (z := (v : Int)) (by omega)).2; rwa [Int.natAbs_natCast, Nat.add_zero] at this
  have p1 := Go.Lib.nDigits_pos u
  have p2 := Go.Lib.nDigits_pos v
  refine prod_core (S u) (S v) u v (nDigits u) (nDigits v) _ w s1 s2 p1 p2 (by omega) (by omega) (Go.Lib.lt_pow_nDigits u) (Go.Lib.lt_pow_nDigits v) (fun j h => S_at u j h) (fun j h => S_at v j h) ?_
  intro W
  have := bare_any (wideB (u * v) (nDigits u + nDigits v)) W (by rw [wideB_size]; omega) (by rw [wideB_size]; omega) (wideB_dig _ _)
  rwa [wideB_val, Nat.mod_eq_of_lt (by rw [Nat.pow_add]; exact Nat.mul_lt_mul'' (Go.Lib.lt_pow_nDigits u) (Go.Lib.lt_pow_nDigits v))] at this
end Go.Proofs.YtminjcknmhgpiaaGreatDoor
