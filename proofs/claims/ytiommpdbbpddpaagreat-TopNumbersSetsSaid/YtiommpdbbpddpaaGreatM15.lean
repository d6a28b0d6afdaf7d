/- Texts GcdAll: each says in its own first comment what it proves. -/
import Derived.Test.YtiommpdbbpddpaaGreatM12
import Derived.Test.YtiommpdbbpddpaaGreatM14
import Derived.Test.YtiommpdbbpddpaaGreatM10
/- Walk over gcd for all numbers. -/
namespace Go.Proofs.YtiommpdbbpddpaaGreat
open Go.RowKit

theorem gcd_step (X Y : Nat) : Nat.gcd Y (X % Y) = Nat.gcd X Y := by rw [Nat.gcd_comm X Y, Nat.gcd_rec Y X, Nat.gcd_comm]
theorem pair_ne {g b gx gy : Nat} (hgb : g ≠ b) (h : (gx = g ∧ gy = b) ∨ (gx = b ∧ gy = g)) : gx ≠ gy ∧ gx ∈ [g, b] ∧ gy ∈ [g, b] := by
  rcases h with ⟨rfl, rfl⟩ | ⟨rfl, rfl⟩
  · exact ⟨hgb, by simp, by simp⟩
  · exact ⟨fun e => hgb e.symm, by simp, by simp⟩

set_option maxRecDepth 100000 in
set_option maxHeartbeats 16000000 in
theorem gcd_all {A B : Nat} (hA9 : A < B9 ^ 200) (hB9 : B < B9 ^ 200) : GcdOk A B := by
  intro g b mA mB w hA hB hgb
  have hs1 := hA.1.sgn
  have hs2 := hB.1.sgn
  have hf1 := hA.1.free 230
  have hf2 := hB.1.free 230
  have hlg := hA.1.lt
  have hlb := hB.1.lt
  have hA1 : Num ((w.setCell ⟨g, 230, none⟩ (.bool false)).setCell ⟨b, 230, none⟩ (.bool false)) g A false := ⟨(hA.1.setM false).far (p := ⟨b, 230, none⟩) hgb _, hA.2⟩
  have hB1 : Num ((w.setCell ⟨g, 230, none⟩ (.bool false)).setCell ⟨b, 230, none⟩ (.bool false)) b B false := ⟨(hB.1.far (p := ⟨g, 230, none⟩) (fun e => hgb e.symm) _).setM false, hB.2⟩
  have k1 : Kp [g, b] w ((w.setCell ⟨g, 230, none⟩ (.bool false)).setCell ⟨b, 230, none⟩ (.bool false)) := ((Kp.refl _ _).setCell (.inl (by simp)) _).setCell (.inl (by simp)) _
  by_cases hAB : A < B
  · have ho : ordN A B < 0 := ordN_neg.2 hAB
    go_enter Tryz.func141, Tryz.ntmps141
    go_wp2_with fail
    refine (against_any g b A B false false _ hA1 hB1).mono ?_
    rintro e w1 ⟨rfl, n, rfl⟩
    generalize hW : ((w.setCell ⟨g, 230, none⟩ (.bool false)).setCell ⟨b, 230, none⟩ (.bool false)) = W at *
    clear hs1 hs2 hf1 hf2 hW hA hB
    go_wp2
    go_loopg [0, 1] A (fun gk s0 s1 wr => ∃ gx gy X : Nat, s0 = .pointer (some ⟨gx, 0, none⟩) ∧ s1 = .pointer (some ⟨gy, 0, none⟩) ∧ ((gx = g ∧ gy = b) ∨ (gx = b ∧ gy = g)) ∧ Num wr gx X false ∧ Num wr gy gk false ∧ gk ≤ X ∧ X < B9 ^ 200 ∧ Nat.gcd X gk = Nat.gcd A B ∧ Kp [g, b] w wr)
    case atStart => exact ⟨b, g, B, rfl, rfl, .inr ⟨rfl, rfl⟩, ⟨hB1.1.drewN n, hB1.2⟩, ⟨hA1.1.drewN n, hA1.2⟩, Nat.le_of_lt hAB, hB9, Nat.gcd_comm B A, k1.drewN n⟩
    case round =>
      obtain ⟨gx, gy, X, rfl, rfl, hpair, hx, hy, hle, hX9, hgcd, hkp⟩ := hrel
      obtain ⟨hne, hmx, hmy⟩ := pair_ne hgb hpair
      obtain ⟨Y, hY⟩ : ∃ Y, Y = gk := ⟨_, rfl⟩
      subst hY
      have HG := Lib.hid hgcd
      have Hp := Lib.hid hpair
      clear hgcd hpair hA1 hB1 k1 ho hAB hA9 hB9
      have hcy := hy.1.cnt
      have hY229 := nw_le hy.2
      have hlx := hx.1.lt
      have hly := hy.1.lt
      have hsub : ∀ x, x ∈ [gx, gy] → x ∈ [g, b] ∨ w.heap.size ≤ x := fun x hx => by
        rcases List.mem_cons.1 hx with rfl | hx
        · exact .inl hmx
        · rcases List.mem_cons.1 hx with rfl | hx
          · exact .inl hmy
          · cases hx
      by_cases h2 : 2 < nw Y
      · have h2i : (2 : Int) < (nw Y : Int) := by omega
        have hnX : 3 ≤ nw X := Nat.le_trans h2 (nw_mono hle)
        obtain ⟨k, hk⟩ : ∃ k, nw X = k + 3 := ⟨nw X - 3, by omega⟩
        have qL := Lib.hid (leap_any gx gy X Y k wr hx hy hne hle hk)
        go_wp2_with fail
        refine qL.out.mono ?_
        rintro e w2 ⟨r, rfl, hpost⟩
        clear qL
        rcases hpost with ⟨rfl, hk2⟩ | ⟨rfl, X', Y', hx2, hy2, hg2, hlt2, hle2, hX9', hk2⟩
        · have hx2 : Num w2 gx X false := ⟨hx.1.kp hk2 (by simp), hx.2⟩
          have hy2 : Num w2 gy Y false := ⟨hy.1.kp hk2 (by simp), hy.2⟩
          have hkp2 := hkp.trans (hk2.mono (S' := [g, b]) (by simp))
          have hlx2 := hx2.1.lt
          have hly2 := hy2.1.lt
          have hY0 : 0 < Y := by
            rcases Nat.eq_zero_or_pos Y with h | h
            · rw [h, nw_zero] at h2; omega
            · exact h
          have hTO := takeOut_all (A := X) (B := Y) hY0 (Nat.lt_of_lt_of_le hX9 (pow_le (by omega))) gx gy w2.heap.size false false (w2.alloc (.cells Tryz.zeroCells148 148)) ⟨hx2.1.alloc _, hx2.2⟩ ⟨hy2.1.alloc _, hy2.2⟩ (NumF.made w2) hne (by omega) (by omega) (by simp)
          have HTO := Lib.hid hTO; clear hTO
          go_wp2_with fail
          refine HTO.out.mono ?_
          rintro e w3 ⟨rfl, hx3, _, hk3⟩
          rw [Bool.false_and] at hx3
          have hy3 : Num w3 gy Y false := ⟨(hy2.1.alloc _).kp hk3 (by simp; omega), hy2.2⟩
          have hkp3 : Kp [g, b] w w3 := (hkp2.alloc _).step hk3 (fun x hx => by
            rcases List.mem_cons.1 hx with rfl | hx
            · exact .inl hmx
            · have : x = w2.heap.size := by simpa using hx
              exact .inr (by rw [this]; exact hkp2.size))
          go_wp2_with fail
          go_roundg (X % Y)
          case measure => exact Nat.mod_lt _ hY0
          case rel =>
            exact ⟨gy, gx, Y, rfl, rfl, Hp.out.elim (fun h => .inr ⟨h.2, h.1⟩) (fun h => .inl ⟨h.2, h.1⟩), hy3, hx3, Nat.le_of_lt (Nat.mod_lt _ hY0), Nat.lt_of_le_of_lt hle hX9, by rw [gcd_step]; exact HG.out, hkp3⟩
        · have hkp2 : Kp [g, b] w w2 := hkp.step hk2 hsub
          go_wp2_with fail
          go_roundg Y'
          case measure => exact hlt2
          case rel =>
            exact ⟨gx, gy, X', rfl, rfl, Hp.out, hx2, hy2, hle2, Nat.lt_of_lt_of_le hX9' (pow_le (nw_le hX9)), by rw [hg2]; exact HG.out, hkp2⟩
      · have h2i : (nw Y : Int) ≤ 2 := by omega
        have hB2 : nw Y ≤ 2 := by omega
        by_cases hY0 : Y = 0
        · have hc0 : ((nw Y : Int) == 0) = true := by rw [hY0, nw_zero]; rfl
          have HY0 := Lib.hid hY0; clear hY0
          go_wp2
          go_ret
          refine ⟨gx, Hp.out.elim (fun h => .inl h.1) (fun h => .inr h.1), rfl, ?_, hkp⟩
          have := HG.out
          rw [HY0.out, Nat.gcd_zero_right] at this
          rw [← this]; exact hx
        · have hB0 : 0 < Y := Nat.pos_of_ne_zero hY0
          have hb0 : ((nw Y : Int) == 0) = false := beq_eq_false_iff_ne.2 (by have := nw_ne hY0; omega)
          have hTO := takeOut_all (A := X) (B := Y) hB0 (Nat.lt_of_lt_of_le hX9 (pow_le (by omega))) gx gy wr.heap.size false false (wr.alloc (.cells Tryz.zeroCells148 148)) ⟨hx.1.alloc _, hx.2⟩ ⟨hy.1.alloc _, hy.2⟩ (NumF.made wr) hne (by omega) (by omega) (by simp)
          have HTO := Lib.hid hTO; clear hTO
          go_wp2_with fail
          with_reducible refine HTO.out.mono ?_
          rintro e w2 ⟨rfl, hx2, _, hk2⟩
          have hy2 : Num w2 gy Y false := ⟨(hy.1.alloc _).kp hk2 (by simp; omega), hy.2⟩
          have hk2' : Kp [g, b] w w2 := (hkp.alloc _).step hk2 (fun x hx => by
            rcases List.mem_cons.1 hx with rfl | hx
            · exact .inl hmx
            · have : x = wr.heap.size := by simpa using hx
              exact .inr (by rw [this]; exact hkp.size))
          rw [Bool.false_and] at hx2
          clear HTO hx hy hkp hk2 hcy hb0
          go_wp2_with fail
          have hmB : X % Y < Y := Nat.mod_lt _ hB0
          have hmw : nw (X % Y) ≤ 2 := nw_le (Nat.lt_trans hmB (Nat.lt_of_lt_of_le (lt_pow_nw Y) (pow_le hB2)))
          refine (low_small gy Y false _ hy2 hB2).mono ?_
          rintro e w3 ⟨rfl, n3, rfl⟩
          go_wp2_with fail
          have hx3 : Num (w2.drewN n3) gx (X % Y) false := ⟨hx2.1.drewN _, hx2.2⟩
          refine (low_small gx (X % Y) false _ hx3 hmw).mono ?_
          rintro e w4 ⟨rfl, n4, rfl⟩
          have hBlt : Y < 1000000000000000000 := by
            have := Nat.lt_of_lt_of_le (lt_pow_nw Y) (pow_le hB2); simpa [B9] using this
          have hk4 : Kp [g, b] w ((w2.drewN n3).drewN n4) := (hk2'.drewN n3).drewN n4
          have hx4 : Num ((w2.drewN n3).drewN n4) gx (X % Y) false := ⟨(hx2.1.drewN n3).drewN n4, hx2.2⟩
          have hg0 : Hid (Nat.gcd Y (X % Y) = Nat.gcd A B) := by show _ = _; rw [gcd_step]; exact HG.out
          simp only [World.drewN_drewN] at hk4 hx4
          clear hx2 hy2 hk2' hx3
          go_wp2
          generalize w2.drewN (n3 + n4) = V at *
          go_loopg [7, 8] (X % Y) (fun k s7 s8 wr => ∃ a : Nat, s7 = .int .u64 (a : Int) ∧ s8 = .int .u64 (k : Int) ∧ a < 1000000000000000000 ∧ k < 1000000000000000000 ∧ Nat.gcd a k = Nat.gcd A B ∧ Num wr gx (X % Y) false ∧ Kp [g, b] w wr)
          case atStart => exact ⟨Y, rfl, by simp, hBlt, by omega, hg0.out, hx4, hk4⟩
          obtain ⟨a, rfl, rfl, ha18, hb18, hgcd, hx5, hk5⟩ := hrel
          obtain ⟨b2, hb2⟩ : ∃ b2, b2 = gk := ⟨_, rfl⟩
          subst hb2
          have HG2 := Lib.hid hgcd; clear hgcd
          by_cases hb : 0 < b2
          · have hrw : Hid (Nat.gcd b2 (a % b2) = Nat.gcd A B) := by show _ = _; rw [gcd_step]; exact HG2.out
            have hbi : (0 : Int) < (b2 : Int) := by omega
            have hbn : ((b2 : Int) == 0) = false := beq_eq_false_iff_ne.2 (by omega)
            have hml : a % b2 < b2 := Nat.mod_lt _ hb
            go_wp2
            go_quiet (fail)
            go_wp2
            go_roundg (a % b2)
            case measure => omega
            case rel => exact ⟨b2, rfl, val_i (by simp), hb18, by omega, hrw.out, ⟨hx5.1.drewN _, hx5.2⟩, hk5.drewN _⟩
          · obtain rfl : b2 = 0 := by omega
            have hd : Hid (a = Nat.gcd A B) := by show _ = _; have := HG2.out; simpa using this
            obtain ⟨w6, hcl, hn6, hk6⟩ := clear_any gx (nw (X % Y)) (wd (X % Y)) (nw (X % Y)) false wr hx5.1 (nw_le hx5.2)
            have hcl1 := fun ty => hcl ty 1
            change ∀ ty, Sem.run _ _ wr.drew = Result.ok _ w6.drew at hcl1
            clear hcl
            have hsl := fun W => sl_high gx (nw (X % Y)) (nw_le hx5.2) W
            have hca := hx5.1.cnt
            have hw0 := hn6.word (i := 0) (by omega)
            have hw1 := hn6.word (i := 1) (by omega)
            have hf0 := hn6.free 0
            have hf1 := hn6.free 1
            have hfc := hn6.free 229
            have hc6 := hn6.cnt
            have q1 : (a : Int) / 1000000000 < 4294967296 := by omega
            go_wp2
            go_region
            go_wp2
            go_region
            go_wp2_with fail
            have hd2 : a < B9 ^ 2 := by simpa [B9] using ha18
            have hn7 := (((hn6.setW' (i := 0) (x := a % 1000000000) (y := (a : Int) % 1000000000) (by omega) (by omega)).setW' (i := 1) (x := a / 1000000000) (y := (a : Int) / 1000000000) (by omega) (by omega)).setC' (x := 2) (y := 2) rfl).drew.drew
            have k7 : Kp [gx] wr (((w6.setCell ⟨gx, 0, none⟩ (.int .u32 ((a : Int) % 1000000000))).setCell ⟨gx, 1, none⟩ (.int .u32 ((a : Int) / 1000000000))).setCell ⟨gx, 229, none⟩ (.int .i64 2)).drew.drew :=
              (((hk6.setCell (.inl (by simp)) _).setCell (.inl (by simp)) _).setCell (.inl (by simp)) _).drew.drew
            refine (trim_num gx 2 a _ false _ hn7 (by omega) hd2 (fun i _ => two_words hd2 (fun i hi => wd_beyond hi) i)).mono ?_
            rintro e w8 ⟨rfl, hn8, hk8⟩
            go_wp2
            go_ret
            have hin : ∀ x, x ∈ [gx] → x ∈ [g, b] ∨ w.heap.size ≤ x := fun x hx => by
              have hxg : x = gx := by simpa using hx
              rw [hxg]; exact .inl hmx
            refine ⟨gx, Hp.out.elim (fun h => .inl h.1) (fun h => .inr h.1), rfl, ?_, (hk5.step k7 hin).step hk8 hin⟩
            rw [← hd.out]; simpa using hn8
  · have ho : ¬ ordN A B < 0 := fun h => hAB (ordN_neg.1 h)
    go_enter Tryz.func141, Tryz.ntmps141
    go_wp2_with fail
    refine (against_any g b A B false false _ hA1 hB1).mono ?_
    rintro e w1 ⟨rfl, n, rfl⟩
    generalize hW : ((w.setCell ⟨g, 230, none⟩ (.bool false)).setCell ⟨b, 230, none⟩ (.bool false)) = W at *
    clear hs1 hs2 hf1 hf2 hW hA hB
    go_wp2
    go_loopg [0, 1] B (fun gk s0 s1 wr => ∃ gx gy X : Nat, s0 = .pointer (some ⟨gx, 0, none⟩) ∧ s1 = .pointer (some ⟨gy, 0, none⟩) ∧ ((gx = g ∧ gy = b) ∨ (gx = b ∧ gy = g)) ∧ Num wr gx X false ∧ Num wr gy gk false ∧ gk ≤ X ∧ X < B9 ^ 200 ∧ Nat.gcd X gk = Nat.gcd A B ∧ Kp [g, b] w wr)
    case atStart => exact ⟨g, b, A, rfl, rfl, .inl ⟨rfl, rfl⟩, ⟨hA1.1.drewN n, hA1.2⟩, ⟨hB1.1.drewN n, hB1.2⟩, Nat.le_of_not_lt hAB, hA9, rfl, k1.drewN n⟩
    case round =>
      obtain ⟨gx, gy, X, rfl, rfl, hpair, hx, hy, hle, hX9, hgcd, hkp⟩ := hrel
      obtain ⟨hne, hmx, hmy⟩ := pair_ne hgb hpair
      obtain ⟨Y, hY⟩ : ∃ Y, Y = gk := ⟨_, rfl⟩
      subst hY
      have HG := Lib.hid hgcd
      have Hp := Lib.hid hpair
      clear hgcd hpair hA1 hB1 k1 ho hAB hA9 hB9
      have hcy := hy.1.cnt
      have hY229 := nw_le hy.2
      have hlx := hx.1.lt
      have hly := hy.1.lt
      have hsub : ∀ x, x ∈ [gx, gy] → x ∈ [g, b] ∨ w.heap.size ≤ x := fun x hx => by
        rcases List.mem_cons.1 hx with rfl | hx
        · exact .inl hmx
        · rcases List.mem_cons.1 hx with rfl | hx
          · exact .inl hmy
          · cases hx
      by_cases h2 : 2 < nw Y
      · have h2i : (2 : Int) < (nw Y : Int) := by omega
        have hnX : 3 ≤ nw X := Nat.le_trans h2 (nw_mono hle)
        obtain ⟨k, hk⟩ : ∃ k, nw X = k + 3 := ⟨nw X - 3, by omega⟩
        have qL := Lib.hid (leap_any gx gy X Y k wr hx hy hne hle hk)
        go_wp2_with fail
        refine qL.out.mono ?_
        rintro e w2 ⟨r, rfl, hpost⟩
        clear qL
        rcases hpost with ⟨rfl, hk2⟩ | ⟨rfl, X', Y', hx2, hy2, hg2, hlt2, hle2, hX9', hk2⟩
        · have hx2 : Num w2 gx X false := ⟨hx.1.kp hk2 (by simp), hx.2⟩
          have hy2 : Num w2 gy Y false := ⟨hy.1.kp hk2 (by simp), hy.2⟩
          have hkp2 := hkp.trans (hk2.mono (S' := [g, b]) (by simp))
          have hlx2 := hx2.1.lt
          have hly2 := hy2.1.lt
          have hY0 : 0 < Y := by
            rcases Nat.eq_zero_or_pos Y with h | h
            · rw [h, nw_zero] at h2; omega
            · exact h
          have hTO := takeOut_all (A := X) (B := Y) hY0 (Nat.lt_of_lt_of_le hX9 (pow_le (by omega))) gx gy w2.heap.size false false (w2.alloc (.cells Tryz.zeroCells148 148)) ⟨hx2.1.alloc _, hx2.2⟩ ⟨hy2.1.alloc _, hy2.2⟩ (NumF.made w2) hne (by omega) (by omega) (by simp)
          have HTO := Lib.hid hTO; clear hTO
          go_wp2_with fail
          refine HTO.out.mono ?_
          rintro e w3 ⟨rfl, hx3, _, hk3⟩
          rw [Bool.false_and] at hx3
          have hy3 : Num w3 gy Y false := ⟨(hy2.1.alloc _).kp hk3 (by simp; omega), hy2.2⟩
          have hkp3 : Kp [g, b] w w3 := (hkp2.alloc _).step hk3 (fun x hx => by
            rcases List.mem_cons.1 hx with rfl | hx
            · exact .inl hmx
            · have : x = w2.heap.size := by simpa using hx
              exact .inr (by rw [this]; exact hkp2.size))
          go_wp2_with fail
          go_roundg (X % Y)
          case measure => exact Nat.mod_lt _ hY0
          case rel =>
            exact ⟨gy, gx, Y, rfl, rfl, Hp.out.elim (fun h => .inr ⟨h.2, h.1⟩) (fun h => .inl ⟨h.2, h.1⟩), hy3, hx3, Nat.le_of_lt (Nat.mod_lt _ hY0), Nat.lt_of_le_of_lt hle hX9, by rw [gcd_step]; exact HG.out, hkp3⟩
        · have hkp2 : Kp [g, b] w w2 := hkp.step hk2 hsub
          go_wp2_with fail
          go_roundg Y'
          case measure => exact hlt2
          case rel =>
            exact ⟨gx, gy, X', rfl, rfl, Hp.out, hx2, hy2, hle2, Nat.lt_of_lt_of_le hX9' (pow_le (nw_le hX9)), by rw [hg2]; exact HG.out, hkp2⟩
      · have h2i : (nw Y : Int) ≤ 2 := by omega
        have hB2 : nw Y ≤ 2 := by omega
        by_cases hY0 : Y = 0
        · have hc0 : ((nw Y : Int) == 0) = true := by rw [hY0, nw_zero]; rfl
          have HY0 := Lib.hid hY0; clear hY0
          go_wp2
          go_ret
          refine ⟨gx, Hp.out.elim (fun h => .inl h.1) (fun h => .inr h.1), rfl, ?_, hkp⟩
          have := HG.out
          rw [HY0.out, Nat.gcd_zero_right] at this
          rw [← this]; exact hx
        · have hB0 : 0 < Y := Nat.pos_of_ne_zero hY0
          have hb0 : ((nw Y : Int) == 0) = false := beq_eq_false_iff_ne.2 (by have := nw_ne hY0; omega)
          have hTO := takeOut_all (A := X) (B := Y) hB0 (Nat.lt_of_lt_of_le hX9 (pow_le (by omega))) gx gy wr.heap.size false false (wr.alloc (.cells Tryz.zeroCells148 148)) ⟨hx.1.alloc _, hx.2⟩ ⟨hy.1.alloc _, hy.2⟩ (NumF.made wr) hne (by omega) (by omega) (by simp)
          have HTO := Lib.hid hTO; clear hTO
          go_wp2_with fail
          with_reducible refine HTO.out.mono ?_
          rintro e w2 ⟨rfl, hx2, _, hk2⟩
          have hy2 : Num w2 gy Y false := ⟨(hy.1.alloc _).kp hk2 (by simp; omega), hy.2⟩
          have hk2' : Kp [g, b] w w2 := (hkp.alloc _).step hk2 (fun x hx => by
            rcases List.mem_cons.1 hx with rfl | hx
            · exact .inl hmx
            · have : x = wr.heap.size := by simpa using hx
              exact .inr (by rw [this]; exact hkp.size))
          rw [Bool.false_and] at hx2
          clear HTO hx hy hkp hk2 hcy hb0
          go_wp2_with fail
          have hmB : X % Y < Y := Nat.mod_lt _ hB0
          have hmw : nw (X % Y) ≤ 2 := nw_le (Nat.lt_trans hmB (Nat.lt_of_lt_of_le (lt_pow_nw Y) (pow_le hB2)))
          refine (low_small gy Y false _ hy2 hB2).mono ?_
          rintro e w3 ⟨rfl, n3, rfl⟩
          go_wp2_with fail
          have hx3 : Num (w2.drewN n3) gx (X % Y) false := ⟨hx2.1.drewN _, hx2.2⟩
          refine (low_small gx (X % Y) false _ hx3 hmw).mono ?_
          rintro e w4 ⟨rfl, n4, rfl⟩
          have hBlt : Y < 1000000000000000000 := by
            have := Nat.lt_of_lt_of_le (lt_pow_nw Y) (pow_le hB2); simpa [B9] using this
          have hk4 : Kp [g, b] w ((w2.drewN n3).drewN n4) := (hk2'.drewN n3).drewN n4
          have hx4 : Num ((w2.drewN n3).drewN n4) gx (X % Y) false := ⟨(hx2.1.drewN n3).drewN n4, hx2.2⟩
          have hg0 : Hid (Nat.gcd Y (X % Y) = Nat.gcd A B) := by show _ = _; rw [gcd_step]; exact HG.out
          simp only [World.drewN_drewN] at hk4 hx4
          clear hx2 hy2 hk2' hx3
          go_wp2
          generalize w2.drewN (n3 + n4) = V at *
          go_loopg [7, 8] (X % Y) (fun k s7 s8 wr => ∃ a : Nat, s7 = .int .u64 (a : Int) ∧ s8 = .int .u64 (k : Int) ∧ a < 1000000000000000000 ∧ k < 1000000000000000000 ∧ Nat.gcd a k = Nat.gcd A B ∧ Num wr gx (X % Y) false ∧ Kp [g, b] w wr)
          case atStart => exact ⟨Y, rfl, by simp, hBlt, by omega, hg0.out, hx4, hk4⟩
          obtain ⟨a, rfl, rfl, ha18, hb18, hgcd, hx5, hk5⟩ := hrel
          obtain ⟨b2, hb2⟩ : ∃ b2, b2 = gk := ⟨_, rfl⟩
          subst hb2
          have HG2 := Lib.hid hgcd; clear hgcd
          by_cases hb : 0 < b2
          · have hrw : Hid (Nat.gcd b2 (a % b2) = Nat.gcd A B) := by show _ = _; rw [gcd_step]; exact HG2.out
            have hbi : (0 : Int) < (b2 : Int) := by omega
            have hbn : ((b2 : Int) == 0) = false := beq_eq_false_iff_ne.2 (by omega)
            have hml : a % b2 < b2 := Nat.mod_lt _ hb
            go_wp2
            go_quiet (fail)
            go_wp2
            go_roundg (a % b2)
            case measure => omega
            case rel => exact ⟨b2, rfl, val_i (by simp), hb18, by omega, hrw.out, ⟨hx5.1.drewN _, hx5.2⟩, hk5.drewN _⟩
          · obtain rfl : b2 = 0 := by omega
            have hd : Hid (a = Nat.gcd A B) := by show _ = _; have := HG2.out; simpa using this
            obtain ⟨w6, hcl, hn6, hk6⟩ := clear_any gx (nw (X % Y)) (wd (X % Y)) (nw (X % Y)) false wr hx5.1 (nw_le hx5.2)
            have hcl1 := fun ty => hcl ty 1
            change ∀ ty, Sem.run _ _ wr.drew = Result.ok _ w6.drew at hcl1
            clear hcl
            have hsl := fun W => sl_high gx (nw (X % Y)) (nw_le hx5.2) W
            have hca := hx5.1.cnt
            have hw0 := hn6.word (i := 0) (by omega)
            have hw1 := hn6.word (i := 1) (by omega)
            have hf0 := hn6.free 0
            have hf1 := hn6.free 1
            have hfc := hn6.free 229
            have hc6 := hn6.cnt
            have q1 : (a : Int) / 1000000000 < 4294967296 := by omega
            go_wp2
            go_region
            go_wp2
            go_region
            go_wp2_with fail
            have hd2 : a < B9 ^ 2 := by simpa [B9] using ha18
            have hn7 := (((hn6.setW' (i := 0) (x := a % 1000000000) (y := (a : Int) % 1000000000) (by omega) (by omega)).setW' (i := 1) (x := a / 1000000000) (y := (a : Int) / 1000000000) (by omega) (by omega)).setC' (x := 2) (y := 2) rfl).drew.drew
            have k7 : Kp [gx] wr (((w6.setCell ⟨gx, 0, none⟩ (.int .u32 ((a : Int) % 1000000000))).setCell ⟨gx, 1, none⟩ (.int .u32 ((a : Int) / 1000000000))).setCell ⟨gx, 229, none⟩ (.int .i64 2)).drew.drew :=
              (((hk6.setCell (.inl (by simp)) _).setCell (.inl (by simp)) _).setCell (.inl (by simp)) _).drew.drew
            refine (trim_num gx 2 a _ false _ hn7 (by omega) hd2 (fun i _ => two_words hd2 (fun i hi => wd_beyond hi) i)).mono ?_
            rintro e w8 ⟨rfl, hn8, hk8⟩
            go_wp2
            go_ret
            have hin : ∀ x, x ∈ [gx] → x ∈ [g, b] ∨ w.heap.size ≤ x := fun x hx => by
              have hxg : x = gx := by simpa using hx
              rw [hxg]; exact .inl hmx
            refine ⟨gx, Hp.out.elim (fun h => .inl h.1) (fun h => .inr h.1), rfl, ?_, (hk5.step k7 hin).step hk8 hin⟩
            rw [← hd.out]; simpa using hn8

theorem gcd_texts (a b : ByteArray) : GcdAll a b := by
  intro h
  obtain ⟨x, y, rfl, rfl, hx, hy⟩ := chkL2 h
  rw [valS_S, valS_S]
  exact gcd_all (Nat.lt_of_lt_of_le hx.lt (pow_le (by omega))) (Nat.lt_of_lt_of_le hy.lt (pow_le (by omega)))
theorem Gcd_all (a b : ByteArray) (w : World) (ha : a.size ≤ 9223372036854775807) (hb : b.size ≤ 9223372036854775807) :
    Calls Tryz.prog 119 #[.string a, .string b] w fun e w' => e = .returned (.tuple #[.string (binB gcdI a b), .int .i64 (binE gcdI a b)]) ∧ Kp [] w w' :=
  Gcd_any a b w (gcd_texts a b) ha hb
end Go.Proofs.YtiommpdbbpddpaaGreat
