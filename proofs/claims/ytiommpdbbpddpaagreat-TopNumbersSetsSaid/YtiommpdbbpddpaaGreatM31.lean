/- Texts RSlash, RCheck2: each says in its own first comment what it proves. -/
import Derived.Test.YtiommpdbbpddpaaGreatM30
import Derived.Test.YtiommpdbbpddpaaGreatM19
import Derived.Test.YtiommpdbbpddpaaGreatM21
import Derived.Test.YtiommpdbbpddpaaGreatM13
/- slash, Split and Short of the reference of layer 2, for any texts. -/
namespace Go.Proofs.YtiommpdbbpddpaaGreat
open Go.RowKit
open Go.Lib (nDigits itoa decDigits)

theorem slash_at {a : ByteArray} {k : Nat} (hk : k < a.size) (hb : ∀ j (hj : j < k), a[j]'(by omega) ≠ 47) (h : a[k] = 47) : slashAt a = k := by
  unfold slashAt
  have hk' : k < a.data.toList.length := by rw [← Lib.size_eq]; exact hk
  rw [List.findIdx_eq hk']
  refine ⟨beq_iff_eq.2 h, fun j hj => ?_⟩
  exact beq_eq_false_iff_ne.2 (hb j hj)
theorem cN_le (a : ByteArray) : (cN a).size ≤ a.size := by unfold cN; rw [ByteArray.size_extract]; omega
theorem cD_le (a : ByteArray) : (cD a).size ≤ a.size ∨ (cD a).size = 1 := by
  unfold cD
  split
  · rw [ByteArray.size_extract]; omega
  · right; rfl
theorem cut_size (a : ByteArray) : a.size ≤ (cN a).size + 1 + (cD a).size := by
  have := slash_le a
  unfold cN cD
  rw [ByteArray.size_extract]
  split
  · rw [ByteArray.size_extract]; omega
  · omega
theorem slash_no {a : ByteArray} (hb : ∀ j (hj : j < a.size), a[j] ≠ 47) : slashAt a = a.size := by
  unfold slashAt
  rw [find_none, Lib.size_eq]
  intro c hc
  obtain ⟨j, hj, rfl⟩ := List.mem_iff_getElem.1 hc
  exact hb j (by rw [Lib.size_eq]; exact hj)

set_option maxRecDepth 100000 in
set_option maxHeartbeats 2000000 in
theorem slash_any (a : ByteArray) (w : World) (ha : a.size ≤ 9223372036854775807) :
    Calls Tryz.prog 32 #[.string a] w fun x w' => x = .returned (.int .i64 (if slashAt a < a.size then (slashAt a : Int) else -1)) ∧ w' = w := by
  have hl1 : (a.size : Int) ≤ 9223372036854775807 := by omega
  generalize hR : (if slashAt a < a.size then (slashAt a : Int) else -1) = R
  have HR := Lib.hid hR
  clear hR
  go_enter Tryz.func32, Tryz.ntmps32
  go_wp2
  go_loopg [3] a.size (fun gk s3 wr => ∃ k : Nat, s3 = .int .i64 k ∧ k + gk = a.size ∧ wr = w ∧ (∀ j (hj : j < k) (h : j < a.size), a[j] ≠ 47))
  case atStart => exact ⟨0, rfl, by omega, rfl, fun j hj => by omega⟩
  case round =>
    obtain ⟨k, rfl, hk, rfl, hb⟩ := hrel
    by_cases hlt : k < a.size
    · by_cases hc : a[k] = 47
      · have e := Lib.hid (slash_at hlt (fun j hj => hb j hj (by omega)) hc)
        have hc' : ((a[k].toNat : Int) == 47) = true := by rw [hc]; rfl
        have hlt' : (k : Int) < (a.size : Int) := by omega
        have hz1 : 0 ≤ (k : Int) := by omega
        have hv : Hid (R = (k : Int)) := by
          show _ = _
          rw [← HR.out, e.out, if_pos hlt]
        clear hb hc e HR
        have Hk := Lib.hid hk
        clear hk
        go_wp2
        go_ret
        exact ⟨by rw [hv.out]; rfl, rfl⟩
      · have hne : a[k].toNat ≠ 47 := fun e => hc (UInt8.toNat_inj.1 e)
        have hc' : ((a[k].toNat : Int) == 47) = false := beq_eq_false_iff_ne.2 (by omega)
        have hlt' : (k : Int) < (a.size : Int) := by omega
        have hz1 : 0 ≤ (k : Int) := by omega
        have Hk := Lib.hid hk
        clear hk hne
        go_wp2
        have hk := Hk.out
        go_roundg (gk - 1)
        case measure => omega
        case rel =>
          refine ⟨k + 1, by go_num, by omega, rfl, fun j hj h => ?_⟩
          by_cases e : j = k
          · subst e; exact hc
          · exact hb j (by omega) h
    · have e := Lib.hid (slash_no (fun j hj => hb j (by omega) hj))
      have hlt' : ¬ (k : Int) < (a.size : Int) := by omega
      have hv : Hid (R = -1) := by
        show _ = _
        rw [← HR.out, e.out, if_neg (by omega)]
      clear hb e HR
      go_wp2
      go_ret
      exact ⟨by rw [hv.out]; rfl, rfl⟩

set_option maxRecDepth 100000 in
set_option maxHeartbeats 2000000 in
theorem Split_any (a : ByteArray) (w : World) (ha : a.size ≤ 9223372036854775807) :
    Calls Tryz.prog 30 #[.string a] w fun x w' => x = .returned (.tuple #[.string (cN a), .string (cD a)]) ∧ Kp [] w w' := by
  have q := Lib.hid (slash_any a w ha)
  have hle := slash_le a
  by_cases hs : slashAt a < a.size
  · rw [if_pos hs] at q
    have e1 : Hid (cN a = a.extract 0 (slashAt a)) := rfl
    have e2 : Hid (cD a = a.extract (slashAt a + 1) a.size) := if_pos hs
    rw [e1.out, e2.out]
    generalize slashAt a = k at *
    have hk0 : 0 ≤ (k : Int) := by omega
    have hkl : (k : Int) < (a.size : Int) := by omega
    have hl1 : (a.size : Int) ≤ 9223372036854775807 := by omega
    go_enter Tryz.func30, Tryz.ntmps30
    go_wp2_with fail
    with_reducible refine q.out.mono ?_
    rintro x w1 ⟨rfl, rfl⟩
    go_wp2_with fail
    go_quiet (fail)
    go_wp2
    go_ret2
    exact ⟨rfl, (Kp.refl _ _).drewN _⟩
  · rw [if_neg hs] at q
    have e1 : Hid (cN a = a) := by
      show _ = _
      unfold cN
      apply bytes_eq
      rw [Lib.extract_data, List.drop_zero, List.take_of_length_le (by rw [← Lib.size_eq]; omega)]
    have e2 : Hid (cD a = ⟨#[49]⟩) := if_neg hs
    rw [e1.out, e2.out]
    go_enter Tryz.func30, Tryz.ntmps30
    go_wp2_with fail
    with_reducible refine q.out.mono ?_
    rintro x w1 ⟨rfl, rfl⟩
    go_wp2
    go_ret2
    exact ⟨rfl, Kp.refl _ _⟩











































end Go.Proofs.YtiommpdbbpddpaaGreat

/- Check of the reference of layer 2, for any texts. -/
namespace Go.Proofs.YtiommpdbbpddpaaGreat
open Go.RowKit
open Go.Lib (nDigits itoa decDigits)

theorem chk_three (l : List UInt8) : chk l = 0 ∨ chk l = 3 ∨ chk l = 11 := by
  unfold chk
  split
  · split
    · exact .inl rfl
    · exact .inr (.inr rfl)
  · exact .inr (.inl rfl)
set_option maxRecDepth 100000 in
set_option maxHeartbeats 4000000 in
theorem rCheck2_any (a : ByteArray) (w : World) (ha : a.size ≤ 9223372036854775807) :
    Calls Tryz.prog 17 #[.string a] w fun x w' => x = .returned (.int .i64 (spE a)) ∧ Kp [] w w' := by
  have q := Lib.hid (Split_any a w (Nat.le_trans ha (by omega)))
  have q0 := Lib.hid (fun W => slash_any a W (Nat.le_trans ha (by omega)))
  have q1 := Lib.hid (fun W => rcheck_any (cN a) W (Nat.le_trans (cN_size ha) (by omega)))
  have q2 := Lib.hid (fun W => rcheck_any (cD a) W (Nat.le_trans (cD_size ha) (by omega)))
  rcases chk_three (cN a).data.toList with hn | hn | hn
  · rcases chk_three (cD a).data.toList with hd | hd | hd
    · obtain ⟨X, hX, oX⟩ := of_chk_zero hn
      obtain ⟨Y, hY, oY⟩ := of_chk_zero hd
      have es : Hid (spE a = if (cW a && !(decide (1 < Y) && decide (gcdI X Y = 1))) = true then 3 else 0) := by
        show _ = _
        unfold spE frE
        rw [hn, hd, hX, hY, lowB_S oX oY]
        simp
      have q3 := Lib.hid (fun W => rorder_any plus_all Y 1 W oY okq_one)
      have q4 := Lib.hid (fun W => shared_any X Y W oX oY)
      change Hid (∀ W, Calls Tryz.prog 34 #[.string (S X), .string (S Y)] W fun e w' => e = .returned (.string (S (gcdI X Y))) ∧ Kp [] W w') at q4
      rw [← one_S, ← hY] at q3
      rw [← hX, ← hY] at q4
      rw [hn] at q1
      rw [hd] at q2
      have eN : Hid (cW a = decide (slashAt a < a.size)) := rfl
      rw [eN.out] at es
      clear hn hd hX hY eN
      generalize cN a = n at *
      generalize cD a = d at *
      by_cases hs : slashAt a < a.size
      · rw [if_pos hs] at q0
        rw [decide_eq_true hs, Bool.true_and] at es
        have hk0 : 0 ≤ (slashAt a : Int) := by omega
        generalize slashAt a = K at *
        clear hs
        by_cases hy : 1 < Y
        · have hc : cmpI Y 1 = 1 := by unfold cmpI; rw [if_neg (by omega), if_neg (by omega)]
          rw [hc] at q3
          rw [decide_eq_true hy, Bool.true_and] at es
          by_cases hg : gcdI X Y = 1
          · rw [hg, ← one_S] at q4
            rw [es.out, decide_eq_true hg, Bool.not_true, if_neg (by decide)]
            clear hc hy hg es
            go_enter Tryz.func17, Tryz.ntmps17
            go_wp2_with fail
            with_reducible refine q.out.mono ?_
            rintro x w1 ⟨rfl, k1⟩
            go_wp2_with fail
            with_reducible refine (q1.out _).mono ?_
            rintro x _ ⟨rfl, rfl⟩
            go_wp2_with fail
            with_reducible refine (q2.out _).mono ?_
            rintro x _ ⟨rfl, rfl⟩
            go_wp2_with fail
            with_reducible refine (q1.out _).mono ?_
            rintro x _ ⟨rfl, rfl⟩
            go_wp2_with fail
            with_reducible refine (q2.out _).mono ?_
            rintro x _ ⟨rfl, rfl⟩
            go_wp2_with fail
            with_reducible refine (q0.out _).mono ?_
            rintro x _ ⟨rfl, rfl⟩
            go_wp2_with fail
            with_reducible refine (q3.out _).mono ?_
            rintro x w2 ⟨rfl, k2⟩
            go_wp2_with fail
            with_reducible refine (q4.out _).mono ?_
            rintro x w3 ⟨rfl, k3⟩
            go_wp2
            go_ret
            exact ⟨rfl, (k1.trans k2).trans k3⟩
          · have ho : ((S (gcdI X Y)).toList == [49]) = false := by
              have := isOne_S (gcdI X Y)
              rw [decide_eq_false hg] at this
              exact this
            rw [es.out, decide_eq_false hg, Bool.not_false, if_pos rfl]
            generalize S (gcdI X Y) = T at *
            clear hc hy hg es
            go_enter Tryz.func17, Tryz.ntmps17
            go_wp2_with fail
            with_reducible refine q.out.mono ?_
            rintro x w1 ⟨rfl, k1⟩
            go_wp2_with fail
            with_reducible refine (q1.out _).mono ?_
            rintro x _ ⟨rfl, rfl⟩
            go_wp2_with fail
            with_reducible refine (q2.out _).mono ?_
            rintro x _ ⟨rfl, rfl⟩
            go_wp2_with fail
            with_reducible refine (q1.out _).mono ?_
            rintro x _ ⟨rfl, rfl⟩
            go_wp2_with fail
            with_reducible refine (q2.out _).mono ?_
            rintro x _ ⟨rfl, rfl⟩
            go_wp2_with fail
            with_reducible refine (q0.out _).mono ?_
            rintro x _ ⟨rfl, rfl⟩
            go_wp2_with fail
            with_reducible refine (q3.out _).mono ?_
            rintro x w2 ⟨rfl, k2⟩
            go_wp2_with fail
            with_reducible refine (q4.out _).mono ?_
            rintro x w3 ⟨rfl, k3⟩
            go_wp2
            go_ret
            exact ⟨rfl, (k1.trans k2).trans k3⟩
        · have hc : cmpI Y 1 ≤ 0 := by
            unfold cmpI
            split
            · omega
            · split <;> omega
          rw [decide_eq_false hy, Bool.false_and, Bool.not_false, if_pos rfl] at es
          rw [es.out]
          generalize cmpI Y 1 = C at *
          clear hy es
          go_enter Tryz.func17, Tryz.ntmps17
          go_wp2_with fail
          with_reducible refine q.out.mono ?_
          rintro x w1 ⟨rfl, k1⟩
          go_wp2_with fail
          with_reducible refine (q1.out _).mono ?_
          rintro x _ ⟨rfl, rfl⟩
          go_wp2_with fail
          with_reducible refine (q2.out _).mono ?_
          rintro x _ ⟨rfl, rfl⟩
          go_wp2_with fail
          with_reducible refine (q1.out _).mono ?_
          rintro x _ ⟨rfl, rfl⟩
          go_wp2_with fail
          with_reducible refine (q2.out _).mono ?_
          rintro x _ ⟨rfl, rfl⟩
          go_wp2_with fail
          with_reducible refine (q0.out _).mono ?_
          rintro x _ ⟨rfl, rfl⟩
          go_wp2_with fail
          with_reducible refine (q3.out _).mono ?_
          rintro x w2 ⟨rfl, k2⟩
          go_wp2
          go_ret
          exact ⟨rfl, k1.trans k2⟩
      · rw [if_neg hs] at q0
        rw [decide_eq_false hs, Bool.false_and, if_neg (by decide)] at es
        rw [es.out]
        clear hs es
        go_enter Tryz.func17, Tryz.ntmps17
        go_wp2_with fail
        with_reducible refine q.out.mono ?_
        rintro x w1 ⟨rfl, k1⟩
        go_wp2_with fail
        with_reducible refine (q1.out _).mono ?_
        rintro x _ ⟨rfl, rfl⟩
        go_wp2_with fail
        with_reducible refine (q2.out _).mono ?_
        rintro x _ ⟨rfl, rfl⟩
        go_wp2_with fail
        with_reducible refine (q1.out _).mono ?_
        rintro x _ ⟨rfl, rfl⟩
        go_wp2_with fail
        with_reducible refine (q2.out _).mono ?_
        rintro x _ ⟨rfl, rfl⟩
        go_wp2_with fail
        with_reducible refine (q0.out _).mono ?_
        rintro x _ ⟨rfl, rfl⟩
        go_wp2
        go_ret
        exact ⟨rfl, k1⟩
    · have e : Hid (spE a = 3) := by
        show _ = _
        unfold spE frE
        rw [hn, hd]
        simp
      rw [e.out]
      rw [hn] at q1
      rw [hd] at q2
      clear hn hd e
      generalize cN a = n at *
      generalize cD a = d at *
      go_enter Tryz.func17, Tryz.ntmps17
      go_wp2_with fail
      with_reducible refine q.out.mono ?_
      rintro x w1 ⟨rfl, k1⟩
      go_wp2_with fail
      with_reducible refine (q1.out _).mono ?_
      rintro x _ ⟨rfl, rfl⟩
      go_wp2_with fail
      with_reducible refine (q2.out _).mono ?_
      rintro x _ ⟨rfl, rfl⟩
      go_wp2
      go_ret
      exact ⟨rfl, k1⟩
    · have e : Hid (spE a = 11) := by
        show _ = _
        unfold spE frE
        rw [hn, hd]
        simp
      rw [e.out]
      rw [hn] at q1
      rw [hd] at q2
      clear hn hd e
      generalize cN a = n at *
      generalize cD a = d at *
      go_enter Tryz.func17, Tryz.ntmps17
      go_wp2_with fail
      with_reducible refine q.out.mono ?_
      rintro x w1 ⟨rfl, k1⟩
      go_wp2_with fail
      with_reducible refine (q1.out _).mono ?_
      rintro x _ ⟨rfl, rfl⟩
      go_wp2_with fail
      with_reducible refine (q2.out _).mono ?_
      rintro x _ ⟨rfl, rfl⟩
      go_wp2_with fail
      with_reducible refine (q1.out _).mono ?_
      rintro x _ ⟨rfl, rfl⟩
      go_wp2_with fail
      with_reducible refine (q2.out _).mono ?_
      rintro x _ ⟨rfl, rfl⟩
      go_wp2
      go_ret
      exact ⟨rfl, k1⟩
  · have e : Hid (spE a = 3) := by
      show _ = _
      unfold spE frE
      rw [hn]
      simp
    rw [e.out]
    rw [hn] at q1
    clear hn e
    generalize cN a = n at *
    generalize cD a = d at *
    go_enter Tryz.func17, Tryz.ntmps17
    go_wp2_with fail
    with_reducible refine q.out.mono ?_
    rintro x w1 ⟨rfl, k1⟩
    go_wp2_with fail
    with_reducible refine (q1.out _).mono ?_
    rintro x _ ⟨rfl, rfl⟩
    go_wp2
    go_ret
    exact ⟨rfl, k1⟩
  · rcases chk_three (cD a).data.toList with hd | hd | hd
    · have e : Hid (spE a = 11) := by
        show _ = _
        unfold spE frE
        rw [hn, hd]
        simp
      rw [e.out]
      rw [hn] at q1
      rw [hd] at q2
      clear hn hd e
      generalize cN a = n at *
      generalize cD a = d at *
      go_enter Tryz.func17, Tryz.ntmps17
      go_wp2_with fail
      with_reducible refine q.out.mono ?_
      rintro x w1 ⟨rfl, k1⟩
      go_wp2_with fail
      with_reducible refine (q1.out _).mono ?_
      rintro x _ ⟨rfl, rfl⟩
      go_wp2_with fail
      with_reducible refine (q2.out _).mono ?_
      rintro x _ ⟨rfl, rfl⟩
      go_wp2_with fail
      with_reducible refine (q1.out _).mono ?_
      rintro x _ ⟨rfl, rfl⟩
      go_wp2
      go_ret
      exact ⟨rfl, k1⟩
    · have e : Hid (spE a = 3) := by
        show _ = _
        unfold spE frE
        rw [hn, hd]
        simp
      rw [e.out]
      rw [hn] at q1
      rw [hd] at q2
      clear hn hd e
      generalize cN a = n at *
      generalize cD a = d at *
      go_enter Tryz.func17, Tryz.ntmps17
      go_wp2_with fail
      with_reducible refine q.out.mono ?_
      rintro x w1 ⟨rfl, k1⟩
      go_wp2_with fail
      with_reducible refine (q1.out _).mono ?_
      rintro x _ ⟨rfl, rfl⟩
      go_wp2_with fail
      with_reducible refine (q2.out _).mono ?_
      rintro x _ ⟨rfl, rfl⟩
      go_wp2
      go_ret
      exact ⟨rfl, k1⟩
    · have e : Hid (spE a = 11) := by
        show _ = _
        unfold spE frE
        rw [hn, hd]
        simp
      rw [e.out]
      rw [hn] at q1
      rw [hd] at q2
      clear hn hd e
      generalize cN a = n at *
      generalize cD a = d at *
      go_enter Tryz.func17, Tryz.ntmps17
      go_wp2_with fail
      with_reducible refine q.out.mono ?_
      rintro x w1 ⟨rfl, k1⟩
      go_wp2_with fail
      with_reducible refine (q1.out _).mono ?_
      rintro x _ ⟨rfl, rfl⟩
      go_wp2_with fail
      with_reducible refine (q2.out _).mono ?_
      rintro x _ ⟨rfl, rfl⟩
      go_wp2_with fail
      with_reducible refine (q1.out _).mono ?_
      rintro x _ ⟨rfl, rfl⟩
      go_wp2
      go_ret
      exact ⟨rfl, k1⟩
end Go.Proofs.YtiommpdbbpddpaaGreat
