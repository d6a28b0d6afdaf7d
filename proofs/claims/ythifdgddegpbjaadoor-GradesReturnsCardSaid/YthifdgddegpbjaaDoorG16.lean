/- The reference of package grades: Parse, of any text. -/
import Derived.Test.YthifdgddegpbjaaDoorG15
namespace Go.Proofs.YthifdgddegpbjaaDoor
open Go.RowKit

abbrev rcl0 : Obj := .cells #[.bool false, .int .i64 0, .int .i64 0] 28 (0, 0)
abbrev ZC : Value := .agg #[.bool false, .int .i64 0, .int .i64 0]
set_option maxRecDepth 100000 in
set_option maxHeartbeats 8000000 in
theorem rp_len (s : ByteArray) (w : World) (hs : s.size ≤ 60) (h : s.size < 2 ∨ (¬ s.size < 2 ∧ 4 < s.size)) : Calls Tryd.prog 13 #[.string s] w fun r w' => r = .returned (.tuple #[ZC, .int .i64 4]) ∧ Kb w w' := by
  have res := Is.made w #[.bool false, .int .i64 0, .int .i64 0] 28
  have kk := (Kb.refl w).alloc rcl0
  rcases h with h | ⟨h, h2⟩
  · have h' : (s.size : Int) < 2 := by omega
    go_enter Tryd.func13, Tryd.ntmps13
    go_wp2
    refine ret_row2 Tryd.results13 rfl rfl rfl res Tryd.underlying28 rfl (by kernel_rfl) ?_
    exact ⟨rfl, kk⟩
  · have h' : ¬ (s.size : Int) < 2 := by omega
    have h2' : (4 : Int) < (s.size : Int) := by omega
    go_enter Tryd.func13, Tryd.ntmps13
    go_wp2
    refine ret_row2 Tryd.results13 rfl rfl rfl res Tryd.underlying28 rfl (by kernel_rfl) ?_
    exact ⟨rfl, kk⟩
set_option maxRecDepth 100000 in
set_option maxHeartbeats 8000000 in
theorem rp_nolet (s : ByteArray) (c : UInt8) (w : World) (n2 : 2 ≤ s.size) (n4 : s.size ≤ 4) (hc : s[0]'(by omega) = c) (i1 : Int) (q1 : Hid (∀ W : World, Calls Tryd.prog 39 #[.string letB, .int .u8 (c.toNat : Int)] W fun r w' => r = .returned (.int .i64 i1) ∧ W = w')) (i2 : Int) (q2 : Hid (∀ W : World, Calls Tryd.prog 39 #[.string capB, .int .u8 (c.toNat : Int)] W fun r w' => r = .returned (.int .i64 i2) ∧ W = w')) (h1 : i1 < 0) (h2 : i2 < 0) : Calls Tryd.prog 13 #[.string s] w fun r w' => r = .returned (.tuple #[ZC, .int .i64 4]) ∧ Kb w w' := by
  have a1 : ¬ (s.size : Int) < 2 := by omega
  have a2 : ¬ (4 : Int) < (s.size : Int) := by omega
  have a3 : 0 < s.size := by omega
  have a4 : 1 < s.size := by omega
  have res := Is.made w #[.bool false, .int .i64 0, .int .i64 0] 28
  have kk := (Kb.refl w).alloc rcl0
  go_enter Tryd.func13, Tryd.ntmps13
  go_wp2_with fail
  refine (q1.out _).mono ?_
  rintro r w1 ⟨rfl, rfl⟩
  go_wp2_with fail
  refine (q2.out _).mono ?_
  rintro r w2 ⟨rfl, rfl⟩
  have cx := Is.made (w.alloc rcl0) #[.bool true, .int .i64 i2, .int .i64 0] 28
  rw [World.size_alloc] at cx
  have res := res.alloc (.cells #[.bool true, .int .i64 i2, .int .i64 0] 28 (0, 0))
  have kk := kk.alloc (.cells #[.bool true, .int .i64 i2, .int .i64 0] 28 (0, 0))
  have c0 := cx.c (i := 0) rfl
  have c1 := cx.c (i := 1) rfl
  have c2 := cx.c (i := 2) rfl
  go_wp2
  refine ret_row2 Tryd.results13 rfl rfl rfl res Tryd.underlying28 rfl (by kernel_rfl) ?_
  exact ⟨rfl, kk⟩
set_option maxRecDepth 100000 in
set_option maxHeartbeats 8000000 in
theorem rp_zero_lo (s : ByteArray) (c : UInt8) (w : World) (n2 : 2 ≤ s.size) (n4 : s.size ≤ 4) (hc : s[0]'(by omega) = c) (i1 : Int) (q1 : Hid (∀ W : World, Calls Tryd.prog 39 #[.string letB, .int .u8 (c.toNat : Int)] W fun r w' => r = .returned (.int .i64 i1) ∧ W = w')) (h1 : ¬ i1 < 0) (z1 : ((s[1]'(by omega)).toNat : Int) = 48) (z2 : 2 < s.size) : Calls Tryd.prog 13 #[.string s] w fun r w' => r = .returned (.tuple #[ZC, .int .i64 4]) ∧ Kb w w' := by
  have a1 : ¬ (s.size : Int) < 2 := by omega
  have a2 : ¬ (4 : Int) < (s.size : Int) := by omega
  have a3 : 0 < s.size := by omega
  have a4 : 1 < s.size := by omega
  have a5 : (2 : Int) < (s.size : Int) := by omega
  have res := Is.made w #[.bool false, .int .i64 0, .int .i64 0] 28
  have kk := (Kb.refl w).alloc rcl0
  go_enter Tryd.func13, Tryd.ntmps13
  go_wp2_with fail
  refine (q1.out _).mono ?_
  rintro r w1 ⟨rfl, rfl⟩
  have cx := Is.made (w.alloc rcl0) #[.bool false, .int .i64 i1, .int .i64 0] 28
  rw [World.size_alloc] at cx
  have res := res.alloc (.cells #[.bool false, .int .i64 i1, .int .i64 0] 28 (0, 0))
  have kk := kk.alloc (.cells #[.bool false, .int .i64 i1, .int .i64 0] 28 (0, 0))
  have c0 := cx.c (i := 0) rfl
  have c1 := cx.c (i := 1) rfl
  have c2 := cx.c (i := 2) rfl
  go_wp2
  refine ret_row2 Tryd.results13 rfl rfl rfl res Tryd.underlying28 rfl (by kernel_rfl) ?_
  exact ⟨rfl, kk⟩
set_option maxRecDepth 100000 in
set_option maxHeartbeats 8000000 in
theorem rp_run_lo_a (s : ByteArray) (c : UInt8) (w : World) (n2 : 2 ≤ s.size) (n4 : s.size ≤ 4) (hc : s[0]'(by omega) = c) (i1 : Int) (q1 : Hid (∀ W : World, Calls Tryd.prog 39 #[.string letB, .int .u8 (c.toNat : Int)] W fun r w' => r = .returned (.int .i64 i1) ∧ W = w')) (h1 : ¬ i1 < 0) (h9 : i1 ≤ 9) (z1 : (((s[1]'(by omega)).toNat : Int) == 48) = false) (hg : Glo w) (t : List UInt8) (ht : t.length + 1 = s.size) (HT : Hid (∀ i (h : i < s.size), 1 ≤ i → t[i - 1]? = some s[i])) (V : Value) (E0 : Int)
    (Hbad : Hid (∀ x ∈ t, dgB x = false → V = ZC ∧ E0 = 4)) (Hend : Hid ((∀ x ∈ t, dgB x = true) → True ∧ (grE (accD t : Int) = 0 → V = .agg #[.bool false, .int .i64 i1, .int .i64 (accD t : Int)] ∧ E0 = 0) ∧ (grE (accD t : Int) ≠ 0 → V = ZC ∧ E0 = grE (accD t : Int)))) : Calls Tryd.prog 13 #[.string s] w fun r w' => r = .returned (.tuple #[V, .int .i64 E0]) ∧ Kb w w' := by
  have a1 : ¬ (s.size : Int) < 2 := by omega
  have a2 : ¬ (4 : Int) < (s.size : Int) := by omega
  have a3 : 0 < s.size := by omega
  have a4 : 1 < s.size := by omega
  have res := Is.made w #[.bool false, .int .i64 0, .int .i64 0] 28
  have kk := (Kb.refl w).alloc rcl0
  go_enter Tryd.func13, Tryd.ntmps13
  go_wp2_with fail
  refine (q1.out _).mono ?_
  rintro r w1 ⟨rfl, rfl⟩
  have cx := Is.made (w.alloc rcl0) #[.bool false, .int .i64 i1, .int .i64 0] 28
  rw [World.size_alloc] at cx
  have res := res.alloc (.cells #[.bool false, .int .i64 i1, .int .i64 0] 28 (0, 0))
  have kk := kk.alloc (.cells #[.bool false, .int .i64 i1, .int .i64 0] 28 (0, 0))
  have c0 := cx.c (i := 0) rfl
  have c1 := cx.c (i := 1) rfl
  have c2 := cx.c (i := 2) rfl
  go_wp2_with fail
  go_loopg [5] s.size (fun gk s5 wr => ∃ i a : Nat, s5 = .int .i64 i ∧ i + gk = s.size + 1 ∧ 1 ≤ i ∧ i ≤ s.size ∧ Is wr (w.heap.size + 1) #[.bool false, .int .i64 i1, .int .i64 (a : Int)] 28 ∧ Is wr w.heap.size #[.bool false, .int .i64 0, .int .i64 0] 28 ∧ Kb w wr ∧ Hid (a = accD (t.take (i - 1)) ∧ ∀ x ∈ t.take (i - 1), dgB x = true) ∧ (a ≤ 999 ∧ (i ≤ 3 → a ≤ 99) ∧ (i ≤ 2 → a ≤ 9) ∧ (i ≤ 1 → a = 0)))
  case atStart => exact ⟨1, 0, rfl, by omega, by omega, by omega, cx, res, kk, ⟨by simp [accD], by simp⟩, by omega, by omega, by omega, by omega⟩
  case round =>
    obtain ⟨i, a, rfl, hi, hi1, his, cx, res, kk, hA, b1, b2, b3, b4⟩ := hrel
    have c0 := cx.c (i := 0) rfl
    have c1 := cx.c (i := 1) rfl
    have c2 := cx.c (i := 2) rfl
    have f2 := cx.f 2
    have m0 := res.c (i := 0) rfl
    have m1 := res.c (i := 1) rfl
    have m2 := res.c (i := 2) rfl
    have g0 := res.f 0
    have g1 := res.f 1
    have g2 := res.f 2
    by_cases hlt : i < s.size
    · obtain ⟨x, hx⟩ : ∃ x, s[i] = x := ⟨_, rfl⟩
      have hT := HT.out i hlt hi1
      rw [hx] at hT
      have hlt' : (i : Int) < (s.size : Int) := by omega
      have hi0 : (0 : Int) ≤ (i : Int) := by omega
      have Hi := Lib.hid hi; have Hl := Lib.hid hlt; have HA := Lib.hid hA
      have hi4 : (i : Int) ≤ 4 := by omega
      by_cases hd : dgB x = true
      · rw [dgB_iff] at hd
        have d1 : ¬ (x.toNat : Int) < 48 := by omega
        have d2 : ¬ (57 : Int) < (x.toNat : Int) := by omega
        have a99 : a ≤ 99 := b2 (by omega)
        obtain ⟨y, hy⟩ : ∃ y : Nat, y = x.toNat - 48 := ⟨_, rfl⟩
        have e1 : (x.toNat : Int) - 48 = (y : Int) := by omega
        have y9 : y ≤ 9 := by omega
        have e2 : IntKind.u8.wrap (y : Int) = (y : Int) := by show (y : Int) % 256 = _; omega
        have e3 : IntKind.i64.wrap (y : Int) = (y : Int) := IntWalk.i64_in _ (by omega)
        have e4 : IntKind.i64.wrap (10 * (a : Int)) = 10 * (a : Int) := IntWalk.i64_in _ (by omega)
        obtain ⟨z, hz⟩ : ∃ z : Nat, z = 10 * a + y := ⟨_, rfl⟩
        have e5 : 10 * (a : Int) + (y : Int) = (z : Int) := by omega
        have e6 : IntKind.i64.wrap (z : Int) = (z : Int) := IntWalk.i64_in _ (by omega)
        have hn : Hid (z = accD (t.take (i + 1 - 1)) ∧ ∀ v ∈ t.take (i + 1 - 1), dgB v = true) := by
          have e7 : t.take (i + 1 - 1) = t.take (i - 1) ++ [x] := by
            rw [show i + 1 - 1 = (i - 1) + 1 by omega, List.take_add_one, hT]; rfl
          rw [e7, accD_snoc]
          refine ⟨by rw [← hA.out.1, hz, hy], fun v hv => ?_⟩
          rcases List.mem_append.1 hv with hv | hv
          · exact hA.out.2 v hv
          · rw [List.mem_singleton] at hv; rw [hv, dgB_iff]; exact hd
        have hb : z ≤ 999 ∧ (i + 1 ≤ 3 → z ≤ 99) ∧ (i + 1 ≤ 2 → z ≤ 9) ∧ (i + 1 ≤ 1 → z = 0) := by omega
        have HB2 := Lib.hid hb
        clear hi hA hT hd hy hz hb b1 b2 b3 b4 Hend Hbad HT hi1 his
        go_wp2
        go_region
        all_goals go_wp2
        all_goals
          have hi := Hi.out
          have hlt := Hl.out
        all_goals go_roundg (gk - 1)
        case measure => omega
        case rel => exact ⟨i + 1, z, by go_num, by omega, by omega, by omega, (cx.set 2 _).drew, (res.far (Nat.ne_of_lt (Nat.lt_succ_self _)) _).drew, (kk.setCell (Nat.le_succ _) _).drew, hn, HB2.out⟩
      · have hbad := Lib.hid (Hbad.out x (List.mem_of_getElem? hT) (by simpa using hd))
        have hd2 : (x.toNat : Int) < 48 ∨ (¬ (x.toNat : Int) < 48 ∧ (57 : Int) < (x.toNat : Int)) := by
          rw [dgB_iff] at hd; omega
        clear hi hA hT hd b1 b2 b3 b4 Hend Hbad HT
        rcases hd2 with hd2 | ⟨hd2, hd3⟩
        · go_wp2
          refine ret_row2 Tryd.results13 rfl rfl rfl (((res.set 0 _).set 1 _).set 2 _) Tryd.underlying28 rfl (by kernel_rfl) ?_
          exact ⟨by rw [hbad.out.1, hbad.out.2]; rfl, ((kk.setCell (Nat.le_refl _) _).setCell (Nat.le_refl _) _).setCell (Nat.le_refl _) _⟩
        · go_wp2
          refine ret_row2 Tryd.results13 rfl rfl rfl (((res.set 0 _).set 1 _).set 2 _) Tryd.underlying28 rfl (by kernel_rfl) ?_
          exact ⟨by rw [hbad.out.1, hbad.out.2]; rfl, ((kk.setCell (Nat.le_refl _) _).setCell (Nat.le_refl _) _).setCell (Nat.le_refl _) _⟩
    · obtain rfl : i = s.size := by omega
      obtain ⟨hA1, hA2⟩ := hA.out
      rw [List.take_of_length_le (by omega)] at hA1 hA2
      obtain ⟨he, ho, hno⟩ := Hend.out hA2
      have q3 := rCheck false i1 (a : Int)
      have hgx := hg.kb kk
      have ec : clE i1 (a : Int) = grE (accD t : Int) := by unfold clE; rw [if_pos (by omega), hA1]
      rw [ec] at q3
      unfold Gq at q3
      have HO := Lib.hid ho; have HN := Lib.hid hno; have HA1 := Lib.hid hA1
      clear hA hA1 hA2 ho hno hi b1 b2 b3 b4 Hend Hbad HT hlt ec
      by_cases hz : grE (accD t : Int) = 0
      · have hv := Lib.hid (HO.out hz)
        rw [hz] at q3
        clear HO HN hz
        go_wp2_with fail
        with_reducible refine (q3.out _ hgx).mono ?_
        rintro r w5 ⟨rfl, k5⟩
        have cx := cx.kb k5
        have res := res.kb k5
        have kk := kk.trans k5
        have c0 := cx.c (i := 0) rfl
        have c1 := cx.c (i := 1) rfl
        have c2 := cx.c (i := 2) rfl
        have m0 := res.c (i := 0) rfl
        have m1 := res.c (i := 1) rfl
        have m2 := res.c (i := 2) rfl
        have g0 := res.f 0
        have g1 := res.f 1
        have g2 := res.f 2
        go_wp2
        refine ret_row2 Tryd.results13 rfl rfl rfl (((res.set 0 _).set 1 _).set 2 _) Tryd.underlying28 rfl (by kernel_rfl) ?_
        exact ⟨by rw [hv.out.1, hv.out.2, ← HA1.out]; rfl, ((kk.setCell (Nat.le_refl _) _).setCell (Nat.le_refl _) _).setCell (Nat.le_refl _) _⟩
      · have hv := Lib.hid (HN.out hz)
        have hz' : (grE (accD t : Int) != 0) = true := bne_iff_ne.2 hz
        clear HO HN hz
        generalize grE (accD t : Int) = ee at *
        go_wp2_with fail
        with_reducible refine (q3.out _ hgx).mono ?_
        rintro r w5 ⟨rfl, k5⟩
        have res := res.kb k5
        have kk := kk.trans k5
        have m0 := res.c (i := 0) rfl
        have m1 := res.c (i := 1) rfl
        have m2 := res.c (i := 2) rfl
        have g0 := res.f 0
        have g1 := res.f 1
        have g2 := res.f 2
        go_wp2
        refine ret_row2 Tryd.results13 rfl rfl rfl (((res.set 0 _).set 1 _).set 2 _) Tryd.underlying28 rfl (by kernel_rfl) ?_
        exact ⟨by rw [hv.out.1, hv.out.2]; rfl, ((kk.setCell (Nat.le_refl _) _).setCell (Nat.le_refl _) _).setCell (Nat.le_refl _) _⟩
set_option maxRecDepth 100000 in
set_option maxHeartbeats 8000000 in
theorem rp_run_lo_b (s : ByteArray) (c : UInt8) (w : World) (n2 : 2 ≤ s.size) (n4 : s.size ≤ 4) (hc : s[0]'(by omega) = c) (i1 : Int) (q1 : Hid (∀ W : World, Calls Tryd.prog 39 #[.string letB, .int .u8 (c.toNat : Int)] W fun r w' => r = .returned (.int .i64 i1) ∧ W = w')) (h1 : ¬ i1 < 0) (h9 : i1 ≤ 9) (z1 : (((s[1]'(by omega)).toNat : Int) == 48) = true) (z2 : ¬ 2 < s.size) (hg : Glo w) (t : List UInt8) (ht : t.length + 1 = s.size) (HT : Hid (∀ i (h : i < s.size), 1 ≤ i → t[i - 1]? = some s[i])) (V : Value) (E0 : Int)
    (Hbad : Hid (∀ x ∈ t, dgB x = false → V = ZC ∧ E0 = 4)) (Hend : Hid ((∀ x ∈ t, dgB x = true) → True ∧ (grE (accD t : Int) = 0 → V = .agg #[.bool false, .int .i64 i1, .int .i64 (accD t : Int)] ∧ E0 = 0) ∧ (grE (accD t : Int) ≠ 0 → V = ZC ∧ E0 = grE (accD t : Int)))) : Calls Tryd.prog 13 #[.string s] w fun r w' => r = .returned (.tuple #[V, .int .i64 E0]) ∧ Kb w w' := by
  have a1 : ¬ (s.size : Int) < 2 := by omega
  have a2 : ¬ (4 : Int) < (s.size : Int) := by omega
  have a3 : 0 < s.size := by omega
  have a4 : 1 < s.size := by omega
  have a5 : ¬ (2 : Int) < (s.size : Int) := by omega
  have res := Is.made w #[.bool false, .int .i64 0, .int .i64 0] 28
  have kk := (Kb.refl w).alloc rcl0
  go_enter Tryd.func13, Tryd.ntmps13
  go_wp2_with fail
  refine (q1.out _).mono ?_
  rintro r w1 ⟨rfl, rfl⟩
  have cx := Is.made (w.alloc rcl0) #[.bool false, .int .i64 i1, .int .i64 0] 28
  rw [World.size_alloc] at cx
  have res := res.alloc (.cells #[.bool false, .int .i64 i1, .int .i64 0] 28 (0, 0))
  have kk := kk.alloc (.cells #[.bool false, .int .i64 i1, .int .i64 0] 28 (0, 0))
  have c0 := cx.c (i := 0) rfl
  have c1 := cx.c (i := 1) rfl
  have c2 := cx.c (i := 2) rfl
  go_wp2_with fail
  go_loopg [5] s.size (fun gk s5 wr => ∃ i a : Nat, s5 = .int .i64 i ∧ i + gk = s.size + 1 ∧ 1 ≤ i ∧ i ≤ s.size ∧ Is wr (w.heap.size + 1) #[.bool false, .int .i64 i1, .int .i64 (a : Int)] 28 ∧ Is wr w.heap.size #[.bool false, .int .i64 0, .int .i64 0] 28 ∧ Kb w wr ∧ Hid (a = accD (t.take (i - 1)) ∧ ∀ x ∈ t.take (i - 1), dgB x = true) ∧ (a ≤ 999 ∧ (i ≤ 3 → a ≤ 99) ∧ (i ≤ 2 → a ≤ 9) ∧ (i ≤ 1 → a = 0)))
  case atStart => exact ⟨1, 0, rfl, by omega, by omega, by omega, cx, res, kk, ⟨by simp [accD], by simp⟩, by omega, by omega, by omega, by omega⟩
  case round =>
    obtain ⟨i, a, rfl, hi, hi1, his, cx, res, kk, hA, b1, b2, b3, b4⟩ := hrel
    have c0 := cx.c (i := 0) rfl
    have c1 := cx.c (i := 1) rfl
    have c2 := cx.c (i := 2) rfl
    have f2 := cx.f 2
    have m0 := res.c (i := 0) rfl
    have m1 := res.c (i := 1) rfl
    have m2 := res.c (i := 2) rfl
    have g0 := res.f 0
    have g1 := res.f 1
    have g2 := res.f 2
    by_cases hlt : i < s.size
    · obtain ⟨x, hx⟩ : ∃ x, s[i] = x := ⟨_, rfl⟩
      have hT := HT.out i hlt hi1
      rw [hx] at hT
      have hlt' : (i : Int) < (s.size : Int) := by omega
      have hi0 : (0 : Int) ≤ (i : Int) := by omega
      have Hi := Lib.hid hi; have Hl := Lib.hid hlt; have HA := Lib.hid hA
      have hi4 : (i : Int) ≤ 4 := by omega
      by_cases hd : dgB x = true
      · rw [dgB_iff] at hd
        have d1 : ¬ (x.toNat : Int) < 48 := by omega
        have d2 : ¬ (57 : Int) < (x.toNat : Int) := by omega
        have a99 : a ≤ 99 := b2 (by omega)
        obtain ⟨y, hy⟩ : ∃ y : Nat, y = x.toNat - 48 := ⟨_, rfl⟩
        have e1 : (x.toNat : Int) - 48 = (y : Int) := by omega
        have y9 : y ≤ 9 := by omega
        have e2 : IntKind.u8.wrap (y : Int) = (y : Int) := by show (y : Int) % 256 = _; omega
        have e3 : IntKind.i64.wrap (y : Int) = (y : Int) := IntWalk.i64_in _ (by omega)
        have e4 : IntKind.i64.wrap (10 * (a : Int)) = 10 * (a : Int) := IntWalk.i64_in _ (by omega)
        obtain ⟨z, hz⟩ : ∃ z : Nat, z = 10 * a + y := ⟨_, rfl⟩
        have e5 : 10 * (a : Int) + (y : Int) = (z : Int) := by omega
        have e6 : IntKind.i64.wrap (z : Int) = (z : Int) := IntWalk.i64_in _ (by omega)
        have hn : Hid (z = accD (t.take (i + 1 - 1)) ∧ ∀ v ∈ t.take (i + 1 - 1), dgB v = true) := by
          have e7 : t.take (i + 1 - 1) = t.take (i - 1) ++ [x] := by
            rw [show i + 1 - 1 = (i - 1) + 1 by omega, List.take_add_one, hT]; rfl
          rw [e7, accD_snoc]
          refine ⟨by rw [← hA.out.1, hz, hy], fun v hv => ?_⟩
          rcases List.mem_append.1 hv with hv | hv
          · exact hA.out.2 v hv
          · rw [List.mem_singleton] at hv; rw [hv, dgB_iff]; exact hd
        have hb : z ≤ 999 ∧ (i + 1 ≤ 3 → z ≤ 99) ∧ (i + 1 ≤ 2 → z ≤ 9) ∧ (i + 1 ≤ 1 → z = 0) := by omega
        have HB2 := Lib.hid hb
        clear hi hA hT hd hy hz hb b1 b2 b3 b4 Hend Hbad HT hi1 his
        go_wp2
        go_region
        all_goals go_wp2
        all_goals
          have hi := Hi.out
          have hlt := Hl.out
        all_goals go_roundg (gk - 1)
        case measure => omega
        case rel => exact ⟨i + 1, z, by go_num, by omega, by omega, by omega, (cx.set 2 _).drew, (res.far (Nat.ne_of_lt (Nat.lt_succ_self _)) _).drew, (kk.setCell (Nat.le_succ _) _).drew, hn, HB2.out⟩
      · have hbad := Lib.hid (Hbad.out x (List.mem_of_getElem? hT) (by simpa using hd))
        have hd2 : (x.toNat : Int) < 48 ∨ (¬ (x.toNat : Int) < 48 ∧ (57 : Int) < (x.toNat : Int)) := by
          rw [dgB_iff] at hd; omega
        clear hi hA hT hd b1 b2 b3 b4 Hend Hbad HT
        rcases hd2 with hd2 | ⟨hd2, hd3⟩
        · go_wp2
          refine ret_row2 Tryd.results13 rfl rfl rfl (((res.set 0 _).set 1 _).set 2 _) Tryd.underlying28 rfl (by kernel_rfl) ?_
          exact ⟨by rw [hbad.out.1, hbad.out.2]; rfl, ((kk.setCell (Nat.le_refl _) _).setCell (Nat.le_refl _) _).setCell (Nat.le_refl _) _⟩
        · go_wp2
          refine ret_row2 Tryd.results13 rfl rfl rfl (((res.set 0 _).set 1 _).set 2 _) Tryd.underlying28 rfl (by kernel_rfl) ?_
          exact ⟨by rw [hbad.out.1, hbad.out.2]; rfl, ((kk.setCell (Nat.le_refl _) _).setCell (Nat.le_refl _) _).setCell (Nat.le_refl _) _⟩
    · obtain rfl : i = s.size := by omega
      obtain ⟨hA1, hA2⟩ := hA.out
      rw [List.take_of_length_le (by omega)] at hA1 hA2
      obtain ⟨he, ho, hno⟩ := Hend.out hA2
      have q3 := rCheck false i1 (a : Int)
      have hgx := hg.kb kk
      have ec : clE i1 (a : Int) = grE (accD t : Int) := by unfold clE; rw [if_pos (by omega), hA1]
      rw [ec] at q3
      unfold Gq at q3
      have HO := Lib.hid ho; have HN := Lib.hid hno; have HA1 := Lib.hid hA1
      clear hA hA1 hA2 ho hno hi b1 b2 b3 b4 Hend Hbad HT hlt ec
      by_cases hz : grE (accD t : Int) = 0
      · have hv := Lib.hid (HO.out hz)
        rw [hz] at q3
        clear HO HN hz
        go_wp2_with fail
        with_reducible refine (q3.out _ hgx).mono ?_
        rintro r w5 ⟨rfl, k5⟩
        have cx := cx.kb k5
        have res := res.kb k5
        have kk := kk.trans k5
        have c0 := cx.c (i := 0) rfl
        have c1 := cx.c (i := 1) rfl
        have c2 := cx.c (i := 2) rfl
        have m0 := res.c (i := 0) rfl
        have m1 := res.c (i := 1) rfl
        have m2 := res.c (i := 2) rfl
        have g0 := res.f 0
        have g1 := res.f 1
        have g2 := res.f 2
        go_wp2
        refine ret_row2 Tryd.results13 rfl rfl rfl (((res.set 0 _).set 1 _).set 2 _) Tryd.underlying28 rfl (by kernel_rfl) ?_
        exact ⟨by rw [hv.out.1, hv.out.2, ← HA1.out]; rfl, ((kk.setCell (Nat.le_refl _) _).setCell (Nat.le_refl _) _).setCell (Nat.le_refl _) _⟩
      · have hv := Lib.hid (HN.out hz)
        have hz' : (grE (accD t : Int) != 0) = true := bne_iff_ne.2 hz
        clear HO HN hz
        generalize grE (accD t : Int) = ee at *
        go_wp2_with fail
        with_reducible refine (q3.out _ hgx).mono ?_
        rintro r w5 ⟨rfl, k5⟩
        have res := res.kb k5
        have kk := kk.trans k5
        have m0 := res.c (i := 0) rfl
        have m1 := res.c (i := 1) rfl
        have m2 := res.c (i := 2) rfl
        have g0 := res.f 0
        have g1 := res.f 1
        have g2 := res.f 2
        go_wp2
        refine ret_row2 Tryd.results13 rfl rfl rfl (((res.set 0 _).set 1 _).set 2 _) Tryd.underlying28 rfl (by kernel_rfl) ?_
        exact ⟨by rw [hv.out.1, hv.out.2]; rfl, ((kk.setCell (Nat.le_refl _) _).setCell (Nat.le_refl _) _).setCell (Nat.le_refl _) _⟩
set_option maxRecDepth 100000 in
set_option maxHeartbeats 8000000 in
theorem rp_zero_up (s : ByteArray) (c : UInt8) (w : World) (n2 : 2 ≤ s.size) (n4 : s.size ≤ 4) (hc : s[0]'(by omega) = c) (i1 : Int) (q1 : Hid (∀ W : World, Calls Tryd.prog 39 #[.string letB, .int .u8 (c.toNat : Int)] W fun r w' => r = .returned (.int .i64 i1) ∧ W = w')) (i2 : Int) (q2 : Hid (∀ W : World, Calls Tryd.prog 39 #[.string capB, .int .u8 (c.toNat : Int)] W fun r w' => r = .returned (.int .i64 i2) ∧ W = w')) (h1 : i1 < 0) (h2 : ¬ i2 < 0) (z1 : ((s[1]'(by omega)).toNat : Int) = 48) (z2 : 2 < s.size) : Calls Tryd.prog 13 #[.string s] w fun r w' => r = .returned (.tuple #[ZC, .int .i64 4]) ∧ Kb w w' := by
  have a1 : ¬ (s.size : Int) < 2 := by omega
  have a2 : ¬ (4 : Int) < (s.size : Int) := by omega
  have a3 : 0 < s.size := by omega
  have a4 : 1 < s.size := by omega
  have a5 : (2 : Int) < (s.size : Int) := by omega
  have res := Is.made w #[.bool false, .int .i64 0, .int .i64 0] 28
  have kk := (Kb.refl w).alloc rcl0
  go_enter Tryd.func13, Tryd.ntmps13
  go_wp2_with fail
  refine (q1.out _).mono ?_
  rintro r w1 ⟨rfl, rfl⟩
  go_wp2_with fail
  refine (q2.out _).mono ?_
  rintro r w2 ⟨rfl, rfl⟩
  have cx := Is.made (w.alloc rcl0) #[.bool true, .int .i64 i2, .int .i64 0] 28
  rw [World.size_alloc] at cx
  have res := res.alloc (.cells #[.bool true, .int .i64 i2, .int .i64 0] 28 (0, 0))
  have kk := kk.alloc (.cells #[.bool true, .int .i64 i2, .int .i64 0] 28 (0, 0))
  have c0 := cx.c (i := 0) rfl
  have c1 := cx.c (i := 1) rfl
  have c2 := cx.c (i := 2) rfl
  go_wp2
  refine ret_row2 Tryd.results13 rfl rfl rfl res Tryd.underlying28 rfl (by kernel_rfl) ?_
  exact ⟨rfl, kk⟩
set_option maxRecDepth 100000 in
set_option maxHeartbeats 8000000 in
theorem rp_run_up_a (s : ByteArray) (c : UInt8) (w : World) (n2 : 2 ≤ s.size) (n4 : s.size ≤ 4) (hc : s[0]'(by omega) = c) (i1 : Int) (q1 : Hid (∀ W : World, Calls Tryd.prog 39 #[.string letB, .int .u8 (c.toNat : Int)] W fun r w' => r = .returned (.int .i64 i1) ∧ W = w')) (i2 : Int) (q2 : Hid (∀ W : World, Calls Tryd.prog 39 #[.string capB, .int .u8 (c.toNat : Int)] W fun r w' => r = .returned (.int .i64 i2) ∧ W = w')) (h1 : i1 < 0) (h2 : ¬ i2 < 0) (h9 : i2 ≤ 9) (z1 : (((s[1]'(by omega)).toNat : Int) == 48) = false) (hg : Glo w) (t : List UInt8) (ht : t.length + 1 = s.size) (HT : Hid (∀ i (h : i < s.size), 1 ≤ i → t[i - 1]? = some s[i])) (V : Value) (E0 : Int)
    (Hbad : Hid (∀ x ∈ t, dgB x = false → V = ZC ∧ E0 = 4)) (Hend : Hid ((∀ x ∈ t, dgB x = true) → True ∧ (grE (accD t : Int) = 0 → V = .agg #[.bool true, .int .i64 i2, .int .i64 (accD t : Int)] ∧ E0 = 0) ∧ (grE (accD t : Int) ≠ 0 → V = ZC ∧ E0 = grE (accD t : Int)))) : Calls Tryd.prog 13 #[.string s] w fun r w' => r = .returned (.tuple #[V, .int .i64 E0]) ∧ Kb w w' := by
  have a1 : ¬ (s.size : Int) < 2 := by omega
  have a2 : ¬ (4 : Int) < (s.size : Int) := by omega
  have a3 : 0 < s.size := by omega
  have a4 : 1 < s.size := by omega
  have res := Is.made w #[.bool false, .int .i64 0, .int .i64 0] 28
  have kk := (Kb.refl w).alloc rcl0
  go_enter Tryd.func13, Tryd.ntmps13
  go_wp2_with fail
  refine (q1.out _).mono ?_
  rintro r w1 ⟨rfl, rfl⟩
  go_wp2_with fail
  refine (q2.out _).mono ?_
  rintro r w2 ⟨rfl, rfl⟩
  have cx := Is.made (w.alloc rcl0) #[.bool true, .int .i64 i2, .int .i64 0] 28
  rw [World.size_alloc] at cx
  have res := res.alloc (.cells #[.bool true, .int .i64 i2, .int .i64 0] 28 (0, 0))
  have kk := kk.alloc (.cells #[.bool true, .int .i64 i2, .int .i64 0] 28 (0, 0))
  have c0 := cx.c (i := 0) rfl
  have c1 := cx.c (i := 1) rfl
  have c2 := cx.c (i := 2) rfl
  go_wp2_with fail
  go_loopg [5] s.size (fun gk s5 wr => ∃ i a : Nat, s5 = .int .i64 i ∧ i + gk = s.size + 1 ∧ 1 ≤ i ∧ i ≤ s.size ∧ Is wr (w.heap.size + 1) #[.bool true, .int .i64 i2, .int .i64 (a : Int)] 28 ∧ Is wr w.heap.size #[.bool false, .int .i64 0, .int .i64 0] 28 ∧ Kb w wr ∧ Hid (a = accD (t.take (i - 1)) ∧ ∀ x ∈ t.take (i - 1), dgB x = true) ∧ (a ≤ 999 ∧ (i ≤ 3 → a ≤ 99) ∧ (i ≤ 2 → a ≤ 9) ∧ (i ≤ 1 → a = 0)))
  case atStart => exact ⟨1, 0, rfl, by omega, by omega, by omega, cx, res, kk, ⟨by simp [accD], by simp⟩, by omega, by omega, by omega, by omega⟩
  case round =>
    obtain ⟨i, a, rfl, hi, hi1, his, cx, res, kk, hA, b1, b2, b3, b4⟩ := hrel
    have c0 := cx.c (i := 0) rfl
    have c1 := cx.c (i := 1) rfl
    have c2 := cx.c (i := 2) rfl
    have f2 := cx.f 2
    have m0 := res.c (i := 0) rfl
    have m1 := res.c (i := 1) rfl
    have m2 := res.c (i := 2) rfl
    have g0 := res.f 0
    have g1 := res.f 1
    have g2 := res.f 2
    by_cases hlt : i < s.size
    · obtain ⟨x, hx⟩ : ∃ x, s[i] = x := ⟨_, rfl⟩
      have hT := HT.out i hlt hi1
      rw [hx] at hT
      have hlt' : (i : Int) < (s.size : Int) := by omega
      have hi0 : (0 : Int) ≤ (i : Int) := by omega
      have Hi := Lib.hid hi; have Hl := Lib.hid hlt; have HA := Lib.hid hA
      have hi4 : (i : Int) ≤ 4 := by omega
      by_cases hd : dgB x = true
      · rw [dgB_iff] at hd
        have d1 : ¬ (x.toNat : Int) < 48 := by omega
        have d2 : ¬ (57 : Int) < (x.toNat : Int) := by omega
        have a99 : a ≤ 99 := b2 (by omega)
        obtain ⟨y, hy⟩ : ∃ y : Nat, y = x.toNat - 48 := ⟨_, rfl⟩
        have e1 : (x.toNat : Int) - 48 = (y : Int) := by omega
        have y9 : y ≤ 9 := by omega
        have e2 : IntKind.u8.wrap (y : Int) = (y : Int) := by show (y : Int) % 256 = _; omega
        have e3 : IntKind.i64.wrap (y : Int) = (y : Int) := IntWalk.i64_in _ (by omega)
        have e4 : IntKind.i64.wrap (10 * (a : Int)) = 10 * (a : Int) := IntWalk.i64_in _ (by omega)
        obtain ⟨z, hz⟩ : ∃ z : Nat, z = 10 * a + y := ⟨_, rfl⟩
        have e5 : 10 * (a : Int) + (y : Int) = (z : Int) := by omega
        have e6 : IntKind.i64.wrap (z : Int) = (z : Int) := IntWalk.i64_in _ (by omega)
        have hn : Hid (z = accD (t.take (i + 1 - 1)) ∧ ∀ v ∈ t.take (i + 1 - 1), dgB v = true) := by
          have e7 : t.take (i + 1 - 1) = t.take (i - 1) ++ [x] := by
            rw [show i + 1 - 1 = (i - 1) + 1 by omega, List.take_add_one, hT]; rfl
          rw [e7, accD_snoc]
          refine ⟨by rw [← hA.out.1, hz, hy], fun v hv => ?_⟩
          rcases List.mem_append.1 hv with hv | hv
          · exact hA.out.2 v hv
          · rw [List.mem_singleton] at hv; rw [hv, dgB_iff]; exact hd
        have hb : z ≤ 999 ∧ (i + 1 ≤ 3 → z ≤ 99) ∧ (i + 1 ≤ 2 → z ≤ 9) ∧ (i + 1 ≤ 1 → z = 0) := by omega
        have HB2 := Lib.hid hb
        clear hi hA hT hd hy hz hb b1 b2 b3 b4 Hend Hbad HT hi1 his
        go_wp2
        go_region
        all_goals go_wp2
        all_goals
          have hi := Hi.out
          have hlt := Hl.out
        all_goals go_roundg (gk - 1)
        case measure => omega
        case rel => exact ⟨i + 1, z, by go_num, by omega, by omega, by omega, (cx.set 2 _).drew, (res.far (Nat.ne_of_lt (Nat.lt_succ_self _)) _).drew, (kk.setCell (Nat.le_succ _) _).drew, hn, HB2.out⟩
      · have hbad := Lib.hid (Hbad.out x (List.mem_of_getElem? hT) (by simpa using hd))
        have hd2 : (x.toNat : Int) < 48 ∨ (¬ (x.toNat : Int) < 48 ∧ (57 : Int) < (x.toNat : Int)) := by
          rw [dgB_iff] at hd; omega
        clear hi hA hT hd b1 b2 b3 b4 Hend Hbad HT
        rcases hd2 with hd2 | ⟨hd2, hd3⟩
        · go_wp2
          refine ret_row2 Tryd.results13 rfl rfl rfl (((res.set 0 _).set 1 _).set 2 _) Tryd.underlying28 rfl (by kernel_rfl) ?_
          exact ⟨by rw [hbad.out.1, hbad.out.2]; rfl, ((kk.setCell (Nat.le_refl _) _).setCell (Nat.le_refl _) _).setCell (Nat.le_refl _) _⟩
        · go_wp2
          refine ret_row2 Tryd.results13 rfl rfl rfl (((res.set 0 _).set 1 _).set 2 _) Tryd.underlying28 rfl (by kernel_rfl) ?_
          exact ⟨by rw [hbad.out.1, hbad.out.2]; rfl, ((kk.setCell (Nat.le_refl _) _).setCell (Nat.le_refl _) _).setCell (Nat.le_refl _) _⟩
    · obtain rfl : i = s.size := by omega
      obtain ⟨hA1, hA2⟩ := hA.out
      rw [List.take_of_length_le (by omega)] at hA1 hA2
      obtain ⟨he, ho, hno⟩ := Hend.out hA2
      have q3 := rCheck true i2 (a : Int)
      have hgx := hg.kb kk
      have ec : clE i2 (a : Int) = grE (accD t : Int) := by unfold clE; rw [if_pos (by omega), hA1]
      rw [ec] at q3
      unfold Gq at q3
      have HO := Lib.hid ho; have HN := Lib.hid hno; have HA1 := Lib.hid hA1
      clear hA hA1 hA2 ho hno hi b1 b2 b3 b4 Hend Hbad HT hlt ec
      by_cases hz : grE (accD t : Int) = 0
      · have hv := Lib.hid (HO.out hz)
        rw [hz] at q3
        clear HO HN hz
        go_wp2_with fail
        with_reducible refine (q3.out _ hgx).mono ?_
        rintro r w5 ⟨rfl, k5⟩
        have cx := cx.kb k5
        have res := res.kb k5
        have kk := kk.trans k5
        have c0 := cx.c (i := 0) rfl
        have c1 := cx.c (i := 1) rfl
        have c2 := cx.c (i := 2) rfl
        have m0 := res.c (i := 0) rfl
        have m1 := res.c (i := 1) rfl
        have m2 := res.c (i := 2) rfl
        have g0 := res.f 0
        have g1 := res.f 1
        have g2 := res.f 2
        go_wp2
        refine ret_row2 Tryd.results13 rfl rfl rfl (((res.set 0 _).set 1 _).set 2 _) Tryd.underlying28 rfl (by kernel_rfl) ?_
        exact ⟨by rw [hv.out.1, hv.out.2, ← HA1.out]; rfl, ((kk.setCell (Nat.le_refl _) _).setCell (Nat.le_refl _) _).setCell (Nat.le_refl _) _⟩
      · have hv := Lib.hid (HN.out hz)
        have hz' : (grE (accD t : Int) != 0) = true := bne_iff_ne.2 hz
        clear HO HN hz
        generalize grE (accD t : Int) = ee at *
        go_wp2_with fail
        with_reducible refine (q3.out _ hgx).mono ?_
        rintro r w5 ⟨rfl, k5⟩
        have res := res.kb k5
        have kk := kk.trans k5
        have m0 := res.c (i := 0) rfl
        have m1 := res.c (i := 1) rfl
        have m2 := res.c (i := 2) rfl
        have g0 := res.f 0
        have g1 := res.f 1
        have g2 := res.f 2
        go_wp2
        refine ret_row2 Tryd.results13 rfl rfl rfl (((res.set 0 _).set 1 _).set 2 _) Tryd.underlying28 rfl (by kernel_rfl) ?_
        exact ⟨by rw [hv.out.1, hv.out.2]; rfl, ((kk.setCell (Nat.le_refl _) _).setCell (Nat.le_refl _) _).setCell (Nat.le_refl _) _⟩
set_option maxRecDepth 100000 in
set_option maxHeartbeats 8000000 in
theorem rp_run_up_b (s : ByteArray) (c : UInt8) (w : World) (n2 : 2 ≤ s.size) (n4 : s.size ≤ 4) (hc : s[0]'(by omega) = c) (i1 : Int) (q1 : Hid (∀ W : World, Calls Tryd.prog 39 #[.string letB, .int .u8 (c.toNat : Int)] W fun r w' => r = .returned (.int .i64 i1) ∧ W = w')) (i2 : Int) (q2 : Hid (∀ W : World, Calls Tryd.prog 39 #[.string capB, .int .u8 (c.toNat : Int)] W fun r w' => r = .returned (.int .i64 i2) ∧ W = w')) (h1 : i1 < 0) (h2 : ¬ i2 < 0) (h9 : i2 ≤ 9) (z1 : (((s[1]'(by omega)).toNat : Int) == 48) = true) (z2 : ¬ 2 < s.size) (hg : Glo w) (t : List UInt8) (ht : t.length + 1 = s.size) (HT : Hid (∀ i (h : i < s.size), 1 ≤ i → t[i - 1]? = some s[i])) (V : Value) (E0 : Int)
    (Hbad : Hid (∀ x ∈ t, dgB x = false → V = ZC ∧ E0 = 4)) (Hend : Hid ((∀ x ∈ t, dgB x = true) → True ∧ (grE (accD t : Int) = 0 → V = .agg #[.bool true, .int .i64 i2, .int .i64 (accD t : Int)] ∧ E0 = 0) ∧ (grE (accD t : Int) ≠ 0 → V = ZC ∧ E0 = grE (accD t : Int)))) : Calls Tryd.prog 13 #[.string s] w fun r w' => r = .returned (.tuple #[V, .int .i64 E0]) ∧ Kb w w' := by
  have a1 : ¬ (s.size : Int) < 2 := by omega
  have a2 : ¬ (4 : Int) < (s.size : Int) := by omega
  have a3 : 0 < s.size := by omega
  have a4 : 1 < s.size := by omega
  have a5 : ¬ (2 : Int) < (s.size : Int) := by omega
  have res := Is.made w #[.bool false, .int .i64 0, .int .i64 0] 28
  have kk := (Kb.refl w).alloc rcl0
  go_enter Tryd.func13, Tryd.ntmps13
  go_wp2_with fail
  refine (q1.out _).mono ?_
  rintro r w1 ⟨rfl, rfl⟩
  go_wp2_with fail
  refine (q2.out _).mono ?_
  rintro r w2 ⟨rfl, rfl⟩
  have cx := Is.made (w.alloc rcl0) #[.bool true, .int .i64 i2, .int .i64 0] 28
  rw [World.size_alloc] at cx
  have res := res.alloc (.cells #[.bool true, .int .i64 i2, .int .i64 0] 28 (0, 0))
  have kk := kk.alloc (.cells #[.bool true, .int .i64 i2, .int .i64 0] 28 (0, 0))
  have c0 := cx.c (i := 0) rfl
  have c1 := cx.c (i := 1) rfl
  have c2 := cx.c (i := 2) rfl
  go_wp2_with fail
  go_loopg [5] s.size (fun gk s5 wr => ∃ i a : Nat, s5 = .int .i64 i ∧ i + gk = s.size + 1 ∧ 1 ≤ i ∧ i ≤ s.size ∧ Is wr (w.heap.size + 1) #[.bool true, .int .i64 i2, .int .i64 (a : Int)] 28 ∧ Is wr w.heap.size #[.bool false, .int .i64 0, .int .i64 0] 28 ∧ Kb w wr ∧ Hid (a = accD (t.take (i - 1)) ∧ ∀ x ∈ t.take (i - 1), dgB x = true) ∧ (a ≤ 999 ∧ (i ≤ 3 → a ≤ 99) ∧ (i ≤ 2 → a ≤ 9) ∧ (i ≤ 1 → a = 0)))
  case atStart => exact ⟨1, 0, rfl, by omega, by omega, by omega, cx, res, kk, ⟨by simp [accD], by simp⟩, by omega, by omega, by omega, by omega⟩
  case round =>
    obtain ⟨i, a, rfl, hi, hi1, his, cx, res, kk, hA, b1, b2, b3, b4⟩ := hrel
    have c0 := cx.c (i := 0) rfl
    have c1 := cx.c (i := 1) rfl
    have c2 := cx.c (i := 2) rfl
    have f2 := cx.f 2
    have m0 := res.c (i := 0) rfl
    have m1 := res.c (i := 1) rfl
    have m2 := res.c (i := 2) rfl
    have g0 := res.f 0
    have g1 := res.f 1
    have g2 := res.f 2
    by_cases hlt : i < s.size
    · obtain ⟨x, hx⟩ : ∃ x, s[i] = x := ⟨_, rfl⟩
      have hT := HT.out i hlt hi1
      rw [hx] at hT
      have hlt' : (i : Int) < (s.size : Int) := by omega
      have hi0 : (0 : Int) ≤ (i : Int) := by omega
      have Hi := Lib.hid hi; have Hl := Lib.hid hlt; have HA := Lib.hid hA
      have hi4 : (i : Int) ≤ 4 := by omega
      by_cases hd : dgB x = true
      · rw [dgB_iff] at hd
        have d1 : ¬ (x.toNat : Int) < 48 := by omega
        have d2 : ¬ (57 : Int) < (x.toNat : Int) := by omega
        have a99 : a ≤ 99 := b2 (by omega)
        obtain ⟨y, hy⟩ : ∃ y : Nat, y = x.toNat - 48 := ⟨_, rfl⟩
        have e1 : (x.toNat : Int) - 48 = (y : Int) := by omega
        have y9 : y ≤ 9 := by omega
        have e2 : IntKind.u8.wrap (y : Int) = (y : Int) := by show (y : Int) % 256 = _; omega
        have e3 : IntKind.i64.wrap (y : Int) = (y : Int) := IntWalk.i64_in _ (by omega)
        have e4 : IntKind.i64.wrap (10 * (a : Int)) = 10 * (a : Int) := IntWalk.i64_in _ (by omega)
        obtain ⟨z, hz⟩ : ∃ z : Nat, z = 10 * a + y := ⟨_, rfl⟩
        have e5 : 10 * (a : Int) + (y : Int) = (z : Int) := by omega
        have e6 : IntKind.i64.wrap (z : Int) = (z : Int) := IntWalk.i64_in _ (by omega)
        have hn : Hid (z = accD (t.take (i + 1 - 1)) ∧ ∀ v ∈ t.take (i + 1 - 1), dgB v = true) := by
          have e7 : t.take (i + 1 - 1) = t.take (i - 1) ++ [x] := by
            rw [show i + 1 - 1 = (i - 1) + 1 by omega, List.take_add_one, hT]; rfl
          rw [e7, accD_snoc]
          refine ⟨by rw [← hA.out.1, hz, hy], fun v hv => ?_⟩
          rcases List.mem_append.1 hv with hv | hv
          · exact hA.out.2 v hv
          · rw [List.mem_singleton] at hv; rw [hv, dgB_iff]; exact hd
        have hb : z ≤ 999 ∧ (i + 1 ≤ 3 → z ≤ 99) ∧ (i + 1 ≤ 2 → z ≤ 9) ∧ (i + 1 ≤ 1 → z = 0) := by omega
        have HB2 := Lib.hid hb
        clear hi hA hT hd hy hz hb b1 b2 b3 b4 Hend Hbad HT hi1 his
        go_wp2
        go_region
        all_goals go_wp2
        all_goals
          have hi := Hi.out
          have hlt := Hl.out
        all_goals go_roundg (gk - 1)
        case measure => omega
        case rel => exact ⟨i + 1, z, by go_num, by omega, by omega, by omega, (cx.set 2 _).drew, (res.far (Nat.ne_of_lt (Nat.lt_succ_self _)) _).drew, (kk.setCell (Nat.le_succ _) _).drew, hn, HB2.out⟩
      · have hbad := Lib.hid (Hbad.out x (List.mem_of_getElem? hT) (by simpa using hd))
        have hd2 : (x.toNat : Int) < 48 ∨ (¬ (x.toNat : Int) < 48 ∧ (57 : Int) < (x.toNat : Int)) := by
          rw [dgB_iff] at hd; omega
        clear hi hA hT hd b1 b2 b3 b4 Hend Hbad HT
        rcases hd2 with hd2 | ⟨hd2, hd3⟩
        · go_wp2
          refine ret_row2 Tryd.results13 rfl rfl rfl (((res.set 0 _).set 1 _).set 2 _) Tryd.underlying28 rfl (by kernel_rfl) ?_
          exact ⟨by rw [hbad.out.1, hbad.out.2]; rfl, ((kk.setCell (Nat.le_refl _) _).setCell (Nat.le_refl _) _).setCell (Nat.le_refl _) _⟩
        · go_wp2
          refine ret_row2 Tryd.results13 rfl rfl rfl (((res.set 0 _).set 1 _).set 2 _) Tryd.underlying28 rfl (by kernel_rfl) ?_
          exact ⟨by rw [hbad.out.1, hbad.out.2]; rfl, ((kk.setCell (Nat.le_refl _) _).setCell (Nat.le_refl _) _).setCell (Nat.le_refl _) _⟩
    · obtain rfl : i = s.size := by omega
      obtain ⟨hA1, hA2⟩ := hA.out
      rw [List.take_of_length_le (by omega)] at hA1 hA2
      obtain ⟨he, ho, hno⟩ := Hend.out hA2
      have q3 := rCheck true i2 (a : Int)
      have hgx := hg.kb kk
      have ec : clE i2 (a : Int) = grE (accD t : Int) := by unfold clE; rw [if_pos (by omega), hA1]
      rw [ec] at q3
      unfold Gq at q3
      have HO := Lib.hid ho; have HN := Lib.hid hno; have HA1 := Lib.hid hA1
      clear hA hA1 hA2 ho hno hi b1 b2 b3 b4 Hend Hbad HT hlt ec
      by_cases hz : grE (accD t : Int) = 0
      · have hv := Lib.hid (HO.out hz)
        rw [hz] at q3
        clear HO HN hz
        go_wp2_with fail
        with_reducible refine (q3.out _ hgx).mono ?_
        rintro r w5 ⟨rfl, k5⟩
        have cx := cx.kb k5
        have res := res.kb k5
        have kk := kk.trans k5
        have c0 := cx.c (i := 0) rfl
        have c1 := cx.c (i := 1) rfl
        have c2 := cx.c (i := 2) rfl
        have m0 := res.c (i := 0) rfl
        have m1 := res.c (i := 1) rfl
        have m2 := res.c (i := 2) rfl
        have g0 := res.f 0
        have g1 := res.f 1
        have g2 := res.f 2
        go_wp2
        refine ret_row2 Tryd.results13 rfl rfl rfl (((res.set 0 _).set 1 _).set 2 _) Tryd.underlying28 rfl (by kernel_rfl) ?_
        exact ⟨by rw [hv.out.1, hv.out.2, ← HA1.out]; rfl, ((kk.setCell (Nat.le_refl _) _).setCell (Nat.le_refl _) _).setCell (Nat.le_refl _) _⟩
      · have hv := Lib.hid (HN.out hz)
        have hz' : (grE (accD t : Int) != 0) = true := bne_iff_ne.2 hz
        clear HO HN hz
        generalize grE (accD t : Int) = ee at *
        go_wp2_with fail
        with_reducible refine (q3.out _ hgx).mono ?_
        rintro r w5 ⟨rfl, k5⟩
        have res := res.kb k5
        have kk := kk.trans k5
        have m0 := res.c (i := 0) rfl
        have m1 := res.c (i := 1) rfl
        have m2 := res.c (i := 2) rfl
        have g0 := res.f 0
        have g1 := res.f 1
        have g2 := res.f 2
        go_wp2
        refine ret_row2 Tryd.results13 rfl rfl rfl (((res.set 0 _).set 1 _).set 2 _) Tryd.underlying28 rfl (by kernel_rfl) ?_
        exact ⟨by rw [hv.out.1, hv.out.2]; rfl, ((kk.setCell (Nat.le_refl _) _).setCell (Nat.le_refl _) _).setCell (Nat.le_refl _) _⟩
end Go.Proofs.YthifdgddegpbjaaDoor
