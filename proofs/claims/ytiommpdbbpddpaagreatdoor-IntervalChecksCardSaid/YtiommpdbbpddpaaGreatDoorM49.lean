/- Texts Iw2: each says in its own first comment what it proves. -/
import Derived.Test.YtiommpdbbpddpaaGreatDoorM48
import Derived.Deep.RegionHeld3
/- Check, Of, Width and Middle: program and reference alike; the law IntervalChecks. -/
namespace Go.Proofs.YtiommpdbbpddpaaGreatDoor
open Go.RowKit
open Go.Lib (nDigits itoa decDigits)

attribute [local go_sem ↓] Go.wp_at_zero Go.wp_at_succ

theorem two_sm : Sm 1 (2 : Rat) := ⟨by decide, by decide⟩
theorem add_size (lo hi : ByteArray) : (qAddB lo hi).size ≤ 9223372036854775807 := by
  unfold qAddB rT
  have h1 := suN_size (cN lo) (cD lo) (cN hi) (cD hi)
  have h2 := suD_size (cN lo) (cD lo) (cN hi) (cD hi)
  split
  · split
    · omega
    · rw [ByteArray.size_append, ByteArray.size_append, show (⟨#[47]⟩ : ByteArray).size = 1 from rfl]
      omega
  · decide
theorem half_sm : Sm 1 (1 / 2 : Rat) := ⟨by decide +kernel, by decide +kernel⟩

theorem check_both {lo hi : ByteArray} (a : shB lo = true) (b : shB hi = true) :
    Ca 10 #[.agg #[.string lo, .string hi]] (.int .i64 (icE lo hi)) ∧ Ca 11 #[.agg #[.string lo, .string hi]] (.int .i64 (icE lo hi)) :=
  ⟨Lib.hid fun W => icheck_any lo hi W (sh_size9 a) (sh_size9 b), Lib.hid fun W => r3check lo hi W a b⟩

theorem of_both (n m : Int) (hn : I64 n) (hm : I64 m) (w : World) (lay : Tab w) : ∃ (u v : ByteArray) (E : Int),
    Hid (∀ W : World, Kp [] w W → Calls Tryz.prog 6 #[.int .i64 n, .int .i64 m] W fun r w' => r = .returned (.tuple #[.agg #[.string u, .string v], .int .i64 E]) ∧ Kp [] W w') ∧
    Ca 7 #[.int .i64 n, .int .i64 m] (.tuple #[.agg #[.string u, .string v], .int .i64 E]) := by
  by_cases h : m < n
  · exact ⟨⟨#[]⟩, ⟨#[]⟩, 9, Lib.hid fun W _ => iOf_g n m h W, Lib.hid fun W => r3Of_g n m h W⟩
  · exact ⟨S n, S m, 0, Lib.hid fun W k => iOf_l n m h _ _ W (Lib.hid fun V k2 => qWhole_any n V hn (tab_kp lay (k.trans k2))) (Lib.hid fun V k2 => qWhole_any m V hm (tab_kp lay (k.trans k2))),
      Lib.hid fun W => r3Of_l n m h _ _ W (Lib.hid fun V _ => rwhole_any n V hn) (Lib.hid fun V _ => rwhole_any m V hm)⟩

theorem iWidth_any (lo hi : ByteArray) (a : shB lo = true) (b : shB hi = true) (W : World) :
    Calls Tryz.prog 8 #[.agg #[.string lo, .string hi]] W fun r w' => r = .returned (.tuple #[.string (zB (kp (icE lo hi) (qSubE hi lo)) (qSubB hi lo)), .int .i64 (kp (icE lo hi) (qSubE hi lo))]) ∧ Kp [] W w' :=
  iWidth_w lo hi _ _ W (fun V g ba hR ha => iWidth g ba _ _ _ (icE lo hi) _ V hR ha (Lib.hid fun W b0 hR hs => keep_1 g b0 _ _ W hR hs (sh_size9 a) (sh_size9 b))
    (Lib.hid fun V hR => kOf 29 g _ _ _ _ _ V hR (Lib.hid fun V => qSub_any _ _ V (sh_size9 b) (sh_size9 a)) (enters_of Tryz.func29 (by kernel_rfl) rfl)))

theorem width_both (lo hi : ByteArray) (a : shB lo = true) (b : shB hi = true) : ∃ (u : ByteArray) (E : Int),
    Ca 8 #[.agg #[.string lo, .string hi]] (.tuple #[.string u, .int .i64 E]) ∧ Ca 9 #[.agg #[.string lo, .string hi]] (.tuple #[.string u, .int .i64 E]) := by
  have qb := (check_both a b).2
  rcases ic_cases a b with e | ⟨e, q, r, rfl, rfl, hq, hr, _⟩
  · refine ⟨⟨#[]⟩, icE lo hi, Lib.hid fun W => ?_, Lib.hid fun W => r3Width_e lo hi _ W (by simpa using e) qb⟩
    have := iWidth_any lo hi a b W
    rw [kpI_ne e, zB_ne e] at this
    exact this
  · obtain ⟨v1, v2⟩ := sub_v hr hq (by omega)
    rw [e] at qb
    refine ⟨RS (r - q), 0, Lib.hid fun W => ?_, Lib.hid fun W => r3Width_0 _ _ _ W qb (Lib.hid fun V => rSub_c hr hq (by omega) V)⟩
    have := iWidth_any _ _ a b W
    rw [e, v1, v2] at this
    simpa only [kp_zero, zB_z] using this

theorem iMiddle_any (lo hi : ByteArray) (a : shB lo = true) (b : shB hi = true) (W : World) :
    Calls Tryz.prog 12 #[.agg #[.string lo, .string hi]] W fun r w' => r = .returned (.tuple #[.string (zB (kp (kp (icE lo hi) (qAddE lo hi)) (qDivE (qAddB lo hi) ⟨#[50]⟩)) (qDivB (qAddB lo hi) ⟨#[50]⟩)), .int .i64 (kp (kp (icE lo hi) (qAddE lo hi)) (qDivE (qAddB lo hi) ⟨#[50]⟩))]) ∧ Kp [] W w' :=
  iMiddle_w lo hi _ _ W (fun V g ba hR ha => iMiddle g ba _ _ _ _ (icE lo hi) _ _ V hR ha (Lib.hid fun W b0 hR hs => keep_1 g b0 _ _ W hR hs (sh_size9 a) (sh_size9 b))
    (Lib.hid fun V hR => kOf 36 g _ _ _ _ _ V hR (Lib.hid fun V => qAdd_any _ _ V (sh_size9 a) (sh_size9 b)) (enters_of Tryz.func36 (by kernel_rfl) rfl))
    (Lib.hid fun V hR => kOf 35 g _ _ _ _ _ V hR (Lib.hid fun V => qDiv_any _ _ V (add_size lo hi) (by decide)) (enters_of Tryz.func35 (by kernel_rfl) rfl)))

theorem halve (x : Rat) : x / 2 = x * (1 / 2) := by
  rw [Rat.div_def x 2, show ((2 : Rat)⁻¹) = 1 / 2 by decide +kernel]

theorem middle_both (lo hi : ByteArray) (a : shB lo = true) (b : shB hi = true) : ∃ (u : ByteArray) (E : Int),
    Ca 12 #[.agg #[.string lo, .string hi]] (.tuple #[.string u, .int .i64 E]) ∧ Ca 13 #[.agg #[.string lo, .string hi]] (.tuple #[.string u, .int .i64 E]) := by
  have qb := (check_both a b).2
  rcases ic_cases a b with e | ⟨e, q, r, rfl, rfl, hq, hr, _⟩
  · refine ⟨⟨#[]⟩, icE lo hi, Lib.hid fun W => ?_, Lib.hid fun W => r3Middle_e lo hi _ W (by simpa using e) qb⟩
    have := iMiddle_any lo hi a b W
    rw [kpI_ne e, kpI_ne e, zB_ne e] at this
    exact this
  · obtain ⟨v1, v2⟩ := add_v hq hr (by omega)
    obtain ⟨v3, v4⟩ := div_v (hq.add hr) two_sm (by omega) (by decide)
    rw [e] at qb
    have h2 := fun V => rMul_c (hq.add hr) half_sm (by omega) V
    rw [← halve, l3_1_2] at h2
    refine ⟨RS ((q + r) / 2), 0, Lib.hid fun W => ?_, Lib.hid fun W => r3Middle_0 _ _ _ _ W qb (Lib.hid fun V => rAdd_c hq hr (by omega) V) (Lib.hid h2)⟩
    have := iMiddle_any _ _ a b W
    rw [e, v1, v2, ← l_2, v3, v4] at this
    simpa only [kp_zero, zB_z] using this

set_option maxRecDepth 100000 in
set_option maxHeartbeats 4000000 in
theorem checks_1 (l1 h1 : ByteArray) (n m : Int) (q1 : Ca 4 #[.agg #[.string l1, .string h1]] (.bool false)) (w : World) :
    Calls Tryz.prog 3 #[.agg #[.string l1, .string h1], .int .i64 n, .int .i64 m] w fun r w' => r = .returned (.bool true) ∧ Kp [] w w' := by
  have qw := Lib.hid awake3
  unfold Ca at *
  have sa := SpB.made w l1 h1
  have kk : Kp [] w (w.alloc (.cells #[.string l1, .string h1] 24 (0, 0))) := (Kp.refl _ _).alloc _
  have a0 := sa.c0
  have a1 := sa.c1
  go_enter Tryz.func3, Tryz.ntmps3
  go_wp2_with fail
  with_reducible refine (q1.out _).mono ?_
  rintro r w1 ⟨rfl, k⟩
  replace kk := kk.trans k
  clear a0 a1 k q1 sa
  go_wp2_with fail
  with_reducible refine (qw.out _).mono ?_
  rintro r w9 ⟨rfl, k⟩
  replace kk := kk.trans k
  clear k qw
  go_wp2
  go_ret
  exact ⟨rfl, kk⟩

set_option maxRecDepth 100000 in
set_option maxHeartbeats 8000000 in
theorem checks_2 (l1 h1 : ByteArray) (n m : Int) (u v x y : ByteArray) (E0 E1 E2 E3 : Int) (w : World) (q1 : Ca 4 #[.agg #[.string l1, .string h1]] (.bool true))
    (p1 : Hid (∀ W : World, Kp [] w W → Calls Tryz.prog 6 #[.int .i64 n, .int .i64 m] W fun r w' => r = .returned (.tuple #[.agg #[.string u, .string v], .int .i64 E1]) ∧ Kp [] W w'))
    (p2 : Ca 7 #[.int .i64 n, .int .i64 m] (.tuple #[.agg #[.string u, .string v], .int .i64 E1]))
    (p3 : Ca 8 #[.agg #[.string l1, .string h1]] (.tuple #[.string x, .int .i64 E2])) (p4 : Ca 9 #[.agg #[.string l1, .string h1]] (.tuple #[.string x, .int .i64 E2]))
    (p5 : Ca 10 #[.agg #[.string l1, .string h1]] (.int .i64 E0)) (p6 : Ca 11 #[.agg #[.string l1, .string h1]] (.int .i64 E0))
    (p7 : Ca 12 #[.agg #[.string l1, .string h1]] (.tuple #[.string y, .int .i64 E3])) (p8 : Ca 13 #[.agg #[.string l1, .string h1]] (.tuple #[.string y, .int .i64 E3])) :
    Calls Tryz.prog 3 #[.agg #[.string l1, .string h1], .int .i64 n, .int .i64 m] w fun r w' => r = .returned (.bool true) ∧ Kp [] w w' := by
  have qw := Lib.hid awake3
  unfold Ca at *
  have sa := SpB.made w l1 h1
  have kk : Kp [] w (w.alloc (.cells #[.string l1, .string h1] 24 (0, 0))) := (Kp.refl _ _).alloc _
  have a0 := sa.c0
  have a1 := sa.c1
  have e1 : ∀ W : World, (Op.equalIn 10000 24 (.agg #[.string u, .string v]) (.agg #[.string u, .string v])).run Tryz.prog W = .ok true W := fun W => eqSp_same _ _ W
  go_enter Tryz.func3, Tryz.ntmps3
  go_wp2_with fail
  with_reducible refine (q1.out _).mono ?_
  rintro r w1 ⟨rfl, k⟩
  replace sa := sa.kept k (by simp)
  replace kk := kk.trans k
  clear a0 a1 k q1
  go_wp2_with fail
  generalize hA : w.heap.size = A at *
  with_reducible refine (p1.out _ kk).mono ?_
  rintro r w2 ⟨rfl, k⟩
  replace sa := sa.kept k (by simp)
  replace kk := kk.trans k
  clear k p1
  replace sa := sa.alloc (.cells #[.string u, .string v] 24 (0, 0))
  have sc := SpB.made w2 u v
  replace kk := kk.alloc (.cells #[.string u, .string v] 24 (0, 0))
  go_wp2_with fail
  generalize hC : w2.heap.size = C at *
  with_reducible refine (p2.out _).mono ?_
  rintro r w3 ⟨rfl, k⟩
  replace sa := sa.kept k (by simp)
  replace sc := sc.kept k (by simp)
  replace kk := kk.trans k
  clear k p2
  replace sa := sa.alloc (.cells #[.string u, .string v] 24 (0, 0))
  replace sc := sc.alloc (.cells #[.string u, .string v] 24 (0, 0))
  have sd := SpB.made w3 u v
  replace kk := kk.alloc (.cells #[.string u, .string v] 24 (0, 0))
  have a0 := sa.c0
  have a1 := sa.c1
  go_wp2_with fail
  generalize hD : w3.heap.size = D at *
  with_reducible refine (p3.out _).mono ?_
  rintro r w4 ⟨rfl, k⟩
  replace sa := sa.kept k (by simp)
  replace sc := sc.kept k (by simp)
  replace sd := sd.kept k (by simp)
  replace kk := kk.trans k
  clear a0 a1 k p3
  have a0 := sa.c0
  have a1 := sa.c1
  go_wp2_with fail
  with_reducible refine (p4.out _).mono ?_
  rintro r w5 ⟨rfl, k⟩
  replace sa := sa.kept k (by simp)
  replace sc := sc.kept k (by simp)
  replace sd := sd.kept k (by simp)
  replace kk := kk.trans k
  clear a0 a1 k p4 hC hD
  have g0 : (E0 != E0) = false := bne_self_eq_false E0
  have g1 : (E1 != E1) = false := bne_self_eq_false E1
  have g2 : (E2 != E2) = false := bne_self_eq_false E2
  go_wp2_with fail
  go_region_held3 (fun w' => w'.cell? ⟨A, 0, none⟩ = some (.string l1) ∧ w'.cell? ⟨A, 1, none⟩ = some (.string h1) ∧ w'.cell? ⟨C, 0, none⟩ = some (.string u) ∧ w'.cell? ⟨C, 1, none⟩ = some (.string v) ∧ w'.cell? ⟨D, 0, none⟩ = some (.string u) ∧ w'.cell? ⟨D, 1, none⟩ = some (.string v))
    (first
      | exact ⟨sa7.c0, sa7.c1, sc7.c0, sc7.c1, sd7.c0, sd7.c1⟩
      | exact ⟨sa6.c0, sa6.c1, sc6.c0, sc6.c1, sd6.c0, sd6.c1⟩
      | exact ⟨sa.c0, sa.c1, sc.c0, sc.c1, sd.c0, sd.c1⟩
      | go_keep)
    (first
      | (go_at_call 10; with_reducible refine (p5.out _).mono ?_; rintro e w6 ⟨rfl, k6⟩; have sa6 := SpB.kept (SpB.drew sa) k6 (by simp); have sc6 := SpB.kept (SpB.drew sc) k6 (by simp); have sd6 := SpB.kept (SpB.drew sd) k6 (by simp))
      | (go_at_call 11; with_reducible refine (p6.out _).mono ?_; rintro e w7 ⟨rfl, k7⟩; have sa7 := SpB.kept sa6 k7 (by simp); have sc7 := SpB.kept sc6 k7 (by simp); have sd7 := SpB.kept sd6 k7 (by simp)))
  replace kk := ((Kp.drew kk).trans k6).trans k7
  clear sa sc sd sa6 sc6 sd6 sc7 sd7 k6 k7 p5 p6 e1
  have a0 := sa7.c0
  have a1 := sa7.c1
  go_wp2_with fail
  with_reducible refine (p7.out _).mono ?_
  rintro r w8 ⟨rfl, k⟩
  replace sa7 := sa7.kept k (by simp)
  replace kk := kk.trans k
  clear a0 a1 k p7
  have a0 := sa7.c0
  have a1 := sa7.c1
  go_wp2_with fail
  with_reducible refine (p8.out _).mono ?_
  rintro r w9 ⟨rfl, k⟩
  replace kk := kk.trans k
  clear a0 a1 k p8 sa7
  go_wp2_with fail
  with_reducible refine (qw.out _).mono ?_
  rintro r w10 ⟨rfl, k⟩
  replace kk := kk.trans k
  clear k qw
  go_wp2
  go_ret
  exact ⟨rfl, kk⟩

/-- the law IntervalChecks: true for every span and every two ints, where strconv's table lies as it is laid -/
theorem checks3 (l1 h1 : ByteArray) (n m : Int) (s1 : l1.size ≤ 9223372036854775807) (s2 : h1.size ≤ 9223372036854775807) (hn : I64 n) (hm : I64 m) (w : World) (lay : Tab w) :
    Calls Tryz.prog 3 #[.agg #[.string l1, .string h1], .int .i64 n, .int .i64 m] w fun r w' => r = .returned (.bool true) ∧ Kp [] w w' := by
  have q1 := r3Short_c s1 s2
  cases hA : (shB l1 && shB h1) with
  | false => rw [hA] at q1; exact checks_1 _ _ _ _ q1 w
  | true =>
    rw [hA] at q1
    rw [Bool.and_eq_true] at hA
    obtain ⟨u, v, E1, p1, p2⟩ := of_both n m hn hm w lay
    obtain ⟨x, E2, p3, p4⟩ := width_both l1 h1 hA.1 hA.2
    obtain ⟨p5, p6⟩ := check_both hA.1 hA.2
    obtain ⟨y, E3, p7, p8⟩ := middle_both l1 h1 hA.1 hA.2
    exact checks_2 _ _ _ _ _ _ _ _ _ _ _ _ w q1 p1 p2 p3 p4 p5 p6 p7 p8
end Go.Proofs.YtiommpdbbpddpaaGreatDoor
