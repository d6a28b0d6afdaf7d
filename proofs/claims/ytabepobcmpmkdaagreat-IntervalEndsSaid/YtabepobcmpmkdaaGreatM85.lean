/- Texts Il4, Il5: each says in its own first comment what it proves. -/
import Derived.Test.YtabepobcmpmkdaaGreatM84
import Derived.Test.YtabepobcmpmkdaaGreatM83
import Derived.Deep.RegionHeld3
/- Middle and Meet of package interval in numbers; the law IntervalEnds. -/
namespace Go.Proofs.YtabepobcmpmkdaaGreat
open Go.RowKit
open Go.Lib (nDigits itoa decDigits)

theorem two_sm : Sm 1 (2 : Rat) := ⟨by decide, by decide⟩
theorem mid_v {q r : Rat} {j k : Nat} (hq : Sm j q) (hr : Sm k r) (h : j + k < 1000) (hle : q ≤ r) : Ca 43 #[.agg #[.string (RS q), .string (RS r)]] (.tuple #[.string (RS ((q + r) / 2)), .int .i64 0]) := Lib.hid fun W => by
  have e : icE (RS q) (RS r) = 0 := by rw [icE_v hq hr (by omega), if_neg (Rat.not_lt.2 hle)]
  obtain ⟨v1, v2⟩ := add_v hq hr (by omega)
  obtain ⟨v3, v4⟩ := div_v (hq.add hr) two_sm (by omega) (by decide)
  have z1 := (hq.ok (by omega)).size9
  have z2 := (hr.ok (by omega)).size9
  have z3 := ((hq.add hr).ok (by omega)).size9
  rw [← v1] at z3
  have := iMiddle_w (RS q) (RS r) _ _ W (fun V g ba hR ha => iMiddle g ba _ _ _ _ (icE (RS q) (RS r)) _ _ V hR ha (Lib.hid fun W b0 hR hs => keep_1 g b0 _ _ W hR hs z1 z2)
    (Lib.hid fun V hR => kOf 44 g _ _ _ _ _ V hR (Lib.hid fun V => qAdd_any _ _ V z1 z2) (enters_of Tryz.func44 (by kernel_rfl) rfl))
    (Lib.hid fun V hR => kOf 100 g _ _ _ _ _ V hR (Lib.hid fun V => qDiv_any _ _ V z3 (by decide)) (enters_of Tryz.func100 (by kernel_rfl) rfl)))
  rw [e, v1, v2, ← l_2, v3, v4] at this
  simpa only [kp_zero, zB_z] using this
theorem meet_v {q1 r1 q2 r2 : Rat} (hq1 : Sm 30 q1) (hr1 : Sm 30 r1) (hq2 : Sm 30 q2) (hr2 : Sm 30 r2) (a : shB (RS q1) = true) (b : shB (RS r1) = true) (c : shB (RS q2) = true) (d : shB (RS r2) = true) (e : icE (RS q1) (RS r1) = 0) (f : icE (RS q2) (RS r2) = 0) :
    (mnR r1 r2 < mxR q1 q2 → Ca 19 #[.agg #[.string (RS q1), .string (RS r1)], .agg #[.string (RS q2), .string (RS r2)]] (.tuple #[.agg #[.string ⟨#[]⟩, .string ⟨#[]⟩], .bool false, .int .i64 0])) ∧
    (¬ mnR r1 r2 < mxR q1 q2 → Ca 19 #[.agg #[.string (RS q1), .string (RS r1)], .agg #[.string (RS q2), .string (RS r2)]] (.tuple #[.agg #[.string (RS (mxR q1 q2)), .string (RS (mnR r1 r2))], .bool true, .int .i64 0])) := by
  have v2 := (cmp_v hq1 hq2 (by omega)).2
  have v4 := (cmp_v hr1 hr2 (by omega)).2
  have v1 := (lsB_v hq1 hq2 (by omega)).2
  have v3 := (lsB_v hr1 hr2 (by omega)).1
  have hu := sm_mx hq1 hq2
  have hv := sm_mn hr1 hr2
  have hi := icE_v hu hv (by omega)
  have q : ∀ (V : World) (g ba bb : Nat), RE V g 0 → SpB V ba (RS q1) (RS r1) → SpB V bb (RS q2) (RS r2) → Calls Tryz.prog 65 #[.pointer (some ⟨g, 0, none⟩), .pointer (some ⟨ba, 0, none⟩), .pointer (some ⟨bb, 0, none⟩)] V fun x w' => x = .returned (.agg #[.string (RS (mxR q1 q2)), .string (RS (mnR r1 r2))]) ∧ RE w' g 0 ∧ Kp [g] V w' := fun V g ba bb hR ha hb => by
    have := iMeet_q _ _ _ _ a b c d V g ba bb hR ha hb
    rw [e, f, v1, v2, v3, v4] at this
    simpa only [kp_zero] using this
  have qk : Hid (∀ W : World, Calls Tryz.prog 68 #[.agg #[.string (RS (mxR q1 q2)), .string (RS (mnR r1 r2))]] W fun r w' => r = .returned (.int .i64 (icE (RS (mxR q1 q2)) (RS (mnR r1 r2)))) ∧ Kp [] W w') := Lib.hid fun W => icheck_any _ _ W (hu.ok (by omega)).size9 (hv.ok (by omega)).size9
  rw [hi] at qk
  refine ⟨fun hlt => ?_, fun hlt => ?_⟩
  · rw [if_pos hlt] at qk
    exact Lib.hid fun W => iMeet_9 _ _ _ _ _ _ W q qk
  · rw [if_neg hlt] at qk
    exact Lib.hid fun W => iMeet_0 _ _ _ _ _ _ W q qk
theorem op_bsSl1 {a : Act} {w : World} {o : Oper} {x : Operand} {p : Option Addr} {n c : Nat} (h : o.op = .buildSlice 68 1 #[(0, x)]) (hx : a.eval x = .slice p n c) :
    (execOp a.eval o).run Tryz.prog w = .ok (.value (.slice (some ⟨w.heap.size, 0, none⟩) 1 1)) (w.alloc (.cells #[.slice p n c] 46 (0, 0))) := by
  generalize a.eval = r at *
  simp [execOp, h, hx, go_sem]

/-- the call of right at the two spans -/
theorem ends_right (l1 h1 l2 h2 : ByteArray) (s1 : l1.size ≤ 9223372036854775807) (s2 : h1.size ≤ 9223372036854775807) (s3 : l2.size ≤ 9223372036854775807) (s4 : h2.size ≤ 9223372036854775807) (w : World) :
    Calls Tryz.prog 41 #[.slice (some ⟨w.heap.size + 1 + 1 + 1, 0, none⟩) 1 1] ((((w.alloc (.cells #[.string l1, .string h1] 24 (0, 0))).alloc (.cells #[.string l2, .string h2] 24 (0, 0))).alloc (.cells #[.string l1, .string h1, .string l2, .string h2] 24 (0, 0))).alloc (.cells #[.slice (some ⟨w.heap.size + 1 + 1, 0, none⟩) 2 2] 46 (0, 0))) fun r w' => r = .returned (.bool (rgB [(l1, h1), (l2, h2)])) ∧ Kp [] ((((w.alloc (.cells #[.string l1, .string h1] 24 (0, 0))).alloc (.cells #[.string l2, .string h2] 24 (0, 0))).alloc (.cells #[.string l1, .string h1, .string l2, .string h2] 24 (0, 0))).alloc (.cells #[.slice (some ⟨w.heap.size + 1 + 1, 0, none⟩) 2 2] 46 (0, 0))) w' := by
  have m3 := heap_alloc_new ((w.alloc (.cells #[.string l1, .string h1] 24 (0, 0))).alloc (.cells #[.string l2, .string h2] 24 (0, 0))) (.cells #[.string l1, .string h1, .string l2, .string h2] 24 (0, 0))
  rw [World.size_alloc, World.size_alloc] at m3
  have m4 := heap_alloc_new (((w.alloc (.cells #[.string l1, .string h1] 24 (0, 0))).alloc (.cells #[.string l2, .string h2] 24 (0, 0))).alloc (.cells #[.string l1, .string h1, .string l2, .string h2] 24 (0, 0))) (.cells #[.slice (some ⟨w.heap.size + 1 + 1, 0, none⟩) 2 2] 46 (0, 0))
  rw [World.size_alloc, World.size_alloc, World.size_alloc] at m4
  have m3' : ((((w.alloc (.cells #[.string l1, .string h1] 24 (0, 0))).alloc (.cells #[.string l2, .string h2] 24 (0, 0))).alloc (.cells #[.string l1, .string h1, .string l2, .string h2] 24 (0, 0))).alloc (.cells #[.slice (some ⟨w.heap.size + 1 + 1, 0, none⟩) 2 2] 46 (0, 0))).heap[w.heap.size + 1 + 1]? = some (.cells #[.string l1, .string h1, .string l2, .string h2] 24 (0, 0)) := (Below.heap_alloc _ _ _ (by simp)).trans m3
  refine right3_any (w.heap.size + 1 + 1 + 1) 0 1 1 (fun _ => .slice (some ⟨w.heap.size + 1 + 1, 0, none⟩) 2 2) (fun _ => [(l1, h1), (l2, h2)]) _ ((((w.alloc (.cells #[.string l1, .string h1] 24 (0, 0))).alloc (.cells #[.string l2, .string h2] 24 (0, 0))).alloc (.cells #[.string l1, .string h1, .string l2, .string h2] 24 (0, 0))).alloc (.cells #[.slice (some ⟨w.heap.size + 1 + 1, 0, none⟩) 2 2] 46 (0, 0))) (by omega) ?_ ?_ ?_ (fun _ _ h => h) (fun h => h 0 (by omega))
  · intro j hj W k
    obtain rfl : j = 0 := by omega
    rw [World.cell?_of_block (k.block (w.heap.size + 1 + 1 + 1) (by simp) (by simp))]
    unfold World.cell?
    rw [Nat.zero_add, m4]
    rfl
  · intro j hj
    exact SlT.lit2 m3'
  · intro j hj i hi
    match i, hi with
    | 0, _ => exact ⟨s1, s2⟩
    | 1, _ => exact ⟨s3, s4⟩

set_option maxRecDepth 100000 in
set_option maxHeartbeats 8000000 in
theorem ends_1 (l1 h1 l2 h2 x : ByteArray)  (w : World)
    (qr : Hid (Calls Tryz.prog 41 #[.slice (some ⟨w.heap.size + 1 + 1 + 1, 0, none⟩) 1 1] ((((w.alloc (.cells #[.string l1, .string h1] 24 (0, 0))).alloc (.cells #[.string l2, .string h2] 24 (0, 0))).alloc (.cells #[.string l1, .string h1, .string l2, .string h2] 24 (0, 0))).alloc (.cells #[.slice (some ⟨w.heap.size + 1 + 1, 0, none⟩) 2 2] 46 (0, 0))) fun r w' => r = .returned (.bool false) ∧ Kp [] ((((w.alloc (.cells #[.string l1, .string h1] 24 (0, 0))).alloc (.cells #[.string l2, .string h2] 24 (0, 0))).alloc (.cells #[.string l1, .string h1, .string l2, .string h2] 24 (0, 0))).alloc (.cells #[.slice (some ⟨w.heap.size + 1 + 1, 0, none⟩) 2 2] 46 (0, 0))) w')) :
    Calls Tryz.prog 7 #[.agg #[.string l1, .string h1], .agg #[.string l2, .string h2], .string x] w fun r w' => r = .returned (.bool true) ∧ Kp [] w w' := by
  have qw := Lib.hid awake3
  unfold Ca at *
  have sa := (((SpB.made w l1 h1).alloc (.cells #[.string l2, .string h2] 24 (0, 0))).alloc (.cells #[.string l1, .string h1, .string l2, .string h2] 24 (0, 0))).alloc (.cells #[.slice (some ⟨w.heap.size + 1 + 1, 0, none⟩) 2 2] 46 (0, 0))
  have sb := ((SpB.made (w.alloc (.cells #[.string l1, .string h1] 24 (0, 0))) l2 h2).alloc (.cells #[.string l1, .string h1, .string l2, .string h2] 24 (0, 0))).alloc (.cells #[.slice (some ⟨w.heap.size + 1 + 1, 0, none⟩) 2 2] 46 (0, 0))
  have xa := (SpB.made w l1 h1).alloc (.cells #[.string l2, .string h2] 24 (0, 0))
  have xb := SpB.made (w.alloc (.cells #[.string l1, .string h1] 24 (0, 0))) l2 h2
  rw [World.size_alloc] at sb xb
  have kk : Kp [] w ((((w.alloc (.cells #[.string l1, .string h1] 24 (0, 0))).alloc (.cells #[.string l2, .string h2] 24 (0, 0))).alloc (.cells #[.string l1, .string h1, .string l2, .string h2] 24 (0, 0))).alloc (.cells #[.slice (some ⟨w.heap.size + 1 + 1, 0, none⟩) 2 2] 46 (0, 0))) := ((((Kp.refl _ _).alloc _).alloc _).alloc _).alloc _
  have a0 := xa.c0; have a1 := xa.c1; have b0 := xb.c0; have b1 := xb.c1
  clear xa xb
  go_enter Tryz.func7, Tryz.ntmps7
  go_wp2_with (first
    | (refine wpList_stepN rfl (op_bsSp2 rfl rfl rfl) (by simp only [Act.put, World.size_alloc, List.setIfInBounds_toArray, List.set_cons_succ, List.set_cons_zero]; rfl) ?_)
    | (refine wpList_stepN rfl (op_bsSl1 rfl rfl) (by simp only [Act.put, World.size_alloc, List.setIfInBounds_toArray, List.set_cons_succ, List.set_cons_zero]; rfl) ?_))
  with_reducible refine qr.out.mono ?_
  rintro r w1 ⟨rfl, k⟩
  replace sa := sa.kept k (by simp)
  replace sb := sb.kept k (by simp)
  replace kk := kk.trans k
  clear a0 a1 b0 b1 k qr
  generalize hA : w.heap.size = A at *
  clear sa sb
  go_wp2_with fail
  with_reducible refine (qw.out _).mono ?_
  rintro r w9 ⟨rfl, k⟩
  replace kk := kk.trans k
  clear k qw
  go_wp2
  go_ret
  exact ⟨rfl, kk⟩

set_option maxRecDepth 100000 in
set_option maxHeartbeats 8000000 in
theorem ends_2 (l1 h1 l2 h2 x : ByteArray) (q2 : Ca 11 #[.string x] (.bool false)) (w : World)
    (qr : Hid (Calls Tryz.prog 41 #[.slice (some ⟨w.heap.size + 1 + 1 + 1, 0, none⟩) 1 1] ((((w.alloc (.cells #[.string l1, .string h1] 24 (0, 0))).alloc (.cells #[.string l2, .string h2] 24 (0, 0))).alloc (.cells #[.string l1, .string h1, .string l2, .string h2] 24 (0, 0))).alloc (.cells #[.slice (some ⟨w.heap.size + 1 + 1, 0, none⟩) 2 2] 46 (0, 0))) fun r w' => r = .returned (.bool true) ∧ Kp [] ((((w.alloc (.cells #[.string l1, .string h1] 24 (0, 0))).alloc (.cells #[.string l2, .string h2] 24 (0, 0))).alloc (.cells #[.string l1, .string h1, .string l2, .string h2] 24 (0, 0))).alloc (.cells #[.slice (some ⟨w.heap.size + 1 + 1, 0, none⟩) 2 2] 46 (0, 0))) w')) :
    Calls Tryz.prog 7 #[.agg #[.string l1, .string h1], .agg #[.string l2, .string h2], .string x] w fun r w' => r = .returned (.bool true) ∧ Kp [] w w' := by
  have qw := Lib.hid awake3
  unfold Ca at *
  have sa := (((SpB.made w l1 h1).alloc (.cells #[.string l2, .string h2] 24 (0, 0))).alloc (.cells #[.string l1, .string h1, .string l2, .string h2] 24 (0, 0))).alloc (.cells #[.slice (some ⟨w.heap.size + 1 + 1, 0, none⟩) 2 2] 46 (0, 0))
  have sb := ((SpB.made (w.alloc (.cells #[.string l1, .string h1] 24 (0, 0))) l2 h2).alloc (.cells #[.string l1, .string h1, .string l2, .string h2] 24 (0, 0))).alloc (.cells #[.slice (some ⟨w.heap.size + 1 + 1, 0, none⟩) 2 2] 46 (0, 0))
  have xa := (SpB.made w l1 h1).alloc (.cells #[.string l2, .string h2] 24 (0, 0))
  have xb := SpB.made (w.alloc (.cells #[.string l1, .string h1] 24 (0, 0))) l2 h2
  rw [World.size_alloc] at sb xb
  have kk : Kp [] w ((((w.alloc (.cells #[.string l1, .string h1] 24 (0, 0))).alloc (.cells #[.string l2, .string h2] 24 (0, 0))).alloc (.cells #[.string l1, .string h1, .string l2, .string h2] 24 (0, 0))).alloc (.cells #[.slice (some ⟨w.heap.size + 1 + 1, 0, none⟩) 2 2] 46 (0, 0))) := ((((Kp.refl _ _).alloc _).alloc _).alloc _).alloc _
  have a0 := xa.c0; have a1 := xa.c1; have b0 := xb.c0; have b1 := xb.c1
  clear xa xb
  go_enter Tryz.func7, Tryz.ntmps7
  go_wp2_with (first
    | (refine wpList_stepN rfl (op_bsSp2 rfl rfl rfl) (by simp only [Act.put, World.size_alloc, List.setIfInBounds_toArray, List.set_cons_succ, List.set_cons_zero]; rfl) ?_)
    | (refine wpList_stepN rfl (op_bsSl1 rfl rfl) (by simp only [Act.put, World.size_alloc, List.setIfInBounds_toArray, List.set_cons_succ, List.set_cons_zero]; rfl) ?_))
  with_reducible refine qr.out.mono ?_
  rintro r w1 ⟨rfl, k⟩
  replace sa := sa.kept k (by simp)
  replace sb := sb.kept k (by simp)
  replace kk := kk.trans k
  clear a0 a1 b0 b1 k qr
  generalize hA : w.heap.size = A at *
  go_wp2_with fail
  with_reducible refine (q2.out _).mono ?_
  rintro r w2 ⟨rfl, k⟩
  replace sa := sa.kept k (by simp)
  replace sb := sb.kept k (by simp)
  replace kk := kk.trans k
  clear k q2
  clear sa sb
  go_wp2_with fail
  with_reducible refine (qw.out _).mono ?_
  rintro r w9 ⟨rfl, k⟩
  replace kk := kk.trans k
  clear k qw
  go_wp2
  go_ret
  exact ⟨rfl, kk⟩

set_option maxRecDepth 100000 in
set_option maxHeartbeats 8000000 in
theorem ends_3 (l1 h1 l2 h2 x : ByteArray) (E : Int) (hE : (E != 0) = true) (q2 : Ca 11 #[.string x] (.bool true)) (q3 : Ca 42 #[.string x] (.int .i64 E)) (w : World)
    (qr : Hid (Calls Tryz.prog 41 #[.slice (some ⟨w.heap.size + 1 + 1 + 1, 0, none⟩) 1 1] ((((w.alloc (.cells #[.string l1, .string h1] 24 (0, 0))).alloc (.cells #[.string l2, .string h2] 24 (0, 0))).alloc (.cells #[.string l1, .string h1, .string l2, .string h2] 24 (0, 0))).alloc (.cells #[.slice (some ⟨w.heap.size + 1 + 1, 0, none⟩) 2 2] 46 (0, 0))) fun r w' => r = .returned (.bool true) ∧ Kp [] ((((w.alloc (.cells #[.string l1, .string h1] 24 (0, 0))).alloc (.cells #[.string l2, .string h2] 24 (0, 0))).alloc (.cells #[.string l1, .string h1, .string l2, .string h2] 24 (0, 0))).alloc (.cells #[.slice (some ⟨w.heap.size + 1 + 1, 0, none⟩) 2 2] 46 (0, 0))) w')) :
    Calls Tryz.prog 7 #[.agg #[.string l1, .string h1], .agg #[.string l2, .string h2], .string x] w fun r w' => r = .returned (.bool true) ∧ Kp [] w w' := by
  have qw := Lib.hid awake3
  unfold Ca at *
  have sa := (((SpB.made w l1 h1).alloc (.cells #[.string l2, .string h2] 24 (0, 0))).alloc (.cells #[.string l1, .string h1, .string l2, .string h2] 24 (0, 0))).alloc (.cells #[.slice (some ⟨w.heap.size + 1 + 1, 0, none⟩) 2 2] 46 (0, 0))
  have sb := ((SpB.made (w.alloc (.cells #[.string l1, .string h1] 24 (0, 0))) l2 h2).alloc (.cells #[.string l1, .string h1, .string l2, .string h2] 24 (0, 0))).alloc (.cells #[.slice (some ⟨w.heap.size + 1 + 1, 0, none⟩) 2 2] 46 (0, 0))
  have xa := (SpB.made w l1 h1).alloc (.cells #[.string l2, .string h2] 24 (0, 0))
  have xb := SpB.made (w.alloc (.cells #[.string l1, .string h1] 24 (0, 0))) l2 h2
  rw [World.size_alloc] at sb xb
  have kk : Kp [] w ((((w.alloc (.cells #[.string l1, .string h1] 24 (0, 0))).alloc (.cells #[.string l2, .string h2] 24 (0, 0))).alloc (.cells #[.string l1, .string h1, .string l2, .string h2] 24 (0, 0))).alloc (.cells #[.slice (some ⟨w.heap.size + 1 + 1, 0, none⟩) 2 2] 46 (0, 0))) := ((((Kp.refl _ _).alloc _).alloc _).alloc _).alloc _
  have a0 := xa.c0; have a1 := xa.c1; have b0 := xb.c0; have b1 := xb.c1
  clear xa xb
  go_enter Tryz.func7, Tryz.ntmps7
  go_wp2_with (first
    | (refine wpList_stepN rfl (op_bsSp2 rfl rfl rfl) (by simp only [Act.put, World.size_alloc, List.setIfInBounds_toArray, List.set_cons_succ, List.set_cons_zero]; rfl) ?_)
    | (refine wpList_stepN rfl (op_bsSl1 rfl rfl) (by simp only [Act.put, World.size_alloc, List.setIfInBounds_toArray, List.set_cons_succ, List.set_cons_zero]; rfl) ?_))
  with_reducible refine qr.out.mono ?_
  rintro r w1 ⟨rfl, k⟩
  replace sa := sa.kept k (by simp)
  replace sb := sb.kept k (by simp)
  replace kk := kk.trans k
  clear a0 a1 b0 b1 k qr
  generalize hA : w.heap.size = A at *
  go_wp2_with fail
  with_reducible refine (q2.out _).mono ?_
  rintro r w2 ⟨rfl, k⟩
  replace sa := sa.kept k (by simp)
  replace sb := sb.kept k (by simp)
  replace kk := kk.trans k
  clear k q2
  go_wp2_with fail
  with_reducible refine (q3.out _).mono ?_
  rintro r w3 ⟨rfl, k⟩
  replace sa := sa.kept k (by simp)
  replace sb := sb.kept k (by simp)
  replace kk := kk.trans k
  clear k q3
  clear sa sb
  go_wp2_with fail
  with_reducible refine (qw.out _).mono ?_
  rintro r w9 ⟨rfl, k⟩
  replace kk := kk.trans k
  clear k qw
  go_wp2
  go_ret
  exact ⟨rfl, kk⟩

set_option maxRecDepth 100000 in
set_option maxHeartbeats 8000000 in
theorem ends_4 (l1 h1 l2 h2 x : ByteArray) (m n s1 s2 t1 t2 y z c1 c2 low : ByteArray) (q2 : Ca 11 #[.string x] (.bool true)) (q3 : Ca 42 #[.string x] (.int .i64 0)) (p1 : Ca 43 #[.agg #[.string l1, .string h1]] (.tuple #[.string m, .int .i64 0])) (p2 : Ca 43 #[.agg #[.string l2, .string h2]] (.tuple #[.string n, .int .i64 0])) (p3 : Ca 13 #[.agg #[.string l1, .string h1], .agg #[.string l2, .string h2]] (.tuple #[.agg #[.string s1, .string s2], .int .i64 0])) (p4 : Ca 17 #[.agg #[.string l1, .string h1], .string x] (.tuple #[.agg #[.string t1, .string t2], .int .i64 0])) (p5 : Ca 43 #[.agg #[.string s1, .string s2]] (.tuple #[.string y, .int .i64 0])) (p6 : Ca 44 #[.string m, .string n] (.tuple #[.string y, .int .i64 0])) (p7 : Ca 43 #[.agg #[.string t1, .string t2]] (.tuple #[.string z, .int .i64 0])) (p8 : Ca 45 #[.string m, .string x] (.tuple #[.string z, .int .i64 0])) (p9 : Ca 19 #[.agg #[.string l1, .string h1], .agg #[.string l2, .string h2]] (.tuple #[.agg #[.string c1, .string c2], .bool true, .int .i64 0])) (p10 : Ca 46 #[.string l1, .string l2] (.string low)) (p11 : Ca 23 #[.agg #[.string l1, .string h1], .string low] (.tuple #[.bool true, .int .i64 0])) (p12 : Ca 23 #[.agg #[.string l2, .string h2], .string low] (.tuple #[.bool true, .int .i64 0])) (p13 : Ca 25 #[.agg #[.string c1, .string c2], .agg #[.string l1, .string h1]] (.tuple #[.bool true, .int .i64 0])) (p14 : Ca 25 #[.agg #[.string c1, .string c2], .agg #[.string l2, .string h2]] (.tuple #[.bool true, .int .i64 0])) (w : World)
    (qr : Hid (Calls Tryz.prog 41 #[.slice (some ⟨w.heap.size + 1 + 1 + 1, 0, none⟩) 1 1] ((((w.alloc (.cells #[.string l1, .string h1] 24 (0, 0))).alloc (.cells #[.string l2, .string h2] 24 (0, 0))).alloc (.cells #[.string l1, .string h1, .string l2, .string h2] 24 (0, 0))).alloc (.cells #[.slice (some ⟨w.heap.size + 1 + 1, 0, none⟩) 2 2] 46 (0, 0))) fun r w' => r = .returned (.bool true) ∧ Kp [] ((((w.alloc (.cells #[.string l1, .string h1] 24 (0, 0))).alloc (.cells #[.string l2, .string h2] 24 (0, 0))).alloc (.cells #[.string l1, .string h1, .string l2, .string h2] 24 (0, 0))).alloc (.cells #[.slice (some ⟨w.heap.size + 1 + 1, 0, none⟩) 2 2] 46 (0, 0))) w')) :
    Calls Tryz.prog 7 #[.agg #[.string l1, .string h1], .agg #[.string l2, .string h2], .string x] w fun r w' => r = .returned (.bool true) ∧ Kp [] w w' := by
  have qw := Lib.hid awake3
  unfold Ca at *
  have sa := (((SpB.made w l1 h1).alloc (.cells #[.string l2, .string h2] 24 (0, 0))).alloc (.cells #[.string l1, .string h1, .string l2, .string h2] 24 (0, 0))).alloc (.cells #[.slice (some ⟨w.heap.size + 1 + 1, 0, none⟩) 2 2] 46 (0, 0))
  have sb := ((SpB.made (w.alloc (.cells #[.string l1, .string h1] 24 (0, 0))) l2 h2).alloc (.cells #[.string l1, .string h1, .string l2, .string h2] 24 (0, 0))).alloc (.cells #[.slice (some ⟨w.heap.size + 1 + 1, 0, none⟩) 2 2] 46 (0, 0))
  have xa := (SpB.made w l1 h1).alloc (.cells #[.string l2, .string h2] 24 (0, 0))
  have xb := SpB.made (w.alloc (.cells #[.string l1, .string h1] 24 (0, 0))) l2 h2
  rw [World.size_alloc] at sb xb
  have kk : Kp [] w ((((w.alloc (.cells #[.string l1, .string h1] 24 (0, 0))).alloc (.cells #[.string l2, .string h2] 24 (0, 0))).alloc (.cells #[.string l1, .string h1, .string l2, .string h2] 24 (0, 0))).alloc (.cells #[.slice (some ⟨w.heap.size + 1 + 1, 0, none⟩) 2 2] 46 (0, 0))) := ((((Kp.refl _ _).alloc _).alloc _).alloc _).alloc _
  have a0 := xa.c0; have a1 := xa.c1; have b0 := xb.c0; have b1 := xb.c1
  clear xa xb
  go_enter Tryz.func7, Tryz.ntmps7
  go_wp2_with (first
    | (refine wpList_stepN rfl (op_bsSp2 rfl rfl rfl) (by simp only [Act.put, World.size_alloc, List.setIfInBounds_toArray, List.set_cons_succ, List.set_cons_zero]; rfl) ?_)
    | (refine wpList_stepN rfl (op_bsSl1 rfl rfl) (by simp only [Act.put, World.size_alloc, List.setIfInBounds_toArray, List.set_cons_succ, List.set_cons_zero]; rfl) ?_))
  with_reducible refine qr.out.mono ?_
  rintro r w1 ⟨rfl, k⟩
  replace sa := sa.kept k (by simp)
  replace sb := sb.kept k (by simp)
  replace kk := kk.trans k
  clear a0 a1 b0 b1 k qr
  generalize hA : w.heap.size = A at *
  go_wp2_with fail
  with_reducible refine (q2.out _).mono ?_
  rintro r w2 ⟨rfl, k⟩
  replace sa := sa.kept k (by simp)
  replace sb := sb.kept k (by simp)
  replace kk := kk.trans k
  clear k q2
  go_wp2_with fail
  with_reducible refine (q3.out _).mono ?_
  rintro r w3 ⟨rfl, k⟩
  replace sa := sa.kept k (by simp)
  replace sb := sb.kept k (by simp)
  replace kk := kk.trans k
  clear k q3
  have a0 := sa.c0; have a1 := sa.c1
  have b0 := sb.c0; have b1 := sb.c1
  go_wp2_with fail
  with_reducible refine (p1.out _).mono ?_
  rintro r w4 ⟨rfl, k⟩
  replace sa := sa.kept k (by simp)
  replace sb := sb.kept k (by simp)
  replace kk := kk.trans k
  clear a0 a1 b0 b1 k p1
  have a0 := sa.c0; have a1 := sa.c1
  have b0 := sb.c0; have b1 := sb.c1
  go_wp2_with fail
  with_reducible refine (p2.out _).mono ?_
  rintro r w5 ⟨rfl, k⟩
  replace sa := sa.kept k (by simp)
  replace sb := sb.kept k (by simp)
  replace kk := kk.trans k
  clear a0 a1 b0 b1 k p2
  have a0 := sa.c0; have a1 := sa.c1
  have b0 := sb.c0; have b1 := sb.c1
  go_wp2_with fail
  with_reducible refine (p3.out _).mono ?_
  rintro r w6 ⟨rfl, k⟩
  replace sa := sa.kept k (by simp)
  replace sb := sb.kept k (by simp)
  replace kk := kk.trans k
  clear a0 a1 b0 b1 k p3
  replace sa := sa.alloc (.cells #[.string s1, .string s2] 24 (0, 0))
  replace sb := sb.alloc (.cells #[.string s1, .string s2] 24 (0, 0))
  have sc := SpB.made w6 s1 s2
  replace kk := kk.alloc (.cells #[.string s1, .string s2] 24 (0, 0))
  have a0 := sa.c0; have a1 := sa.c1
  have b0 := sb.c0; have b1 := sb.c1
  go_wp2_with fail
  generalize hC : w6.heap.size = C at *
  with_reducible refine (p4.out _).mono ?_
  rintro r w7 ⟨rfl, k⟩
  replace sa := sa.kept k (by simp)
  replace sb := sb.kept k (by simp)
  replace sc := sc.kept k (by simp)
  replace kk := kk.trans k
  clear a0 a1 b0 b1 k p4
  replace sa := sa.alloc (.cells #[.string t1, .string t2] 24 (0, 0))
  replace sb := sb.alloc (.cells #[.string t1, .string t2] 24 (0, 0))
  replace sc := sc.alloc (.cells #[.string t1, .string t2] 24 (0, 0))
  have sd := SpB.made w7 t1 t2
  replace kk := kk.alloc (.cells #[.string t1, .string t2] 24 (0, 0))
  have a0 := sa.c0; have a1 := sa.c1
  have b0 := sb.c0; have b1 := sb.c1
  have c0 := sc.c0; have c1 := sc.c1
  have d0 := sd.c0; have d1 := sd.c1
  go_wp2_with fail
  generalize hD : w7.heap.size = D at *
  with_reducible refine (p5.out _).mono ?_
  rintro r w8 ⟨rfl, k⟩
  replace sa := sa.kept k (by simp)
  replace sb := sb.kept k (by simp)
  replace sc := sc.kept k (by simp)
  replace sd := sd.kept k (by simp)
  replace kk := kk.trans k
  clear a0 a1 b0 b1 c0 c1 d0 d1 k p5
  go_wp2_with fail
  with_reducible refine (p6.out _).mono ?_
  rintro r w9 ⟨rfl, k⟩
  replace sa := sa.kept k (by simp)
  replace sb := sb.kept k (by simp)
  replace sd := sd.kept k (by simp)
  replace kk := kk.trans k
  clear sc k p6
  have d0 := sd.c0; have d1 := sd.c1
  go_wp2_with fail
  with_reducible refine (p7.out _).mono ?_
  rintro r w10 ⟨rfl, k⟩
  replace sa := sa.kept k (by simp)
  replace sb := sb.kept k (by simp)
  replace kk := kk.trans k
  clear d0 d1 sd k p7
  go_wp2_with fail
  with_reducible refine (p8.out _).mono ?_
  rintro r w11 ⟨rfl, k⟩
  replace sa := sa.kept k (by simp)
  replace sb := sb.kept k (by simp)
  replace kk := kk.trans k
  clear hC k p8
  have a0 := sa.c0; have a1 := sa.c1
  have b0 := sb.c0; have b1 := sb.c1
  go_wp2_with fail
  with_reducible refine (p9.out _).mono ?_
  rintro r w12 ⟨rfl, k⟩
  replace sa := sa.kept k (by simp)
  replace sb := sb.kept k (by simp)
  replace kk := kk.trans k
  clear a0 a1 b0 b1 k p9
  replace sa := sa.alloc (.cells #[.string c1, .string c2] 24 (0, 0))
  replace sb := sb.alloc (.cells #[.string c1, .string c2] 24 (0, 0))
  have se := SpB.made w12 c1 c2
  replace kk := kk.alloc (.cells #[.string c1, .string c2] 24 (0, 0))
  have a0 := sa.c0; have a1 := sa.c1
  have b0 := sb.c0; have b1 := sb.c1
  go_wp2_with fail
  generalize hE : w12.heap.size = EB at *
  with_reducible refine (p10.out _).mono ?_
  rintro r w13 ⟨rfl, k⟩
  replace sa := sa.kept k (by simp)
  replace sb := sb.kept k (by simp)
  replace se := se.kept k (by simp)
  replace kk := kk.trans k
  clear a0 a1 b0 b1 k p10
  have a0 := sa.c0; have a1 := sa.c1
  have b0 := sb.c0; have b1 := sb.c1
  go_wp2_with fail
  with_reducible refine (p11.out _).mono ?_
  rintro r w14 ⟨rfl, k⟩
  replace sa := sa.kept k (by simp)
  replace sb := sb.kept k (by simp)
  replace se := se.kept k (by simp)
  replace kk := kk.trans k
  clear a0 a1 b0 b1 k p11
  have a0 := sa.c0; have a1 := sa.c1
  have b0 := sb.c0; have b1 := sb.c1
  go_wp2_with fail
  with_reducible refine (p12.out _).mono ?_
  rintro r w15 ⟨rfl, k⟩
  replace sa := sa.kept k (by simp)
  replace sb := sb.kept k (by simp)
  replace se := se.kept k (by simp)
  replace kk := kk.trans k
  clear a0 a1 b0 b1 k p12
  have a0 := sa.c0; have a1 := sa.c1
  have b0 := sb.c0; have b1 := sb.c1
  have e0 := se.c0; have e1 := se.c1
  go_wp2_with fail
  with_reducible refine (p13.out _).mono ?_
  rintro r w16 ⟨rfl, k⟩
  replace sa := sa.kept k (by simp)
  replace sb := sb.kept k (by simp)
  replace se := se.kept k (by simp)
  replace kk := kk.trans k
  clear a0 a1 b0 b1 e0 e1 k p13
  have a0 := sa.c0; have a1 := sa.c1
  have b0 := sb.c0; have b1 := sb.c1
  have e0 := se.c0; have e1 := se.c1
  go_wp2_with fail
  with_reducible refine (p14.out _).mono ?_
  rintro r w17 ⟨rfl, k⟩
  replace sa := sa.kept k (by simp)
  replace sb := sb.kept k (by simp)
  replace kk := kk.trans k
  clear a0 a1 b0 b1 e0 e1 se k p14
  clear sa sb
  go_wp2_with fail
  with_reducible refine (qw.out _).mono ?_
  rintro r w9 ⟨rfl, k⟩
  replace kk := kk.trans k
  clear k qw
  go_wp2
  go_ret
  exact ⟨rfl, kk⟩

set_option maxRecDepth 100000 in
set_option maxHeartbeats 8000000 in
theorem ends_5 (l1 h1 l2 h2 x : ByteArray) (m n s1 s2 t1 t2 y z c1 c2 low : ByteArray) (q2 : Ca 11 #[.string x] (.bool true)) (q3 : Ca 42 #[.string x] (.int .i64 0)) (p1 : Ca 43 #[.agg #[.string l1, .string h1]] (.tuple #[.string m, .int .i64 0])) (p2 : Ca 43 #[.agg #[.string l2, .string h2]] (.tuple #[.string n, .int .i64 0])) (p3 : Ca 13 #[.agg #[.string l1, .string h1], .agg #[.string l2, .string h2]] (.tuple #[.agg #[.string s1, .string s2], .int .i64 0])) (p4 : Ca 17 #[.agg #[.string l1, .string h1], .string x] (.tuple #[.agg #[.string t1, .string t2], .int .i64 0])) (p5 : Ca 43 #[.agg #[.string s1, .string s2]] (.tuple #[.string y, .int .i64 0])) (p6 : Ca 44 #[.string m, .string n] (.tuple #[.string y, .int .i64 0])) (p7 : Ca 43 #[.agg #[.string t1, .string t2]] (.tuple #[.string z, .int .i64 0])) (p8 : Ca 45 #[.string m, .string x] (.tuple #[.string z, .int .i64 0])) (p9 : Ca 19 #[.agg #[.string l1, .string h1], .agg #[.string l2, .string h2]] (.tuple #[.agg #[.string c1, .string c2], .bool false, .int .i64 0])) (p10 : Ca 46 #[.string l1, .string l2] (.string low)) (p11 : Ca 23 #[.agg #[.string l1, .string h1], .string low] (.tuple #[.bool true, .int .i64 0])) (p12 : Ca 23 #[.agg #[.string l2, .string h2], .string low] (.tuple #[.bool false, .int .i64 0])) (w : World)
    (qr : Hid (Calls Tryz.prog 41 #[.slice (some ⟨w.heap.size + 1 + 1 + 1, 0, none⟩) 1 1] ((((w.alloc (.cells #[.string l1, .string h1] 24 (0, 0))).alloc (.cells #[.string l2, .string h2] 24 (0, 0))).alloc (.cells #[.string l1, .string h1, .string l2, .string h2] 24 (0, 0))).alloc (.cells #[.slice (some ⟨w.heap.size + 1 + 1, 0, none⟩) 2 2] 46 (0, 0))) fun r w' => r = .returned (.bool true) ∧ Kp [] ((((w.alloc (.cells #[.string l1, .string h1] 24 (0, 0))).alloc (.cells #[.string l2, .string h2] 24 (0, 0))).alloc (.cells #[.string l1, .string h1, .string l2, .string h2] 24 (0, 0))).alloc (.cells #[.slice (some ⟨w.heap.size + 1 + 1, 0, none⟩) 2 2] 46 (0, 0))) w')) :
    Calls Tryz.prog 7 #[.agg #[.string l1, .string h1], .agg #[.string l2, .string h2], .string x] w fun r w' => r = .returned (.bool true) ∧ Kp [] w w' := by
  have qw := Lib.hid awake3
  unfold Ca at *
  have sa := (((SpB.made w l1 h1).alloc (.cells #[.string l2, .string h2] 24 (0, 0))).alloc (.cells #[.string l1, .string h1, .string l2, .string h2] 24 (0, 0))).alloc (.cells #[.slice (some ⟨w.heap.size + 1 + 1, 0, none⟩) 2 2] 46 (0, 0))
  have sb := ((SpB.made (w.alloc (.cells #[.string l1, .string h1] 24 (0, 0))) l2 h2).alloc (.cells #[.string l1, .string h1, .string l2, .string h2] 24 (0, 0))).alloc (.cells #[.slice (some ⟨w.heap.size + 1 + 1, 0, none⟩) 2 2] 46 (0, 0))
  have xa := (SpB.made w l1 h1).alloc (.cells #[.string l2, .string h2] 24 (0, 0))
  have xb := SpB.made (w.alloc (.cells #[.string l1, .string h1] 24 (0, 0))) l2 h2
  rw [World.size_alloc] at sb xb
  have kk : Kp [] w ((((w.alloc (.cells #[.string l1, .string h1] 24 (0, 0))).alloc (.cells #[.string l2, .string h2] 24 (0, 0))).alloc (.cells #[.string l1, .string h1, .string l2, .string h2] 24 (0, 0))).alloc (.cells #[.slice (some ⟨w.heap.size + 1 + 1, 0, none⟩) 2 2] 46 (0, 0))) := ((((Kp.refl _ _).alloc _).alloc _).alloc _).alloc _
  have a0 := xa.c0; have a1 := xa.c1; have b0 := xb.c0; have b1 := xb.c1
  clear xa xb
  go_enter Tryz.func7, Tryz.ntmps7
  go_wp2_with (first
    | (refine wpList_stepN rfl (op_bsSp2 rfl rfl rfl) (by simp only [Act.put, World.size_alloc, List.setIfInBounds_toArray, List.set_cons_succ, List.set_cons_zero]; rfl) ?_)
    | (refine wpList_stepN rfl (op_bsSl1 rfl rfl) (by simp only [Act.put, World.size_alloc, List.setIfInBounds_toArray, List.set_cons_succ, List.set_cons_zero]; rfl) ?_))
  with_reducible refine qr.out.mono ?_
  rintro r w1 ⟨rfl, k⟩
  replace sa := sa.kept k (by simp)
  replace sb := sb.kept k (by simp)
  replace kk := kk.trans k
  clear a0 a1 b0 b1 k qr
  generalize hA : w.heap.size = A at *
  go_wp2_with fail
  with_reducible refine (q2.out _).mono ?_
  rintro r w2 ⟨rfl, k⟩
  replace sa := sa.kept k (by simp)
  replace sb := sb.kept k (by simp)
  replace kk := kk.trans k
  clear k q2
  go_wp2_with fail
  with_reducible refine (q3.out _).mono ?_
  rintro r w3 ⟨rfl, k⟩
  replace sa := sa.kept k (by simp)
  replace sb := sb.kept k (by simp)
  replace kk := kk.trans k
  clear k q3
  have a0 := sa.c0; have a1 := sa.c1
  have b0 := sb.c0; have b1 := sb.c1
  go_wp2_with fail
  with_reducible refine (p1.out _).mono ?_
  rintro r w4 ⟨rfl, k⟩
  replace sa := sa.kept k (by simp)
  replace sb := sb.kept k (by simp)
  replace kk := kk.trans k
  clear a0 a1 b0 b1 k p1
  have a0 := sa.c0; have a1 := sa.c1
  have b0 := sb.c0; have b1 := sb.c1
  go_wp2_with fail
  with_reducible refine (p2.out _).mono ?_
  rintro r w5 ⟨rfl, k⟩
  replace sa := sa.kept k (by simp)
  replace sb := sb.kept k (by simp)
  replace kk := kk.trans k
  clear a0 a1 b0 b1 k p2
  have a0 := sa.c0; have a1 := sa.c1
  have b0 := sb.c0; have b1 := sb.c1
  go_wp2_with fail
  with_reducible refine (p3.out _).mono ?_
  rintro r w6 ⟨rfl, k⟩
  replace sa := sa.kept k (by simp)
  replace sb := sb.kept k (by simp)
  replace kk := kk.trans k
  clear a0 a1 b0 b1 k p3
  replace sa := sa.alloc (.cells #[.string s1, .string s2] 24 (0, 0))
  replace sb := sb.alloc (.cells #[.string s1, .string s2] 24 (0, 0))
  have sc := SpB.made w6 s1 s2
  replace kk := kk.alloc (.cells #[.string s1, .string s2] 24 (0, 0))
  have a0 := sa.c0; have a1 := sa.c1
  have b0 := sb.c0; have b1 := sb.c1
  go_wp2_with fail
  generalize hC : w6.heap.size = C at *
  with_reducible refine (p4.out _).mono ?_
  rintro r w7 ⟨rfl, k⟩
  replace sa := sa.kept k (by simp)
  replace sb := sb.kept k (by simp)
  replace sc := sc.kept k (by simp)
  replace kk := kk.trans k
  clear a0 a1 b0 b1 k p4
  replace sa := sa.alloc (.cells #[.string t1, .string t2] 24 (0, 0))
  replace sb := sb.alloc (.cells #[.string t1, .string t2] 24 (0, 0))
  replace sc := sc.alloc (.cells #[.string t1, .string t2] 24 (0, 0))
  have sd := SpB.made w7 t1 t2
  replace kk := kk.alloc (.cells #[.string t1, .string t2] 24 (0, 0))
  have a0 := sa.c0; have a1 := sa.c1
  have b0 := sb.c0; have b1 := sb.c1
  have c0 := sc.c0; have c1 := sc.c1
  have d0 := sd.c0; have d1 := sd.c1
  go_wp2_with fail
  generalize hD : w7.heap.size = D at *
  with_reducible refine (p5.out _).mono ?_
  rintro r w8 ⟨rfl, k⟩
  replace sa := sa.kept k (by simp)
  replace sb := sb.kept k (by simp)
  replace sc := sc.kept k (by simp)
  replace sd := sd.kept k (by simp)
  replace kk := kk.trans k
  clear a0 a1 b0 b1 c0 c1 d0 d1 k p5
  go_wp2_with fail
  with_reducible refine (p6.out _).mono ?_
  rintro r w9 ⟨rfl, k⟩
  replace sa := sa.kept k (by simp)
  replace sb := sb.kept k (by simp)
  replace sd := sd.kept k (by simp)
  replace kk := kk.trans k
  clear sc k p6
  have d0 := sd.c0; have d1 := sd.c1
  go_wp2_with fail
  with_reducible refine (p7.out _).mono ?_
  rintro r w10 ⟨rfl, k⟩
  replace sa := sa.kept k (by simp)
  replace sb := sb.kept k (by simp)
  replace kk := kk.trans k
  clear d0 d1 sd k p7
  go_wp2_with fail
  with_reducible refine (p8.out _).mono ?_
  rintro r w11 ⟨rfl, k⟩
  replace sa := sa.kept k (by simp)
  replace sb := sb.kept k (by simp)
  replace kk := kk.trans k
  clear hC k p8
  have a0 := sa.c0; have a1 := sa.c1
  have b0 := sb.c0; have b1 := sb.c1
  go_wp2_with fail
  with_reducible refine (p9.out _).mono ?_
  rintro r w12 ⟨rfl, k⟩
  replace sa := sa.kept k (by simp)
  replace sb := sb.kept k (by simp)
  replace kk := kk.trans k
  clear a0 a1 b0 b1 k p9
  replace sa := sa.alloc (.cells #[.string c1, .string c2] 24 (0, 0))
  replace sb := sb.alloc (.cells #[.string c1, .string c2] 24 (0, 0))
  have se := SpB.made w12 c1 c2
  replace kk := kk.alloc (.cells #[.string c1, .string c2] 24 (0, 0))
  clear se
  have a0 := sa.c0; have a1 := sa.c1
  have b0 := sb.c0; have b1 := sb.c1
  go_wp2_with fail
  with_reducible refine (p10.out _).mono ?_
  rintro r w13 ⟨rfl, k⟩
  replace sa := sa.kept k (by simp)
  replace sb := sb.kept k (by simp)
  replace kk := kk.trans k
  clear a0 a1 b0 b1 k p10
  have a0 := sa.c0; have a1 := sa.c1
  have b0 := sb.c0; have b1 := sb.c1
  go_wp2_with fail
  with_reducible refine (p11.out _).mono ?_
  rintro r w14 ⟨rfl, k⟩
  replace sa := sa.kept k (by simp)
  replace sb := sb.kept k (by simp)
  replace kk := kk.trans k
  clear a0 a1 b0 b1 k p11
  have a0 := sa.c0; have a1 := sa.c1
  have b0 := sb.c0; have b1 := sb.c1
  go_wp2_with fail
  with_reducible refine (p12.out _).mono ?_
  rintro r w15 ⟨rfl, k⟩
  replace sa := sa.kept k (by simp)
  replace sb := sb.kept k (by simp)
  replace kk := kk.trans k
  clear a0 a1 b0 b1 k p12
  clear sa sb
  go_wp2_with fail
  with_reducible refine (qw.out _).mono ?_
  rintro r w9 ⟨rfl, k⟩
  replace kk := kk.trans k
  clear k qw
  go_wp2
  go_ret
  exact ⟨rfl, kk⟩

set_option maxRecDepth 100000 in
set_option maxHeartbeats 8000000 in
theorem ends_6 (l1 h1 l2 h2 x : ByteArray) (m n s1 s2 t1 t2 y z c1 c2 low : ByteArray) (q : Bool) (q2 : Ca 11 #[.string x] (.bool true)) (q3 : Ca 42 #[.string x] (.int .i64 0)) (p1 : Ca 43 #[.agg #[.string l1, .string h1]] (.tuple #[.string m, .int .i64 0])) (p2 : Ca 43 #[.agg #[.string l2, .string h2]] (.tuple #[.string n, .int .i64 0])) (p3 : Ca 13 #[.agg #[.string l1, .string h1], .agg #[.string l2, .string h2]] (.tuple #[.agg #[.string s1, .string s2], .int .i64 0])) (p4 : Ca 17 #[.agg #[.string l1, .string h1], .string x] (.tuple #[.agg #[.string t1, .string t2], .int .i64 0])) (p5 : Ca 43 #[.agg #[.string s1, .string s2]] (.tuple #[.string y, .int .i64 0])) (p6 : Ca 44 #[.string m, .string n] (.tuple #[.string y, .int .i64 0])) (p7 : Ca 43 #[.agg #[.string t1, .string t2]] (.tuple #[.string z, .int .i64 0])) (p8 : Ca 45 #[.string m, .string x] (.tuple #[.string z, .int .i64 0])) (p9 : Ca 19 #[.agg #[.string l1, .string h1], .agg #[.string l2, .string h2]] (.tuple #[.agg #[.string c1, .string c2], .bool false, .int .i64 0])) (p10 : Ca 46 #[.string l1, .string l2] (.string low)) (p11 : Ca 23 #[.agg #[.string l1, .string h1], .string low] (.tuple #[.bool false, .int .i64 0])) (p12 : Ca 23 #[.agg #[.string l2, .string h2], .string low] (.tuple #[.bool q, .int .i64 0])) (w : World)
    (qr : Hid (Calls Tryz.prog 41 #[.slice (some ⟨w.heap.size + 1 + 1 + 1, 0, none⟩) 1 1] ((((w.alloc (.cells #[.string l1, .string h1] 24 (0, 0))).alloc (.cells #[.string l2, .string h2] 24 (0, 0))).alloc (.cells #[.string l1, .string h1, .string l2, .string h2] 24 (0, 0))).alloc (.cells #[.slice (some ⟨w.heap.size + 1 + 1, 0, none⟩) 2 2] 46 (0, 0))) fun r w' => r = .returned (.bool true) ∧ Kp [] ((((w.alloc (.cells #[.string l1, .string h1] 24 (0, 0))).alloc (.cells #[.string l2, .string h2] 24 (0, 0))).alloc (.cells #[.string l1, .string h1, .string l2, .string h2] 24 (0, 0))).alloc (.cells #[.slice (some ⟨w.heap.size + 1 + 1, 0, none⟩) 2 2] 46 (0, 0))) w')) :
    Calls Tryz.prog 7 #[.agg #[.string l1, .string h1], .agg #[.string l2, .string h2], .string x] w fun r w' => r = .returned (.bool true) ∧ Kp [] w w' := by
  have qw := Lib.hid awake3
  unfold Ca at *
  have sa := (((SpB.made w l1 h1).alloc (.cells #[.string l2, .string h2] 24 (0, 0))).alloc (.cells #[.string l1, .string h1, .string l2, .string h2] 24 (0, 0))).alloc (.cells #[.slice (some ⟨w.heap.size + 1 + 1, 0, none⟩) 2 2] 46 (0, 0))
  have sb := ((SpB.made (w.alloc (.cells #[.string l1, .string h1] 24 (0, 0))) l2 h2).alloc (.cells #[.string l1, .string h1, .string l2, .string h2] 24 (0, 0))).alloc (.cells #[.slice (some ⟨w.heap.size + 1 + 1, 0, none⟩) 2 2] 46 (0, 0))
  have xa := (SpB.made w l1 h1).alloc (.cells #[.string l2, .string h2] 24 (0, 0))
  have xb := SpB.made (w.alloc (.cells #[.string l1, .string h1] 24 (0, 0))) l2 h2
  rw [World.size_alloc] at sb xb
  have kk : Kp [] w ((((w.alloc (.cells #[.string l1, .string h1] 24 (0, 0))).alloc (.cells #[.string l2, .string h2] 24 (0, 0))).alloc (.cells #[.string l1, .string h1, .string l2, .string h2] 24 (0, 0))).alloc (.cells #[.slice (some ⟨w.heap.size + 1 + 1, 0, none⟩) 2 2] 46 (0, 0))) := ((((Kp.refl _ _).alloc _).alloc _).alloc _).alloc _
  have a0 := xa.c0; have a1 := xa.c1; have b0 := xb.c0; have b1 := xb.c1
  clear xa xb
  go_enter Tryz.func7, Tryz.ntmps7
  go_wp2_with (first
    | (refine wpList_stepN rfl (op_bsSp2 rfl rfl rfl) (by simp only [Act.put, World.size_alloc, List.setIfInBounds_toArray, List.set_cons_succ, List.set_cons_zero]; rfl) ?_)
    | (refine wpList_stepN rfl (op_bsSl1 rfl rfl) (by simp only [Act.put, World.size_alloc, List.setIfInBounds_toArray, List.set_cons_succ, List.set_cons_zero]; rfl) ?_))
  with_reducible refine qr.out.mono ?_
  rintro r w1 ⟨rfl, k⟩
  replace sa := sa.kept k (by simp)
  replace sb := sb.kept k (by simp)
  replace kk := kk.trans k
  clear a0 a1 b0 b1 k qr
  generalize hA : w.heap.size = A at *
  go_wp2_with fail
  with_reducible refine (q2.out _).mono ?_
  rintro r w2 ⟨rfl, k⟩
  replace sa := sa.kept k (by simp)
  replace sb := sb.kept k (by simp)
  replace kk := kk.trans k
  clear k q2
  go_wp2_with fail
  with_reducible refine (q3.out _).mono ?_
  rintro r w3 ⟨rfl, k⟩
  replace sa := sa.kept k (by simp)
  replace sb := sb.kept k (by simp)
  replace kk := kk.trans k
  clear k q3
  have a0 := sa.c0; have a1 := sa.c1
  have b0 := sb.c0; have b1 := sb.c1
  go_wp2_with fail
  with_reducible refine (p1.out _).mono ?_
  rintro r w4 ⟨rfl, k⟩
  replace sa := sa.kept k (by simp)
  replace sb := sb.kept k (by simp)
  replace kk := kk.trans k
  clear a0 a1 b0 b1 k p1
  have a0 := sa.c0; have a1 := sa.c1
  have b0 := sb.c0; have b1 := sb.c1
  go_wp2_with fail
  with_reducible refine (p2.out _).mono ?_
  rintro r w5 ⟨rfl, k⟩
  replace sa := sa.kept k (by simp)
  replace sb := sb.kept k (by simp)
  replace kk := kk.trans k
  clear a0 a1 b0 b1 k p2
  have a0 := sa.c0; have a1 := sa.c1
  have b0 := sb.c0; have b1 := sb.c1
  go_wp2_with fail
  with_reducible refine (p3.out _).mono ?_
  rintro r w6 ⟨rfl, k⟩
  replace sa := sa.kept k (by simp)
  replace sb := sb.kept k (by simp)
  replace kk := kk.trans k
  clear a0 a1 b0 b1 k p3
  replace sa := sa.alloc (.cells #[.string s1, .string s2] 24 (0, 0))
  replace sb := sb.alloc (.cells #[.string s1, .string s2] 24 (0, 0))
  have sc := SpB.made w6 s1 s2
  replace kk := kk.alloc (.cells #[.string s1, .string s2] 24 (0, 0))
  have a0 := sa.c0; have a1 := sa.c1
  have b0 := sb.c0; have b1 := sb.c1
  go_wp2_with fail
  generalize hC : w6.heap.size = C at *
  with_reducible refine (p4.out _).mono ?_
  rintro r w7 ⟨rfl, k⟩
  replace sa := sa.kept k (by simp)
  replace sb := sb.kept k (by simp)
  replace sc := sc.kept k (by simp)
  replace kk := kk.trans k
  clear a0 a1 b0 b1 k p4
  replace sa := sa.alloc (.cells #[.string t1, .string t2] 24 (0, 0))
  replace sb := sb.alloc (.cells #[.string t1, .string t2] 24 (0, 0))
  replace sc := sc.alloc (.cells #[.string t1, .string t2] 24 (0, 0))
  have sd := SpB.made w7 t1 t2
  replace kk := kk.alloc (.cells #[.string t1, .string t2] 24 (0, 0))
  have a0 := sa.c0; have a1 := sa.c1
  have b0 := sb.c0; have b1 := sb.c1
  have c0 := sc.c0; have c1 := sc.c1
  have d0 := sd.c0; have d1 := sd.c1
  go_wp2_with fail
  generalize hD : w7.heap.size = D at *
  with_reducible refine (p5.out _).mono ?_
  rintro r w8 ⟨rfl, k⟩
  replace sa := sa.kept k (by simp)
  replace sb := sb.kept k (by simp)
  replace sc := sc.kept k (by simp)
  replace sd := sd.kept k (by simp)
  replace kk := kk.trans k
  clear a0 a1 b0 b1 c0 c1 d0 d1 k p5
  go_wp2_with fail
  with_reducible refine (p6.out _).mono ?_
  rintro r w9 ⟨rfl, k⟩
  replace sa := sa.kept k (by simp)
  replace sb := sb.kept k (by simp)
  replace sd := sd.kept k (by simp)
  replace kk := kk.trans k
  clear sc k p6
  have d0 := sd.c0; have d1 := sd.c1
  go_wp2_with fail
  with_reducible refine (p7.out _).mono ?_
  rintro r w10 ⟨rfl, k⟩
  replace sa := sa.kept k (by simp)
  replace sb := sb.kept k (by simp)
  replace kk := kk.trans k
  clear d0 d1 sd k p7
  go_wp2_with fail
  with_reducible refine (p8.out _).mono ?_
  rintro r w11 ⟨rfl, k⟩
  replace sa := sa.kept k (by simp)
  replace sb := sb.kept k (by simp)
  replace kk := kk.trans k
  clear hC k p8
  have a0 := sa.c0; have a1 := sa.c1
  have b0 := sb.c0; have b1 := sb.c1
  go_wp2_with fail
  with_reducible refine (p9.out _).mono ?_
  rintro r w12 ⟨rfl, k⟩
  replace sa := sa.kept k (by simp)
  replace sb := sb.kept k (by simp)
  replace kk := kk.trans k
  clear a0 a1 b0 b1 k p9
  replace sa := sa.alloc (.cells #[.string c1, .string c2] 24 (0, 0))
  replace sb := sb.alloc (.cells #[.string c1, .string c2] 24 (0, 0))
  have se := SpB.made w12 c1 c2
  replace kk := kk.alloc (.cells #[.string c1, .string c2] 24 (0, 0))
  clear se
  have a0 := sa.c0; have a1 := sa.c1
  have b0 := sb.c0; have b1 := sb.c1
  go_wp2_with fail
  with_reducible refine (p10.out _).mono ?_
  rintro r w13 ⟨rfl, k⟩
  replace sa := sa.kept k (by simp)
  replace sb := sb.kept k (by simp)
  replace kk := kk.trans k
  clear a0 a1 b0 b1 k p10
  have a0 := sa.c0; have a1 := sa.c1
  have b0 := sb.c0; have b1 := sb.c1
  go_wp2_with fail
  with_reducible refine (p11.out _).mono ?_
  rintro r w14 ⟨rfl, k⟩
  replace sa := sa.kept k (by simp)
  replace sb := sb.kept k (by simp)
  replace kk := kk.trans k
  clear a0 a1 b0 b1 k p11
  have a0 := sa.c0; have a1 := sa.c1
  have b0 := sb.c0; have b1 := sb.c1
  go_wp2_with fail
  with_reducible refine (p12.out _).mono ?_
  rintro r w15 ⟨rfl, k⟩
  replace sa := sa.kept k (by simp)
  replace sb := sb.kept k (by simp)
  replace kk := kk.trans k
  clear a0 a1 b0 b1 k p12
  clear sa sb
  go_wp2_with fail
  with_reducible refine (qw.out _).mono ?_
  rintro r w9 ⟨rfl, k⟩
  replace kk := kk.trans k
  clear k qw
  go_wp2
  go_ret
  exact ⟨rfl, kk⟩
end Go.Proofs.YtabepobcmpmkdaaGreat

/- The law IntervalEnds, for any texts. -/
namespace Go.Proofs.YtabepobcmpmkdaaGreat
open Go.RowKit
open Go.Lib (nDigits itoa decDigits)

theorem cAdd {q r : Rat} {j k : Nat} (hq : Sm j q) (hr : Sm k r) (h : j + k < 1024) : Ca 44 #[.string (RS q), .string (RS r)] (.tuple #[.string (RS (q + r)), .int .i64 0]) := Lib.hid fun W => by
  obtain ⟨v1, v2⟩ := add_v hq hr h
  have := qAdd_any (RS q) (RS r) W (hq.ok (by omega)).size9 (hr.ok (by omega)).size9
  rwa [v1, v2] at this
theorem cMul {q r : Rat} {j k : Nat} (hq : Sm j q) (hr : Sm k r) (h : j + k ≤ 1024) : Ca 45 #[.string (RS q), .string (RS r)] (.tuple #[.string (RS (q * r)), .int .i64 0]) := Lib.hid fun W => by
  obtain ⟨v1, v2⟩ := mul_v hq hr h
  have := qMul_any (RS q) (RS r) W (hq.ok (by omega)).size9 (hr.ok (by omega)).size9
  rwa [v1, v2] at this
theorem le_mx1 (q r : Rat) : q ≤ mxR q r := by unfold mxR; split <;> grind
theorem le_mx2 (q r : Rat) : r ≤ mxR q r := by unfold mxR; split <;> grind
theorem mn_le1 (q r : Rat) : mnR q r ≤ q := by unfold mnR; split <;> grind
theorem mn_le2 (q r : Rat) : mnR q r ≤ r := by unfold mnR; split <;> grind
theorem mn_glb {q r x : Rat} (h1 : x ≤ q) (h2 : x ≤ r) : x ≤ mnR q r := by unfold mnR; split <;> assumption
theorem sh_mx {q r : Rat} (a : shB (RS q) = true) (b : shB (RS r) = true) : shB (RS (mxR q r)) = true := by unfold mxR; split <;> assumption
theorem sh_mn {q r : Rat} (a : shB (RS q) = true) (b : shB (RS r) = true) : shB (RS (mnR q r)) = true := by unfold mnR; split <;> assumption
theorem mul_up {q r x : Rat} (h : q ≤ r) (hx : ¬ x < 0) : q * x ≤ r * x := by
  have := Rat.mul_nonneg (show (0 : Rat) ≤ r - q by grind) (show (0 : Rat) ≤ x by grind)
  grind
theorem mul_dn {q r x : Rat} (h : q ≤ r) (hx : x < 0) : r * x ≤ q * x := by
  have := Rat.mul_nonneg (show (0 : Rat) ≤ r - q by grind) (show (0 : Rat) ≤ -x by grind)
  grind
theorem mid_sum (a b c d : Rat) : (a + c + (b + d)) / 2 = (a + b) / 2 + (c + d) / 2 := by grind
theorem mid_up (a b x : Rat) : (a * x + b * x) / 2 = (a + b) / 2 * x := by grind
theorem mid_dn (a b x : Rat) : (b * x + a * x) / 2 = (a + b) / 2 * x := by grind
/-- the middle of a multiple -/
theorem mid_times {q r x : Rat} (hq : Sm 30 q) (hr : Sm 30 r) (hx : Sm 30 x) (h : q ≤ r) :
    Ca 43 #[.agg #[.string (RS (if x < 0 then r * x else q * x)), .string (RS (if x < 0 then q * x else r * x))]] (.tuple #[.string (RS ((q + r) / 2 * x)), .int .i64 0]) := by
  by_cases hn : x < 0
  · rw [if_pos hn, if_pos hn, ← mid_dn]
    exact mid_v (hr.mul hx) (hq.mul hx) (by omega) (mul_dn h hn)
  · rw [if_neg hn, if_neg hn, ← mid_up]
    exact mid_v (hq.mul hx) (hr.mul hx) (by omega) (mul_up h hn)
theorem sm_mid {q r : Rat} (hq : Sm 30 q) (hr : Sm 30 r) : Sm 62 ((q + r) / 2) := (hq.add hr).div two_sm (by decide)
theorem ends3 (l1 h1 l2 h2 x : ByteArray) (s1 : l1.size ≤ 9223372036854775807) (s2 : h1.size ≤ 9223372036854775807) (s3 : l2.size ≤ 9223372036854775807) (s4 : h2.size ≤ 9223372036854775807) (s5 : x.size ≤ 9223372036854775807) (w : World) :
    Calls Tryz.prog 7 #[.agg #[.string l1, .string h1], .agg #[.string l2, .string h2], .string x] w fun r w' => r = .returned (.bool true) ∧ Kp [] w w' := by
  have qr := Lib.hid (ends_right l1 h1 l2 h2 s1 s2 s3 s4 w)
  have q2 := short_c s5
  cases hR : rgB [(l1, h1), (l2, h2)] with
  | false => rw [hR] at qr; exact ends_1 _ _ _ _ _ w qr
  | true =>
    rw [hR] at qr
    cases hX : shB x with
    | false => rw [hX] at q2; exact ends_2 _ _ _ _ _ q2 w qr
    | true =>
      rw [hX] at q2
      have q3 := r2check_c hX
      rcases sh_cases hX with he | ⟨x, rfl, hx⟩
      · exact ends_3 _ _ _ _ _ _ (by simpa using he) q2 q3 w qr
      · rw [(sp_RS (hx.ok (by omega))).2.2] at q3
        unfold rgB stB rtB at hR
        simp only [List.all_cons, List.all_nil, Bool.and_true, Bool.and_eq_true, decide_eq_true_eq] at hR
        obtain ⟨⟨_, ⟨a, b⟩, c, d⟩, ⟨⟨e, _⟩, _⟩, ⟨f, _⟩, _⟩ := hR
        rcases ic_cases a b with k | ⟨_, q1, r1, rfl, rfl, hq1, hr1, o1⟩
        · exact absurd e k
        · rcases ic_cases c d with k | ⟨_, q2', r2, rfl, rfl, hq2, hr2, o2⟩
          · exact absurd f k
          · have p1 := mid_v hq1 hr1 (by omega) o1
            have p2 := mid_v hq2 hr2 (by omega) o2
            have p3 := iAdd_v hq1 hr1 hq2 hr2 o1 o2 a b c d
            have p4 := scale_v hq1 hr1 hx (by omega) (by omega) o1 a b hX
            have p5 := mid_v (hq1.add hq2) (hr1.add hr2) (by omega) (by grind)
            have p6 := cAdd (sm_mid hq1 hr1) (sm_mid hq2 hr2) (by omega)
            rw [← mid_sum] at p6
            have p7 := mid_times hq1 hr1 hx o1
            have p8 := cMul (sm_mid hq1 hr1) hx (by omega)
            obtain ⟨m1, m2⟩ := meet_v hq1 hr1 hq2 hr2 a b c d e f
            have p10 := more_c hq1 hq2 (by omega)
            have hu := sm_mx hq1 hq2
            have hv := sm_mn hr1 hr2
            have p11 := contains_v hq1 hr1 hu (by omega) a b (sh_mx a c) e
            have p12 := contains_v hq2 hr2 hu (by omega) c d (sh_mx a c) f
            rw [decide_eq_true (le_mx1 q1 q2'), Bool.true_and] at p11
            rw [decide_eq_true (le_mx2 q1 q2'), Bool.true_and] at p12
            by_cases hlt : mnR r1 r2 < mxR q1 q2'
            · by_cases g1 : mxR q1 q2' ≤ r1
              · have g2 : ¬ mxR q1 q2' ≤ r2 := fun g2 => absurd hlt (Rat.not_lt.2 (mn_glb g1 g2))
                rw [decide_eq_true g1] at p11
                rw [decide_eq_false g2] at p12
                exact ends_5 _ _ _ _ _ _ _ _ _ _ _ _ _ _ _ _ q2 q3 p1 p2 p3 p4 p5 p6 p7 p8 (m1 hlt) p10 p11 p12 w qr
              · rw [decide_eq_false g1] at p11
                exact ends_6 _ _ _ _ _ _ _ _ _ _ _ _ _ _ _ _ _ q2 q3 p1 p2 p3 p4 p5 p6 p7 p8 (m1 hlt) p10 p11 p12 w qr
            · have hle := Rat.not_lt.1 hlt
              have g1 := Rat.le_trans hle (mn_le1 r1 r2)
              have g2 := Rat.le_trans hle (mn_le2 r1 r2)
              rw [decide_eq_true g1] at p11
              rw [decide_eq_true g2] at p12
              have z : icE (RS (mxR q1 q2')) (RS (mnR r1 r2)) = 0 := by rw [icE_v hu hv (by omega), if_neg hlt]
              have p13 := within_v hu hv hq1 hr1 (by omega) (sh_mx a c) (sh_mn b d) a b z e
              have p14 := within_v hu hv hq2 hr2 (by omega) (sh_mx a c) (sh_mn b d) c d z f
              rw [decide_eq_true (le_mx1 q1 q2'), decide_eq_true (mn_le1 r1 r2)] at p13
              rw [decide_eq_true (le_mx2 q1 q2'), decide_eq_true (mn_le2 r1 r2)] at p14
              exact ends_4 _ _ _ _ _ _ _ _ _ _ _ _ _ _ _ _ q2 q3 p1 p2 p3 p4 p5 p6 p7 p8 (m2 hlt) p10 p11 p12 p13 p14 w qr
end Go.Proofs.YtabepobcmpmkdaaGreat
