/- VectorNearer returns true for every input. -/
import Derived.Test.YtcgilcmhandgfaaGreatDoorM62
import Derived.Test.YtcgilcmhandgfaaGreatDoorM64
import Derived.Deep.RegionHeld3
namespace Go.Proofs.YtcgilcmhandgfaaGreatDoor
open Go.RowKit
open Go.Lib (nDigits itoa decDigits)

set_option maxRecDepth 100000 in
set_option maxHeartbeats 4000000 in
theorem nearer_far (px py ax ay bx yb : Int) (w : World)
    (hfar : (![(px, py), (ax, ay), (bx, yb)].any farP) = false)
    (aw : Hid (Gw w 13 #[] (.bool true))) :
    Calls Tryz.prog 11 #[.agg #[.int .i64 px, .int .i64 py], .agg #[.int .i64 ax, .int .i64 ay], .agg #[.int .i64 bx, .int .i64 yb]] w fun e w' => e = .returned (.bool true) ∧ Kp [] w w' := by
  unfold Gw at aw
  have sp := PtB.made w px py
  replace sp := sp.alloc (.cells #[.int .i64 ax, .int .i64 ay] 49 (0, 0))
  replace sp := sp.alloc (.cells #[.int .i64 bx, .int .i64 yb] 49 (0, 0))
  have sa := PtB.made (w.alloc (.cells #[.int .i64 px, .int .i64 py] 49 (0, 0))) ax ay
  replace sa := sa.alloc (.cells #[.int .i64 bx, .int .i64 yb] 49 (0, 0))
  have sb := PtB.made ((w.alloc (.cells #[.int .i64 px, .int .i64 py] 49 (0, 0))).alloc (.cells #[.int .i64 ax, .int .i64 ay] 49 (0, 0))) bx yb
  simp only [World.size_alloc] at *
  have kk : Kp [] w (((w.alloc (.cells #[.int .i64 px, .int .i64 py] 49 (0, 0))).alloc (.cells #[.int .i64 ax, .int .i64 ay] 49 (0, 0))).alloc (.cells #[.int .i64 bx, .int .i64 yb] 49 (0, 0))) := (((Kp.refl _ _).alloc _).alloc _).alloc _
  have xp0 := sp.c0
  have xp1 := sp.c1
  have xa0 := sa.c0
  have xa1 := sa.c1
  have xb0 := sb.c0
  have xb1 := sb.c1
  have hP : Pts ((((w.alloc (.cells #[.int .i64 px, .int .i64 py] 49 (0, 0))).alloc (.cells #[.int .i64 ax, .int .i64 ay] 49 (0, 0))).alloc (.cells #[.int .i64 bx, .int .i64 yb] 49 (0, 0))).alloc (.cells #[.int .i64 px, .int .i64 py, .int .i64 ax, .int .i64 ay, .int .i64 bx, .int .i64 yb] 49 (0, 0))) (((w.alloc (.cells #[.int .i64 px, .int .i64 py] 49 (0, 0))).alloc (.cells #[.int .i64 ax, .int .i64 ay] 49 (0, 0))).alloc (.cells #[.int .i64 bx, .int .i64 yb] 49 (0, 0))).heap.size 0 [(px, py), (ax, ay), (bx, yb)] := by
    have hN := heap_alloc_new (((w.alloc (.cells #[.int .i64 px, .int .i64 py] 49 (0, 0))).alloc (.cells #[.int .i64 ax, .int .i64 ay] 49 (0, 0))).alloc (.cells #[.int .i64 bx, .int .i64 yb] 49 (0, 0))) (.cells #[.int .i64 px, .int .i64 py, .int .i64 ax, .int .i64 ay, .int .i64 bx, .int .i64 yb] 49 (0, 0))
    intro i hi
    rcases i with _ | _ | _ | i
    · exact ⟨(new_cell hN _).trans rfl, (new_cell hN _).trans rfl⟩
    · exact ⟨(new_cell hN _).trans rfl, (new_cell hN _).trans rfl⟩
    · exact ⟨(new_cell hN _).trans rfl, (new_cell hN _).trans rfl⟩
    · exact absurd hi (by simp)
  have qn := Lib.hid (vnear (((w.alloc (.cells #[.int .i64 px, .int .i64 py] 49 (0, 0))).alloc (.cells #[.int .i64 ax, .int .i64 ay] 49 (0, 0))).alloc (.cells #[.int .i64 bx, .int .i64 yb] 49 (0, 0))).heap.size 0 3 (some ⟨(((w.alloc (.cells #[.int .i64 px, .int .i64 py] 49 (0, 0))).alloc (.cells #[.int .i64 ax, .int .i64 ay] 49 (0, 0))).alloc (.cells #[.int .i64 bx, .int .i64 yb] 49 (0, 0))).heap.size, 0, none⟩) [(px, py), (ax, ay), (bx, yb)] _ hP (fun _ => ⟨rfl, by simp⟩) (by simp))
  simp only [List.length_cons, List.length_nil, Nat.zero_add, Nat.reduceAdd, World.size_alloc] at qn
  rw [hfar] at qn
  clear hP
  replace sp := sp.alloc (.cells #[.int .i64 px, .int .i64 py, .int .i64 ax, .int .i64 ay, .int .i64 bx, .int .i64 yb] 49 (0, 0))
  replace sa := sa.alloc (.cells #[.int .i64 px, .int .i64 py, .int .i64 ax, .int .i64 ay, .int .i64 bx, .int .i64 yb] 49 (0, 0))
  replace sb := sb.alloc (.cells #[.int .i64 px, .int .i64 py, .int .i64 ax, .int .i64 ay, .int .i64 bx, .int .i64 yb] 49 (0, 0))
  clear xp0 xp1 xa0 xa1 xb0 xb1
  have xp0 := sp.c0
  have xp1 := sp.c1
  have xa0 := sa.c0
  have xa1 := sa.c1
  have xb0 := sb.c0
  have xb1 := sb.c1
  replace kk := kk.alloc (.cells #[.int .i64 px, .int .i64 py, .int .i64 ax, .int .i64 ay, .int .i64 bx, .int .i64 yb] 49 (0, 0))
  go_enter Tryz.func11, Tryz.ntmps11
  go_wp2_with (refine wpList_stepN rfl (op_bsP3 rfl rfl rfl rfl) (by simp only [Act.put, World.size_alloc, List.setIfInBounds_toArray, List.set_cons_succ, List.set_cons_zero]; rfl) ?_)
  with_reducible refine qn.out.mono ?_
  rintro e w1 ⟨rfl, k⟩
  replace sp := sp.kept k (by simp)
  replace sa := sa.kept k (by simp)
  replace sb := sb.kept k (by simp)
  clear xp0 xp1 xa0 xa1 xb0 xb1
  have xp0 := sp.c0
  have xp1 := sp.c1
  have xa0 := sa.c0
  have xa1 := sa.c1
  have xb0 := sb.c0
  have xb1 := sb.c1
  replace kk := kk.trans k
  clear k
  go_wp2_with fail
  with_reducible refine (aw.out _ kk).mono ?_
  rintro e w2 ⟨rfl, k⟩
  replace sp := sp.kept k (by simp)
  replace sa := sa.kept k (by simp)
  replace sb := sb.kept k (by simp)
  clear xp0 xp1 xa0 xa1 xb0 xb1
  have xp0 := sp.c0
  have xp1 := sp.c1
  have xa0 := sa.c0
  have xa1 := sa.c1
  have xb0 := sb.c0
  have xb1 := sb.c1
  replace kk := kk.trans k
  clear k
  clear sp sa sb xp0 xp1 xa0 xa1 xb0 xb1
  go_wp2
  go_ret
  exact ⟨rfl, kk⟩

set_option maxRecDepth 100000 in
set_option maxHeartbeats 4000000 in
theorem nearer_same (px py ax ay bx yb : Int) (w : World)
    (hfar : (![(px, py), (ax, ay), (bx, yb)].any farP) = true)
    (hab : (ax == bx && ay == yb) = true)
    (aw : Hid (Gw w 13 #[] (.bool true))) :
    Calls Tryz.prog 11 #[.agg #[.int .i64 px, .int .i64 py], .agg #[.int .i64 ax, .int .i64 ay], .agg #[.int .i64 bx, .int .i64 yb]] w fun e w' => e = .returned (.bool true) ∧ Kp [] w w' := by
  unfold Gw at aw
  have sp := PtB.made w px py
  replace sp := sp.alloc (.cells #[.int .i64 ax, .int .i64 ay] 49 (0, 0))
  replace sp := sp.alloc (.cells #[.int .i64 bx, .int .i64 yb] 49 (0, 0))
  have sa := PtB.made (w.alloc (.cells #[.int .i64 px, .int .i64 py] 49 (0, 0))) ax ay
  replace sa := sa.alloc (.cells #[.int .i64 bx, .int .i64 yb] 49 (0, 0))
  have sb := PtB.made ((w.alloc (.cells #[.int .i64 px, .int .i64 py] 49 (0, 0))).alloc (.cells #[.int .i64 ax, .int .i64 ay] 49 (0, 0))) bx yb
  simp only [World.size_alloc] at *
  have kk : Kp [] w (((w.alloc (.cells #[.int .i64 px, .int .i64 py] 49 (0, 0))).alloc (.cells #[.int .i64 ax, .int .i64 ay] 49 (0, 0))).alloc (.cells #[.int .i64 bx, .int .i64 yb] 49 (0, 0))) := (((Kp.refl _ _).alloc _).alloc _).alloc _
  have xp0 := sp.c0
  have xp1 := sp.c1
  have xa0 := sa.c0
  have xa1 := sa.c1
  have xb0 := sb.c0
  have xb1 := sb.c1
  have hP : Pts ((((w.alloc (.cells #[.int .i64 px, .int .i64 py] 49 (0, 0))).alloc (.cells #[.int .i64 ax, .int .i64 ay] 49 (0, 0))).alloc (.cells #[.int .i64 bx, .int .i64 yb] 49 (0, 0))).alloc (.cells #[.int .i64 px, .int .i64 py, .int .i64 ax, .int .i64 ay, .int .i64 bx, .int .i64 yb] 49 (0, 0))) (((w.alloc (.cells #[.int .i64 px, .int .i64 py] 49 (0, 0))).alloc (.cells #[.int .i64 ax, .int .i64 ay] 49 (0, 0))).alloc (.cells #[.int .i64 bx, .int .i64 yb] 49 (0, 0))).heap.size 0 [(px, py), (ax, ay), (bx, yb)] := by
    have hN := heap_alloc_new (((w.alloc (.cells #[.int .i64 px, .int .i64 py] 49 (0, 0))).alloc (.cells #[.int .i64 ax, .int .i64 ay] 49 (0, 0))).alloc (.cells #[.int .i64 bx, .int .i64 yb] 49 (0, 0))) (.cells #[.int .i64 px, .int .i64 py, .int .i64 ax, .int .i64 ay, .int .i64 bx, .int .i64 yb] 49 (0, 0))
    intro i hi
    rcases i with _ | _ | _ | i
    · exact ⟨(new_cell hN _).trans rfl, (new_cell hN _).trans rfl⟩
    · exact ⟨(new_cell hN _).trans rfl, (new_cell hN _).trans rfl⟩
    · exact ⟨(new_cell hN _).trans rfl, (new_cell hN _).trans rfl⟩
    · exact absurd hi (by simp)
  have qn := Lib.hid (vnear (((w.alloc (.cells #[.int .i64 px, .int .i64 py] 49 (0, 0))).alloc (.cells #[.int .i64 ax, .int .i64 ay] 49 (0, 0))).alloc (.cells #[.int .i64 bx, .int .i64 yb] 49 (0, 0))).heap.size 0 3 (some ⟨(((w.alloc (.cells #[.int .i64 px, .int .i64 py] 49 (0, 0))).alloc (.cells #[.int .i64 ax, .int .i64 ay] 49 (0, 0))).alloc (.cells #[.int .i64 bx, .int .i64 yb] 49 (0, 0))).heap.size, 0, none⟩) [(px, py), (ax, ay), (bx, yb)] _ hP (fun _ => ⟨rfl, by simp⟩) (by simp))
  simp only [List.length_cons, List.length_nil, Nat.zero_add, Nat.reduceAdd, World.size_alloc] at qn
  rw [hfar] at qn
  clear hP
  replace sp := sp.alloc (.cells #[.int .i64 px, .int .i64 py, .int .i64 ax, .int .i64 ay, .int .i64 bx, .int .i64 yb] 49 (0, 0))
  replace sa := sa.alloc (.cells #[.int .i64 px, .int .i64 py, .int .i64 ax, .int .i64 ay, .int .i64 bx, .int .i64 yb] 49 (0, 0))
  replace sb := sb.alloc (.cells #[.int .i64 px, .int .i64 py, .int .i64 ax, .int .i64 ay, .int .i64 bx, .int .i64 yb] 49 (0, 0))
  clear xp0 xp1 xa0 xa1 xb0 xb1
  have xp0 := sp.c0
  have xp1 := sp.c1
  have xa0 := sa.c0
  have xa1 := sa.c1
  have xb0 := sb.c0
  have xb1 := sb.c1
  replace kk := kk.alloc (.cells #[.int .i64 px, .int .i64 py, .int .i64 ax, .int .i64 ay, .int .i64 bx, .int .i64 yb] 49 (0, 0))
  have hA : ∀ W : World, (Op.equalIn 10000 49 (.agg #[.int .i64 ax, .int .i64 ay]) (.agg #[.int .i64 bx, .int .i64 yb])).run Tryz.prog W = .ok true W := fun W => by rw [eqP, hab]
  go_enter Tryz.func11, Tryz.ntmps11
  go_wp2_with (refine wpList_stepN rfl (op_bsP3 rfl rfl rfl rfl) (by simp only [Act.put, World.size_alloc, List.setIfInBounds_toArray, List.set_cons_succ, List.set_cons_zero]; rfl) ?_)
  with_reducible refine qn.out.mono ?_
  rintro e w1 ⟨rfl, k⟩
  replace sp := sp.kept k (by simp)
  replace sa := sa.kept k (by simp)
  replace sb := sb.kept k (by simp)
  clear xp0 xp1 xa0 xa1 xb0 xb1
  have xp0 := sp.c0
  have xp1 := sp.c1
  have xa0 := sa.c0
  have xa1 := sa.c1
  have xb0 := sb.c0
  have xb1 := sb.c1
  replace kk := kk.trans k
  clear k
  go_wp2_with fail
  with_reducible refine (aw.out _ kk).mono ?_
  rintro e w2 ⟨rfl, k⟩
  replace sp := sp.kept k (by simp)
  replace sa := sa.kept k (by simp)
  replace sb := sb.kept k (by simp)
  clear xp0 xp1 xa0 xa1 xb0 xb1
  have xp0 := sp.c0
  have xp1 := sp.c1
  have xa0 := sa.c0
  have xa1 := sa.c1
  have xb0 := sb.c0
  have xb1 := sb.c1
  replace kk := kk.trans k
  clear k
  clear sp sa sb xp0 xp1 xa0 xa1 xb0 xb1
  go_wp2
  go_ret
  exact ⟨rfl, kk⟩

set_option maxRecDepth 100000 in
set_option maxHeartbeats 4000000 in
theorem nearer_core (px py ax ay bx yb m n u v o f : Int) (x y z : ByteArray) (w : World)
    (hfar : (![(px, py), (ax, ay), (bx, yb)].any farP) = true)
    (hab : (ax == bx && ay == yb) = false)
    (e0 : IntKind.i64.wrap (bx - ax) = bx - ax)
    (e1 : IntKind.i64.wrap (yb - ay) = yb - ay)
    (e2 : IntKind.i64.wrap (px - ax) = px - ax)
    (e3 : IntKind.i64.wrap (py - ay) = py - ay)
    (e4 : IntKind.i64.wrap (ax - bx) = ax - bx)
    (e5 : IntKind.i64.wrap (ay - yb) = ay - yb)
    (e6 : IntKind.i64.wrap (px - bx) = px - bx)
    (e7 : IntKind.i64.wrap (py - yb) = py - yb)
    (ho : o ≤ 0) (hf : f ≤ 0) (hh : u < 0 ∨ v < 0 ∨ o = 0)
    (q1 : Hid (Gw w 44 #[.agg #[.int .i64 px, .int .i64 py], .agg #[.int .i64 ax, .int .i64 ay], .agg #[.int .i64 bx, .int .i64 yb]] (.tuple #[.string x, .int .i64 0])))
    (q2 : Hid (Gw w 46 #[.agg #[.int .i64 px, .int .i64 py], .agg #[.int .i64 ax, .int .i64 ay], .agg #[.int .i64 bx, .int .i64 yb]] (.tuple #[.string y, .int .i64 0])))
    (q3 : Hid (Gw w 34 #[.agg #[.int .i64 px, .int .i64 py], .agg #[.int .i64 ax, .int .i64 ay]] (.tuple #[.int .i64 m, .int .i64 0])))
    (q4 : Hid (Gw w 34 #[.agg #[.int .i64 px, .int .i64 py], .agg #[.int .i64 bx, .int .i64 yb]] (.tuple #[.int .i64 n, .int .i64 0])))
    (qa1 : Hid (Gw w 49 #[.int .i64 (bx - ax), .int .i64 (yb - ay)] (.agg #[.int .i64 (bx - ax), .int .i64 (yb - ay)])))
    (qa2 : Hid (Gw w 49 #[.int .i64 (px - ax), .int .i64 (py - ay)] (.agg #[.int .i64 (px - ax), .int .i64 (py - ay)])))
    (q5 : Hid (Gw w 28 #[.agg #[.int .i64 (bx - ax), .int .i64 (yb - ay)], .agg #[.int .i64 (px - ax), .int .i64 (py - ay)]] (.tuple #[.int .i64 u, .int .i64 0])))
    (qb1 : Hid (Gw w 49 #[.int .i64 (ax - bx), .int .i64 (ay - yb)] (.agg #[.int .i64 (ax - bx), .int .i64 (ay - yb)])))
    (qb2 : Hid (Gw w 49 #[.int .i64 (px - bx), .int .i64 (py - yb)] (.agg #[.int .i64 (px - bx), .int .i64 (py - yb)])))
    (q6 : Hid (Gw w 28 #[.agg #[.int .i64 (ax - bx), .int .i64 (ay - yb)], .agg #[.int .i64 (px - bx), .int .i64 (py - yb)]] (.tuple #[.int .i64 v, .int .i64 0])))
    (q7 : Hid (Gw w 52 #[.string x, .string y] (.tuple #[.int .i64 o, .int .i64 0])))
    (q8 : Hid (Gw w 53 #[.int .i64 (min m n)] (.string z)))
    (q9 : Hid (Gw w 52 #[.string y, .string z] (.tuple #[.int .i64 f, .int .i64 0])))
    (aw : Hid (Gw w 13 #[] (.bool true))) :
    Calls Tryz.prog 11 #[.agg #[.int .i64 px, .int .i64 py], .agg #[.int .i64 ax, .int .i64 ay], .agg #[.int .i64 bx, .int .i64 yb]] w fun e w' => e = .returned (.bool true) ∧ Kp [] w w' := by
  unfold Gw at q1 q2 q3 q4 qa1 qa2 q5 qb1 qb2 q6 q7 q8 q9 aw
  have sp := PtB.made w px py
  replace sp := sp.alloc (.cells #[.int .i64 ax, .int .i64 ay] 49 (0, 0))
  replace sp := sp.alloc (.cells #[.int .i64 bx, .int .i64 yb] 49 (0, 0))
  have sa := PtB.made (w.alloc (.cells #[.int .i64 px, .int .i64 py] 49 (0, 0))) ax ay
  replace sa := sa.alloc (.cells #[.int .i64 bx, .int .i64 yb] 49 (0, 0))
  have sb := PtB.made ((w.alloc (.cells #[.int .i64 px, .int .i64 py] 49 (0, 0))).alloc (.cells #[.int .i64 ax, .int .i64 ay] 49 (0, 0))) bx yb
  simp only [World.size_alloc] at *
  have kk : Kp [] w (((w.alloc (.cells #[.int .i64 px, .int .i64 py] 49 (0, 0))).alloc (.cells #[.int .i64 ax, .int .i64 ay] 49 (0, 0))).alloc (.cells #[.int .i64 bx, .int .i64 yb] 49 (0, 0))) := (((Kp.refl _ _).alloc _).alloc _).alloc _
  have xp0 := sp.c0
  have xp1 := sp.c1
  have xa0 := sa.c0
  have xa1 := sa.c1
  have xb0 := sb.c0
  have xb1 := sb.c1
  have hP : Pts ((((w.alloc (.cells #[.int .i64 px, .int .i64 py] 49 (0, 0))).alloc (.cells #[.int .i64 ax, .int .i64 ay] 49 (0, 0))).alloc (.cells #[.int .i64 bx, .int .i64 yb] 49 (0, 0))).alloc (.cells #[.int .i64 px, .int .i64 py, .int .i64 ax, .int .i64 ay, .int .i64 bx, .int .i64 yb] 49 (0, 0))) (((w.alloc (.cells #[.int .i64 px, .int .i64 py] 49 (0, 0))).alloc (.cells #[.int .i64 ax, .int .i64 ay] 49 (0, 0))).alloc (.cells #[.int .i64 bx, .int .i64 yb] 49 (0, 0))).heap.size 0 [(px, py), (ax, ay), (bx, yb)] := by
    have hN := heap_alloc_new (((w.alloc (.cells #[.int .i64 px, .int .i64 py] 49 (0, 0))).alloc (.cells #[.int .i64 ax, .int .i64 ay] 49 (0, 0))).alloc (.cells #[.int .i64 bx, .int .i64 yb] 49 (0, 0))) (.cells #[.int .i64 px, .int .i64 py, .int .i64 ax, .int .i64 ay, .int .i64 bx, .int .i64 yb] 49 (0, 0))
    intro i hi
    rcases i with _ | _ | _ | i
    · exact ⟨(new_cell hN _).trans rfl, (new_cell hN _).trans rfl⟩
    · exact ⟨(new_cell hN _).trans rfl, (new_cell hN _).trans rfl⟩
    · exact ⟨(new_cell hN _).trans rfl, (new_cell hN _).trans rfl⟩
    · exact absurd hi (by simp)
  have qn := Lib.hid (vnear (((w.alloc (.cells #[.int .i64 px, .int .i64 py] 49 (0, 0))).alloc (.cells #[.int .i64 ax, .int .i64 ay] 49 (0, 0))).alloc (.cells #[.int .i64 bx, .int .i64 yb] 49 (0, 0))).heap.size 0 3 (some ⟨(((w.alloc (.cells #[.int .i64 px, .int .i64 py] 49 (0, 0))).alloc (.cells #[.int .i64 ax, .int .i64 ay] 49 (0, 0))).alloc (.cells #[.int .i64 bx, .int .i64 yb] 49 (0, 0))).heap.size, 0, none⟩) [(px, py), (ax, ay), (bx, yb)] _ hP (fun _ => ⟨rfl, by simp⟩) (by simp))
  simp only [List.length_cons, List.length_nil, Nat.zero_add, Nat.reduceAdd, World.size_alloc] at qn
  rw [hfar] at qn
  clear hP
  replace sp := sp.alloc (.cells #[.int .i64 px, .int .i64 py, .int .i64 ax, .int .i64 ay, .int .i64 bx, .int .i64 yb] 49 (0, 0))
  replace sa := sa.alloc (.cells #[.int .i64 px, .int .i64 py, .int .i64 ax, .int .i64 ay, .int .i64 bx, .int .i64 yb] 49 (0, 0))
  replace sb := sb.alloc (.cells #[.int .i64 px, .int .i64 py, .int .i64 ax, .int .i64 ay, .int .i64 bx, .int .i64 yb] 49 (0, 0))
  clear xp0 xp1 xa0 xa1 xb0 xb1
  have xp0 := sp.c0
  have xp1 := sp.c1
  have xa0 := sa.c0
  have xa1 := sa.c1
  have xb0 := sb.c0
  have xb1 := sb.c1
  replace kk := kk.alloc (.cells #[.int .i64 px, .int .i64 py, .int .i64 ax, .int .i64 ay, .int .i64 bx, .int .i64 yb] 49 (0, 0))
  have hA : ∀ W : World, (Op.equalIn 10000 49 (.agg #[.int .i64 ax, .int .i64 ay]) (.agg #[.int .i64 bx, .int .i64 yb])).run Tryz.prog W = .ok false W := fun W => by rw [eqP, hab]
  go_enter Tryz.func11, Tryz.ntmps11
  go_wp2_with (refine wpList_stepN rfl (op_bsP3 rfl rfl rfl rfl) (by simp only [Act.put, World.size_alloc, List.setIfInBounds_toArray, List.set_cons_succ, List.set_cons_zero]; rfl) ?_)
  with_reducible refine qn.out.mono ?_
  rintro e w1 ⟨rfl, k⟩
  replace sp := sp.kept k (by simp)
  replace sa := sa.kept k (by simp)
  replace sb := sb.kept k (by simp)
  clear xp0 xp1 xa0 xa1 xb0 xb1
  have xp0 := sp.c0
  have xp1 := sp.c1
  have xa0 := sa.c0
  have xa1 := sa.c1
  have xb0 := sb.c0
  have xb1 := sb.c1
  replace kk := kk.trans k
  clear k
  go_wp2_with fail
  with_reducible refine (q1.out _ kk).mono ?_
  rintro e w2 ⟨rfl, k⟩
  replace sp := sp.kept k (by simp)
  replace sa := sa.kept k (by simp)
  replace sb := sb.kept k (by simp)
  clear xp0 xp1 xa0 xa1 xb0 xb1
  have xp0 := sp.c0
  have xp1 := sp.c1
  have xa0 := sa.c0
  have xa1 := sa.c1
  have xb0 := sb.c0
  have xb1 := sb.c1
  replace kk := kk.trans k
  clear k
  go_wp2_with fail
  with_reducible refine (q2.out _ kk).mono ?_
  rintro e w3 ⟨rfl, k⟩
  replace sp := sp.kept k (by simp)
  replace sa := sa.kept k (by simp)
  replace sb := sb.kept k (by simp)
  clear xp0 xp1 xa0 xa1 xb0 xb1
  have xp0 := sp.c0
  have xp1 := sp.c1
  have xa0 := sa.c0
  have xa1 := sa.c1
  have xb0 := sb.c0
  have xb1 := sb.c1
  replace kk := kk.trans k
  clear k
  go_wp2_with fail
  with_reducible refine (q3.out _ kk).mono ?_
  rintro e w4 ⟨rfl, k⟩
  replace sp := sp.kept k (by simp)
  replace sa := sa.kept k (by simp)
  replace sb := sb.kept k (by simp)
  clear xp0 xp1 xa0 xa1 xb0 xb1
  have xp0 := sp.c0
  have xp1 := sp.c1
  have xa0 := sa.c0
  have xa1 := sa.c1
  have xb0 := sb.c0
  have xb1 := sb.c1
  replace kk := kk.trans k
  clear k
  go_wp2_with fail
  with_reducible refine (q4.out _ kk).mono ?_
  rintro e w5 ⟨rfl, k⟩
  replace sp := sp.kept k (by simp)
  replace sa := sa.kept k (by simp)
  replace sb := sb.kept k (by simp)
  clear xp0 xp1 xa0 xa1 xb0 xb1
  have xp0 := sp.c0
  have xp1 := sp.c1
  have xa0 := sa.c0
  have xa1 := sa.c1
  have xb0 := sb.c0
  have xb1 := sb.c1
  replace kk := kk.trans k
  clear k
  have sp0 : PtB (World.drew w5) (w.heap.size) px py := sp
  have sa0 : PtB (World.drew w5) (w.heap.size + 1) ax ay := sa
  have sb0 : PtB (World.drew w5) (w.heap.size + 1 + 1) bx yb := sb
  have kk0 : Kp [] w (World.drew w5) := kk.drew
  go_wp2_with fail
  go_region_held3 (fun w' => w'.cell? ⟨w.heap.size, 0, none⟩ = some (.int .i64 px) ∧ w'.cell? ⟨w.heap.size, 1, none⟩ = some (.int .i64 py) ∧ w'.cell? ⟨w.heap.size + 1, 0, none⟩ = some (.int .i64 ax) ∧ w'.cell? ⟨w.heap.size + 1, 1, none⟩ = some (.int .i64 ay) ∧ w'.cell? ⟨w.heap.size + 1 + 1, 0, none⟩ = some (.int .i64 bx) ∧ w'.cell? ⟨w.heap.size + 1 + 1, 1, none⟩ = some (.int .i64 yb))
    (first
      | with_reducible exact ⟨sp3.c0, sp3.c1, sa3.c0, sa3.c1, sb3.c0, sb3.c1⟩
      | with_reducible exact ⟨sp2.c0, sp2.c1, sa2.c0, sa2.c1, sb2.c0, sb2.c1⟩
      | with_reducible exact ⟨sp1.c0, sp1.c1, sa1.c0, sa1.c1, sb1.c0, sb1.c1⟩
      | with_reducible exact ⟨sp0.c0, sp0.c1, sa0.c0, sa0.c1, sb0.c0, sb0.c1⟩
      | go_keep)
    (first
      | (go_at_call 49; with_reducible refine (qa1.out _ kk0).mono ?_; rintro x1 w71 ⟨rfl, k1⟩; have sp1 := PtB.kept sp0 k1 (by simp); have sa1 := PtB.kept sa0 k1 (by simp); have sb1 := PtB.kept sb0 k1 (by simp); have kk1 := Kp.trans kk0 k1)
      | (go_at_call 49; with_reducible refine (qa2.out _ kk1).mono ?_; rintro x2 w72 ⟨rfl, k2⟩; have sp2 := PtB.kept sp1 k2 (by simp); have sa2 := PtB.kept sa1 k2 (by simp); have sb2 := PtB.kept sb1 k2 (by simp); have kk2 := Kp.trans kk1 k2)
      | (go_at_call 28; with_reducible refine (q5.out _ kk2).mono ?_; rintro x3 w73 ⟨rfl, k3⟩; have sp3 := PtB.kept sp2 k3 (by simp); have sa3 := PtB.kept sa2 k3 (by simp); have sb3 := PtB.kept sb2 k3 (by simp); have kk3 := Kp.trans kk2 k3))
  clear xp0 xp1 xa0 xa1 xb0 xb1
  replace sp := sp3
  replace sa := sa3
  replace sb := sb3
  replace kk := kk3
  clear sp0 sa0 sb0 kk0 sp1 sa1 sb1 kk1 sp2 sa2 sb2 kk2 sp3 sa3 sb3 kk3 k1 k2 k3
  have xp0 := sp.c0
  have xp1 := sp.c1
  have xa0 := sa.c0
  have xa1 := sa.c1
  have xb0 := sb.c0
  have xb1 := sb.c1
  have sp0 : PtB (World.drew w73) (w.heap.size) px py := sp
  have sa0 : PtB (World.drew w73) (w.heap.size + 1) ax ay := sa
  have sb0 : PtB (World.drew w73) (w.heap.size + 1 + 1) bx yb := sb
  have kk0 : Kp [] w (World.drew w73) := kk.drew
  go_wp2_with fail
  go_region_held3 (fun w' => w'.cell? ⟨w.heap.size, 0, none⟩ = some (.int .i64 px) ∧ w'.cell? ⟨w.heap.size, 1, none⟩ = some (.int .i64 py) ∧ w'.cell? ⟨w.heap.size + 1, 0, none⟩ = some (.int .i64 ax) ∧ w'.cell? ⟨w.heap.size + 1, 1, none⟩ = some (.int .i64 ay) ∧ w'.cell? ⟨w.heap.size + 1 + 1, 0, none⟩ = some (.int .i64 bx) ∧ w'.cell? ⟨w.heap.size + 1 + 1, 1, none⟩ = some (.int .i64 yb))
    (first
      | with_reducible exact ⟨sp3.c0, sp3.c1, sa3.c0, sa3.c1, sb3.c0, sb3.c1⟩
      | with_reducible exact ⟨sp2.c0, sp2.c1, sa2.c0, sa2.c1, sb2.c0, sb2.c1⟩
      | with_reducible exact ⟨sp1.c0, sp1.c1, sa1.c0, sa1.c1, sb1.c0, sb1.c1⟩
      | with_reducible exact ⟨sp0.c0, sp0.c1, sa0.c0, sa0.c1, sb0.c0, sb0.c1⟩
      | go_keep)
    (first
      | (go_at_call 49; with_reducible refine (qb1.out _ kk0).mono ?_; rintro x1 w81 ⟨rfl, k1⟩; have sp1 := PtB.kept sp0 k1 (by simp); have sa1 := PtB.kept sa0 k1 (by simp); have sb1 := PtB.kept sb0 k1 (by simp); have kk1 := Kp.trans kk0 k1)
      | (go_at_call 49; with_reducible refine (qb2.out _ kk1).mono ?_; rintro x2 w82 ⟨rfl, k2⟩; have sp2 := PtB.kept sp1 k2 (by simp); have sa2 := PtB.kept sa1 k2 (by simp); have sb2 := PtB.kept sb1 k2 (by simp); have kk2 := Kp.trans kk1 k2)
      | (go_at_call 28; with_reducible refine (q6.out _ kk2).mono ?_; rintro x3 w83 ⟨rfl, k3⟩; have sp3 := PtB.kept sp2 k3 (by simp); have sa3 := PtB.kept sa2 k3 (by simp); have sb3 := PtB.kept sb2 k3 (by simp); have kk3 := Kp.trans kk2 k3))
  clear xp0 xp1 xa0 xa1 xb0 xb1
  replace sp := sp3
  replace sa := sa3
  replace sb := sb3
  replace kk := kk3
  clear sp0 sa0 sb0 kk0 sp1 sa1 sb1 kk1 sp2 sa2 sb2 kk2 sp3 sa3 sb3 kk3 k1 k2 k3
  have xp0 := sp.c0
  have xp1 := sp.c1
  have xa0 := sa.c0
  have xa1 := sa.c1
  have xb0 := sb.c0
  have xb1 := sb.c1
  clear xp0 xp1 xa0 xa1 xb0 xb1 sp sa sb
  go_wp2_with fail
  with_reducible refine (q7.out _ kk).mono ?_
  rintro e w6 ⟨rfl, k⟩
  replace kk := kk.trans k
  clear k
  go_wp2_with fail
  with_reducible refine (q8.out _ kk).mono ?_
  rintro e w7 ⟨rfl, k⟩
  replace kk := kk.trans k
  clear k
  go_wp2_with fail
  with_reducible refine (q9.out _ kk).mono ?_
  rintro e w8 ⟨rfl, k⟩
  replace kk := kk.trans k
  clear k
  by_cases hu : u < 0
  · go_wp2_with fail
    with_reducible refine (aw.out _ kk).mono ?_
    rintro e w99 ⟨rfl, k⟩
    replace kk := kk.trans k
    go_wp2
    go_ret
    exact ⟨rfl, kk⟩
  · skip
    by_cases hv : v < 0
    · go_wp2_with fail
      with_reducible refine (aw.out _ kk).mono ?_
      rintro e w99 ⟨rfl, k⟩
      replace kk := kk.trans k
      go_wp2
      go_ret
      exact ⟨rfl, kk⟩
    · skip
      have h0 : (o == 0) = true := by
        rcases hh with h | h | h
        · exact absurd h hu
        · exact absurd h hv
        · simp [h]
      go_wp2_with fail
      with_reducible refine (aw.out _ kk).mono ?_
      rintro e w99 ⟨rfl, k⟩
      replace kk := kk.trans k
      go_wp2
      go_ret
      exact ⟨rfl, kk⟩

theorem wrap64_eq {z : Int} (h1 : -9223372036854775808 ≤ z) (h2 : z ≤ 9223372036854775807) : IntKind.i64.wrap z = z := IntWalk.i64_in z ⟨h1, h2⟩
theorem near_le {z : Int} (h : -9000 ≤ z ∧ z ≤ 9000) : z.natAbs ≤ 100000 := by omega
theorem cmR_le {q r : Rat} (h : q ≤ r) : cmR q r ≤ 0 := by
  unfold cmR
  by_cases h1 : q < r
  · rw [if_pos h1]; decide
  · have : q = r := Rat.le_antisymm h (Rat.not_lt.1 h1)
    rw [if_neg h1, if_pos this]; decide
theorem cmR_self (q : Rat) : cmR q q = 0 := by unfold cmR; rw [if_neg (Rat.lt_irrefl), if_pos rfl]
theorem div_le_int {a b c : Int} (hb : 0 < b) (h : a ≤ c * b) : (a : Rat) / (b : Rat) ≤ (c : Rat) := by
  refine Rat.not_lt.1 fun e => ?_
  rw [Rat.lt_div_iff (by exact_mod_cast hb)] at e
  have e2 : c * b < a := by exact_mod_cast e
  omega
theorem div_eq_int {a b c : Int} (hb : b ≠ 0) (h : a = c * b) : (a : Rat) / (b : Rat) = (c : Rat) := by
  subst h
  rw [Rat.intCast_mul]
  exact Rat.mul_div_cancel (by exact_mod_cast hb)

/-- the numbers: cr the turn, L the square of the side, u and v the products, m and n the squares of the distances -/
theorem seg_math {cr L u v m n : Int} (hL : 0 < L) (h1 : cr * cr + u * u = L * m) (h2 : cr * cr + v * v = L * n) (h3 : u + v = L) :
    cr * cr ≤ m * L ∧ cr * cr ≤ n * L ∧ (u ≤ 0 → m ≤ n) ∧ (v ≤ 0 → n ≤ m) ∧ (u = 0 → cr * cr = m * L) ∧ (v = 0 → cr * cr = n * L) := by
  have s1 := sq_nn u
  have s2 := sq_nn v
  have hm : L * (m - n) = L * (u - v) := by
    have e : L * (m - n) = u * u - v * v := by grind
    have e2 : u * u - v * v = (u + v) * (u - v) := by grind
    rw [e, e2, h3]
  have hmn : m - n = u - v := Int.eq_of_mul_eq_mul_left (by omega) hm
  have c1 := Int.mul_comm m L
  have c2 := Int.mul_comm n L
  refine ⟨by omega, by omega, fun h => by omega, fun h => by omega, fun h => ?_, fun h => ?_⟩
  · rw [h] at h1; omega
  · rw [h] at h2; omega

theorem Nearer_any (px py ax ay bx yb : Int) (w : World) (hT : Tab w) : Calls Tryz.prog 11 #[.agg #[.int .i64 px, .int .i64 py], .agg #[.int .i64 ax, .int .i64 ay], .agg #[.int .i64 bx, .int .i64 yb]] w fun e w' => e = .returned (.bool true) ∧ Kp [] w w' := by
  have aw : Hid (Gw w 13 #[] (.bool true)) := fun W k => vawake W (tab_kp hT k)
  cases hfar : (![(px, py), (ax, ay), (bx, yb)].any farP) with
  | false => exact nearer_far px py ax ay bx yb w hfar aw
  | true =>
    cases hab : (ax == bx && ay == yb) with
    | true => exact nearer_same px py ax ay bx yb w hfar hab aw
    | false =>
      have h0 : sqs [bx - ax, yb - ay] ≠ 0 := by
        have e := eq_points ax ay bx yb
        rw [hab] at e
        exact of_decide_eq_false e.symm
      have hf : farP (px, py) = false ∧ farP (ax, ay) = false ∧ farP (bx, yb) = false := by simpa using hfar
      obtain ⟨hp1, hp2, hp3, hp4⟩ := farP_no hf.1
      obtain ⟨ha1, ha2, ha3, ha4⟩ := farP_no hf.2.1
      obtain ⟨hb1, hb2, hb3, hb4⟩ := farP_no hf.2.2
      have b1 := near_le ⟨hp1, hp2⟩
      have b2 := near_le ⟨hp3, hp4⟩
      have b3 := near_le ⟨ha1, ha2⟩
      have b4 := near_le ⟨ha3, ha4⟩
      have b5 := near_le ⟨hb1, hb2⟩
      have b6 := near_le ⟨hb3, hb4⟩
      have ipp : inP (px, py) = true := by unfold inP inB; simp; omega
      have ipa : inP (ax, ay) = true := by unfold inP inB; simp; omega
      have ipb : inP (bx, yb) = true := by unfold inP inB; simp; omega
      have hck : ckP [(px, py), (ax, ay), (bx, yb)] = 0 := by rw [ck3_eq]; simp [ipp, ipa, ipb]
      have hk1 : ckP [(px, py), (ax, ay)] = 0 := by rw [ck2_eq]; simp [ipp, ipa]
      have hk2 : ckP [(px, py), (bx, yb)] = 0 := by rw [ck2_eq]; simp [ipp, ipb]
      have i1 : inP (bx - ax, yb - ay) = true := by unfold inP inB; simp; omega
      have i2 : inP (px - ax, py - ay) = true := by unfold inP inB; simp; omega
      have i3 : inP (ax - bx, ay - yb) = true := by unfold inP inB; simp; omega
      have i4 : inP (px - bx, py - yb) = true := by unfold inP inB; simp; omega
      have hk3 : ckP [(bx - ax, yb - ay), (px - ax, py - ay)] = 0 := by rw [ck2_eq]; simp [i1, i2]
      have hk4 : ckP [(ax - bx, ay - yb), (px - bx, py - yb)] = 0 := by rw [ck2_eq]; simp [i3, i4]
      obtain ⟨L, hL⟩ : ∃ L, L = sqs [bx - ax, yb - ay] := ⟨_, rfl⟩
      obtain ⟨cr, hcr⟩ : ∃ c, c = crV px py ax ay bx yb := ⟨_, rfl⟩
      obtain ⟨u, hu⟩ : ∃ u, u = (bx - ax) * (px - ax) + (yb - ay) * (py - ay) := ⟨_, rfl⟩
      obtain ⟨v, hv⟩ : ∃ v, v = (ax - bx) * (px - bx) + (ay - yb) * (py - yb) := ⟨_, rfl⟩
      obtain ⟨m, hm⟩ : ∃ m, m = (px - ax) * (px - ax) + (py - ay) * (py - ay) := ⟨_, rfl⟩
      obtain ⟨n, hn⟩ : ∃ n, n = (px - bx) * (px - bx) + (py - yb) * (py - yb) := ⟨_, rfl⟩
      have m1 : cr * cr + u * u = L * m := by rw [hL, sqs2_eq, hcr, hu, hm]; unfold crV; grind
      have m2 : cr * cr + v * v = L * n := by rw [hL, sqs2_eq, hcr, hv, hn]; unfold crV; grind
      have m3 : u + v = L := by rw [hL, sqs2_eq, hu, hv]; grind
      have hLp : 0 < L := by
        have s1 := sq_nn (bx - ax)
        have s2 := sq_nn (yb - ay)
        rw [hL] at *
        rw [sqs2_eq] at *
        omega
      obtain ⟨r1, r2, r3, r4, r5, r6⟩ := seg_math hLp m1 m2 m3
      have bm : m.natAbs ≤ 1000000000000000000 := by rw [hm]; exact sq_bd b1 b3 b2 b4
      have bn : n.natAbs ≤ 1000000000000000000 := by rw [hn]; exact sq_bd b1 b5 b2 b6
      have bL : L.natAbs ≤ 1000000000000000000 := by rw [hL, sqs2_eq]; exact sq_bd b5 b3 b6 b4
      have bcr : cr.natAbs ≤ 1000000000000000000 := by rw [hcr]; exact vcr_le hck
      obtain ⟨X, hX⟩ : ∃ X : Rat, X = ((cr * cr : Int) : Rat) / ((L : Int) : Rat) := ⟨_, rfl⟩
      have sX : Sm 60 X := by
        rw [hX]
        have hb1 := mul_bd bcr bcr
        exact Sm.div (j := 40) (k := 20) (vsm_int (by omega) (by omega)) (vsm_int (by omega) (by omega)) (by rw [Rat.num_intCast]; omega)
      have q1 : Hid (Gw w 44 #[.agg #[.int .i64 px, .int .i64 py], .agg #[.int .i64 ax, .int .i64 ay], .agg #[.int .i64 bx, .int .i64 yb]] (.tuple #[.string (RS X), .int .i64 0])) := fun W k => by
        have q := toLine_c px py ax ay bx yb W hck h0 (tab_kp hT k)
        rw [← hcr, ← hL, ← hX] at q
        exact q
      obtain ⟨Y, hY⟩ : ∃ Y : Rat, Y = if u ≤ 0 then (m : Rat) else if v ≤ 0 then (n : Rat) else X := ⟨_, rfl⟩
      have sm : Sm 60 (m : Rat) := vsm_int (by omega) (by omega)
      have sn : Sm 60 (n : Rat) := vsm_int (by omega) (by omega)
      have sY : Sm 60 Y := by
        rw [hY]
        split
        · exact sm
        · split
          · exact sn
          · exact sX
      have hseg : sgT px py ax ay bx yb = RS Y := by
        unfold sgT
        rw [← hu, ← hv, ← hm, ← hn, ← hcr, ← hL, ← hX, hY]
        split
        · exact (vRS_int m).symm
        · split
          · exact (vRS_int n).symm
          · rfl
      have q2 : Hid (Gw w 46 #[.agg #[.int .i64 px, .int .i64 py], .agg #[.int .i64 ax, .int .i64 ay], .agg #[.int .i64 bx, .int .i64 yb]] (.tuple #[.string (RS Y), .int .i64 0])) := fun W k => by
        have q := toSegment_p px py ax ay bx yb W (tab_kp hT k)
        rw [hck, hseg] at q
        exact q
      have q3 : Hid (Gw w 34 #[.agg #[.int .i64 px, .int .i64 py], .agg #[.int .i64 ax, .int .i64 ay]] (.tuple #[.int .i64 m, .int .i64 0])) := gw_of fun W => by
        have q := square_p px py ax ay W
        rw [hk1, sq_swap ax px, sq_swap ay py, ← hm] at q
        exact q
      have q4 : Hid (Gw w 34 #[.agg #[.int .i64 px, .int .i64 py], .agg #[.int .i64 bx, .int .i64 yb]] (.tuple #[.int .i64 n, .int .i64 0])) := gw_of fun W => by
        have q := square_p px py bx yb W
        rw [hk2, sq_swap bx px, sq_swap yb py, ← hn] at q
        exact q
      have q5 : Hid (Gw w 28 #[.agg #[.int .i64 (bx - ax), .int .i64 (yb - ay)], .agg #[.int .i64 (px - ax), .int .i64 (py - ay)]] (.tuple #[.int .i64 u, .int .i64 0])) := gw_of fun W => by
        have q := dot_p (bx - ax) (yb - ay) (px - ax) (py - ay) W
        rw [hk3, ← hu] at q
        exact q
      have q6 : Hid (Gw w 28 #[.agg #[.int .i64 (ax - bx), .int .i64 (ay - yb)], .agg #[.int .i64 (px - bx), .int .i64 (py - yb)]] (.tuple #[.int .i64 v, .int .i64 0])) := gw_of fun W => by
        have q := dot_p (ax - bx) (ay - yb) (px - bx) (py - yb) W
        rw [hk4, ← hv] at q
        exact q
      have smin : Sm 60 ((min m n : Int) : Rat) := vsm_int (by omega) (by omega)
      have q9 : Hid (Gw w 52 #[.string (RS Y), .string (S (min m n))] (.tuple #[.int .i64 (cmR Y ((min m n : Int) : Rat)), .int .i64 0])) := gw_of fun W => by
        have q := cmp_c sY smin (by omega) W
        rwa [vRS_int] at q
      have hXm : X ≤ (m : Rat) := by rw [hX]; exact div_le_int hLp r1
      have hXn : X ≤ (n : Rat) := by rw [hX]; exact div_le_int hLp r2
      have hXY : X ≤ Y := by
        rw [hY]
        split
        · exact hXm
        · split
          · exact hXn
          · exact Rat.le_refl
      have hYn : Y ≤ ((min m n : Int) : Rat) := by
        rw [hY]
        split
        · rename_i h; rw [Int.min_eq_left (r3 h)]; exact Rat.le_refl
        · split
          · rename_i h; rw [Int.min_eq_right (r4 h)]; exact Rat.le_refl
          · rcases Int.le_total m n with h | h
            · rw [Int.min_eq_left h]; exact hXm
            · rw [Int.min_eq_right h]; exact hXn
      have hh : u < 0 ∨ v < 0 ∨ cmR X Y = 0 := by
        by_cases hu0 : u < 0
        · exact .inl hu0
        · by_cases hv0 : v < 0
          · exact .inr (.inl hv0)
          · refine .inr (.inr ?_)
            have e : X = Y := by
              rw [hY]
              split
              · rename_i h; rw [hX]; exact div_eq_int (by omega) (r5 (by omega))
              · split
                · rename_i h; rw [hX]; exact div_eq_int (by omega) (r6 (by omega))
                · rfl
            rw [e]; exact cmR_self Y
      exact nearer_core px py ax ay bx yb m n u v _ _ (RS X) (RS Y) (S (min m n)) w hfar hab (wrap64_eq (by omega) (by omega)) (wrap64_eq (by omega) (by omega)) (wrap64_eq (by omega) (by omega)) (wrap64_eq (by omega) (by omega)) (wrap64_eq (by omega) (by omega)) (wrap64_eq (by omega) (by omega)) (wrap64_eq (by omega) (by omega)) (wrap64_eq (by omega) (by omega)) (cmR_le hXY) (cmR_le hYn) hh q1 q2 q3 q4 (gw_of fun W => vat _ _ W) (gw_of fun W => vat _ _ W) q5 (gw_of fun W => vat _ _ W) (gw_of fun W => vat _ _ W) q6 (gw_of fun W => cmp_c sX sY (by omega) W) (gw_of fun W => rwhole_any (min m n) W ⟨by omega, by omega⟩) q9 aw

end Go.Proofs.YtcgilcmhandgfaaGreatDoor
