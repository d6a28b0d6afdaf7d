/- Texts Sp3, Sp4, Sp5: each says in its own first comment what it proves. -/
import Derived.Test.YtegamkilhgekjaaGreatDoorM56
import Derived.Deep.RegionHeld3
import Derived.Test.YtegamkilhgekjaaGreatDoorM57
/- Normal of package vector. -/
namespace Go.Proofs.YtegamkilhgekjaaGreatDoor
open Go.RowKit
open Go.Lib (nDigits itoa decDigits)

theorem SpB.far3 {T : TypeId} {w : World} {b b' : Nat} {x y z : Int} (h : SpB T w b x y z) (hb : b ≠ b') (u v t : Value) : SpB T (((w.setCell ⟨b', 0, none⟩ u).setCell ⟨b', 1, none⟩ v).setCell ⟨b', 2, none⟩ t) b x y z := by
  unfold SpB at *; simp [World.setCell, Array.getElem?_modify, hb.symm, h]

set_option maxRecDepth 100000 in
set_option maxHeartbeats 4000000 in
theorem vNormal_in (ba bb bc : Nat) (ax ay az bx yb bz cx cy cz ux uy uz vx vy vz nx ny nz : Int) (w : World) (ha : SpB 56 w ba ax ay az) (hb : SpB 56 w bb bx yb bz) (hc : SpB 56 w bc cx cy cz)
    (q1 : Hid (∀ W : World, Calls Tryz.prog 74 #[.agg #[.int .i64 ax, .int .i64 ay, .int .i64 az], .agg #[.int .i64 bx, .int .i64 yb, .int .i64 bz]] W fun e w' => e = .returned (.agg #[.int .i64 ux, .int .i64 uy, .int .i64 uz]) ∧ Kp [] W w'))
    (q2 : Hid (∀ W : World, Calls Tryz.prog 74 #[.agg #[.int .i64 ax, .int .i64 ay, .int .i64 az], .agg #[.int .i64 cx, .int .i64 cy, .int .i64 cz]] W fun e w' => e = .returned (.agg #[.int .i64 vx, .int .i64 vy, .int .i64 vz]) ∧ Kp [] W w'))
    (q3 : Hid (∀ W : World, Calls Tryz.prog 75 #[.agg #[.int .i64 ux, .int .i64 uy, .int .i64 uz], .agg #[.int .i64 vx, .int .i64 vy, .int .i64 vz]] W fun e w' => e = .returned (.agg #[.int .i64 nx, .int .i64 ny, .int .i64 nz]) ∧ Kp [] W w')) :
    Calls Tryz.prog 94 #[.pointer (some ⟨ba, 0, none⟩), .pointer (some ⟨bb, 0, none⟩), .pointer (some ⟨bc, 0, none⟩)] w fun e w' => e = .returned (.agg #[.int .i64 nx, .int .i64 ny, .int .i64 nz]) ∧ Kp [] w w' := by
  have sa0 : SpB 56 (World.drew (w.alloc (.cells #[.int .i64 0, .int .i64 0, .int .i64 0] 58 (0, 0)))) ba ax ay az := ha.alloc (.cells #[.int .i64 0, .int .i64 0, .int .i64 0] 58 (0, 0))
  have sb0 : SpB 56 (World.drew (w.alloc (.cells #[.int .i64 0, .int .i64 0, .int .i64 0] 58 (0, 0)))) bb bx yb bz := hb.alloc (.cells #[.int .i64 0, .int .i64 0, .int .i64 0] 58 (0, 0))
  have sc0 : SpB 56 (World.drew (w.alloc (.cells #[.int .i64 0, .int .i64 0, .int .i64 0] 58 (0, 0)))) bc cx cy cz := hc.alloc (.cells #[.int .i64 0, .int .i64 0, .int .i64 0] 58 (0, 0))
  have z0 : SpB 58 (World.drew (w.alloc (.cells #[.int .i64 0, .int .i64 0, .int .i64 0] 58 (0, 0)))) w.heap.size 0 0 0 := SpB.made _ w 0 0 0
  have kk0 : Kp [] w (World.drew (w.alloc (.cells #[.int .i64 0, .int .i64 0, .int .i64 0] 58 (0, 0)))) := ((Kp.refl _ _).alloc _).drew
  have xa0 := (ha.alloc (.cells #[.int .i64 0, .int .i64 0, .int .i64 0] 58 (0, 0))).c0
  have xa1 := (ha.alloc (.cells #[.int .i64 0, .int .i64 0, .int .i64 0] 58 (0, 0))).c1
  have xa2 := (ha.alloc (.cells #[.int .i64 0, .int .i64 0, .int .i64 0] 58 (0, 0))).c2
  have xb0 := (hb.alloc (.cells #[.int .i64 0, .int .i64 0, .int .i64 0] 58 (0, 0))).c0
  have xb1 := (hb.alloc (.cells #[.int .i64 0, .int .i64 0, .int .i64 0] 58 (0, 0))).c1
  have xb2 := (hb.alloc (.cells #[.int .i64 0, .int .i64 0, .int .i64 0] 58 (0, 0))).c2
  have xc0 := (hc.alloc (.cells #[.int .i64 0, .int .i64 0, .int .i64 0] 58 (0, 0))).c0
  have xc1 := (hc.alloc (.cells #[.int .i64 0, .int .i64 0, .int .i64 0] 58 (0, 0))).c1
  have xc2 := (hc.alloc (.cells #[.int .i64 0, .int .i64 0, .int .i64 0] 58 (0, 0))).c2
  have la := ha.lt
  have lb := hb.lt
  have lc := hc.lt
  clear ha hb hc
  go_enter Tryz.func94, Tryz.ntmps94
  go_wp2_with fail
  go_region_held3 (fun w' => w'.cell? ⟨ba, 0, none⟩ = some (.int .i64 ax) ∧ w'.cell? ⟨ba, 1, none⟩ = some (.int .i64 ay) ∧ w'.cell? ⟨ba, 2, none⟩ = some (.int .i64 az) ∧ w'.cell? ⟨bb, 0, none⟩ = some (.int .i64 bx) ∧ w'.cell? ⟨bb, 1, none⟩ = some (.int .i64 yb) ∧ w'.cell? ⟨bb, 2, none⟩ = some (.int .i64 bz) ∧ w'.cell? ⟨bc, 0, none⟩ = some (.int .i64 cx) ∧ w'.cell? ⟨bc, 1, none⟩ = some (.int .i64 cy) ∧ w'.cell? ⟨bc, 2, none⟩ = some (.int .i64 cz))
    (first
      | exact ⟨(SpB.far3 sa3 (Nat.ne_of_lt la) _ _ _).c0, (SpB.far3 sa3 (Nat.ne_of_lt la) _ _ _).c1, (SpB.far3 sa3 (Nat.ne_of_lt la) _ _ _).c2, (SpB.far3 sb3 (Nat.ne_of_lt lb) _ _ _).c0, (SpB.far3 sb3 (Nat.ne_of_lt lb) _ _ _).c1, (SpB.far3 sb3 (Nat.ne_of_lt lb) _ _ _).c2, (SpB.far3 sc3 (Nat.ne_of_lt lc) _ _ _).c0, (SpB.far3 sc3 (Nat.ne_of_lt lc) _ _ _).c1, (SpB.far3 sc3 (Nat.ne_of_lt lc) _ _ _).c2⟩
      | exact ⟨sa3.c0, sa3.c1, sa3.c2, sb3.c0, sb3.c1, sb3.c2, sc3.c0, sc3.c1, sc3.c2⟩
      | exact ⟨sa2.c0, sa2.c1, sa2.c2, sb2.c0, sb2.c1, sb2.c2, sc2.c0, sc2.c1, sc2.c2⟩
      | exact ⟨sa1.c0, sa1.c1, sa1.c2, sb1.c0, sb1.c1, sb1.c2, sc1.c0, sc1.c1, sc1.c2⟩
      | go_keep)
    (first
      | (go_at_call 74; with_reducible refine (q1.out _).mono ?_; rintro x w1 ⟨rfl, k1⟩; have sa1 := SpB.kept sa0 k1 (by simp); have sb1 := SpB.kept sb0 k1 (by simp); have sc1 := SpB.kept sc0 k1 (by simp); have z1 := SpB.kept z0 k1 (by simp); have kk1 := Kp.trans kk0 k1)
      | (go_at_call 74; with_reducible refine (q2.out _).mono ?_; rintro x w2 ⟨rfl, k2⟩; have sa2 := SpB.kept sa1 k2 (by simp); have sb2 := SpB.kept sb1 k2 (by simp); have sc2 := SpB.kept sc1 k2 (by simp); have z2 := SpB.kept z1 k2 (by simp); have kk2 := Kp.trans kk1 k2)
      | (go_at_call 75; with_reducible refine (q3.out _).mono ?_; rintro x w3 ⟨rfl, k3⟩; have sa3 := SpB.kept sa2 k3 (by simp); have sb3 := SpB.kept sb2 k3 (by simp); have sc3 := SpB.kept sc2 k3 (by simp); have z3 := SpB.kept z2 k3 (by simp); have kk3 := Kp.trans kk2 k3; have f0 := z3.f 0; have c0 := z3.c0; have f1 := z3.f 1; have c1 := z3.c1; have f2 := z3.f 2; have c2 := z3.c2))
  have s3 := z3.set3 nx ny nz
  have e0 := s3.c0
  have e1 := s3.c1
  have e2 := s3.c2
  have kk := kp_sp3 kk3 (b := w.heap.size) (Nat.le_refl _) (.int .i64 nx) (.int .i64 ny) (.int .i64 nz)
  go_wp2
  refine bodyPost_ret (v := .agg #[.int .i64 nx, .int .i64 ny, .int .i64 nz]) (by simp [results, Tryz.results94, go_sem, e0, e1, e2]) rfl ?_
  exact ⟨rfl, kk⟩

end Go.Proofs.YtegamkilhgekjaaGreatDoor

/- Normal of package vector. -/
namespace Go.Proofs.YtegamkilhgekjaaGreatDoor
open Go.RowKit
open Go.Lib (nDigits itoa decDigits)

set_option maxRecDepth 100000 in
set_option maxHeartbeats 4000000 in
theorem vNormal (ax ay az bx yb bz cx cy cz nx ny nz : Int) (w : World) (hck : ckS ([⟨ax, ay, az⟩, ⟨bx, yb, bz⟩, ⟨cx, cy, cz⟩] : List P3) = 0) (q : Hid (∀ (ba bb bc : Nat) (W : World), SpB 56 W ba ax ay az → SpB 56 W bb bx yb bz → SpB 56 W bc cx cy cz → Calls Tryz.prog 94 #[.pointer (some ⟨ba, 0, none⟩), .pointer (some ⟨bb, 0, none⟩), .pointer (some ⟨bc, 0, none⟩)] W fun e w' => e = .returned (.agg #[.int .i64 nx, .int .i64 ny, .int .i64 nz]) ∧ Kp [] W w')) :
    Calls Tryz.prog 36 #[.agg #[.int .i64 ax, .int .i64 ay, .int .i64 az], .agg #[.int .i64 bx, .int .i64 yb, .int .i64 bz], .agg #[.int .i64 cx, .int .i64 cy, .int .i64 cz]] w fun e w' => e = .returned (.tuple #[.agg #[.int .i64 nx, .int .i64 ny, .int .i64 nz], .int .i64 0]) ∧ Kp [] w w' := by
  have sa0 := SpB.made 56 w ax ay az
  have sa : SpB 56 ((((w.alloc (.cells #[.int .i64 ax, .int .i64 ay, .int .i64 az] 56 (0, 0))).alloc (.cells #[.int .i64 bx, .int .i64 yb, .int .i64 bz] 56 (0, 0))).alloc (.cells #[.int .i64 cx, .int .i64 cy, .int .i64 cz] 56 (0, 0))).alloc (.cells #[.int .i64 0, .int .i64 0, .int .i64 0] 58 (0, 0))) (w.heap.size) ax ay az := (((sa0).alloc (.cells #[.int .i64 bx, .int .i64 yb, .int .i64 bz] 56 (0, 0))).alloc (.cells #[.int .i64 cx, .int .i64 cy, .int .i64 cz] 56 (0, 0))).alloc (.cells #[.int .i64 0, .int .i64 0, .int .i64 0] 58 (0, 0))
  have sb0 := SpB.made 56 (w.alloc (.cells #[.int .i64 ax, .int .i64 ay, .int .i64 az] 56 (0, 0))) bx yb bz
  simp only [World.size_alloc] at sb0
  have sb : SpB 56 ((((w.alloc (.cells #[.int .i64 ax, .int .i64 ay, .int .i64 az] 56 (0, 0))).alloc (.cells #[.int .i64 bx, .int .i64 yb, .int .i64 bz] 56 (0, 0))).alloc (.cells #[.int .i64 cx, .int .i64 cy, .int .i64 cz] 56 (0, 0))).alloc (.cells #[.int .i64 0, .int .i64 0, .int .i64 0] 58 (0, 0))) (w.heap.size + 1) bx yb bz := ((sb0).alloc (.cells #[.int .i64 cx, .int .i64 cy, .int .i64 cz] 56 (0, 0))).alloc (.cells #[.int .i64 0, .int .i64 0, .int .i64 0] 58 (0, 0))
  have sc0 := SpB.made 56 ((w.alloc (.cells #[.int .i64 ax, .int .i64 ay, .int .i64 az] 56 (0, 0))).alloc (.cells #[.int .i64 bx, .int .i64 yb, .int .i64 bz] 56 (0, 0))) cx cy cz
  simp only [World.size_alloc] at sc0
  have sc : SpB 56 ((((w.alloc (.cells #[.int .i64 ax, .int .i64 ay, .int .i64 az] 56 (0, 0))).alloc (.cells #[.int .i64 bx, .int .i64 yb, .int .i64 bz] 56 (0, 0))).alloc (.cells #[.int .i64 cx, .int .i64 cy, .int .i64 cz] 56 (0, 0))).alloc (.cells #[.int .i64 0, .int .i64 0, .int .i64 0] 58 (0, 0))) (w.heap.size + 1 + 1) cx cy cz := (sc0).alloc (.cells #[.int .i64 0, .int .i64 0, .int .i64 0] 58 (0, 0))
  have z0 := SpB.made 58 (((w.alloc (.cells #[.int .i64 ax, .int .i64 ay, .int .i64 az] 56 (0, 0))).alloc (.cells #[.int .i64 bx, .int .i64 yb, .int .i64 bz] 56 (0, 0))).alloc (.cells #[.int .i64 cx, .int .i64 cy, .int .i64 cz] 56 (0, 0))) 0 0 0
  simp only [World.size_alloc] at z0
  have k0 : Kp [] w ((((w.alloc (.cells #[.int .i64 ax, .int .i64 ay, .int .i64 az] 56 (0, 0))).alloc (.cells #[.int .i64 bx, .int .i64 yb, .int .i64 bz] 56 (0, 0))).alloc (.cells #[.int .i64 cx, .int .i64 cy, .int .i64 cz] 56 (0, 0))).alloc (.cells #[.int .i64 0, .int .i64 0, .int .i64 0] 58 (0, 0))) := ((((Kp.refl _ _).alloc _).alloc _).alloc _).alloc _
  have xa0 := sa.c0
  have xa1 := sa.c1
  have xa2 := sa.c2
  have xb0 := sb.c0
  have xb1 := sb.c1
  have xb2 := sb.c2
  have xc0 := sc.c0
  have xc1 := sc.c1
  have xc2 := sc.c2
  have hP : Sps (((((w.alloc (.cells #[.int .i64 ax, .int .i64 ay, .int .i64 az] 56 (0, 0))).alloc (.cells #[.int .i64 bx, .int .i64 yb, .int .i64 bz] 56 (0, 0))).alloc (.cells #[.int .i64 cx, .int .i64 cy, .int .i64 cz] 56 (0, 0))).alloc (.cells #[.int .i64 0, .int .i64 0, .int .i64 0] 58 (0, 0))).alloc (.cells #[.int .i64 ax, .int .i64 ay, .int .i64 az, .int .i64 bx, .int .i64 yb, .int .i64 bz, .int .i64 cx, .int .i64 cy, .int .i64 cz] 56 (0, 0))) ((((w.alloc (.cells #[.int .i64 ax, .int .i64 ay, .int .i64 az] 56 (0, 0))).alloc (.cells #[.int .i64 bx, .int .i64 yb, .int .i64 bz] 56 (0, 0))).alloc (.cells #[.int .i64 cx, .int .i64 cy, .int .i64 cz] 56 (0, 0))).alloc (.cells #[.int .i64 0, .int .i64 0, .int .i64 0] 58 (0, 0))).heap.size 0 ([⟨ax, ay, az⟩, ⟨bx, yb, bz⟩, ⟨cx, cy, cz⟩] : List P3) := by
    have hN := heap_alloc_new ((((w.alloc (.cells #[.int .i64 ax, .int .i64 ay, .int .i64 az] 56 (0, 0))).alloc (.cells #[.int .i64 bx, .int .i64 yb, .int .i64 bz] 56 (0, 0))).alloc (.cells #[.int .i64 cx, .int .i64 cy, .int .i64 cz] 56 (0, 0))).alloc (.cells #[.int .i64 0, .int .i64 0, .int .i64 0] 58 (0, 0))) (.cells #[.int .i64 ax, .int .i64 ay, .int .i64 az, .int .i64 bx, .int .i64 yb, .int .i64 bz, .int .i64 cx, .int .i64 cy, .int .i64 cz] 56 (0, 0))
    intro i hi
    rcases i with _ | _ | _ | i
    · exact ⟨(new_cell hN _).trans rfl, (new_cell hN _).trans rfl, (new_cell hN _).trans rfl⟩
    · exact ⟨(new_cell hN _).trans rfl, (new_cell hN _).trans rfl, (new_cell hN _).trans rfl⟩
    · exact ⟨(new_cell hN _).trans rfl, (new_cell hN _).trans rfl, (new_cell hN _).trans rfl⟩
    · exact absurd hi (by simp)
  have qc := Lib.hid (vCheckSpots ((((w.alloc (.cells #[.int .i64 ax, .int .i64 ay, .int .i64 az] 56 (0, 0))).alloc (.cells #[.int .i64 bx, .int .i64 yb, .int .i64 bz] 56 (0, 0))).alloc (.cells #[.int .i64 cx, .int .i64 cy, .int .i64 cz] 56 (0, 0))).alloc (.cells #[.int .i64 0, .int .i64 0, .int .i64 0] 58 (0, 0))).heap.size 0 3 (some ⟨((((w.alloc (.cells #[.int .i64 ax, .int .i64 ay, .int .i64 az] 56 (0, 0))).alloc (.cells #[.int .i64 bx, .int .i64 yb, .int .i64 bz] 56 (0, 0))).alloc (.cells #[.int .i64 cx, .int .i64 cy, .int .i64 cz] 56 (0, 0))).alloc (.cells #[.int .i64 0, .int .i64 0, .int .i64 0] 58 (0, 0))).heap.size, 0, none⟩) ([⟨ax, ay, az⟩, ⟨bx, yb, bz⟩, ⟨cx, cy, cz⟩] : List P3) _ hP (fun _ => ⟨rfl, by simp⟩) (by simp))
  simp only [List.length_cons, List.length_nil, Nat.zero_add, Nat.reduceAdd, World.size_alloc] at qc
  replace sa := sa.alloc (.cells #[.int .i64 ax, .int .i64 ay, .int .i64 az, .int .i64 bx, .int .i64 yb, .int .i64 bz, .int .i64 cx, .int .i64 cy, .int .i64 cz] 56 (0, 0))
  replace sb := sb.alloc (.cells #[.int .i64 ax, .int .i64 ay, .int .i64 az, .int .i64 bx, .int .i64 yb, .int .i64 bz, .int .i64 cx, .int .i64 cy, .int .i64 cz] 56 (0, 0))
  replace sc := sc.alloc (.cells #[.int .i64 ax, .int .i64 ay, .int .i64 az, .int .i64 bx, .int .i64 yb, .int .i64 bz, .int .i64 cx, .int .i64 cy, .int .i64 cz] 56 (0, 0))
  replace z0 := z0.alloc (.cells #[.int .i64 ax, .int .i64 ay, .int .i64 az, .int .i64 bx, .int .i64 yb, .int .i64 bz, .int .i64 cx, .int .i64 cy, .int .i64 cz] 56 (0, 0))
  have k1 := k0.alloc (.cells #[.int .i64 ax, .int .i64 ay, .int .i64 az, .int .i64 bx, .int .i64 yb, .int .i64 bz, .int .i64 cx, .int .i64 cy, .int .i64 cz] 56 (0, 0))
  clear k0 hP sa0 sb0 sc0
  rw [hck] at qc
  go_enter Tryz.func36, Tryz.ntmps36
  go_wp2_with (refine wpList_stepN rfl (op_bsS3 rfl rfl rfl rfl) (by simp only [Act.put, World.size_alloc, List.setIfInBounds_toArray, List.set_cons_succ, List.set_cons_zero]; rfl) ?_)
  with_reducible refine qc.out.mono ?_
  rintro e w1 ⟨rfl, k⟩
  replace sa := sa.kept k (by simp)
  replace sb := sb.kept k (by simp)
  replace sc := sc.kept k (by simp)
  replace z0 := z0.kept k (by simp)
  have kk := k1.trans k
  clear k qc k1 xa0 xa1 xa2 xb0 xb1 xb2 xc0 xc1 xc2
  have qr := Lib.hid (vresult3_0 94 #[.pointer (some ⟨w.heap.size, 0, none⟩), .pointer (some ⟨w.heap.size + 1, 0, none⟩), .pointer (some ⟨w.heap.size + 1 + 1, 0, none⟩)] nx ny nz w1 (enters_of Tryz.func94 (by kernel_rfl) rfl) (fun W kW => q.out _ _ _ W (sa.kept kW (by simp)) (sb.kept kW (by simp)) (sc.kept kW (by simp))))
  clear q
  go_wp2_with fail
  with_reducible refine qr.out.mono ?_
  rintro e w2 ⟨rfl, k⟩
  clear qr
  have z2 := z0.kept k (by simp)
  replace kk := kk.trans k
  have c0 := z2.c0
  have f0 := z2.f 0
  have c1 := z2.c1
  have f1 := z2.f 1
  have c2 := z2.c2
  have f2 := z2.f 2
  have z3 := z2.set3 nx ny nz
  have e0 := z3.c0
  have e1 := z3.c1
  have e2 := z3.c2
  replace kk := kp_sp3 kk (b := w.heap.size + 1 + 1 + 1) (by omega) (.int .i64 nx) (.int .i64 ny) (.int .i64 nz)
  clear z0 z2 z3 k sa sb sc
  go_wp2
  refine bodyPost_ret (v := .tuple #[.agg #[.int .i64 nx, .int .i64 ny, .int .i64 nz], .int .i64 0]) (by simp [results, Tryz.results36, go_sem, e0, e1, e2]) rfl ?_
  exact ⟨rfl, kk⟩

end Go.Proofs.YtegamkilhgekjaaGreatDoor

/- ToPlane of package vector. -/
namespace Go.Proofs.YtegamkilhgekjaaGreatDoor
open Go.RowKit
open Go.Lib (nDigits itoa decDigits)

theorem op_slA {a : Act} {w : World} {o : Oper} {x : Operand} {g : Nat} (h : o.op = .slice 58 x none none none) (hx : a.eval x = .pointer (some ⟨g, 0, none⟩)) :
    (execOp a.eval o).run Tryz.prog w = .ok (.value (.slice (some ⟨g, 0, none⟩) 3 3)) w := by
  generalize a.eval = r at *
  simp [execOp, h, hx, go_sem]

set_option maxRecDepth 100000 in
set_option maxHeartbeats 4000000 in
theorem vToPlane_0 (px py pz ax ay az bx yb bz cx cy cz v ux uy uz vx vy vz nx ny nz : Int) (F : Int) (R : ByteArray) (w : World) (qv : Hid (∀ W : World, Calls Tryz.prog 38 #[.agg #[.int .i64 ax, .int .i64 ay, .int .i64 az], .agg #[.int .i64 bx, .int .i64 yb, .int .i64 bz], .agg #[.int .i64 cx, .int .i64 cy, .int .i64 cz], .agg #[.int .i64 px, .int .i64 py, .int .i64 pz]] W fun e w' => e = .returned (.tuple #[.int .i64 v, .int .i64 0]) ∧ Kp [] W w'))
    (q1 : Hid (∀ W : World, Calls Tryz.prog 74 #[.agg #[.int .i64 ax, .int .i64 ay, .int .i64 az], .agg #[.int .i64 bx, .int .i64 yb, .int .i64 bz]] W fun e w' => e = .returned (.agg #[.int .i64 ux, .int .i64 uy, .int .i64 uz]) ∧ Kp [] W w'))
    (q2 : Hid (∀ W : World, Calls Tryz.prog 74 #[.agg #[.int .i64 ax, .int .i64 ay, .int .i64 az], .agg #[.int .i64 cx, .int .i64 cy, .int .i64 cz]] W fun e w' => e = .returned (.agg #[.int .i64 vx, .int .i64 vy, .int .i64 vz]) ∧ Kp [] W w'))
    (q3 : Hid (∀ W : World, Calls Tryz.prog 75 #[.agg #[.int .i64 ux, .int .i64 uy, .int .i64 uz], .agg #[.int .i64 vx, .int .i64 vy, .int .i64 vz]] W fun e w' => e = .returned (.agg #[.int .i64 nx, .int .i64 ny, .int .i64 nz]) ∧ Kp [] W w'))
    (qd : Hid (∀ (W : World) (gl : Nat), Kp [] w W → W.heap[gl]? = some (.cells #[.int .i64 nx, .int .i64 ny, .int .i64 nz] 58 (0, 0)) → Calls Tryz.prog 100 #[.int .i64 v, .slice (some ⟨gl, 0, none⟩) 3 3] W fun e w' => e = .returned (.tuple #[.string R, .int .i64 F]) ∧ Kp [] W w')) :
    Calls Tryz.prog 42 #[.agg #[.int .i64 px, .int .i64 py, .int .i64 pz], .agg #[.int .i64 ax, .int .i64 ay, .int .i64 az], .agg #[.int .i64 bx, .int .i64 yb, .int .i64 bz], .agg #[.int .i64 cx, .int .i64 cy, .int .i64 cz]] w fun e w' => e = .returned (.tuple #[.string R, .int .i64 F]) ∧ Kp [] w w' := by
  have sp0 := SpB.made 56 w px py pz
  have sp : SpB 56 ((((w.alloc (.cells #[.int .i64 px, .int .i64 py, .int .i64 pz] 56 (0, 0))).alloc (.cells #[.int .i64 ax, .int .i64 ay, .int .i64 az] 56 (0, 0))).alloc (.cells #[.int .i64 bx, .int .i64 yb, .int .i64 bz] 56 (0, 0))).alloc (.cells #[.int .i64 cx, .int .i64 cy, .int .i64 cz] 56 (0, 0))) (w.heap.size) px py pz := (((sp0).alloc (.cells #[.int .i64 ax, .int .i64 ay, .int .i64 az] 56 (0, 0))).alloc (.cells #[.int .i64 bx, .int .i64 yb, .int .i64 bz] 56 (0, 0))).alloc (.cells #[.int .i64 cx, .int .i64 cy, .int .i64 cz] 56 (0, 0))
  have sa0 := SpB.made 56 (w.alloc (.cells #[.int .i64 px, .int .i64 py, .int .i64 pz] 56 (0, 0))) ax ay az
  simp only [World.size_alloc] at sa0
  have sa : SpB 56 ((((w.alloc (.cells #[.int .i64 px, .int .i64 py, .int .i64 pz] 56 (0, 0))).alloc (.cells #[.int .i64 ax, .int .i64 ay, .int .i64 az] 56 (0, 0))).alloc (.cells #[.int .i64 bx, .int .i64 yb, .int .i64 bz] 56 (0, 0))).alloc (.cells #[.int .i64 cx, .int .i64 cy, .int .i64 cz] 56 (0, 0))) (w.heap.size + 1) ax ay az := ((sa0).alloc (.cells #[.int .i64 bx, .int .i64 yb, .int .i64 bz] 56 (0, 0))).alloc (.cells #[.int .i64 cx, .int .i64 cy, .int .i64 cz] 56 (0, 0))
  have sb0 := SpB.made 56 ((w.alloc (.cells #[.int .i64 px, .int .i64 py, .int .i64 pz] 56 (0, 0))).alloc (.cells #[.int .i64 ax, .int .i64 ay, .int .i64 az] 56 (0, 0))) bx yb bz
  simp only [World.size_alloc] at sb0
  have sb : SpB 56 ((((w.alloc (.cells #[.int .i64 px, .int .i64 py, .int .i64 pz] 56 (0, 0))).alloc (.cells #[.int .i64 ax, .int .i64 ay, .int .i64 az] 56 (0, 0))).alloc (.cells #[.int .i64 bx, .int .i64 yb, .int .i64 bz] 56 (0, 0))).alloc (.cells #[.int .i64 cx, .int .i64 cy, .int .i64 cz] 56 (0, 0))) (w.heap.size + 1 + 1) bx yb bz := (sb0).alloc (.cells #[.int .i64 cx, .int .i64 cy, .int .i64 cz] 56 (0, 0))
  have sc0 := SpB.made 56 (((w.alloc (.cells #[.int .i64 px, .int .i64 py, .int .i64 pz] 56 (0, 0))).alloc (.cells #[.int .i64 ax, .int .i64 ay, .int .i64 az] 56 (0, 0))).alloc (.cells #[.int .i64 bx, .int .i64 yb, .int .i64 bz] 56 (0, 0))) cx cy cz
  simp only [World.size_alloc] at sc0
  have sc : SpB 56 ((((w.alloc (.cells #[.int .i64 px, .int .i64 py, .int .i64 pz] 56 (0, 0))).alloc (.cells #[.int .i64 ax, .int .i64 ay, .int .i64 az] 56 (0, 0))).alloc (.cells #[.int .i64 bx, .int .i64 yb, .int .i64 bz] 56 (0, 0))).alloc (.cells #[.int .i64 cx, .int .i64 cy, .int .i64 cz] 56 (0, 0))) (w.heap.size + 1 + 1 + 1) cx cy cz := sc0
  have kk : Kp [] w ((((w.alloc (.cells #[.int .i64 px, .int .i64 py, .int .i64 pz] 56 (0, 0))).alloc (.cells #[.int .i64 ax, .int .i64 ay, .int .i64 az] 56 (0, 0))).alloc (.cells #[.int .i64 bx, .int .i64 yb, .int .i64 bz] 56 (0, 0))).alloc (.cells #[.int .i64 cx, .int .i64 cy, .int .i64 cz] 56 (0, 0))) := ((((Kp.refl _ _).alloc _).alloc _).alloc _).alloc _
  have xp0 := sp.c0
  have xp1 := sp.c1
  have xp2 := sp.c2
  have xa0 := sa.c0
  have xa1 := sa.c1
  have xa2 := sa.c2
  have xb0 := sb.c0
  have xb1 := sb.c1
  have xb2 := sb.c2
  have xc0 := sc.c0
  have xc1 := sc.c1
  have xc2 := sc.c2
  clear sp0 sa0 sb0 sc0
  go_enter Tryz.func42, Tryz.ntmps42
  go_wp2_with fail
  with_reducible refine (qv.out _).mono ?_
  rintro e w0 ⟨rfl, k⟩
  replace sp := sp.kept k (by simp)
  replace sa := sa.kept k (by simp)
  replace sb := sb.kept k (by simp)
  replace sc := sc.kept k (by simp)
  replace kk := kk.trans k
  clear k xp0 xp1 xp2 xa0 xa1 xa2 xb0 xb1 xb2 xc0 xc1 xc2
  have xa0 := sa.c0
  have xa1 := sa.c1
  have xa2 := sa.c2
  have sa0 : SpB 56 w0.drew (w.heap.size + 1) ax ay az := sa
  have xb0 := sb.c0
  have xb1 := sb.c1
  have xb2 := sb.c2
  have sb0 : SpB 56 w0.drew (w.heap.size + 1 + 1) bx yb bz := sb
  have xc0 := sc.c0
  have xc1 := sc.c1
  have xc2 := sc.c2
  have sc0 : SpB 56 w0.drew (w.heap.size + 1 + 1 + 1) cx cy cz := sc
  have kk0 : Kp [] w w0.drew := kk.drew
  have kk9 : Kp [] w (World.drew (w0.alloc (.cells #[.int .i64 0, .int .i64 0, .int .i64 0] 58 (0, 0)))) := (kk.alloc _).drew
  have sa9 : SpB 56 (World.drew (w0.alloc (.cells #[.int .i64 0, .int .i64 0, .int .i64 0] 58 (0, 0)))) (w.heap.size + 1) ax ay az := sa.alloc (.cells #[.int .i64 0, .int .i64 0, .int .i64 0] 58 (0, 0))
  have sb9 : SpB 56 (World.drew (w0.alloc (.cells #[.int .i64 0, .int .i64 0, .int .i64 0] 58 (0, 0)))) (w.heap.size + 1 + 1) bx yb bz := sb.alloc (.cells #[.int .i64 0, .int .i64 0, .int .i64 0] 58 (0, 0))
  have sc9 : SpB 56 (World.drew (w0.alloc (.cells #[.int .i64 0, .int .i64 0, .int .i64 0] 58 (0, 0)))) (w.heap.size + 1 + 1 + 1) cx cy cz := sc.alloc (.cells #[.int .i64 0, .int .i64 0, .int .i64 0] 58 (0, 0))
  have z9 : SpB 58 (World.drew (w0.alloc (.cells #[.int .i64 0, .int .i64 0, .int .i64 0] 58 (0, 0)))) w0.heap.size 0 0 0 := SpB.made _ w0 0 0 0
  have l0a := sa.lt
  have l0b := sb.lt
  have l0c := sc.lt
  clear sp
  go_wp2_with fail
  go_region_held3 (fun w' => w'.cell? ⟨w.heap.size + 1, 0, none⟩ = some (.int .i64 ax) ∧ w'.cell? ⟨w.heap.size + 1, 1, none⟩ = some (.int .i64 ay) ∧ w'.cell? ⟨w.heap.size + 1, 2, none⟩ = some (.int .i64 az) ∧ w'.cell? ⟨w.heap.size + 1 + 1, 0, none⟩ = some (.int .i64 bx) ∧ w'.cell? ⟨w.heap.size + 1 + 1, 1, none⟩ = some (.int .i64 yb) ∧ w'.cell? ⟨w.heap.size + 1 + 1, 2, none⟩ = some (.int .i64 bz) ∧ w'.cell? ⟨w.heap.size + 1 + 1 + 1, 0, none⟩ = some (.int .i64 cx) ∧ w'.cell? ⟨w.heap.size + 1 + 1 + 1, 1, none⟩ = some (.int .i64 cy) ∧ w'.cell? ⟨w.heap.size + 1 + 1 + 1, 2, none⟩ = some (.int .i64 cz))
    (first
      | with_reducible exact ⟨sa3.c0, sa3.c1, sa3.c2, sb3.c0, sb3.c1, sb3.c2, sc3.c0, sc3.c1, sc3.c2⟩
      | with_reducible exact ⟨(SpB.alloc sa3 _).c0, (SpB.alloc sa3 _).c1, (SpB.alloc sa3 _).c2, (SpB.alloc sb3 _).c0, (SpB.alloc sb3 _).c1, (SpB.alloc sb3 _).c2, (SpB.alloc sc3 _).c0, (SpB.alloc sc3 _).c1, (SpB.alloc sc3 _).c2⟩
      | with_reducible exact ⟨sa2.c0, sa2.c1, sa2.c2, sb2.c0, sb2.c1, sb2.c2, sc2.c0, sc2.c1, sc2.c2⟩
      | with_reducible exact ⟨(SpB.alloc sa2 _).c0, (SpB.alloc sa2 _).c1, (SpB.alloc sa2 _).c2, (SpB.alloc sb2 _).c0, (SpB.alloc sb2 _).c1, (SpB.alloc sb2 _).c2, (SpB.alloc sc2 _).c0, (SpB.alloc sc2 _).c1, (SpB.alloc sc2 _).c2⟩
      | with_reducible exact ⟨sa1.c0, sa1.c1, sa1.c2, sb1.c0, sb1.c1, sb1.c2, sc1.c0, sc1.c1, sc1.c2⟩
      | with_reducible exact ⟨(SpB.alloc sa1 _).c0, (SpB.alloc sa1 _).c1, (SpB.alloc sa1 _).c2, (SpB.alloc sb1 _).c0, (SpB.alloc sb1 _).c1, (SpB.alloc sb1 _).c2, (SpB.alloc sc1 _).c0, (SpB.alloc sc1 _).c1, (SpB.alloc sc1 _).c2⟩
      | with_reducible exact ⟨sa0.c0, sa0.c1, sa0.c2, sb0.c0, sb0.c1, sb0.c2, sc0.c0, sc0.c1, sc0.c2⟩
      | with_reducible exact ⟨(SpB.alloc sa0 _).c0, (SpB.alloc sa0 _).c1, (SpB.alloc sa0 _).c2, (SpB.alloc sb0 _).c0, (SpB.alloc sb0 _).c1, (SpB.alloc sb0 _).c2, (SpB.alloc sc0 _).c0, (SpB.alloc sc0 _).c1, (SpB.alloc sc0 _).c2⟩
      | with_reducible exact ⟨(SpB.far3 sa3 (Nat.ne_of_lt l0a) _ _ _).c0, (SpB.far3 sa3 (Nat.ne_of_lt l0a) _ _ _).c1, (SpB.far3 sa3 (Nat.ne_of_lt l0a) _ _ _).c2, (SpB.far3 sb3 (Nat.ne_of_lt l0b) _ _ _).c0, (SpB.far3 sb3 (Nat.ne_of_lt l0b) _ _ _).c1, (SpB.far3 sb3 (Nat.ne_of_lt l0b) _ _ _).c2, (SpB.far3 sc3 (Nat.ne_of_lt l0c) _ _ _).c0, (SpB.far3 sc3 (Nat.ne_of_lt l0c) _ _ _).c1, (SpB.far3 sc3 (Nat.ne_of_lt l0c) _ _ _).c2⟩
      | with_reducible exact ⟨(SpB.far3 sa3 (Nat.ne_of_lt sa1.lt) _ _ _).c0, (SpB.far3 sa3 (Nat.ne_of_lt sa1.lt) _ _ _).c1, (SpB.far3 sa3 (Nat.ne_of_lt sa1.lt) _ _ _).c2, (SpB.far3 sb3 (Nat.ne_of_lt sb1.lt) _ _ _).c0, (SpB.far3 sb3 (Nat.ne_of_lt sb1.lt) _ _ _).c1, (SpB.far3 sb3 (Nat.ne_of_lt sb1.lt) _ _ _).c2, (SpB.far3 sc3 (Nat.ne_of_lt sc1.lt) _ _ _).c0, (SpB.far3 sc3 (Nat.ne_of_lt sc1.lt) _ _ _).c1, (SpB.far3 sc3 (Nat.ne_of_lt sc1.lt) _ _ _).c2⟩
      | with_reducible exact ⟨(SpB.far3 sa3 (Nat.ne_of_lt sa2.lt) _ _ _).c0, (SpB.far3 sa3 (Nat.ne_of_lt sa2.lt) _ _ _).c1, (SpB.far3 sa3 (Nat.ne_of_lt sa2.lt) _ _ _).c2, (SpB.far3 sb3 (Nat.ne_of_lt sb2.lt) _ _ _).c0, (SpB.far3 sb3 (Nat.ne_of_lt sb2.lt) _ _ _).c1, (SpB.far3 sb3 (Nat.ne_of_lt sb2.lt) _ _ _).c2, (SpB.far3 sc3 (Nat.ne_of_lt sc2.lt) _ _ _).c0, (SpB.far3 sc3 (Nat.ne_of_lt sc2.lt) _ _ _).c1, (SpB.far3 sc3 (Nat.ne_of_lt sc2.lt) _ _ _).c2⟩
      | go_keep)
    (first
      | (go_at_call 74; with_reducible refine (q1.out _).mono ?_; rintro x w1 ⟨rfl, k1⟩; have sa1 : SpB 56 w1 (w.heap.size + 1) ax ay az := (by first | with_reducible exact SpB.kept sa0 k1 (by simp) | with_reducible exact SpB.kept sa9 k1 (by simp)); have sb1 : SpB 56 w1 (w.heap.size + 1 + 1) bx yb bz := (by first | with_reducible exact SpB.kept sb0 k1 (by simp) | with_reducible exact SpB.kept sb9 k1 (by simp)); have sc1 : SpB 56 w1 (w.heap.size + 1 + 1 + 1) cx cy cz := (by first | with_reducible exact SpB.kept sc0 k1 (by simp) | with_reducible exact SpB.kept sc9 k1 (by simp)); have kk1 : Kp [] w w1 := (by first | with_reducible exact Kp.trans kk0 k1 | with_reducible exact Kp.trans kk9 k1); (try have z1_0 := (by with_reducible exact SpB.kept z9 k1 (by simp))))
      | (go_at_call 74; with_reducible refine (q2.out _).mono ?_; rintro x w2 ⟨rfl, k2⟩; have sa2 : SpB 56 w2 (w.heap.size + 1) ax ay az := (by first | with_reducible exact SpB.kept sa1 k2 (by simp) | with_reducible exact SpB.kept (SpB.alloc sa1 _) k2 (by simp)); have sb2 : SpB 56 w2 (w.heap.size + 1 + 1) bx yb bz := (by first | with_reducible exact SpB.kept sb1 k2 (by simp) | with_reducible exact SpB.kept (SpB.alloc sb1 _) k2 (by simp)); have sc2 : SpB 56 w2 (w.heap.size + 1 + 1 + 1) cx cy cz := (by first | with_reducible exact SpB.kept sc1 k2 (by simp) | with_reducible exact SpB.kept (SpB.alloc sc1 _) k2 (by simp)); have kk2 : Kp [] w w2 := (by first | with_reducible exact Kp.trans kk1 k2 | with_reducible exact Kp.trans (Kp.alloc kk1 _) k2); (try have z2_1 : SpB 58 w2 w1.heap.size 0 0 0 := (by with_reducible exact SpB.kept (SpB.made 58 w1 0 0 0) k2 (by simp))); (try have z2_0 := (by with_reducible exact SpB.kept z1_0 k2 (by simp))))
      | (go_at_call 75; with_reducible refine (q3.out _).mono ?_; rintro x w3 ⟨rfl, k3⟩; have sa3 : SpB 56 w3 (w.heap.size + 1) ax ay az := (by first | with_reducible exact SpB.kept sa2 k3 (by simp) | with_reducible exact SpB.kept (SpB.alloc sa2 _) k3 (by simp)); have sb3 : SpB 56 w3 (w.heap.size + 1 + 1) bx yb bz := (by first | with_reducible exact SpB.kept sb2 k3 (by simp) | with_reducible exact SpB.kept (SpB.alloc sb2 _) k3 (by simp)); have sc3 : SpB 56 w3 (w.heap.size + 1 + 1 + 1) cx cy cz := (by first | with_reducible exact SpB.kept sc2 k3 (by simp) | with_reducible exact SpB.kept (SpB.alloc sc2 _) k3 (by simp)); have kk3 : Kp [] w w3 := (by first | with_reducible exact Kp.trans kk2 k3 | with_reducible exact Kp.trans (Kp.alloc kk2 _) k3); (try have z3_2 : SpB 58 w3 w2.heap.size 0 0 0 := (by with_reducible exact SpB.kept (SpB.made 58 w2 0 0 0) k3 (by simp))); (try have z3_0 := (by with_reducible exact SpB.kept z2_0 k3 (by simp))); (try have z3_1 := (by with_reducible exact SpB.kept z2_1 k3 (by simp))); (try have zc00 := z3_0.c0); (try have zf00 := z3_0.f 0); (try have zc01 := z3_0.c1); (try have zf01 := z3_0.f 1); (try have zc02 := z3_0.c2); (try have zf02 := z3_0.f 2); (try have zc10 := z3_1.c0); (try have zf10 := z3_1.f 0); (try have zc11 := z3_1.c1); (try have zf11 := z3_1.f 1); (try have zc12 := z3_1.c2); (try have zf12 := z3_1.f 2); (try have zc20 := z3_2.c0); (try have zf20 := z3_2.f 0); (try have zc21 := z3_2.c1); (try have zf21 := z3_2.f 1); (try have zc22 := z3_2.c2); (try have zf22 := z3_2.f 2)))
  · have hN := heap_alloc_new w3 (.cells #[.int .i64 nx, .int .i64 ny, .int .i64 nz] 58 (0, 0))
    have kN := kk3.alloc (.cells #[.int .i64 nx, .int .i64 ny, .int .i64 nz] 58 (0, 0))
    have qq := Lib.hid (qd.out _ (w3.heap.size) kN hN)
    clear hN q1 q2 q3 qd kk9 kk0 kk1 kk2 kk3 kk z9
    go_wp2_with (refine wpList_stepN rfl (op_slA rfl rfl) (by simp only [Act.put, List.setIfInBounds_toArray, List.set_cons_succ, List.set_cons_zero]; rfl) ?_)
    with_reducible refine qq.out.mono ?_
    rintro e w9 ⟨rfl, k⟩
    go_wp2
    go_ret2
    exact ⟨rfl, kN.trans k⟩
  · have hN := z3_2.set3 nx ny nz
    have kN := kp_sp3 kk3 (b := w2.heap.size) kk2.size (.int .i64 nx) (.int .i64 ny) (.int .i64 nz)
    have qq := Lib.hid (qd.out _ (w2.heap.size) kN hN)
    clear hN q1 q2 q3 qd kk9 kk0 kk1 kk2 kk3 kk z9
    go_wp2_with (refine wpList_stepN rfl (op_slA rfl rfl) (by simp only [Act.put, List.setIfInBounds_toArray, List.set_cons_succ, List.set_cons_zero]; rfl) ?_)
    with_reducible refine qq.out.mono ?_
    rintro e w9 ⟨rfl, k⟩
    go_wp2
    go_ret2
    exact ⟨rfl, kN.trans k⟩
  · have hN := z3_1.set3 nx ny nz
    have kN := kp_sp3 kk3 (b := w1.heap.size) kk1.size (.int .i64 nx) (.int .i64 ny) (.int .i64 nz)
    have qq := Lib.hid (qd.out _ (w1.heap.size) kN hN)
    clear hN q1 q2 q3 qd kk9 kk0 kk1 kk2 kk3 kk z9
    go_wp2_with (refine wpList_stepN rfl (op_slA rfl rfl) (by simp only [Act.put, List.setIfInBounds_toArray, List.set_cons_succ, List.set_cons_zero]; rfl) ?_)
    with_reducible refine qq.out.mono ?_
    rintro e w9 ⟨rfl, k⟩
    go_wp2
    go_ret2
    exact ⟨rfl, kN.trans k⟩
  · have hN := z3_0.set3 nx ny nz
    have kN := kp_sp3 kk3 (b := w0.heap.size) kk.size (.int .i64 nx) (.int .i64 ny) (.int .i64 nz)
    have qq := Lib.hid (qd.out _ (w0.heap.size) kN hN)
    clear hN q1 q2 q3 qd kk9 kk0 kk1 kk2 kk3 kk z9
    go_wp2_with (refine wpList_stepN rfl (op_slA rfl rfl) (by simp only [Act.put, List.setIfInBounds_toArray, List.set_cons_succ, List.set_cons_zero]; rfl) ?_)
    with_reducible refine qq.out.mono ?_
    rintro e w9 ⟨rfl, k⟩
    go_wp2
    go_ret2
    exact ⟨rfl, kN.trans k⟩

end Go.Proofs.YtegamkilhgekjaaGreatDoor
