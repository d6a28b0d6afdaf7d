/- VectorSolids returns true for every input. -/
import Derived.Test.YtcgilcmhandgfaaGreatDoorM63
namespace Go.Proofs.YtcgilcmhandgfaaGreatDoor
open Go.RowKit
open Go.Lib (nDigits itoa decDigits)

/-- a block of ints -/
def ArB (T : TypeId) (w : World) (b : Nat) (l : List Int) : Prop := w.heap[b]? = some (.cells (l.map fun z => Value.int .i64 z).toArray T (0, 0))
section
variable {T : TypeId} {w w' : World} {b : Nat} {l : List Int} {L : List Nat}
theorem ArB.lt (h : ArB T w b l) : b < w.heap.size := (Array.getElem?_eq_some_iff.1 h).1
theorem ArB.kept (h : ArB T w b l) (k : Kp L w w') (hb : b ∉ L) : ArB T w' b l := (k.block b h.lt hb).trans h
theorem ArB.alloc (h : ArB T w b l) (o : Obj) : ArB T (w.alloc o) b l := (Below.heap_alloc w o b h.lt).trans h
theorem ArB.f (h : ArB T w b l) (i : Nat) : w.frozen? ⟨b, i, none⟩ = false := by unfold ArB at h; simp [World.frozen?, h]
theorem ArB.c (h : ArB T w b l) {i : Nat} {z : Int} (hz : l[i]? = some z) : w.cell? ⟨b, i, none⟩ = some (.int .i64 z) := by
  unfold ArB at h
  have : (l.map fun z => Value.int .i64 z)[i]? = some (.int .i64 z) := by rw [List.getElem?_map, hz]; rfl
  simp [World.cell?, h, this]
theorem ArB.made (T : TypeId) (w : World) (l : List Int) : ArB T (w.alloc (.cells (l.map fun z => Value.int .i64 z).toArray T (0, 0))) w.heap.size l := heap_alloc_new w _
end
theorem eqA3 (a b c : Int) (w : World) : (Op.equalIn 10000 58 (.agg #[.int .i64 a, .int .i64 b, .int .i64 c]) (.agg #[.int .i64 a, .int .i64 b, .int .i64 c])).run Tryz.prog w = .ok true w := by
  have u3 := Tryz.underlying3
  have a3 := Tryz.isAgg3
  have z3 := Tryz.sizeOf3
  rw [show (10000 : Nat) = 9999 + 1 from rfl, Op.equalIn]
  simp only [Sem.run_bind, run_underlying Tryz.underlying58, Result.andThen_ok]
  simp only [Std.Legacy.Range.forIn_eq_forIn_range', Std.Legacy.Range.size, Nat.sub_zero, Nat.add_sub_cancel, Nat.div_one, List.range'_succ, List.range'_zero, List.forIn_cons, List.forIn_nil]
  go_simp

set_option maxRecDepth 100000 in
set_option maxHeartbeats 4000000 in
theorem solids_core (ax ay az bx yb bz cx cy cz dx dy dz n1 n2 n3 e c g m i k0 : Int) (x : ByteArray) (w : World)
    (qn1 : Hid (Gw w 36 #[.agg #[.int .i64 ax, .int .i64 ay, .int .i64 az], .agg #[.int .i64 bx, .int .i64 yb, .int .i64 bz], .agg #[.int .i64 cx, .int .i64 cy, .int .i64 cz]] (.tuple #[.agg #[.int .i64 n1, .int .i64 n2, .int .i64 n3], .int .i64 e])))
    (qn2 : Hid (Gw w 37 #[.agg #[.int .i64 ax, .int .i64 ay, .int .i64 az], .agg #[.int .i64 bx, .int .i64 yb, .int .i64 bz], .agg #[.int .i64 cx, .int .i64 cy, .int .i64 cz]] (.tuple #[.agg #[.int .i64 n1, .int .i64 n2, .int .i64 n3], .int .i64 e])))
    (qc1 : Hid (Gw w 38 #[.agg #[.int .i64 ax, .int .i64 ay, .int .i64 az], .agg #[.int .i64 bx, .int .i64 yb, .int .i64 bz], .agg #[.int .i64 cx, .int .i64 cy, .int .i64 cz], .agg #[.int .i64 dx, .int .i64 dy, .int .i64 dz]] (.tuple #[.int .i64 c, .int .i64 g])))
    (qc2 : Hid (Gw w 39 #[.agg #[.int .i64 ax, .int .i64 ay, .int .i64 az], .agg #[.int .i64 bx, .int .i64 yb, .int .i64 bz], .agg #[.int .i64 cx, .int .i64 cy, .int .i64 cz], .agg #[.int .i64 dx, .int .i64 dy, .int .i64 dz]] (.tuple #[.int .i64 c, .int .i64 g])))
    (qm1 : Hid (Gw w 40 #[.agg #[.int .i64 ax, .int .i64 ay, .int .i64 az], .agg #[.int .i64 bx, .int .i64 yb, .int .i64 bz]] (.tuple #[.int .i64 m, .int .i64 i])))
    (qm2 : Hid (Gw w 41 #[.agg #[.int .i64 ax, .int .i64 ay, .int .i64 az], .agg #[.int .i64 bx, .int .i64 yb, .int .i64 bz]] (.tuple #[.int .i64 m, .int .i64 i])))
    (qx1 : Hid (Gw w 42 #[.agg #[.int .i64 dx, .int .i64 dy, .int .i64 dz], .agg #[.int .i64 ax, .int .i64 ay, .int .i64 az], .agg #[.int .i64 bx, .int .i64 yb, .int .i64 bz], .agg #[.int .i64 cx, .int .i64 cy, .int .i64 cz]] (.tuple #[.string x, .int .i64 k0])))
    (qx2 : Hid (Gw w 43 #[.agg #[.int .i64 dx, .int .i64 dy, .int .i64 dz], .agg #[.int .i64 ax, .int .i64 ay, .int .i64 az], .agg #[.int .i64 bx, .int .i64 yb, .int .i64 bz], .agg #[.int .i64 cx, .int .i64 cy, .int .i64 cz]] (.tuple #[.string x, .int .i64 k0])))
    (aw : Hid (Gw w 13 #[] (.bool true))) :
    Calls Tryz.prog 6 #[.agg #[.int .i64 ax, .int .i64 ay, .int .i64 az, .int .i64 bx, .int .i64 yb, .int .i64 bz, .int .i64 cx, .int .i64 cy, .int .i64 cz, .int .i64 dx, .int .i64 dy, .int .i64 dz]] w fun e w' => e = .returned (.bool true) ∧ Kp [] w w' := by
  have s := ArB.made 57 w [ax, ay, az, bx, yb, bz, cx, cy, cz, dx, dy, dz]
  have kk : Kp [] w (w.alloc (.cells #[.int .i64 ax, .int .i64 ay, .int .i64 az, .int .i64 bx, .int .i64 yb, .int .i64 bz, .int .i64 cx, .int .i64 cy, .int .i64 cz, .int .i64 dx, .int .i64 dy, .int .i64 dz] 57 (0, 0))) := (Kp.refl _ _).alloc _
  have x0 := s.c (i := 0) rfl
  have x1 := s.c (i := 1) rfl
  have x2 := s.c (i := 2) rfl
  have x3 := s.c (i := 3) rfl
  have x4 := s.c (i := 4) rfl
  have x5 := s.c (i := 5) rfl
  have x6 := s.c (i := 6) rfl
  have x7 := s.c (i := 7) rfl
  have x8 := s.c (i := 8) rfl
  have x9 := s.c (i := 9) rfl
  have x10 := s.c (i := 10) rfl
  have x11 := s.c (i := 11) rfl
  unfold Gw at qn1 qn2 qc1 qc2 qm1 qm2 qx1 qx2 aw
  have hA := eqA3 n1 n2 n3
  go_enter Tryz.func6, Tryz.ntmps6
  go_wp2_with fail
  with_reducible refine (qn1.out _ kk).mono ?_
  rintro e w1 ⟨rfl, k⟩
  replace s := s.kept k (by simp)
  clear x0 x1 x2 x3 x4 x5 x6 x7 x8 x9 x10 x11
  replace kk := kk.trans k
  clear k
  replace s := s.alloc (.cells #[.int .i64 n1, .int .i64 n2, .int .i64 n3] 58 (0, 0))
  have t1 := SpB.made 58 w1 n1 n2 n3
  replace kk := kk.alloc (.cells #[.int .i64 n1, .int .i64 n2, .int .i64 n3] 58 (0, 0))
  have x0 := s.c (i := 0) rfl
  have x1 := s.c (i := 1) rfl
  have x2 := s.c (i := 2) rfl
  have x3 := s.c (i := 3) rfl
  have x4 := s.c (i := 4) rfl
  have x5 := s.c (i := 5) rfl
  have x6 := s.c (i := 6) rfl
  have x7 := s.c (i := 7) rfl
  have x8 := s.c (i := 8) rfl
  have x9 := s.c (i := 9) rfl
  have x10 := s.c (i := 10) rfl
  have x11 := s.c (i := 11) rfl
  go_wp2_with fail
  with_reducible refine (qn2.out _ kk).mono ?_
  rintro e w2 ⟨rfl, k⟩
  replace s := s.kept k (by simp)
  clear x0 x1 x2 x3 x4 x5 x6 x7 x8 x9 x10 x11
  replace kk := kk.trans k
  replace t1 := t1.kept k (by simp)
  clear k
  replace s := s.alloc (.cells #[.int .i64 n1, .int .i64 n2, .int .i64 n3] 58 (0, 0))
  replace t1 := t1.alloc (.cells #[.int .i64 n1, .int .i64 n2, .int .i64 n3] 58 (0, 0))
  have t2 := SpB.made 58 w2 n1 n2 n3
  replace kk := kk.alloc (.cells #[.int .i64 n1, .int .i64 n2, .int .i64 n3] 58 (0, 0))
  have x0 := s.c (i := 0) rfl
  have x1 := s.c (i := 1) rfl
  have x2 := s.c (i := 2) rfl
  have x3 := s.c (i := 3) rfl
  have x4 := s.c (i := 4) rfl
  have x5 := s.c (i := 5) rfl
  have x6 := s.c (i := 6) rfl
  have x7 := s.c (i := 7) rfl
  have x8 := s.c (i := 8) rfl
  have x9 := s.c (i := 9) rfl
  have x10 := s.c (i := 10) rfl
  have x11 := s.c (i := 11) rfl
  go_wp2_with fail
  with_reducible refine (qc1.out _ kk).mono ?_
  rintro e w3 ⟨rfl, k⟩
  replace s := s.kept k (by simp)
  clear x0 x1 x2 x3 x4 x5 x6 x7 x8 x9 x10 x11
  replace kk := kk.trans k
  replace t1 := t1.kept k (by simp)
  replace t2 := t2.kept k (by simp)
  clear k
  have x0 := s.c (i := 0) rfl
  have x1 := s.c (i := 1) rfl
  have x2 := s.c (i := 2) rfl
  have x3 := s.c (i := 3) rfl
  have x4 := s.c (i := 4) rfl
  have x5 := s.c (i := 5) rfl
  have x6 := s.c (i := 6) rfl
  have x7 := s.c (i := 7) rfl
  have x8 := s.c (i := 8) rfl
  have x9 := s.c (i := 9) rfl
  have x10 := s.c (i := 10) rfl
  have x11 := s.c (i := 11) rfl
  go_wp2_with fail
  with_reducible refine (qc2.out _ kk).mono ?_
  rintro e w4 ⟨rfl, k⟩
  replace s := s.kept k (by simp)
  clear x0 x1 x2 x3 x4 x5 x6 x7 x8 x9 x10 x11
  replace kk := kk.trans k
  replace t1 := t1.kept k (by simp)
  replace t2 := t2.kept k (by simp)
  clear k
  have x0 := s.c (i := 0) rfl
  have x1 := s.c (i := 1) rfl
  have x2 := s.c (i := 2) rfl
  have x3 := s.c (i := 3) rfl
  have x4 := s.c (i := 4) rfl
  have x5 := s.c (i := 5) rfl
  have x6 := s.c (i := 6) rfl
  have x7 := s.c (i := 7) rfl
  have x8 := s.c (i := 8) rfl
  have x9 := s.c (i := 9) rfl
  have x10 := s.c (i := 10) rfl
  have x11 := s.c (i := 11) rfl
  go_wp2_with fail
  with_reducible refine (qm1.out _ kk).mono ?_
  rintro e w5 ⟨rfl, k⟩
  replace s := s.kept k (by simp)
  clear x0 x1 x2 x3 x4 x5 x6 x7 x8 x9 x10 x11
  replace kk := kk.trans k
  replace t1 := t1.kept k (by simp)
  replace t2 := t2.kept k (by simp)
  clear k
  have x0 := s.c (i := 0) rfl
  have x1 := s.c (i := 1) rfl
  have x2 := s.c (i := 2) rfl
  have x3 := s.c (i := 3) rfl
  have x4 := s.c (i := 4) rfl
  have x5 := s.c (i := 5) rfl
  have x6 := s.c (i := 6) rfl
  have x7 := s.c (i := 7) rfl
  have x8 := s.c (i := 8) rfl
  have x9 := s.c (i := 9) rfl
  have x10 := s.c (i := 10) rfl
  have x11 := s.c (i := 11) rfl
  go_wp2_with fail
  with_reducible refine (qm2.out _ kk).mono ?_
  rintro e w6 ⟨rfl, k⟩
  replace s := s.kept k (by simp)
  clear x0 x1 x2 x3 x4 x5 x6 x7 x8 x9 x10 x11
  replace kk := kk.trans k
  replace t1 := t1.kept k (by simp)
  replace t2 := t2.kept k (by simp)
  clear k
  have x0 := s.c (i := 0) rfl
  have x1 := s.c (i := 1) rfl
  have x2 := s.c (i := 2) rfl
  have x3 := s.c (i := 3) rfl
  have x4 := s.c (i := 4) rfl
  have x5 := s.c (i := 5) rfl
  have x6 := s.c (i := 6) rfl
  have x7 := s.c (i := 7) rfl
  have x8 := s.c (i := 8) rfl
  have x9 := s.c (i := 9) rfl
  have x10 := s.c (i := 10) rfl
  have x11 := s.c (i := 11) rfl
  go_wp2_with fail
  with_reducible refine (qx1.out _ kk).mono ?_
  rintro e w7 ⟨rfl, k⟩
  replace s := s.kept k (by simp)
  clear x0 x1 x2 x3 x4 x5 x6 x7 x8 x9 x10 x11
  replace kk := kk.trans k
  replace t1 := t1.kept k (by simp)
  replace t2 := t2.kept k (by simp)
  clear k
  have x0 := s.c (i := 0) rfl
  have x1 := s.c (i := 1) rfl
  have x2 := s.c (i := 2) rfl
  have x3 := s.c (i := 3) rfl
  have x4 := s.c (i := 4) rfl
  have x5 := s.c (i := 5) rfl
  have x6 := s.c (i := 6) rfl
  have x7 := s.c (i := 7) rfl
  have x8 := s.c (i := 8) rfl
  have x9 := s.c (i := 9) rfl
  have x10 := s.c (i := 10) rfl
  have x11 := s.c (i := 11) rfl
  go_wp2_with fail
  with_reducible refine (qx2.out _ kk).mono ?_
  rintro e w8 ⟨rfl, k⟩
  replace s := s.kept k (by simp)
  clear x0 x1 x2 x3 x4 x5 x6 x7 x8 x9 x10 x11
  replace kk := kk.trans k
  replace t1 := t1.kept k (by simp)
  replace t2 := t2.kept k (by simp)
  clear k
  have x0 := s.c (i := 0) rfl
  have x1 := s.c (i := 1) rfl
  have x2 := s.c (i := 2) rfl
  have x3 := s.c (i := 3) rfl
  have x4 := s.c (i := 4) rfl
  have x5 := s.c (i := 5) rfl
  have x6 := s.c (i := 6) rfl
  have x7 := s.c (i := 7) rfl
  have x8 := s.c (i := 8) rfl
  have x9 := s.c (i := 9) rfl
  have x10 := s.c (i := 10) rfl
  have x11 := s.c (i := 11) rfl
  clear x0 x1 x2 x3 x4 x5 x6 x7 x8 x9 x10 x11
  clear s
  go_wp2_with fail
  with_reducible refine (aw.out _ kk).mono ?_
  rintro e w9 ⟨rfl, k⟩
  replace kk := kk.trans k
  replace t1 := t1.kept k (by simp)
  have t1c0 := t1.c0
  have t1c1 := t1.c1
  have t1c2 := t1.c2
  replace t2 := t2.kept k (by simp)
  have t2c0 := t2.c0
  have t2c1 := t2.c1
  have t2c2 := t2.c2
  clear k t1 t2
  go_wp2
  go_ret
  exact ⟨rfl, kk⟩

theorem Solids_any (ax ay az bx yb bz cx cy cz dx dy dz : Int) (w : World) (hT : Tab w) :
    Calls Tryz.prog 6 #[.agg #[.int .i64 ax, .int .i64 ay, .int .i64 az, .int .i64 bx, .int .i64 yb, .int .i64 bz, .int .i64 cx, .int .i64 cy, .int .i64 cz, .int .i64 dx, .int .i64 dy, .int .i64 dz]] w fun e w' => e = .returned (.bool true) ∧ Kp [] w w' :=
  solids_core ax ay az bx yb bz cx cy cz dx dy dz _ _ _ _ _ _ _ _ _ _ w (gw_of fun W => normal_p ax ay az bx yb bz cx cy cz W) (gw_of fun W => normal_r ax ay az bx yb bz cx cy cz W) (gw_of fun W => volume_p ax ay az bx yb bz cx cy cz dx dy dz W) (gw_of fun W => volume_r ax ay az bx yb bz cx cy cz dx dy dz W) (gw_of fun W => squareSpace_p ax ay az bx yb bz W) (gw_of fun W => squareSpace_r ax ay az bx yb bz W) (fun W k => toPlane_p dx dy dz ax ay az bx yb bz cx cy cz W (tab_kp hT k)) (gw_of fun W => toPlane_r dx dy dz ax ay az bx yb bz cx cy cz W) (fun W k => vawake W (tab_kp hT k))

end Go.Proofs.YtcgilcmhandgfaaGreatDoor
