/- Texts Vec10, Vec11, Vec12, Vec13: each says in its own first comment what it proves. -/
import Derived.Test.YtegamkilhgekjaaGreatDoorM57
import Derived.Test.YtegamkilhgekjaaGreatDoorM59
/- Cross, Dot, Normal, Volume of package vector for points in bounds. -/
namespace Go.Proofs.YtegamkilhgekjaaGreatDoor
open Go.RowKit
open Go.Lib (nDigits itoa decDigits)

theorem ckP_in {ps : List (Int × Int)} (h : ckP ps = 0) : ∀ p ∈ ps, p.1.natAbs ≤ 100000 ∧ p.2.natAbs ≤ 100000 := by
  unfold ckP at h
  split at h
  · cases h
  · split at h
    · rename_i h2
      intro p hp
      have h3 := List.all_eq_true.1 h2 p hp
      unfold inP at h3
      rw [Bool.and_eq_true, inB_iff, inB_iff] at h3
      omega
    · cases h
theorem ckS_in {ps : List P3} (h : ckS ps = 0) : ∀ p ∈ ps, p.x.natAbs ≤ 100000 ∧ p.y.natAbs ≤ 100000 ∧ p.z.natAbs ≤ 100000 := by
  unfold ckS at h
  split at h
  · cases h
  · split at h
    · rename_i h2
      intro p hp
      have h3 := List.all_eq_true.1 h2 p hp
      unfold inS at h3
      rw [Bool.and_eq_true, Bool.and_eq_true, inB_iff, inB_iff, inB_iff] at h3
      omega
    · cases h
/-- the turn of three points -/
def crV (ax ay bx yb cx yc : Int) : Int := (bx - ax) * (yc - ay) - (yb - ay) * (cx - ax)

theorem cross_c (ax ay bx yb cx yc : Int) (w : World) (h : ckP [(ax, ay), (bx, yb), (cx, yc)] = 0) :
    Calls Tryz.prog 30 #[.agg #[.int .i64 ax, .int .i64 ay], .agg #[.int .i64 bx, .int .i64 yb], .agg #[.int .i64 cx, .int .i64 yc]] w fun e w' => e = .returned (.tuple #[.int .i64 (crV ax ay bx yb cx yc), .int .i64 0]) ∧ Kp [] w w' := by
  obtain ⟨ha1, ha2⟩ := ckP_in h (ax, ay) (by simp)
  obtain ⟨hb1, hb2⟩ := ckP_in h (bx, yb) (by simp)
  obtain ⟨hc1, hc2⟩ := ckP_in h (cx, yc) (by simp)
  have q := vCross ax ay bx yb cx yc (crV ax ay bx yb cx yc) w (fun _ ba bb bc W ha hb hc => vCross_in ba bb bc ax ay bx yb cx yc (bx - ax) (yb - ay) (cx - ax) (yc - ay) _ W ha hb hc
    (Lib.hid fun W => vminus bx yb ax ay W (by omega) (by omega) (by omega) (by omega)) (Lib.hid fun W => vminus cx yc ax ay W (by omega) (by omega) (by omega) (by omega))
    (Lib.hid fun W => vcross _ _ _ _ W (by omega) (by omega) (by omega) (by omega)))
  rwa [if_pos h, if_pos h] at q

theorem dot_c (ax ay bx yb : Int) (w : World) (h : ckP [(ax, ay), (bx, yb)] = 0) :
    Calls Tryz.prog 28 #[.agg #[.int .i64 ax, .int .i64 ay], .agg #[.int .i64 bx, .int .i64 yb]] w fun e w' => e = .returned (.tuple #[.int .i64 (ax * bx + ay * yb), .int .i64 0]) ∧ Kp [] w w' := by
  obtain ⟨ha1, ha2⟩ := ckP_in h (ax, ay) (by simp)
  obtain ⟨hb1, hb2⟩ := ckP_in h (bx, yb) (by simp)
  have q := vDot ax ay bx yb (ax * bx + ay * yb) w (fun _ => Lib.hid fun W => vdot ax ay bx yb W (by omega) (by omega) (by omega) (by omega))
  rwa [if_pos h, if_pos h] at q

theorem square_c (ax ay bx yb : Int) (w : World) (h1 : ax.natAbs ≤ 100000) (h2 : ay.natAbs ≤ 100000) (h3 : bx.natAbs ≤ 100000) (h4 : yb.natAbs ≤ 100000) :
    Calls Tryz.prog 91 #[.agg #[.int .i64 ax, .int .i64 ay], .agg #[.int .i64 bx, .int .i64 yb]] w fun e w' => e = .returned (.int .i64 ((bx - ax) * (bx - ax) + (yb - ay) * (yb - ay))) ∧ Kp [] w w' :=
  vsquare_core ax ay bx yb (bx - ax) (yb - ay) _ w (Lib.hid fun W => vminus bx yb ax ay W (by omega) (by omega) (by omega) (by omega)) (Lib.hid fun W => vdot _ _ _ _ W (by omega) (by omega) (by omega) (by omega))

/-- the normal of three places -/
def nrX (ay az yb bz cy cz : Int) : Int := (yb - ay) * (cz - az) - (bz - az) * (cy - ay)
theorem nr_le (ay az yb bz cy cz : Int) (h1 : ay.natAbs ≤ 100000) (h2 : az.natAbs ≤ 100000) (h3 : yb.natAbs ≤ 100000) (h4 : bz.natAbs ≤ 100000) (h5 : cy.natAbs ≤ 100000) (h6 : cz.natAbs ≤ 100000) : (nrX ay az yb bz cy cz).natAbs ≤ 80000000000 := by
  unfold nrX
  have m1 := mul_bd (show (yb - ay).natAbs ≤ 200000 by omega) (show (cz - az).natAbs ≤ 200000 by omega)
  have m2 := mul_bd (show (bz - az).natAbs ≤ 200000 by omega) (show (cy - ay).natAbs ≤ 200000 by omega)
  omega

theorem normal_c (ax ay az bx yb bz cx cy cz : Int) (w : World) (h : ckS ([⟨ax, ay, az⟩, ⟨bx, yb, bz⟩, ⟨cx, cy, cz⟩] : List P3) = 0) :
    Calls Tryz.prog 36 #[.agg #[.int .i64 ax, .int .i64 ay, .int .i64 az], .agg #[.int .i64 bx, .int .i64 yb, .int .i64 bz], .agg #[.int .i64 cx, .int .i64 cy, .int .i64 cz]] w fun e w' => e = .returned (.tuple #[.agg #[.int .i64 (nrX ay az yb bz cy cz), .int .i64 (nrX az ax bz bx cz cx), .int .i64 (nrX ax ay bx yb cx cy)], .int .i64 0]) ∧ Kp [] w w' := by
  obtain ⟨ha1, ha2, ha3⟩ := ckS_in h ⟨ax, ay, az⟩ (by simp)
  obtain ⟨hb1, hb2, hb3⟩ := ckS_in h ⟨bx, yb, bz⟩ (by simp)
  obtain ⟨hc1, hc2, hc3⟩ := ckS_in h ⟨cx, cy, cz⟩ (by simp)
  dsimp only at ha1 ha2 ha3 hb1 hb2 hb3 hc1 hc2 hc3
  exact vNormal ax ay az bx yb bz cx cy cz (nrX ay az yb bz cy cz) (nrX az ax bz bx cz cx) (nrX ax ay bx yb cx cy) w h (Lib.hid fun ba bb bc W ha hb hc => vNormal_in ba bb bc ax ay az bx yb bz cx cy cz _ _ _ _ _ _ _ _ _ W ha hb hc (Lib.hid fun W => vbetween ax ay az bx yb bz W (by omega) (by omega) (by omega) (by omega) (by omega) (by omega)) (Lib.hid fun W => vbetween ax ay az cx cy cz W (by omega) (by omega) (by omega) (by omega) (by omega) (by omega)) (Lib.hid fun W => vcrossSpace _ _ _ _ _ _ W (by omega) (by omega) (by omega) (by omega) (by omega) (by omega)))

theorem sub_bd {x y : Int} (h1 : x.natAbs ≤ 100000) (h2 : y.natAbs ≤ 100000) : (x - y).natAbs ≤ 200000 := by omega

/-- the volume of four places -/
def voV (ax ay az bx yb bz cx cy cz dx dy dz : Int) : Int := (nrX ay az yb bz cy cz) * (dx - ax) + (nrX az ax bz bx cz cx) * (dy - ay) + (nrX ax ay bx yb cx cy) * (dz - az)

theorem volume_in (ba bb bc bd : Nat) (ax ay az bx yb bz cx cy cz dx dy dz : Int) (W : World) (ha : SpB 56 W ba ax ay az) (hb : SpB 56 W bb bx yb bz) (hc : SpB 56 W bc cx cy cz) (hd : SpB 56 W bd dx dy dz) (h : ckS ([⟨ax, ay, az⟩, ⟨bx, yb, bz⟩, ⟨cx, cy, cz⟩, ⟨dx, dy, dz⟩] : List P3) = 0) :
    Calls Tryz.prog 96 #[.pointer (some ⟨ba, 0, none⟩), .pointer (some ⟨bb, 0, none⟩), .pointer (some ⟨bc, 0, none⟩), .pointer (some ⟨bd, 0, none⟩)] W fun e w' => e = .returned (.int .i64 (voV ax ay az bx yb bz cx cy cz dx dy dz)) ∧ Kp [] W w' := by
  obtain ⟨ha1, ha2, ha3⟩ := ckS_in h ⟨ax, ay, az⟩ (by simp)
  obtain ⟨hb1, hb2, hb3⟩ := ckS_in h ⟨bx, yb, bz⟩ (by simp)
  obtain ⟨hc1, hc2, hc3⟩ := ckS_in h ⟨cx, cy, cz⟩ (by simp)
  obtain ⟨hd1, hd2, hd3⟩ := ckS_in h ⟨dx, dy, dz⟩ (by simp)
  dsimp only at ha1 ha2 ha3 hb1 hb2 hb3 hc1 hc2 hc3 hd1 hd2 hd3
  have b1 := nr_le ay az yb bz cy cz ha2 ha3 hb2 hb3 hc2 hc3
  have b2 := nr_le az ax bz bx cz cx ha3 ha1 hb3 hb1 hc3 hc1
  have b3 := nr_le ax ay bx yb cx cy ha1 ha2 hb1 hb2 hc1 hc2
  have q1 : (Hid (∀ W : World, Calls Tryz.prog 74 #[.agg #[.int .i64 ax, .int .i64 ay, .int .i64 az], .agg #[.int .i64 bx, .int .i64 yb, .int .i64 bz]] W fun e w' => e = .returned (.agg #[.int .i64 (bx - ax), .int .i64 (yb - ay), .int .i64 (bz - az)]) ∧ Kp [] W w')) := (Lib.hid fun W => vbetween ax ay az bx yb bz W (Nat.le_trans ha1 (by decide)) (Nat.le_trans ha2 (by decide)) (Nat.le_trans ha3 (by decide)) (Nat.le_trans hb1 (by decide)) (Nat.le_trans hb2 (by decide)) (Nat.le_trans hb3 (by decide)))
  have q2 : (Hid (∀ W : World, Calls Tryz.prog 74 #[.agg #[.int .i64 ax, .int .i64 ay, .int .i64 az], .agg #[.int .i64 cx, .int .i64 cy, .int .i64 cz]] W fun e w' => e = .returned (.agg #[.int .i64 (cx - ax), .int .i64 (cy - ay), .int .i64 (cz - az)]) ∧ Kp [] W w')) := (Lib.hid fun W => vbetween ax ay az cx cy cz W (Nat.le_trans ha1 (by decide)) (Nat.le_trans ha2 (by decide)) (Nat.le_trans ha3 (by decide)) (Nat.le_trans hc1 (by decide)) (Nat.le_trans hc2 (by decide)) (Nat.le_trans hc3 (by decide)))
  have q4 : (Hid (∀ W : World, Calls Tryz.prog 74 #[.agg #[.int .i64 ax, .int .i64 ay, .int .i64 az], .agg #[.int .i64 dx, .int .i64 dy, .int .i64 dz]] W fun e w' => e = .returned (.agg #[.int .i64 (dx - ax), .int .i64 (dy - ay), .int .i64 (dz - az)]) ∧ Kp [] W w')) := (Lib.hid fun W => vbetween ax ay az dx dy dz W (Nat.le_trans ha1 (by decide)) (Nat.le_trans ha2 (by decide)) (Nat.le_trans ha3 (by decide)) (Nat.le_trans hd1 (by decide)) (Nat.le_trans hd2 (by decide)) (Nat.le_trans hd3 (by decide)))
  have q3 : (Hid (∀ W : World, Calls Tryz.prog 75 #[.agg #[.int .i64 (bx - ax), .int .i64 (yb - ay), .int .i64 (bz - az)], .agg #[.int .i64 (cx - ax), .int .i64 (cy - ay), .int .i64 (cz - az)]] W fun e w' => e = .returned (.agg #[.int .i64 (nrX ay az yb bz cy cz), .int .i64 (nrX az ax bz bx cz cx), .int .i64 (nrX ax ay bx yb cx cy)]) ∧ Kp [] W w')) := (Lib.hid fun W => vcrossSpace _ _ _ _ _ _ W (Nat.le_trans (sub_bd hb1 ha1) (by decide)) (Nat.le_trans (sub_bd hb2 ha2) (by decide)) (Nat.le_trans (sub_bd hb3 ha3) (by decide)) (Nat.le_trans (sub_bd hc1 ha1) (by decide)) (Nat.le_trans (sub_bd hc2 ha2) (by decide)) (Nat.le_trans (sub_bd hc3 ha3) (by decide)))
  have e : voV ax ay az bx yb bz cx cy cz dx dy dz = (nrX ay az yb bz cy cz) * (dx - ax) + (nrX az ax bz bx cz cx) * (dy - ay) + (nrX ax ay bx yb cx cy) * (dz - az) := rfl
  rw [e]
  clear e
  generalize (nrX ay az yb bz cy cz) = n1 at *
  generalize (nrX az ax bz bx cz cx) = n2 at *
  generalize (nrX ax ay bx yb cx cy) = n3 at *
  have q5 := Lib.hid fun W => vdotSpace n1 n2 n3 (dx - ax) (dy - ay) (dz - az) W (Nat.le_trans b1 (by decide)) (Nat.le_trans b2 (by decide)) (Nat.le_trans b3 (by decide)) (Nat.le_trans (sub_bd hd1 ha1) (by decide)) (Nat.le_trans (sub_bd hd2 ha2) (by decide)) (Nat.le_trans (sub_bd hd3 ha3) (by decide))
  exact vVolume_in ba bb bc bd _ _ _ _ _ _ _ _ _ _ _ _ _ _ _ _ _ _ _ _ _ _ _ _ _ W ha hb hc hd q1 q2 q3 q4 q5
theorem volume_c (ax ay az bx yb bz cx cy cz dx dy dz : Int) (w : World) (h : ckS ([⟨ax, ay, az⟩, ⟨bx, yb, bz⟩, ⟨cx, cy, cz⟩, ⟨dx, dy, dz⟩] : List P3) = 0) :
    Calls Tryz.prog 38 #[.agg #[.int .i64 ax, .int .i64 ay, .int .i64 az], .agg #[.int .i64 bx, .int .i64 yb, .int .i64 bz], .agg #[.int .i64 cx, .int .i64 cy, .int .i64 cz], .agg #[.int .i64 dx, .int .i64 dy, .int .i64 dz]] w fun e w' => e = .returned (.tuple #[.int .i64 (voV ax ay az bx yb bz cx cy cz dx dy dz), .int .i64 0]) ∧ Kp [] w w' := by
  have q := vVolume ax ay az bx yb bz cx cy cz dx dy dz (voV ax ay az bx yb bz cx cy cz dx dy dz) w (fun h ba bb bc bd W ha hb hc hd => Lib.hid (volume_in ba bb bc bd ax ay az bx yb bz cx cy cz dx dy dz W ha hb hc hd h))
  rwa [if_pos h, if_pos h] at q

end Go.Proofs.YtegamkilhgekjaaGreatDoor

/- ToLine, ToPlane of package vector in bounds. -/
namespace Go.Proofs.YtegamkilhgekjaaGreatDoor
open Go.RowKit
open Go.Lib (nDigits itoa decDigits)

theorem vcr_le {ax ay bx yb cx yc : Int} (h : ckP [(ax, ay), (bx, yb), (cx, yc)] = 0) : (crV ax ay bx yb cx yc).natAbs ≤ 1000000000000000000 := by
  have ha := ckP_in h (ax, ay) (by simp)
  have hb := ckP_in h (bx, yb) (by simp)
  have hc := ckP_in h (cx, yc) (by simp)
  have m1 := mul_bd (sub_bd hb.1 ha.1) (sub_bd hc.2 ha.2)
  have m2 := mul_bd (sub_bd hb.2 ha.2) (sub_bd hc.1 ha.1)
  unfold crV
  clear ha hb hc h
  dsimp only at m1 m2
  generalize (bx - ax) * (yc - ay) = x at *
  generalize (yb - ay) * (cx - ax) = y at *
  omega
set_option maxRecDepth 100000 in
theorem toLine_c (px py ax ay bx yb : Int) (w : World) (h : ckP [(px, py), (ax, ay), (bx, yb)] = 0) (h0 : sqs [bx - ax, yb - ay] ≠ 0) (hT : Tab w) :
    Calls Tryz.prog 44 #[.agg #[.int .i64 px, .int .i64 py], .agg #[.int .i64 ax, .int .i64 ay], .agg #[.int .i64 bx, .int .i64 yb]] w fun e w' => e = .returned (.tuple #[.string (RS ((crV px py ax ay bx yb * crV px py ax ay bx yb : Int) / (sqs [bx - ax, yb - ay] : Int) : Rat)), .int .i64 0]) ∧ Kp [] w w' := by
  have hv := vcr_le h
  have ha := ckP_in h (ax, ay) (by simp)
  have hb := ckP_in h (bx, yb) (by simp)
  have d1 := sub_bd hb.1 ha.1
  have d2 := sub_bd hb.2 ha.2
  dsimp only at d1 d2 ha hb
  refine vToLine_0 px py ax ay bx yb (crV px py ax ay bx yb) (bx - ax) (yb - ay) 0 _ w (Lib.hid fun W => cross_c px py ax ay bx yb W h)
    (Lib.hid fun W => vminus bx yb ax ay W (Nat.le_trans hb.1 (by decide)) (Nat.le_trans hb.2 (by decide)) (Nat.le_trans ha.1 (by decide)) (Nat.le_trans ha.2 (by decide))) (Lib.hid fun W kW => ?_)
  have hN := heap_alloc_new W (.cells #[.int .i64 (bx - ax), .int .i64 (yb - ay)] 3 (0, 0))
  have q := vdistance (crV px py ax ay bx yb) W.heap.size 2 [bx - ax, yb - ay] (W.alloc (.cells #[.int .i64 (bx - ax), .int .i64 (yb - ay)] 3 (0, 0))) hv
    (fun i hi => by
      rcases i with _ | _ | i
      · exact (new_cell hN _).trans rfl
      · exact (new_cell hN _).trans rfl
      · exact absurd hi (by simp)) (by simp)
    (fun n hn => by
      rcases List.mem_cons.1 hn with rfl | hn
      · exact Nat.le_trans d1 (by decide)
      · rw [List.mem_singleton.1 hn]; exact Nat.le_trans d2 (by decide)) (by simp) (by simp) h0 (tab_kp (tab_kp hT kW) ((Kp.refl _ _).alloc _))
  exact q

theorem vo_le {ax ay az bx yb bz cx cy cz px py pz : Int} (h : ckS ([⟨ax, ay, az⟩, ⟨bx, yb, bz⟩, ⟨cx, cy, cz⟩, ⟨px, py, pz⟩] : List P3) = 0) : (voV ax ay az bx yb bz cx cy cz px py pz).natAbs ≤ 1000000000000000000 := by
  obtain ⟨ha1, ha2, ha3⟩ := ckS_in h ⟨ax, ay, az⟩ (by simp)
  obtain ⟨hb1, hb2, hb3⟩ := ckS_in h ⟨bx, yb, bz⟩ (by simp)
  obtain ⟨hc1, hc2, hc3⟩ := ckS_in h ⟨cx, cy, cz⟩ (by simp)
  obtain ⟨hp1, hp2, hp3⟩ := ckS_in h ⟨px, py, pz⟩ (by simp)
  dsimp only at ha1 ha2 ha3 hb1 hb2 hb3 hc1 hc2 hc3 hp1 hp2 hp3
  have b1 := nr_le ay az yb bz cy cz ha2 ha3 hb2 hb3 hc2 hc3
  have b2 := nr_le az ax bz bx cz cx ha3 ha1 hb3 hb1 hc3 hc1
  have b3 := nr_le ax ay bx yb cx cy ha1 ha2 hb1 hb2 hc1 hc2
  have m1 := mul_bd b1 (sub_bd hp1 ha1)
  have m2 := mul_bd b2 (sub_bd hp2 ha2)
  have m3 := mul_bd b3 (sub_bd hp3 ha3)
  unfold voV
  clear ha1 ha2 ha3 hb1 hb2 hb3 hc1 hc2 hc3 hp1 hp2 hp3 b1 b2 b3 h
  generalize (nrX ay az yb bz cy cz) * (px - ax) = x at *
  generalize (nrX az ax bz bx cz cx) * (py - ay) = y at *
  generalize (nrX ax ay bx yb cx cy) * (pz - az) = z at *
  omega
set_option maxRecDepth 100000 in
theorem toPlane_c (ax ay az bx yb bz cx cy cz px py pz : Int) (w : World) (h : ckS ([⟨ax, ay, az⟩, ⟨bx, yb, bz⟩, ⟨cx, cy, cz⟩, ⟨px, py, pz⟩] : List P3) = 0) (h0 : sqs [(nrX ay az yb bz cy cz), (nrX az ax bz bx cz cx), (nrX ax ay bx yb cx cy)] ≠ 0) (hT : Tab w) :
    Calls Tryz.prog 42 #[.agg #[.int .i64 px, .int .i64 py, .int .i64 pz], .agg #[.int .i64 ax, .int .i64 ay, .int .i64 az], .agg #[.int .i64 bx, .int .i64 yb, .int .i64 bz], .agg #[.int .i64 cx, .int .i64 cy, .int .i64 cz]] w fun e w' => e = .returned (.tuple #[.string (RS ((voV ax ay az bx yb bz cx cy cz px py pz * voV ax ay az bx yb bz cx cy cz px py pz : Int) / (sqs [(nrX ay az yb bz cy cz), (nrX az ax bz bx cz cx), (nrX ax ay bx yb cx cy)] : Int) : Rat)), .int .i64 0]) ∧ Kp [] w w' := by
  have hv := vo_le h
  obtain ⟨ha1, ha2, ha3⟩ := ckS_in h ⟨ax, ay, az⟩ (by simp)
  obtain ⟨hb1, hb2, hb3⟩ := ckS_in h ⟨bx, yb, bz⟩ (by simp)
  obtain ⟨hc1, hc2, hc3⟩ := ckS_in h ⟨cx, cy, cz⟩ (by simp)
  obtain ⟨hp1, hp2, hp3⟩ := ckS_in h ⟨px, py, pz⟩ (by simp)
  dsimp only at ha1 ha2 ha3 hb1 hb2 hb3 hc1 hc2 hc3 hp1 hp2 hp3
  have b1 := nr_le ay az yb bz cy cz ha2 ha3 hb2 hb3 hc2 hc3
  have b2 := nr_le az ax bz bx cz cx ha3 ha1 hb3 hb1 hc3 hc1
  have b3 := nr_le ax ay bx yb cx cy ha1 ha2 hb1 hb2 hc1 hc2
  have q1 : (Hid (∀ W : World, Calls Tryz.prog 74 #[.agg #[.int .i64 ax, .int .i64 ay, .int .i64 az], .agg #[.int .i64 bx, .int .i64 yb, .int .i64 bz]] W fun e w' => e = .returned (.agg #[.int .i64 (bx - ax), .int .i64 (yb - ay), .int .i64 (bz - az)]) ∧ Kp [] W w')) := (Lib.hid fun W => vbetween ax ay az bx yb bz W (Nat.le_trans ha1 (by decide)) (Nat.le_trans ha2 (by decide)) (Nat.le_trans ha3 (by decide)) (Nat.le_trans hb1 (by decide)) (Nat.le_trans hb2 (by decide)) (Nat.le_trans hb3 (by decide)))
  have q2 : (Hid (∀ W : World, Calls Tryz.prog 74 #[.agg #[.int .i64 ax, .int .i64 ay, .int .i64 az], .agg #[.int .i64 cx, .int .i64 cy, .int .i64 cz]] W fun e w' => e = .returned (.agg #[.int .i64 (cx - ax), .int .i64 (cy - ay), .int .i64 (cz - az)]) ∧ Kp [] W w')) := (Lib.hid fun W => vbetween ax ay az cx cy cz W (Nat.le_trans ha1 (by decide)) (Nat.le_trans ha2 (by decide)) (Nat.le_trans ha3 (by decide)) (Nat.le_trans hc1 (by decide)) (Nat.le_trans hc2 (by decide)) (Nat.le_trans hc3 (by decide)))
  have q3 : (Hid (∀ W : World, Calls Tryz.prog 75 #[.agg #[.int .i64 (bx - ax), .int .i64 (yb - ay), .int .i64 (bz - az)], .agg #[.int .i64 (cx - ax), .int .i64 (cy - ay), .int .i64 (cz - az)]] W fun e w' => e = .returned (.agg #[.int .i64 (nrX ay az yb bz cy cz), .int .i64 (nrX az ax bz bx cz cx), .int .i64 (nrX ax ay bx yb cx cy)]) ∧ Kp [] W w')) := (Lib.hid fun W => vcrossSpace _ _ _ _ _ _ W (Nat.le_trans (sub_bd hb1 ha1) (by decide)) (Nat.le_trans (sub_bd hb2 ha2) (by decide)) (Nat.le_trans (sub_bd hb3 ha3) (by decide)) (Nat.le_trans (sub_bd hc1 ha1) (by decide)) (Nat.le_trans (sub_bd hc2 ha2) (by decide)) (Nat.le_trans (sub_bd hc3 ha3) (by decide)))
  have qv : (Hid (∀ W : World, Calls Tryz.prog 38 #[.agg #[.int .i64 ax, .int .i64 ay, .int .i64 az], .agg #[.int .i64 bx, .int .i64 yb, .int .i64 bz], .agg #[.int .i64 cx, .int .i64 cy, .int .i64 cz], .agg #[.int .i64 px, .int .i64 py, .int .i64 pz]] W fun e w' => e = .returned (.tuple #[.int .i64 (voV ax ay az bx yb bz cx cy cz px py pz), .int .i64 0]) ∧ Kp [] W w')) := Lib.hid fun W => volume_c ax ay az bx yb bz cx cy cz px py pz W h
  clear ha1 ha2 ha3 hb1 hb2 hb3 hc1 hc2 hc3 hp1 hp2 hp3
  generalize (nrX ay az yb bz cy cz) = n1 at *
  generalize (nrX az ax bz bx cz cx) = n2 at *
  generalize (nrX ax ay bx yb cx cy) = n3 at *
  generalize voV ax ay az bx yb bz cx cy cz px py pz = v at *
  refine vToPlane_0 px py pz ax ay az bx yb bz cx cy cz v _ _ _ _ _ _ n1 n2 n3 0 _ w qv q1 q2 q3 (Lib.hid fun W gl kW hN => ?_)
  have q := vdistance v gl 3 [n1, n2, n3] W hv
    (fun i hi => by
      rcases i with _ | _ | _ | i
      · exact (new_cell hN _).trans rfl
      · exact (new_cell hN _).trans rfl
      · exact (new_cell hN _).trans rfl
      · exact absurd hi (by simp)) (Array.getElem?_eq_some_iff.1 hN).1
    (fun n hn => by
      rcases List.mem_cons.1 hn with rfl | hn
      · exact Nat.le_trans b1 (by decide)
      · rcases List.mem_cons.1 hn with rfl | hn
        · exact Nat.le_trans b2 (by decide)
        · rw [List.mem_singleton.1 hn]; exact Nat.le_trans b3 (by decide)) (by simp) (by simp) h0 (tab_kp hT kW)
  exact q

end Go.Proofs.YtegamkilhgekjaaGreatDoor

/- at, high, and ToSegment at the points of awake, package metrolablaw07. -/
namespace Go.Proofs.YtegamkilhgekjaaGreatDoor
open Go.RowKit
open Go.Lib (nDigits itoa decDigits)

set_option maxRecDepth 100000 in
set_option maxHeartbeats 4000000 in
theorem vat (x y : Int) (w : World) : Calls Tryz.prog 49 #[.int .i64 x, .int .i64 y] w fun e w' => e = .returned (.agg #[.int .i64 x, .int .i64 y]) ∧ Kp [] w w' := by
  have kk : Kp [] w (w.alloc (.cells #[.int .i64 x, .int .i64 y] 49 (0, 0))) := (Kp.refl _ _).alloc _
  go_enter Tryz.func49, Tryz.ntmps49
  go_wp2
  refine bodyPost_ret (v := .agg #[.int .i64 x, .int .i64 y]) (by simp [results, Tryz.results49, go_sem]) rfl ?_
  exact ⟨rfl, kk⟩

set_option maxRecDepth 100000 in
set_option maxHeartbeats 4000000 in
theorem vhigh (x y z : Int) (w : World) : Calls Tryz.prog 54 #[.int .i64 x, .int .i64 y, .int .i64 z] w fun e w' => e = .returned (.agg #[.int .i64 x, .int .i64 y, .int .i64 z]) ∧ Kp [] w w' := by
  have kk : Kp [] w (w.alloc (.cells #[.int .i64 x, .int .i64 y, .int .i64 z] 56 (0, 0))) := (Kp.refl _ _).alloc _
  go_enter Tryz.func54, Tryz.ntmps54
  go_wp2
  refine bodyPost_ret (v := .agg #[.int .i64 x, .int .i64 y, .int .i64 z]) (by simp [results, Tryz.results54, go_sem]) rfl ?_
  exact ⟨rfl, kk⟩

set_option maxRecDepth 100000 in
theorem segment_16 (w : World) (hT : Tab w) : Calls Tryz.prog 46 #[.agg #[.int .i64 9, .int .i64 0], .agg #[.int .i64 0, .int .i64 0], .agg #[.int .i64 5, .int .i64 0]] w fun e w' => e = .returned (.tuple #[.string (S ((9 - 5) * (9 - 5) + (0 - 0) * (0 - 0))), .int .i64 0]) ∧ Kp [] w w' := by
  have qc : Hid (∀ W : World, Calls Tryz.prog 20 #[.slice (some ⟨W.heap.size, 0, none⟩) 3 3] (W.alloc (.cells #[.int .i64 9, .int .i64 0, .int .i64 0, .int .i64 0, .int .i64 5, .int .i64 0] 49 (0, 0))) fun e w' => e = .returned (.int .i64 0) ∧ Kp [] (W.alloc (.cells #[.int .i64 9, .int .i64 0, .int .i64 0, .int .i64 0, .int .i64 5, .int .i64 0] 49 (0, 0))) w') := fun W => by
    have hN := heap_alloc_new W (.cells #[.int .i64 9, .int .i64 0, .int .i64 0, .int .i64 0, .int .i64 5, .int .i64 0] 49 (0, 0))
    have q := vCheck W.heap.size 0 3 (some ⟨W.heap.size, 0, none⟩) [(9, 0), (0, 0), (5, 0)] (W.alloc (.cells #[.int .i64 9, .int .i64 0, .int .i64 0, .int .i64 0, .int .i64 5, .int .i64 0] 49 (0, 0))) (fun i hi => by
      rcases i with _ | _ | _ | i
      · exact ⟨(new_cell hN _).trans rfl, (new_cell hN _).trans rfl⟩
      · exact ⟨(new_cell hN _).trans rfl, (new_cell hN _).trans rfl⟩
      · exact ⟨(new_cell hN _).trans rfl, (new_cell hN _).trans rfl⟩
      · exact absurd hi (by simp)) (fun _ => ⟨rfl, by simp⟩) (by simp)
    rwa [show ckP [(9, 0), (0, 0), (5, 0)] = 0 by decide] at q
  exact vToSegment_2 9 0 0 0 5 0 (5 - 0) (0 - 0) (9 - 0) (0 - 0) ((5 - 0) * (9 - 0) + (0 - 0) * (0 - 0)) (0 - 5) (0 - 0) (9 - 5) (0 - 0) ((0 - 5) * (9 - 5) + (0 - 0) * (0 - 0)) ((9 - 5) * (9 - 5) + (0 - 0) * (0 - 0)) (S ((9 - 5) * (9 - 5) + (0 - 0) * (0 - 0))) w qc
    (Lib.hid fun W => vminus 5 0 0 0 W (by decide) (by decide) (by decide) (by decide)) (Lib.hid fun W => vminus 9 0 0 0 W (by decide) (by decide) (by decide) (by decide)) (Lib.hid fun W => vdot (5 - 0) (0 - 0) (9 - 0) (0 - 0) W (by decide) (by decide) (by decide) (by decide)) (by decide) (Lib.hid fun W => vminus 0 0 5 0 W (by decide) (by decide) (by decide) (by decide)) (Lib.hid fun W => vminus 9 0 5 0 W (by decide) (by decide) (by decide) (by decide)) (Lib.hid fun W => vdot (0 - 5) (0 - 0) (9 - 5) (0 - 0) W (by decide) (by decide) (by decide) (by decide)) (by decide)
    (Lib.hid fun W => square_c 5 0 9 0 W (by decide) (by decide) (by decide) (by decide)) (Lib.hid fun W kW => vwhole (by decide) W (tab_kp hT kW))

end Go.Proofs.YtegamkilhgekjaaGreatDoor

/- awake of package metrolablaw07. -/
namespace Go.Proofs.YtegamkilhgekjaaGreatDoor
open Go.RowKit
open Go.Lib (nDigits itoa decDigits)

theorem l_144_25 : RS ((crV 0 0 4 0 0 3 * crV 0 0 4 0 0 3 : Int) / (sqs [0 - 4, 3 - 0] : Int) : Rat) = ⟨#[49, 52, 52, 47, 50, 53]⟩ := RS_lit (n := 144) (d := 25) (by decide +kernel) (by decide +kernel) (by decide) (l := [49, 52, 52]) (m := [50, 53]) (by simp [itoa, decDigits]) (by simp [itoa, decDigits])
theorem l_1_3 : RS ((voV 1 0 0 0 1 0 0 0 1 0 0 0 * voV 1 0 0 0 1 0 0 0 1 0 0 0 : Int) / (sqs [nrX 0 0 1 0 0 1, nrX 0 1 0 0 1 0, nrX 1 0 0 1 0 0] : Int) : Rat) = ⟨#[49, 47, 51]⟩ := RS_lit (n := 1) (d := 3) (by decide +kernel) (by decide +kernel) (by decide) (l := [49]) (m := [51]) (by simp [itoa, decDigits]) (by simp [itoa, decDigits])
theorem l_16 : S ((9 - 5) * (9 - 5) + (0 - 0) * (0 - 0)) = ⟨#[49, 54]⟩ := S_of (by rw [show ((9 : Int) - 5) * (9 - 5) + (0 - 0) * (0 - 0) = 16 by decide]; simp [itoa, decDigits])

theorem eq_002 (W : World) : (Op.equalIn 10000 58 (.agg #[.int .i64 0, .int .i64 0, .int .i64 2]) (.agg #[.int .i64 0, .int .i64 0, .int .i64 2])).run Tryz.prog W = .ok true W := by
  first
    | kernel_rfl
    | rfl
    | simp [Op.equalIn, go_sem]

set_option maxRecDepth 100000 in
set_option maxHeartbeats 4000000 in
theorem vawake (w : World) (hT : Tab w) : Calls Tryz.prog 13 #[] w fun e w' => e = .returned (.bool true) ∧ Kp [] w w' := by
  have q1 : Hid (∀ W : World, Kp [] w W → Calls Tryz.prog 30 #[.agg #[.int .i64 0, .int .i64 0], .agg #[.int .i64 4, .int .i64 0], .agg #[.int .i64 0, .int .i64 3]] W fun e w' => e = .returned (.tuple #[.int .i64 12, .int .i64 0]) ∧ Kp [] W w') := fun W kW => by
    have q := cross_c 0 0 4 0 0 3 W (by decide)
    rw [show crV 0 0 4 0 0 3 = 12 by decide] at q
    exact q
  have q2 : Hid (∀ W : World, Kp [] w W → Calls Tryz.prog 28 #[.agg #[.int .i64 4, .int .i64 0], .agg #[.int .i64 1, .int .i64 3]] W fun e w' => e = .returned (.tuple #[.int .i64 4, .int .i64 0]) ∧ Kp [] W w') := fun W kW => by
    have q := dot_c 4 0 1 3 W (by decide)
    rw [show (4 : Int) * 1 + 0 * 3 = 4 by decide] at q
    exact q
  have q3 : Hid (∀ W : World, Kp [] w W → Calls Tryz.prog 38 #[.agg #[.int .i64 0, .int .i64 0, .int .i64 0], .agg #[.int .i64 1, .int .i64 0, .int .i64 0], .agg #[.int .i64 0, .int .i64 2, .int .i64 0], .agg #[.int .i64 0, .int .i64 0, .int .i64 3]] W fun e w' => e = .returned (.tuple #[.int .i64 6, .int .i64 0]) ∧ Kp [] W w') := fun W kW => by
    have q := volume_c 0 0 0 1 0 0 0 2 0 0 0 3 W (by decide)
    rw [show voV 0 0 0 1 0 0 0 2 0 0 0 3 = 6 by decide] at q
    exact q
  have q4 : Hid (∀ W : World, Kp [] w W → Calls Tryz.prog 36 #[.agg #[.int .i64 0, .int .i64 0, .int .i64 0], .agg #[.int .i64 1, .int .i64 0, .int .i64 0], .agg #[.int .i64 0, .int .i64 2, .int .i64 0]] W fun e w' => e = .returned (.tuple #[.agg #[.int .i64 0, .int .i64 0, .int .i64 2], .int .i64 0]) ∧ Kp [] W w') := fun W kW => by
    have q := normal_c 0 0 0 1 0 0 0 2 0 W (by decide)
    rw [show nrX 0 0 0 0 2 0 = 0 by decide] at q
    rw [show nrX 0 0 0 1 0 0 = 0 by decide] at q
    rw [show nrX 0 0 1 0 0 2 = 2 by decide] at q
    exact q
  have q5 : Hid (∀ W : World, Kp [] w W → Calls Tryz.prog 44 #[.agg #[.int .i64 0, .int .i64 0], .agg #[.int .i64 4, .int .i64 0], .agg #[.int .i64 0, .int .i64 3]] W fun e w' => e = .returned (.tuple #[.string ⟨#[49, 52, 52, 47, 50, 53]⟩, .int .i64 0]) ∧ Kp [] W w') := fun W kW => by
    have q := toLine_c 0 0 4 0 0 3 W (by decide) (by decide) (tab_kp hT kW)
    rw [l_144_25] at q
    exact q
  have q6 : Hid (∀ W : World, Kp [] w W → Calls Tryz.prog 46 #[.agg #[.int .i64 9, .int .i64 0], .agg #[.int .i64 0, .int .i64 0], .agg #[.int .i64 5, .int .i64 0]] W fun e w' => e = .returned (.tuple #[.string ⟨#[49, 54]⟩, .int .i64 0]) ∧ Kp [] W w') := fun W kW => by
    have q := segment_16 W (tab_kp hT kW)
    rw [l_16] at q
    exact q
  have q7 : Hid (∀ W : World, Kp [] w W → Calls Tryz.prog 42 #[.agg #[.int .i64 0, .int .i64 0, .int .i64 0], .agg #[.int .i64 1, .int .i64 0, .int .i64 0], .agg #[.int .i64 0, .int .i64 1, .int .i64 0], .agg #[.int .i64 0, .int .i64 0, .int .i64 1]] W fun e w' => e = .returned (.tuple #[.string ⟨#[49, 47, 51]⟩, .int .i64 0]) ∧ Kp [] W w') := fun W kW => by
    have q := toPlane_c 1 0 0 0 1 0 0 0 1 0 0 0 W (by decide) (by decide) (tab_kp hT kW)
    rw [l_1_3] at q
    exact q
  have hA : ∀ W : World, (Op.equalIn 10000 58 (.agg #[.int .i64 0, .int .i64 0, .int .i64 2]) (.agg #[.int .i64 0, .int .i64 0, .int .i64 2])).run Tryz.prog W = .ok true W := eq_002
  clear hT
  have kk := Kp.refl [] w
  go_enter Tryz.func13, Tryz.ntmps13
  go_wp2_with (first
      | (go_at_call 49; with_reducible refine (vat _ _ _).mono ?_; rintro e w1 ⟨rfl, k⟩; (try replace s := SpB.kept s k (by simp)); replace kk := kk.trans k; clear k)
      | (go_at_call 54; with_reducible refine (vhigh _ _ _ _).mono ?_; rintro e w1 ⟨rfl, k⟩; (try replace s := SpB.kept s k (by simp)); replace kk := kk.trans k; clear k)
      | (go_at_call 30; with_reducible refine (q1.out _ kk).mono ?_; rintro e w1 ⟨rfl, k⟩; (try replace s := SpB.kept s k (by simp)); replace kk := kk.trans k; clear k)
      | (go_at_call 28; with_reducible refine (q2.out _ kk).mono ?_; rintro e w1 ⟨rfl, k⟩; (try replace s := SpB.kept s k (by simp)); replace kk := kk.trans k; clear k)
      | (go_at_call 38; with_reducible refine (q3.out _ kk).mono ?_; rintro e w1 ⟨rfl, k⟩; (try replace s := SpB.kept s k (by simp)); replace kk := kk.trans k; clear k)
      | (go_at_call 36; with_reducible refine (q4.out _ kk).mono ?_; rintro e w1 ⟨rfl, k⟩; (try replace s := SpB.kept s k (by simp)); replace kk := kk.trans k; clear k; have s := SpB.made 58 w1 0 0 2; have c0 := s.c0; have c1 := s.c1; have c2 := s.c2; have f0 := s.f 0; have f1 := s.f 1; have f2 := s.f 2; replace kk := kk.alloc (.cells #[.int .i64 0, .int .i64 0, .int .i64 2] 58 (0, 0)))
      | (go_at_call 44; with_reducible refine (q5.out _ kk).mono ?_; rintro e w1 ⟨rfl, k⟩; (try replace s := SpB.kept s k (by simp)); replace kk := kk.trans k; clear k)
      | (go_at_call 46; with_reducible refine (q6.out _ kk).mono ?_; rintro e w1 ⟨rfl, k⟩; (try replace s := SpB.kept s k (by simp)); replace kk := kk.trans k; clear k)
      | (go_at_call 42; with_reducible refine (q7.out _ kk).mono ?_; rintro e w1 ⟨rfl, k⟩; (try replace s := SpB.kept s k (by simp)); replace kk := kk.trans k; clear k; have c0 := s.c0; have c1 := s.c1; have c2 := s.c2))
  go_ret
  exact ⟨rfl, kk⟩

end Go.Proofs.YtegamkilhgekjaaGreatDoor
