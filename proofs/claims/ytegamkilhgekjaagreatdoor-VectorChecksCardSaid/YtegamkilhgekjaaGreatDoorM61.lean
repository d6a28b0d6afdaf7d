/- Texts Vec14, Vref1, Vref4, Vec15: each says in its own first comment what it proves. -/
import Derived.Test.YtegamkilhgekjaaGreatDoorM60
import Derived.Test.YtegamkilhgekjaaGreatDoorM55
/- cmp.Compare of ints, Side of package vector. -/
namespace Go.Proofs.YtegamkilhgekjaaGreatDoor
open Go.RowKit
open Go.Lib (nDigits itoa decDigits)

set_option maxRecDepth 100000 in
set_option maxHeartbeats 4000000 in
theorem isnan_i (x : Int) (w : World) : Calls Tryz.prog 121 #[.int .i64 x] w fun e w' => e = .returned (.bool false) ∧ Kp [] w w' := by
  have kk := Kp.refl [] w
  go_enter Tryz.func121, Tryz.ntmps121
  go_wp2
  go_ret
  exact ⟨rfl, kk⟩
/-- how two ints compare -/
def cmI (x y : Int) : Int := if x < y then -1 else if y < x then 1 else 0

set_option maxRecDepth 100000 in
set_option maxHeartbeats 4000000 in
theorem compare_i (x y : Int) (w : World) : Calls Tryz.prog 88 #[.int .i64 x, .int .i64 y] w fun e w' => e = .returned (.int .i64 (cmI x y)) ∧ Kp [] w w' := by
  by_cases h1 : x < y
  · rw [show cmI x y = -1 from if_pos h1]
    go_enter Tryz.func88, Tryz.ntmps88
    go_wp2_with fail
    with_reducible refine (isnan_i _ _).mono ?_
    rintro e w1 ⟨rfl, k1⟩
    go_wp2_with fail
    with_reducible refine (isnan_i _ _).mono ?_
    rintro e w2 ⟨rfl, k2⟩
    go_wp2
    go_ret
    exact ⟨rfl, k1.trans k2⟩
  by_cases h2 : y < x
  · rw [show cmI x y = 1 from (if_neg h1).trans (if_pos h2)]
    go_enter Tryz.func88, Tryz.ntmps88
    go_wp2_with fail
    with_reducible refine (isnan_i _ _).mono ?_
    rintro e w1 ⟨rfl, k1⟩
    go_wp2_with fail
    with_reducible refine (isnan_i _ _).mono ?_
    rintro e w2 ⟨rfl, k2⟩
    go_wp2
    go_ret
    exact ⟨rfl, k1.trans k2⟩
  · rw [show cmI x y = 0 from (if_neg h1).trans (if_neg h2)]
    go_enter Tryz.func88, Tryz.ntmps88
    go_wp2_with fail
    with_reducible refine (isnan_i _ _).mono ?_
    rintro e w1 ⟨rfl, k1⟩
    go_wp2_with fail
    with_reducible refine (isnan_i _ _).mono ?_
    rintro e w2 ⟨rfl, k2⟩
    go_wp2
    go_ret
    exact ⟨rfl, k1.trans k2⟩

end Go.Proofs.YtegamkilhgekjaaGreatDoor

/- The reference of layer 7: in, Right, Minus, Times, Turn. -/
namespace Go.Proofs.YtegamkilhgekjaaGreatDoor
open Go.RowKit
open Go.Lib (nDigits itoa decDigits)

set_option maxRecDepth 100000 in
theorem rin7 (z : Int) (w : World) : Calls Tryz.prog 119 #[.int .i64 z] w fun e w' => e = .returned (.bool (inB z)) ∧ Kp [] w w' := by
  by_cases h1 : -100000 ≤ z
  · by_cases h2 : z ≤ 100000
    · rw [(inB_iff z).2 ⟨h1, h2⟩]
      go_enter Tryz.func119, Tryz.ntmps119
      go_wp2
      go_ret
      exact ⟨rfl, Kp.refl _ _⟩
    · have e : inB z = false := by unfold inB; rw [decide_eq_false h2, Bool.and_false]
      rw [e]
      go_enter Tryz.func119, Tryz.ntmps119
      go_wp2
      go_ret
      exact ⟨rfl, Kp.refl _ _⟩
  · have e : inB z = false := by unfold inB; rw [decide_eq_false h1, Bool.false_and]
    rw [e]
    go_enter Tryz.func119, Tryz.ntmps119
    go_wp2
    go_ret
    exact ⟨rfl, Kp.refl _ _⟩

set_option maxRecDepth 100000 in
theorem rRight7 (x y : Int) (w : World) : Calls Tryz.prog 72 #[.agg #[.int .i64 x, .int .i64 y]] w fun e w' => e = .returned (.bool (inP (x, y))) ∧ Kp [] w w' := by
  have s := PtB.made w x y
  have k0 : Kp [] w (w.alloc (.cells #[.int .i64 x, .int .i64 y] 49 (0, 0))) := (Kp.refl _ _).alloc _
  have c0 := s.c0
  have q1 := Lib.hid (rin7 x)
  have q2 := Lib.hid (rin7 y)
  have e : inP (x, y) = (inB x && inB y) := rfl
  rw [e]
  cases h1 : inB x with
  | false =>
    rw [h1] at q1
    clear s q2 h1 e
    go_enter Tryz.func72, Tryz.ntmps72
    go_wp2_with fail
    with_reducible refine (q1.out _).mono ?_
    rintro e w1 ⟨rfl, k⟩
    go_wp2
    go_ret
    exact ⟨rfl, k0.trans k⟩
  | true =>
    rw [h1] at q1
    generalize inB y = b at *
    clear h1 e
    go_enter Tryz.func72, Tryz.ntmps72
    go_wp2_with fail
    with_reducible refine (q1.out _).mono ?_
    rintro e w1 ⟨rfl, k⟩
    have c1 := (s.kept k (by simp)).c1
    have kk := k0.trans k
    clear s k c0 k0
    go_wp2_with fail
    with_reducible refine (q2.out _).mono ?_
    rintro e w2 ⟨rfl, k⟩
    go_wp2
    go_ret
    exact ⟨rfl, kk.trans k⟩

set_option maxRecDepth 100000 in
set_option maxHeartbeats 4000000 in
theorem rMinus7 (ax ay bx yb : Int) (w : World) (h1 : ax.natAbs ≤ 1000000) (h2 : ay.natAbs ≤ 1000000) (h3 : bx.natAbs ≤ 1000000) (h4 : yb.natAbs ≤ 1000000) :
    Calls Tryz.prog 120 #[.agg #[.int .i64 ax, .int .i64 ay], .agg #[.int .i64 bx, .int .i64 yb]] w fun e w' => e = .returned (.agg #[.int .i64 (ax - bx), .int .i64 (ay - yb)]) ∧ Kp [] w w' := by
  have b1 : -1000000 ≤ ax ∧ ax ≤ 1000000 := by omega
  have b2 : -1000000 ≤ ay ∧ ay ≤ 1000000 := by omega
  have b3 : -1000000 ≤ bx ∧ bx ≤ 1000000 := by omega
  have b4 : -1000000 ≤ yb ∧ yb ≤ 1000000 := by omega
  obtain ⟨b11, b12⟩ := b1
  obtain ⟨b21, b22⟩ := b2
  obtain ⟨b31, b32⟩ := b3
  obtain ⟨b41, b42⟩ := b4
  clear h1 h2 h3 h4
  have s0 := (PtB.made w ax ay).alloc (.cells #[.int .i64 bx, .int .i64 yb] 49 (0, 0))
  have s1 := PtB.made (w.alloc (.cells #[.int .i64 ax, .int .i64 ay] 49 (0, 0))) bx yb
  simp only [World.size_alloc] at s1
  have c0 := (s0.alloc (.cells #[.int .i64 0, .int .i64 0] 49 (0, 0))).c0
  have c1 := (s0.alloc (.cells #[.int .i64 0, .int .i64 0] 49 (0, 0))).c1
  have d0 := (s1.alloc (.cells #[.int .i64 0, .int .i64 0] 49 (0, 0))).c0
  have d1 := (s1.alloc (.cells #[.int .i64 0, .int .i64 0] 49 (0, 0))).c1
  have kk : Kp [] w (((w.alloc (.cells #[.int .i64 ax, .int .i64 ay] 49 (0, 0))).alloc (.cells #[.int .i64 bx, .int .i64 yb] 49 (0, 0))).alloc (.cells #[.int .i64 (ax - bx), .int .i64 (ay - yb)] 49 (0, 0))) := (((Kp.refl [] w).alloc _).alloc _).alloc _
  clear s0 s1
  go_enter Tryz.func120, Tryz.ntmps120
  go_wp2
  refine bodyPost_ret (v := .agg #[.int .i64 (ax - bx), .int .i64 (ay - yb)]) (by simp [results, Tryz.results120, go_sem]) rfl ?_
  exact ⟨rfl, kk⟩

set_option maxRecDepth 100000 in
set_option maxHeartbeats 4000000 in
theorem rTurn7 (ax ay bx yb : Int) (w : World) (h1 : ax.natAbs ≤ 1000000) (h2 : ay.natAbs ≤ 1000000) (h3 : bx.natAbs ≤ 1000000) (h4 : yb.natAbs ≤ 1000000) :
    Calls Tryz.prog 114 #[.agg #[.int .i64 ax, .int .i64 ay], .agg #[.int .i64 bx, .int .i64 yb]] w fun e w' => e = .returned (.int .i64 (ax * yb - ay * bx)) ∧ Kp [] w w' := by
  have m1 := mul_bd h1 h4
  have m2 := mul_bd h2 h3
  have b1 : -1000000000000 ≤ ax * yb ∧ ax * yb ≤ 1000000000000 := by omega
  have b2 : -1000000000000 ≤ ay * bx ∧ ay * bx ≤ 1000000000000 := by omega
  obtain ⟨b11, b12⟩ := b1
  obtain ⟨b21, b22⟩ := b2
  have kk : Kp [] w ((w.alloc (.cells #[.int .i64 ax, .int .i64 ay] 49 (0, 0))).alloc (.cells #[.int .i64 bx, .int .i64 yb] 49 (0, 0))) := ((Kp.refl _ _).alloc _).alloc _
  clear h1 h2 h3 h4 m1 m2
  have s0 := (PtB.made w ax ay).alloc (.cells #[.int .i64 bx, .int .i64 yb] 49 (0, 0))
  have s1 := PtB.made (w.alloc (.cells #[.int .i64 ax, .int .i64 ay] 49 (0, 0))) bx yb
  simp only [World.size_alloc] at s1
  have c0 := s0.c0
  have c1 := s0.c1
  have d0 := s1.c0
  have d1 := s1.c1
  clear s0 s1
  go_enter Tryz.func114, Tryz.ntmps114
  go_wp2
  go_ret
  exact ⟨rfl, kk⟩

end Go.Proofs.YtegamkilhgekjaaGreatDoor

/- The reference of layer 7: Left, Far. -/
namespace Go.Proofs.YtegamkilhgekjaaGreatDoor
open Go.RowKit
open Go.Lib (nDigits itoa decDigits)

def vrf87_s : RSt := ⟨8, 14, 3, fun i => ([7, 8, 9, 10, 11, 12, 13, 6] : List Nat).getD i 0, fun i => ([0, 0, 1, 0, 0, 1, 1, 0] : List Nat).getD i 0, fun i => ([0, 0, 0, 0, 0, 1, 2, 0] : List Nat).getD i 0, fun i => ([8, 8, 8, 8, 8, 8, 7, 0, 1, 2, 3, 4, 5, 6, 8] : List Nat).getD i 8, fun i => ([2, 5, 6] : List Nat).getD i 0, fun _ => false, fun _ => true, fun _ => 0, fun _ => false⟩
def vrf87_y : RSy := ⟨vrf87_s, fun i => ([.at 3, .at 4, .at 5, .at 6, .at 4, .at 7, .at 8, .at 8] : List SV).getD i .un, [(3, .at 1), (4, .at 0), (5, .at 2)], fun i => ([false, false, true, false, false, true, true, false] : List Bool).getD i false⟩
def vrf87_ca : List (Nat × Nat × List SV) := [(2, 120, [.at 3, .at 4]), (5, 120, [.at 6, .at 4]), (6, 114, [.at 5, .at 7])]
theorem vrf87_ok : reflOk (opsOf 1 Tryz.f87) vrf87_y [0, 1, 3, 4] vrf87_ca [] [] = true := by kernel_rfl

set_option maxRecDepth 100000 in
set_option maxHeartbeats 4000000 in
theorem rLeft7 (ax ay bx yb cx yc ux uy vx vy v : Int) (w : World) (q1 : Hid (∀ W : World, Calls Tryz.prog 120 #[.agg #[.int .i64 bx, .int .i64 yb], .agg #[.int .i64 ax, .int .i64 ay]] W fun e w' => e = .returned (.agg #[.int .i64 ux, .int .i64 uy]) ∧ Kp [] W w'))
    (q2 : Hid (∀ W : World, Calls Tryz.prog 120 #[.agg #[.int .i64 cx, .int .i64 yc], .agg #[.int .i64 ax, .int .i64 ay]] W fun e w' => e = .returned (.agg #[.int .i64 vx, .int .i64 vy]) ∧ Kp [] W w'))
    (q3 : Hid (∀ W : World, Calls Tryz.prog 114 #[.agg #[.int .i64 ux, .int .i64 uy], .agg #[.int .i64 vx, .int .i64 vy]] W fun e w' => e = .returned (.int .i64 v) ∧ Kp [] W w')) :
    Calls Tryz.prog 87 #[.agg #[.int .i64 ax, .int .i64 ay], .agg #[.int .i64 bx, .int .i64 yb], .agg #[.int .i64 cx, .int .i64 yc]] w fun e w' => e = .returned (.int .i64 v) ∧ Kp [] w w' := by
  have sa := PtB.made w ax ay
  replace sa := sa.alloc (.cells #[.int .i64 bx, .int .i64 yb] 49 (0, 0))
  replace sa := sa.alloc (.cells #[.int .i64 cx, .int .i64 yc] 49 (0, 0))
  have sb := PtB.made (w.alloc (.cells #[.int .i64 ax, .int .i64 ay] 49 (0, 0))) bx yb
  replace sb := sb.alloc (.cells #[.int .i64 cx, .int .i64 yc] 49 (0, 0))
  have sc := PtB.made ((w.alloc (.cells #[.int .i64 ax, .int .i64 ay] 49 (0, 0))).alloc (.cells #[.int .i64 bx, .int .i64 yb] 49 (0, 0))) cx yc
  simp only [World.size_alloc] at *
  have xa0 := sa.c0
  have xa1 := sa.c1
  have xb0 := sb.c0
  have xb1 := sb.c1
  have xc0 := sc.c0
  have xc1 := sc.c1
  have kk : Kp [] w (((w.alloc (.cells #[.int .i64 ax, .int .i64 ay] 49 (0, 0))).alloc (.cells #[.int .i64 bx, .int .i64 yb] 49 (0, 0))).alloc (.cells #[.int .i64 cx, .int .i64 yc] 49 (0, 0))) := (((Kp.refl _ _).alloc _).alloc _).alloc _
  go_enter Tryz.func87, Tryz.ntmps87
  go_wp2_with fail
  rw [frame_lit]
  refine reg_refl vrf87_y (fun k => ([.pointer (some ⟨w.heap.size + 1, 0, none⟩), .pointer (some ⟨w.heap.size, 0, none⟩), .pointer (some ⟨w.heap.size + 1 + 1, 0, none⟩), .agg #[.int .i64 bx, .int .i64 yb], .agg #[.int .i64 ax, .int .i64 ay], .agg #[.int .i64 ux, .int .i64 uy], .agg #[.int .i64 cx, .int .i64 yc], .agg #[.int .i64 vx, .int .i64 vy], .int .i64 v] : List Value).getD k undef) [] (fun _ _ _ => True) (opsOf 1 Tryz.f87) [0, 1, 3, 4] vrf87_ca [] [] (by kernel_rfl) (by kernel_rfl) vrf87_ok ⟨rfl, rfl, rfl, trivial⟩ ?sp ?ca ?cx (by decide) ?fr (fun _ _ _ _ h _ => h) ?rest
  case sp =>
    refine ⟨?_, ?_, ?_, ?_, trivial⟩
    · intro T wz H o ho; have he : o.op = .load 49 (.tmp 4) := Option.some.inj ((congrArg (fun z => z.map Oper.op) ho).symm.trans (show ((opsOf 1 Tryz.f87)[0]?).map Oper.op = some (.load 49 (.tmp 4)) by kernel_rfl)); exact op_ldP he (H.ev (.tmp 4) (.at 0) (by kernel_rfl)) (PtB.kept (L := []) (show PtB (World.drew (((w.alloc (.cells #[.int .i64 ax, .int .i64 ay] 49 (0, 0))).alloc (.cells #[.int .i64 bx, .int .i64 yb] 49 (0, 0))).alloc (.cells #[.int .i64 cx, .int .i64 yc] 49 (0, 0)))) _ _ _ from sb) H.kp (by simp))
    · intro T wz H o ho; have he : o.op = .load 49 (.tmp 3) := Option.some.inj ((congrArg (fun z => z.map Oper.op) ho).symm.trans (show ((opsOf 1 Tryz.f87)[1]?).map Oper.op = some (.load 49 (.tmp 3)) by kernel_rfl)); exact op_ldP he (H.ev (.tmp 3) (.at 1) (by kernel_rfl)) (PtB.kept (L := []) (show PtB (World.drew (((w.alloc (.cells #[.int .i64 ax, .int .i64 ay] 49 (0, 0))).alloc (.cells #[.int .i64 bx, .int .i64 yb] 49 (0, 0))).alloc (.cells #[.int .i64 cx, .int .i64 yc] 49 (0, 0)))) _ _ _ from sa) H.kp (by simp))
    · intro T wz H o ho; have he : o.op = .load 49 (.tmp 5) := Option.some.inj ((congrArg (fun z => z.map Oper.op) ho).symm.trans (show ((opsOf 1 Tryz.f87)[3]?).map Oper.op = some (.load 49 (.tmp 5)) by kernel_rfl)); exact op_ldP he (H.ev (.tmp 5) (.at 2) (by kernel_rfl)) (PtB.kept (L := []) (show PtB (World.drew (((w.alloc (.cells #[.int .i64 ax, .int .i64 ay] 49 (0, 0))).alloc (.cells #[.int .i64 bx, .int .i64 yb] 49 (0, 0))).alloc (.cells #[.int .i64 cx, .int .i64 yc] 49 (0, 0)))) _ _ _ from sc) H.kp (by simp))
    · intro T wz H o ho; have he : o.op = .load 49 (.tmp 3) := Option.some.inj ((congrArg (fun z => z.map Oper.op) ho).symm.trans (show ((opsOf 1 Tryz.f87)[4]?).map Oper.op = some (.load 49 (.tmp 3)) by kernel_rfl)); exact op_ldP he (H.ev (.tmp 3) (.at 1) (by kernel_rfl)) (PtB.kept (L := []) (show PtB (World.drew (((w.alloc (.cells #[.int .i64 ax, .int .i64 ay] 49 (0, 0))).alloc (.cells #[.int .i64 bx, .int .i64 yb] 49 (0, 0))).alloc (.cells #[.int .i64 cx, .int .i64 yc] 49 (0, 0)))) _ _ _ from sa) H.kp (by simp))
  case ca =>
    refine ⟨?_, ?_, ?_, trivial⟩
    · exact ⟨(enters_of Tryz.func120 (by kernel_rfl) rfl), fun wz hk => (q1.out wz).mono fun x w2 ⟨h1, h2⟩ => ⟨_, h1, h2, fun _ => rfl⟩⟩
    · exact ⟨(enters_of Tryz.func120 (by kernel_rfl) rfl), fun wz hk => (q2.out wz).mono fun x w2 ⟨h1, h2⟩ => ⟨_, h1, h2, fun _ => rfl⟩⟩
    · exact ⟨(enters_of Tryz.func114 (by kernel_rfl) rfl), fun wz hk => (q3.out wz).mono fun x w2 ⟨h1, h2⟩ => ⟨_, h1, h2, fun _ => rfl⟩⟩
  case cx =>
    exact trivial
  case fr =>
    exact trivial
  case rest =>
    intro T w3 hout hval k hF
    rw [show frameOf vrf87_y.st.N T = (⟨#[T 0, T 1, T 2, T 3, T 4, T 5, T 6, T 7, T 8, T 9, T 10, T 11, T 12, T 13], []⟩ : Act) from frame_list 14 T]
    rw [show T 6 = .int .i64 v from hval 7 (by decide : 7 < 8) (.inl rfl)]
    replace kk := kk.trans k
    clear hout hval hF k q1 q2 q3 sa xa0 xa1 sb xb0 xb1 sc xc0 xc1
    go_wp2
    go_ret
    exact ⟨rfl, kk⟩

end Go.Proofs.YtegamkilhgekjaaGreatDoor

/- Dot, Cross, Side, Square of package vector and of the reference of layer 7 answer alike. -/
namespace Go.Proofs.YtegamkilhgekjaaGreatDoor
open Go.RowKit
open Go.Lib (nDigits itoa decDigits)

theorem rright_c {x y : Int} {b : Bool} (h : inP (x, y) = b) : Hid (∀ W : World, Calls Tryz.prog 72 #[.agg #[.int .i64 x, .int .i64 y]] W fun e w' => e = .returned (.bool b) ∧ Kp [] W w') := fun W => by
  have q := rRight7 x y W
  rwa [h] at q

section
variable (ax ay bx yb : Int) (w : World)
end
section
variable (ax ay bx yb cx yc : Int) (w : World)
theorem left_r (ha1 : ax.natAbs ≤ 100000) (ha2 : ay.natAbs ≤ 100000) (hb1 : bx.natAbs ≤ 100000) (hb2 : yb.natAbs ≤ 100000) (hc1 : cx.natAbs ≤ 100000) (hc2 : yc.natAbs ≤ 100000) :
    Calls Tryz.prog 87 #[.agg #[.int .i64 ax, .int .i64 ay], .agg #[.int .i64 bx, .int .i64 yb], .agg #[.int .i64 cx, .int .i64 yc]] w fun e w' => e = .returned (.int .i64 (crV ax ay bx yb cx yc)) ∧ Kp [] w w' :=
  rLeft7 ax ay bx yb cx yc (bx - ax) (yb - ay) (cx - ax) (yc - ay) _ w (Lib.hid fun W => rMinus7 bx yb ax ay W (by omega) (by omega) (by omega) (by omega)) (Lib.hid fun W => rMinus7 cx yc ax ay W (by omega) (by omega) (by omega) (by omega)) (Lib.hid fun W => rTurn7 _ _ _ _ W (by omega) (by omega) (by omega) (by omega))
end

end Go.Proofs.YtegamkilhgekjaaGreatDoor
