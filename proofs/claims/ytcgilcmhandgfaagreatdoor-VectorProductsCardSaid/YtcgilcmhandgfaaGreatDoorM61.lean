/- Texts Vec9: each says in its own first comment what it proves. -/
import Derived.Test.YtcgilcmhandgfaaGreatDoorM60
/- ToSegment of package vector. -/
namespace Go.Proofs.YtcgilcmhandgfaaGreatDoor
open Go.RowKit
open Go.Lib (nDigits itoa decDigits)

theorem op_leq {a : Act} {w : World} {o : Oper} {x : Operand} {v : Int} {b : Bool} (h : o.op = .binOp .leq 3 x (.const (.int .i64 0)) 3) (hx : a.eval x = .int .i64 v) (hb : decide (v ≤ 0) = b) :
    (execOp a.eval o).run Tryz.prog w = .ok (.value (.bool b)) w := by
  have hc : a.eval (.const (.int .i64 0)) = .int .i64 0 := rfl
  subst hb
  generalize a.eval = r at *
  simp [execOp, h, hx, hc, go_sem]

def vsg4t_s : RSt := ⟨9, 49, 3, fun i => ([18, 19, 20, 21, 22, 23, 24, 25, 17] : List Nat).getD i 0, fun i => ([0, 0, 1, 0, 0, 1, 1, 0, 0] : List Nat).getD i 0, fun i => ([0, 0, 0, 0, 0, 1, 2, 0, 0] : List Nat).getD i 0, fun i => ([9, 9, 9, 9, 9, 9, 9, 9, 9, 9, 9, 9, 9, 9, 9, 9, 9, 8, 0, 1, 2, 3, 4, 5, 6, 7, 9, 9, 9, 9, 9, 9, 9, 9, 9, 9, 9, 9, 9, 9, 9, 9, 9, 9, 9, 9, 9, 9, 9, 9] : List Nat).getD i 9, fun i => ([2, 5, 6] : List Nat).getD i 0, fun _ => false, fun _ => true, fun _ => 0, fun _ => false⟩
def vsg4t_y : RSy := ⟨vsg4t_s, fun i => ([.at 4, .at 5, .at 6, .at 7, .at 5, .at 8, .at 3, .bool true, .bool true] : List SV).getD i .un, [(3, .at 2), (4, .at 1), (5, .at 0)], fun i => ([false, false, true, false, false, true, true, false, false] : List Bool).getD i false⟩
def vsg4t_ca : List (Nat × Nat × List SV) := [(2, 62, [.at 4, .at 5]), (5, 62, [.at 7, .at 5]), (6, 82, [.at 6, .at 8])]
theorem vsg4t_ok : reflOk (opsOf 4 Tryz.f46) vsg4t_y [0, 1, 3, 4, 7] vsg4t_ca [] [] = true := by kernel_rfl

def vsg4f_s : RSt := ⟨9, 49, 3, fun i => ([18, 19, 20, 21, 22, 23, 24, 25, 17] : List Nat).getD i 0, fun i => ([0, 0, 1, 0, 0, 1, 1, 0, 0] : List Nat).getD i 0, fun i => ([0, 0, 0, 0, 0, 1, 2, 0, 0] : List Nat).getD i 0, fun i => ([9, 9, 9, 9, 9, 9, 9, 9, 9, 9, 9, 9, 9, 9, 9, 9, 9, 8, 0, 1, 2, 3, 4, 5, 6, 7, 9, 9, 9, 9, 9, 9, 9, 9, 9, 9, 9, 9, 9, 9, 9, 9, 9, 9, 9, 9, 9, 9, 9, 9] : List Nat).getD i 9, fun i => ([2, 5, 6] : List Nat).getD i 0, fun _ => false, fun _ => true, fun _ => 0, fun _ => false⟩
def vsg4f_y : RSy := ⟨vsg4f_s, fun i => ([.at 4, .at 5, .at 6, .at 7, .at 5, .at 8, .at 3, .bool false, .bool false] : List SV).getD i .un, [(3, .at 2), (4, .at 1), (5, .at 0)], fun i => ([false, false, true, false, false, true, true, false, false] : List Bool).getD i false⟩
def vsg4f_ca : List (Nat × Nat × List SV) := [(2, 62, [.at 4, .at 5]), (5, 62, [.at 7, .at 5]), (6, 82, [.at 6, .at 8])]
theorem vsg4f_ok : reflOk (opsOf 4 Tryz.f46) vsg4f_y [0, 1, 3, 4, 7] vsg4f_ca [] [] = true := by kernel_rfl

def vsg6t_s : RSt := ⟨9, 49, 3, fun i => ([31, 32, 33, 34, 35, 36, 37, 38, 30] : List Nat).getD i 0, fun i => ([0, 0, 1, 0, 0, 1, 1, 0, 0] : List Nat).getD i 0, fun i => ([0, 0, 0, 0, 0, 1, 2, 0, 0] : List Nat).getD i 0, fun i => ([9, 9, 9, 9, 9, 9, 9, 9, 9, 9, 9, 9, 9, 9, 9, 9, 9, 9, 9, 9, 9, 9, 9, 9, 9, 9, 9, 9, 9, 9, 8, 0, 1, 2, 3, 4, 5, 6, 7, 9, 9, 9, 9, 9, 9, 9, 9, 9, 9, 9] : List Nat).getD i 9, fun i => ([2, 5, 6] : List Nat).getD i 0, fun _ => false, fun _ => true, fun _ => 0, fun _ => false⟩
def vsg6t_y : RSy := ⟨vsg6t_s, fun i => ([.at 4, .at 5, .at 6, .at 7, .at 5, .at 8, .at 3, .bool true, .bool true] : List SV).getD i .un, [(3, .at 2), (4, .at 0), (5, .at 1)], fun i => ([false, false, true, false, false, true, true, false, false] : List Bool).getD i false⟩
def vsg6t_ca : List (Nat × Nat × List SV) := [(2, 62, [.at 4, .at 5]), (5, 62, [.at 7, .at 5]), (6, 82, [.at 6, .at 8])]
theorem vsg6t_ok : reflOk (opsOf 6 Tryz.f46) vsg6t_y [0, 1, 3, 4, 7] vsg6t_ca [] [] = true := by kernel_rfl

def vsg6f_s : RSt := ⟨9, 49, 3, fun i => ([31, 32, 33, 34, 35, 36, 37, 38, 30] : List Nat).getD i 0, fun i => ([0, 0, 1, 0, 0, 1, 1, 0, 0] : List Nat).getD i 0, fun i => ([0, 0, 0, 0, 0, 1, 2, 0, 0] : List Nat).getD i 0, fun i => ([9, 9, 9, 9, 9, 9, 9, 9, 9, 9, 9, 9, 9, 9, 9, 9, 9, 9, 9, 9, 9, 9, 9, 9, 9, 9, 9, 9, 9, 9, 8, 0, 1, 2, 3, 4, 5, 6, 7, 9, 9, 9, 9, 9, 9, 9, 9, 9, 9, 9] : List Nat).getD i 9, fun i => ([2, 5, 6] : List Nat).getD i 0, fun _ => false, fun _ => true, fun _ => 0, fun _ => false⟩
def vsg6f_y : RSy := ⟨vsg6f_s, fun i => ([.at 4, .at 5, .at 6, .at 7, .at 5, .at 8, .at 3, .bool false, .bool false] : List SV).getD i .un, [(3, .at 2), (4, .at 0), (5, .at 1)], fun i => ([false, false, true, false, false, true, true, false, false] : List Bool).getD i false⟩
def vsg6f_ca : List (Nat × Nat × List SV) := [(2, 62, [.at 4, .at 5]), (5, 62, [.at 7, .at 5]), (6, 82, [.at 6, .at 8])]
theorem vsg6f_ok : reflOk (opsOf 6 Tryz.f46) vsg6f_y [0, 1, 3, 4, 7] vsg6f_ca [] [] = true := by kernel_rfl

set_option maxRecDepth 100000 in
set_option maxHeartbeats 4000000 in
theorem vToSegment_e (px py ax ay bx yb E : Int) (w : World)
    (he : (E != 0) = true)
    (qc : Hid (∀ W : World, Calls Tryz.prog 20 #[.slice (some ⟨W.heap.size, 0, none⟩) 3 3] (W.alloc (.cells #[.int .i64 px, .int .i64 py, .int .i64 ax, .int .i64 ay, .int .i64 bx, .int .i64 yb] 49 (0, 0))) fun e w' => e = .returned (.int .i64 E) ∧ Kp [] (W.alloc (.cells #[.int .i64 px, .int .i64 py, .int .i64 ax, .int .i64 ay, .int .i64 bx, .int .i64 yb] 49 (0, 0))) w')) :
    Calls Tryz.prog 46 #[.agg #[.int .i64 px, .int .i64 py], .agg #[.int .i64 ax, .int .i64 ay], .agg #[.int .i64 bx, .int .i64 yb]] w fun e w' => e = .returned (.tuple #[.string ⟨#[]⟩, .int .i64 E]) ∧ Kp [] w w' := by
  have sp0 := PtB.made w px py
  have sp : PtB (((w.alloc (.cells #[.int .i64 px, .int .i64 py] 49 (0, 0))).alloc (.cells #[.int .i64 ax, .int .i64 ay] 49 (0, 0))).alloc (.cells #[.int .i64 bx, .int .i64 yb] 49 (0, 0))) (w.heap.size) px py := ((sp0).alloc (.cells #[.int .i64 ax, .int .i64 ay] 49 (0, 0))).alloc (.cells #[.int .i64 bx, .int .i64 yb] 49 (0, 0))
  have sa0 := PtB.made (w.alloc (.cells #[.int .i64 px, .int .i64 py] 49 (0, 0))) ax ay
  simp only [World.size_alloc] at sa0
  have sa : PtB (((w.alloc (.cells #[.int .i64 px, .int .i64 py] 49 (0, 0))).alloc (.cells #[.int .i64 ax, .int .i64 ay] 49 (0, 0))).alloc (.cells #[.int .i64 bx, .int .i64 yb] 49 (0, 0))) (w.heap.size + 1) ax ay := (sa0).alloc (.cells #[.int .i64 bx, .int .i64 yb] 49 (0, 0))
  have sb0 := PtB.made ((w.alloc (.cells #[.int .i64 px, .int .i64 py] 49 (0, 0))).alloc (.cells #[.int .i64 ax, .int .i64 ay] 49 (0, 0))) bx yb
  simp only [World.size_alloc] at sb0
  have sb : PtB (((w.alloc (.cells #[.int .i64 px, .int .i64 py] 49 (0, 0))).alloc (.cells #[.int .i64 ax, .int .i64 ay] 49 (0, 0))).alloc (.cells #[.int .i64 bx, .int .i64 yb] 49 (0, 0))) (w.heap.size + 1 + 1) bx yb := sb0
  have k0 : Kp [] w (((w.alloc (.cells #[.int .i64 px, .int .i64 py] 49 (0, 0))).alloc (.cells #[.int .i64 ax, .int .i64 ay] 49 (0, 0))).alloc (.cells #[.int .i64 bx, .int .i64 yb] 49 (0, 0))) := (((Kp.refl _ _).alloc _).alloc _).alloc _
  have xp0 := sp.c0
  have xp1 := sp.c1
  have xa0 := sa.c0
  have xa1 := sa.c1
  have xb0 := sb.c0
  have xb1 := sb.c1
  have qq := Lib.hid (qc.out (((w.alloc (.cells #[.int .i64 px, .int .i64 py] 49 (0, 0))).alloc (.cells #[.int .i64 ax, .int .i64 ay] 49 (0, 0))).alloc (.cells #[.int .i64 bx, .int .i64 yb] 49 (0, 0))))
  simp only [World.size_alloc] at qq
  replace sp := sp.alloc (.cells #[.int .i64 px, .int .i64 py, .int .i64 ax, .int .i64 ay, .int .i64 bx, .int .i64 yb] 49 (0, 0))
  replace sa := sa.alloc (.cells #[.int .i64 px, .int .i64 py, .int .i64 ax, .int .i64 ay, .int .i64 bx, .int .i64 yb] 49 (0, 0))
  replace sb := sb.alloc (.cells #[.int .i64 px, .int .i64 py, .int .i64 ax, .int .i64 ay, .int .i64 bx, .int .i64 yb] 49 (0, 0))
  replace k0 := k0.alloc (.cells #[.int .i64 px, .int .i64 py, .int .i64 ax, .int .i64 ay, .int .i64 bx, .int .i64 yb] 49 (0, 0))
  clear qc sp0 sa0 sb0
  go_enter Tryz.func46, Tryz.ntmps46
  go_wp2_with (refine wpList_stepN rfl (op_bsP3 rfl rfl rfl rfl) (by simp only [Act.put, World.size_alloc, List.setIfInBounds_toArray, List.set_cons_succ, List.set_cons_zero]; rfl) ?_)
  with_reducible refine qq.out.mono ?_
  rintro e w1 ⟨rfl, k⟩
  have kk := k0.trans k
  replace sp := sp.kept k (by simp)
  replace sa := sa.kept k (by simp)
  replace sb := sb.kept k (by simp)
  clear k k0 qq xp0 xp1 xa0 xa1 xb0 xb1
  clear sp sa sb
  go_wp2
  go_ret2
  exact ⟨rfl, kk⟩

set_option maxRecDepth 100000 in
set_option maxHeartbeats 4000000 in
theorem vToSegment_1 (px py ax ay bx yb u1x u1y u2x u2y d12 s : Int) (R : ByteArray) (w : World)
    (qc : Hid (∀ W : World, Calls Tryz.prog 20 #[.slice (some ⟨W.heap.size, 0, none⟩) 3 3] (W.alloc (.cells #[.int .i64 px, .int .i64 py, .int .i64 ax, .int .i64 ay, .int .i64 bx, .int .i64 yb] 49 (0, 0))) fun e w' => e = .returned (.int .i64 0) ∧ Kp [] (W.alloc (.cells #[.int .i64 px, .int .i64 py, .int .i64 ax, .int .i64 ay, .int .i64 bx, .int .i64 yb] 49 (0, 0))) w'))
    (q1 : Hid (∀ W : World, Calls Tryz.prog 62 #[.agg #[.int .i64 bx, .int .i64 yb], .agg #[.int .i64 ax, .int .i64 ay]] W fun e w' => e = .returned (.agg #[.int .i64 u1x, .int .i64 u1y]) ∧ Kp [] W w'))
    (q2 : Hid (∀ W : World, Calls Tryz.prog 62 #[.agg #[.int .i64 px, .int .i64 py], .agg #[.int .i64 ax, .int .i64 ay]] W fun e w' => e = .returned (.agg #[.int .i64 u2x, .int .i64 u2y]) ∧ Kp [] W w'))
    (qd12 : Hid (∀ W : World, Calls Tryz.prog 82 #[.agg #[.int .i64 u1x, .int .i64 u1y], .agg #[.int .i64 u2x, .int .i64 u2y]] W fun e w' => e = .returned (.int .i64 d12) ∧ Kp [] W w'))
    (hd12 : decide (d12 ≤ 0) = true)
    (qs : Hid (∀ W : World, Calls Tryz.prog 91 #[.agg #[.int .i64 ax, .int .i64 ay], .agg #[.int .i64 px, .int .i64 py]] W fun e w' => e = .returned (.int .i64 s) ∧ Kp [] W w'))
    (qw : Hid (∀ W : World, Kp [] w W → Calls Tryz.prog 103 #[.int .i64 s] W fun e w' => e = .returned (.string R) ∧ Kp [] W w')) :
    Calls Tryz.prog 46 #[.agg #[.int .i64 px, .int .i64 py], .agg #[.int .i64 ax, .int .i64 ay], .agg #[.int .i64 bx, .int .i64 yb]] w fun e w' => e = .returned (.tuple #[.string R, .int .i64 0]) ∧ Kp [] w w' := by
  have sp0 := PtB.made w px py
  have sp : PtB (((w.alloc (.cells #[.int .i64 px, .int .i64 py] 49 (0, 0))).alloc (.cells #[.int .i64 ax, .int .i64 ay] 49 (0, 0))).alloc (.cells #[.int .i64 bx, .int .i64 yb] 49 (0, 0))) (w.heap.size) px py := ((sp0).alloc (.cells #[.int .i64 ax, .int .i64 ay] 49 (0, 0))).alloc (.cells #[.int .i64 bx, .int .i64 yb] 49 (0, 0))
  have sa0 := PtB.made (w.alloc (.cells #[.int .i64 px, .int .i64 py] 49 (0, 0))) ax ay
  simp only [World.size_alloc] at sa0
  have sa : PtB (((w.alloc (.cells #[.int .i64 px, .int .i64 py] 49 (0, 0))).alloc (.cells #[.int .i64 ax, .int .i64 ay] 49 (0, 0))).alloc (.cells #[.int .i64 bx, .int .i64 yb] 49 (0, 0))) (w.heap.size + 1) ax ay := (sa0).alloc (.cells #[.int .i64 bx, .int .i64 yb] 49 (0, 0))
  have sb0 := PtB.made ((w.alloc (.cells #[.int .i64 px, .int .i64 py] 49 (0, 0))).alloc (.cells #[.int .i64 ax, .int .i64 ay] 49 (0, 0))) bx yb
  simp only [World.size_alloc] at sb0
  have sb : PtB (((w.alloc (.cells #[.int .i64 px, .int .i64 py] 49 (0, 0))).alloc (.cells #[.int .i64 ax, .int .i64 ay] 49 (0, 0))).alloc (.cells #[.int .i64 bx, .int .i64 yb] 49 (0, 0))) (w.heap.size + 1 + 1) bx yb := sb0
  have k0 : Kp [] w (((w.alloc (.cells #[.int .i64 px, .int .i64 py] 49 (0, 0))).alloc (.cells #[.int .i64 ax, .int .i64 ay] 49 (0, 0))).alloc (.cells #[.int .i64 bx, .int .i64 yb] 49 (0, 0))) := (((Kp.refl _ _).alloc _).alloc _).alloc _
  have xp0 := sp.c0
  have xp1 := sp.c1
  have xa0 := sa.c0
  have xa1 := sa.c1
  have xb0 := sb.c0
  have xb1 := sb.c1
  have qq := Lib.hid (qc.out (((w.alloc (.cells #[.int .i64 px, .int .i64 py] 49 (0, 0))).alloc (.cells #[.int .i64 ax, .int .i64 ay] 49 (0, 0))).alloc (.cells #[.int .i64 bx, .int .i64 yb] 49 (0, 0))))
  simp only [World.size_alloc] at qq
  replace sp := sp.alloc (.cells #[.int .i64 px, .int .i64 py, .int .i64 ax, .int .i64 ay, .int .i64 bx, .int .i64 yb] 49 (0, 0))
  replace sa := sa.alloc (.cells #[.int .i64 px, .int .i64 py, .int .i64 ax, .int .i64 ay, .int .i64 bx, .int .i64 yb] 49 (0, 0))
  replace sb := sb.alloc (.cells #[.int .i64 px, .int .i64 py, .int .i64 ax, .int .i64 ay, .int .i64 bx, .int .i64 yb] 49 (0, 0))
  replace k0 := k0.alloc (.cells #[.int .i64 px, .int .i64 py, .int .i64 ax, .int .i64 ay, .int .i64 bx, .int .i64 yb] 49 (0, 0))
  clear qc sp0 sa0 sb0
  go_enter Tryz.func46, Tryz.ntmps46
  go_wp2_with (refine wpList_stepN rfl (op_bsP3 rfl rfl rfl rfl) (by simp only [Act.put, World.size_alloc, List.setIfInBounds_toArray, List.set_cons_succ, List.set_cons_zero]; rfl) ?_)
  with_reducible refine qq.out.mono ?_
  rintro e w1 ⟨rfl, k⟩
  have kk := k0.trans k
  replace sp := sp.kept k (by simp)
  replace sa := sa.kept k (by simp)
  replace sb := sb.kept k (by simp)
  clear k k0 qq xp0 xp1 xa0 xa1 xb0 xb1
  go_wp2_with fail
  rw [frame_lit]
  refine reg_refl vsg4t_y (fun k => ([.pointer (some ⟨w.heap.size + 1 + 1, 0, none⟩), .pointer (some ⟨w.heap.size + 1, 0, none⟩), .pointer (some ⟨w.heap.size, 0, none⟩), .int .i64 d12, .agg #[.int .i64 bx, .int .i64 yb], .agg #[.int .i64 ax, .int .i64 ay], .agg #[.int .i64 u1x, .int .i64 u1y], .agg #[.int .i64 px, .int .i64 py], .agg #[.int .i64 u2x, .int .i64 u2y]] : List Value).getD k undef) [] (fun _ _ _ => True) (opsOf 4 Tryz.f46) [0, 1, 3, 4, 7] vsg4t_ca [] [] (by kernel_rfl) (by kernel_rfl) vsg4t_ok ⟨rfl, rfl, rfl, trivial⟩ ?sp ?ca ?cx (by decide) ?fr (fun _ _ _ _ h _ => h) ?rest
  case sp =>
    refine ⟨?_, ?_, ?_, ?_, ?_, trivial⟩
    · intro T wz H o ho; have he : o.op = .load 49 (.tmp 5) := Option.some.inj ((congrArg (fun z => z.map Oper.op) ho).symm.trans (show ((opsOf 4 Tryz.f46)[0]?).map Oper.op = some (.load 49 (.tmp 5)) by kernel_rfl)); exact op_ldP he (H.ev (.tmp 5) (.at 0) (by kernel_rfl)) (PtB.kept (L := []) (show PtB (World.drew _) _ _ _ from sb) H.kp (by simp))
    · intro T wz H o ho; have he : o.op = .load 49 (.tmp 4) := Option.some.inj ((congrArg (fun z => z.map Oper.op) ho).symm.trans (show ((opsOf 4 Tryz.f46)[1]?).map Oper.op = some (.load 49 (.tmp 4)) by kernel_rfl)); exact op_ldP he (H.ev (.tmp 4) (.at 1) (by kernel_rfl)) (PtB.kept (L := []) (show PtB (World.drew _) _ _ _ from sa) H.kp (by simp))
    · intro T wz H o ho; have he : o.op = .load 49 (.tmp 3) := Option.some.inj ((congrArg (fun z => z.map Oper.op) ho).symm.trans (show ((opsOf 4 Tryz.f46)[3]?).map Oper.op = some (.load 49 (.tmp 3)) by kernel_rfl)); exact op_ldP he (H.ev (.tmp 3) (.at 2) (by kernel_rfl)) (PtB.kept (L := []) (show PtB (World.drew _) _ _ _ from sp) H.kp (by simp))
    · intro T wz H o ho; have he : o.op = .load 49 (.tmp 4) := Option.some.inj ((congrArg (fun z => z.map Oper.op) ho).symm.trans (show ((opsOf 4 Tryz.f46)[4]?).map Oper.op = some (.load 49 (.tmp 4)) by kernel_rfl)); exact op_ldP he (H.ev (.tmp 4) (.at 1) (by kernel_rfl)) (PtB.kept (L := []) (show PtB (World.drew _) _ _ _ from sa) H.kp (by simp))
    · intro T wz H o ho; have he : o.op = .binOp .leq 3 (.tmp 24) (.const (.int .i64 0)) 3 := Option.some.inj ((congrArg (fun z => z.map Oper.op) ho).symm.trans (show ((opsOf 4 Tryz.f46)[7]?).map Oper.op = some (.binOp .leq 3 (.tmp 24) (.const (.int .i64 0)) 3) by kernel_rfl)); exact op_leq he (H.ev (.tmp 24) (.at 3) (by kernel_rfl)) hd12
  case ca =>
    refine ⟨?_, ?_, ?_, trivial⟩
    · exact ⟨(enters_of Tryz.func62 (by kernel_rfl) rfl), fun wz hk => (q1.out wz).mono fun x w2 ⟨h1, h2⟩ => ⟨_, h1, h2, fun _ => rfl⟩⟩
    · exact ⟨(enters_of Tryz.func62 (by kernel_rfl) rfl), fun wz hk => (q2.out wz).mono fun x w2 ⟨h1, h2⟩ => ⟨_, h1, h2, fun _ => rfl⟩⟩
    · exact ⟨(enters_of Tryz.func82 (by kernel_rfl) rfl), fun wz hk => (qd12.out wz).mono fun x w2 ⟨h1, h2⟩ => ⟨_, h1, h2, fun _ => rfl⟩⟩
  case cx =>
    exact trivial
  case fr =>
    exact trivial
  case rest =>
    intro T w3 hout hval k hF
    rw [show frameOf vsg4t_y.st.N T = (⟨#[T 0, T 1, T 2, T 3, T 4, T 5, T 6, T 7, T 8, T 9, T 10, T 11, T 12, T 13, T 14, T 15, T 16, T 17, T 18, T 19, T 20, T 21, T 22, T 23, T 24, T 25, T 26, T 27, T 28, T 29, T 30, T 31, T 32, T 33, T 34, T 35, T 36, T 37, T 38, T 39, T 40, T 41, T 42, T 43, T 44, T 45, T 46, T 47, T 48], []⟩ : Act) from frame_list 49 T]
    rw [show T 3 = .pointer (some ⟨w.heap.size, 0, none⟩) from hout 3 rfl]
    rw [show T 4 = .pointer (some ⟨w.heap.size + 1, 0, none⟩) from hout 4 rfl]
    rw [show T 5 = .pointer (some ⟨w.heap.size + 1 + 1, 0, none⟩) from hout 5 rfl]
    rw [show T 17 = .bool true from hval 8 (by decide : 8 < 9) (.inl rfl)]
    replace sp := sp.kept k (by simp)
    replace sa := sa.kept k (by simp)
    replace sb := sb.kept k (by simp)
    replace kk := kk.trans k
    clear hout hval hF k
    have xa0 := sa.c0
    have xa1 := sa.c1
    have xp0 := sp.c0
    have xp1 := sp.c1
    clear sp sa sb
    go_wp2_with fail
    with_reducible refine (qs.out _).mono ?_
    rintro e w5 ⟨rfl, k⟩
    replace kk := kk.trans k
    clear k
    have qw1 := Lib.hid (qw.out _ kk)
    clear xa0 xa1 xp0 xp1
    go_wp2_with fail
    with_reducible refine qw1.out.mono ?_
    rintro e w6 ⟨rfl, k⟩
    replace kk := kk.trans k
    clear k
    go_wp2
    go_ret2
    exact ⟨rfl, kk⟩

set_option maxRecDepth 100000 in
set_option maxHeartbeats 4000000 in
theorem vToSegment_2 (px py ax ay bx yb u1x u1y u2x u2y d12 u3x u3y u4x u4y d34 s : Int) (R : ByteArray) (w : World)
    (qc : Hid (∀ W : World, Calls Tryz.prog 20 #[.slice (some ⟨W.heap.size, 0, none⟩) 3 3] (W.alloc (.cells #[.int .i64 px, .int .i64 py, .int .i64 ax, .int .i64 ay, .int .i64 bx, .int .i64 yb] 49 (0, 0))) fun e w' => e = .returned (.int .i64 0) ∧ Kp [] (W.alloc (.cells #[.int .i64 px, .int .i64 py, .int .i64 ax, .int .i64 ay, .int .i64 bx, .int .i64 yb] 49 (0, 0))) w'))
    (q1 : Hid (∀ W : World, Calls Tryz.prog 62 #[.agg #[.int .i64 bx, .int .i64 yb], .agg #[.int .i64 ax, .int .i64 ay]] W fun e w' => e = .returned (.agg #[.int .i64 u1x, .int .i64 u1y]) ∧ Kp [] W w'))
    (q2 : Hid (∀ W : World, Calls Tryz.prog 62 #[.agg #[.int .i64 px, .int .i64 py], .agg #[.int .i64 ax, .int .i64 ay]] W fun e w' => e = .returned (.agg #[.int .i64 u2x, .int .i64 u2y]) ∧ Kp [] W w'))
    (qd12 : Hid (∀ W : World, Calls Tryz.prog 82 #[.agg #[.int .i64 u1x, .int .i64 u1y], .agg #[.int .i64 u2x, .int .i64 u2y]] W fun e w' => e = .returned (.int .i64 d12) ∧ Kp [] W w'))
    (hd12 : decide (d12 ≤ 0) = false)
    (q3 : Hid (∀ W : World, Calls Tryz.prog 62 #[.agg #[.int .i64 ax, .int .i64 ay], .agg #[.int .i64 bx, .int .i64 yb]] W fun e w' => e = .returned (.agg #[.int .i64 u3x, .int .i64 u3y]) ∧ Kp [] W w'))
    (q4 : Hid (∀ W : World, Calls Tryz.prog 62 #[.agg #[.int .i64 px, .int .i64 py], .agg #[.int .i64 bx, .int .i64 yb]] W fun e w' => e = .returned (.agg #[.int .i64 u4x, .int .i64 u4y]) ∧ Kp [] W w'))
    (qd34 : Hid (∀ W : World, Calls Tryz.prog 82 #[.agg #[.int .i64 u3x, .int .i64 u3y], .agg #[.int .i64 u4x, .int .i64 u4y]] W fun e w' => e = .returned (.int .i64 d34) ∧ Kp [] W w'))
    (hd34 : decide (d34 ≤ 0) = true)
    (qs : Hid (∀ W : World, Calls Tryz.prog 91 #[.agg #[.int .i64 bx, .int .i64 yb], .agg #[.int .i64 px, .int .i64 py]] W fun e w' => e = .returned (.int .i64 s) ∧ Kp [] W w'))
    (qw : Hid (∀ W : World, Kp [] w W → Calls Tryz.prog 103 #[.int .i64 s] W fun e w' => e = .returned (.string R) ∧ Kp [] W w')) :
    Calls Tryz.prog 46 #[.agg #[.int .i64 px, .int .i64 py], .agg #[.int .i64 ax, .int .i64 ay], .agg #[.int .i64 bx, .int .i64 yb]] w fun e w' => e = .returned (.tuple #[.string R, .int .i64 0]) ∧ Kp [] w w' := by
  have sp0 := PtB.made w px py
  have sp : PtB (((w.alloc (.cells #[.int .i64 px, .int .i64 py] 49 (0, 0))).alloc (.cells #[.int .i64 ax, .int .i64 ay] 49 (0, 0))).alloc (.cells #[.int .i64 bx, .int .i64 yb] 49 (0, 0))) (w.heap.size) px py := ((sp0).alloc (.cells #[.int .i64 ax, .int .i64 ay] 49 (0, 0))).alloc (.cells #[.int .i64 bx, .int .i64 yb] 49 (0, 0))
  have sa0 := PtB.made (w.alloc (.cells #[.int .i64 px, .int .i64 py] 49 (0, 0))) ax ay
  simp only [World.size_alloc] at sa0
  have sa : PtB (((w.alloc (.cells #[.int .i64 px, .int .i64 py] 49 (0, 0))).alloc (.cells #[.int .i64 ax, .int .i64 ay] 49 (0, 0))).alloc (.cells #[.int .i64 bx, .int .i64 yb] 49 (0, 0))) (w.heap.size + 1) ax ay := (sa0).alloc (.cells #[.int .i64 bx, .int .i64 yb] 49 (0, 0))
  have sb0 := PtB.made ((w.alloc (.cells #[.int .i64 px, .int .i64 py] 49 (0, 0))).alloc (.cells #[.int .i64 ax, .int .i64 ay] 49 (0, 0))) bx yb
  simp only [World.size_alloc] at sb0
  have sb : PtB (((w.alloc (.cells #[.int .i64 px, .int .i64 py] 49 (0, 0))).alloc (.cells #[.int .i64 ax, .int .i64 ay] 49 (0, 0))).alloc (.cells #[.int .i64 bx, .int .i64 yb] 49 (0, 0))) (w.heap.size + 1 + 1) bx yb := sb0
  have k0 : Kp [] w (((w.alloc (.cells #[.int .i64 px, .int .i64 py] 49 (0, 0))).alloc (.cells #[.int .i64 ax, .int .i64 ay] 49 (0, 0))).alloc (.cells #[.int .i64 bx, .int .i64 yb] 49 (0, 0))) := (((Kp.refl _ _).alloc _).alloc _).alloc _
  have xp0 := sp.c0
  have xp1 := sp.c1
  have xa0 := sa.c0
  have xa1 := sa.c1
  have xb0 := sb.c0
  have xb1 := sb.c1
  have qq := Lib.hid (qc.out (((w.alloc (.cells #[.int .i64 px, .int .i64 py] 49 (0, 0))).alloc (.cells #[.int .i64 ax, .int .i64 ay] 49 (0, 0))).alloc (.cells #[.int .i64 bx, .int .i64 yb] 49 (0, 0))))
  simp only [World.size_alloc] at qq
  replace sp := sp.alloc (.cells #[.int .i64 px, .int .i64 py, .int .i64 ax, .int .i64 ay, .int .i64 bx, .int .i64 yb] 49 (0, 0))
  replace sa := sa.alloc (.cells #[.int .i64 px, .int .i64 py, .int .i64 ax, .int .i64 ay, .int .i64 bx, .int .i64 yb] 49 (0, 0))
  replace sb := sb.alloc (.cells #[.int .i64 px, .int .i64 py, .int .i64 ax, .int .i64 ay, .int .i64 bx, .int .i64 yb] 49 (0, 0))
  replace k0 := k0.alloc (.cells #[.int .i64 px, .int .i64 py, .int .i64 ax, .int .i64 ay, .int .i64 bx, .int .i64 yb] 49 (0, 0))
  clear qc sp0 sa0 sb0
  go_enter Tryz.func46, Tryz.ntmps46
  go_wp2_with (refine wpList_stepN rfl (op_bsP3 rfl rfl rfl rfl) (by simp only [Act.put, World.size_alloc, List.setIfInBounds_toArray, List.set_cons_succ, List.set_cons_zero]; rfl) ?_)
  with_reducible refine qq.out.mono ?_
  rintro e w1 ⟨rfl, k⟩
  have kk := k0.trans k
  replace sp := sp.kept k (by simp)
  replace sa := sa.kept k (by simp)
  replace sb := sb.kept k (by simp)
  clear k k0 qq xp0 xp1 xa0 xa1 xb0 xb1
  go_wp2_with fail
  rw [frame_lit]
  refine reg_refl vsg4f_y (fun k => ([.pointer (some ⟨w.heap.size + 1 + 1, 0, none⟩), .pointer (some ⟨w.heap.size + 1, 0, none⟩), .pointer (some ⟨w.heap.size, 0, none⟩), .int .i64 d12, .agg #[.int .i64 bx, .int .i64 yb], .agg #[.int .i64 ax, .int .i64 ay], .agg #[.int .i64 u1x, .int .i64 u1y], .agg #[.int .i64 px, .int .i64 py], .agg #[.int .i64 u2x, .int .i64 u2y]] : List Value).getD k undef) [] (fun _ _ _ => True) (opsOf 4 Tryz.f46) [0, 1, 3, 4, 7] vsg4f_ca [] [] (by kernel_rfl) (by kernel_rfl) vsg4f_ok ⟨rfl, rfl, rfl, trivial⟩ ?sp ?ca ?cx (by decide) ?fr (fun _ _ _ _ h _ => h) ?rest
  case sp =>
    refine ⟨?_, ?_, ?_, ?_, ?_, trivial⟩
    · intro T wz H o ho; have he : o.op = .load 49 (.tmp 5) := Option.some.inj ((congrArg (fun z => z.map Oper.op) ho).symm.trans (show ((opsOf 4 Tryz.f46)[0]?).map Oper.op = some (.load 49 (.tmp 5)) by kernel_rfl)); exact op_ldP he (H.ev (.tmp 5) (.at 0) (by kernel_rfl)) (PtB.kept (L := []) (show PtB (World.drew _) _ _ _ from sb) H.kp (by simp))
    · intro T wz H o ho; have he : o.op = .load 49 (.tmp 4) := Option.some.inj ((congrArg (fun z => z.map Oper.op) ho).symm.trans (show ((opsOf 4 Tryz.f46)[1]?).map Oper.op = some (.load 49 (.tmp 4)) by kernel_rfl)); exact op_ldP he (H.ev (.tmp 4) (.at 1) (by kernel_rfl)) (PtB.kept (L := []) (show PtB (World.drew _) _ _ _ from sa) H.kp (by simp))
    · intro T wz H o ho; have he : o.op = .load 49 (.tmp 3) := Option.some.inj ((congrArg (fun z => z.map Oper.op) ho).symm.trans (show ((opsOf 4 Tryz.f46)[3]?).map Oper.op = some (.load 49 (.tmp 3)) by kernel_rfl)); exact op_ldP he (H.ev (.tmp 3) (.at 2) (by kernel_rfl)) (PtB.kept (L := []) (show PtB (World.drew _) _ _ _ from sp) H.kp (by simp))
    · intro T wz H o ho; have he : o.op = .load 49 (.tmp 4) := Option.some.inj ((congrArg (fun z => z.map Oper.op) ho).symm.trans (show ((opsOf 4 Tryz.f46)[4]?).map Oper.op = some (.load 49 (.tmp 4)) by kernel_rfl)); exact op_ldP he (H.ev (.tmp 4) (.at 1) (by kernel_rfl)) (PtB.kept (L := []) (show PtB (World.drew _) _ _ _ from sa) H.kp (by simp))
    · intro T wz H o ho; have he : o.op = .binOp .leq 3 (.tmp 24) (.const (.int .i64 0)) 3 := Option.some.inj ((congrArg (fun z => z.map Oper.op) ho).symm.trans (show ((opsOf 4 Tryz.f46)[7]?).map Oper.op = some (.binOp .leq 3 (.tmp 24) (.const (.int .i64 0)) 3) by kernel_rfl)); exact op_leq he (H.ev (.tmp 24) (.at 3) (by kernel_rfl)) hd12
  case ca =>
    refine ⟨?_, ?_, ?_, trivial⟩
    · exact ⟨(enters_of Tryz.func62 (by kernel_rfl) rfl), fun wz hk => (q1.out wz).mono fun x w2 ⟨h1, h2⟩ => ⟨_, h1, h2, fun _ => rfl⟩⟩
    · exact ⟨(enters_of Tryz.func62 (by kernel_rfl) rfl), fun wz hk => (q2.out wz).mono fun x w2 ⟨h1, h2⟩ => ⟨_, h1, h2, fun _ => rfl⟩⟩
    · exact ⟨(enters_of Tryz.func82 (by kernel_rfl) rfl), fun wz hk => (qd12.out wz).mono fun x w2 ⟨h1, h2⟩ => ⟨_, h1, h2, fun _ => rfl⟩⟩
  case cx =>
    exact trivial
  case fr =>
    exact trivial
  case rest =>
    intro T w3 hout hval k hF
    rw [show frameOf vsg4f_y.st.N T = (⟨#[T 0, T 1, T 2, T 3, T 4, T 5, T 6, T 7, T 8, T 9, T 10, T 11, T 12, T 13, T 14, T 15, T 16, T 17, T 18, T 19, T 20, T 21, T 22, T 23, T 24, T 25, T 26, T 27, T 28, T 29, T 30, T 31, T 32, T 33, T 34, T 35, T 36, T 37, T 38, T 39, T 40, T 41, T 42, T 43, T 44, T 45, T 46, T 47, T 48], []⟩ : Act) from frame_list 49 T]
    rw [show T 3 = .pointer (some ⟨w.heap.size, 0, none⟩) from hout 3 rfl]
    rw [show T 4 = .pointer (some ⟨w.heap.size + 1, 0, none⟩) from hout 4 rfl]
    rw [show T 5 = .pointer (some ⟨w.heap.size + 1 + 1, 0, none⟩) from hout 5 rfl]
    rw [show T 17 = .bool false from hval 8 (by decide : 8 < 9) (.inl rfl)]
    replace sp := sp.kept k (by simp)
    replace sa := sa.kept k (by simp)
    replace sb := sb.kept k (by simp)
    replace kk := kk.trans k
    clear hout hval hF k
    go_wp2_with fail
    rw [frame_lit]
    refine reg_refl vsg6t_y (fun k => ([.pointer (some ⟨w.heap.size + 1, 0, none⟩), .pointer (some ⟨w.heap.size + 1 + 1, 0, none⟩), .pointer (some ⟨w.heap.size, 0, none⟩), .int .i64 d34, .agg #[.int .i64 ax, .int .i64 ay], .agg #[.int .i64 bx, .int .i64 yb], .agg #[.int .i64 u3x, .int .i64 u3y], .agg #[.int .i64 px, .int .i64 py], .agg #[.int .i64 u4x, .int .i64 u4y]] : List Value).getD k undef) [] (fun _ _ _ => True) (opsOf 6 Tryz.f46) [0, 1, 3, 4, 7] vsg6t_ca [] [] (by kernel_rfl) (by kernel_rfl) vsg6t_ok ⟨rfl, rfl, rfl, trivial⟩ ?sp ?ca ?cx (by decide) ?fr (fun _ _ _ _ h _ => h) ?rest
    case sp =>
      refine ⟨?_, ?_, ?_, ?_, ?_, trivial⟩
      · intro T wz H o ho; have he : o.op = .load 49 (.tmp 4) := Option.some.inj ((congrArg (fun z => z.map Oper.op) ho).symm.trans (show ((opsOf 6 Tryz.f46)[0]?).map Oper.op = some (.load 49 (.tmp 4)) by kernel_rfl)); exact op_ldP he (H.ev (.tmp 4) (.at 0) (by kernel_rfl)) (PtB.kept (L := []) (show PtB (World.drew _) _ _ _ from sa) H.kp (by simp))
      · intro T wz H o ho; have he : o.op = .load 49 (.tmp 5) := Option.some.inj ((congrArg (fun z => z.map Oper.op) ho).symm.trans (show ((opsOf 6 Tryz.f46)[1]?).map Oper.op = some (.load 49 (.tmp 5)) by kernel_rfl)); exact op_ldP he (H.ev (.tmp 5) (.at 1) (by kernel_rfl)) (PtB.kept (L := []) (show PtB (World.drew _) _ _ _ from sb) H.kp (by simp))
      · intro T wz H o ho; have he : o.op = .load 49 (.tmp 3) := Option.some.inj ((congrArg (fun z => z.map Oper.op) ho).symm.trans (show ((opsOf 6 Tryz.f46)[3]?).map Oper.op = some (.load 49 (.tmp 3)) by kernel_rfl)); exact op_ldP he (H.ev (.tmp 3) (.at 2) (by kernel_rfl)) (PtB.kept (L := []) (show PtB (World.drew _) _ _ _ from sp) H.kp (by simp))
      · intro T wz H o ho; have he : o.op = .load 49 (.tmp 5) := Option.some.inj ((congrArg (fun z => z.map Oper.op) ho).symm.trans (show ((opsOf 6 Tryz.f46)[4]?).map Oper.op = some (.load 49 (.tmp 5)) by kernel_rfl)); exact op_ldP he (H.ev (.tmp 5) (.at 1) (by kernel_rfl)) (PtB.kept (L := []) (show PtB (World.drew _) _ _ _ from sb) H.kp (by simp))
      · intro T wz H o ho; have he : o.op = .binOp .leq 3 (.tmp 37) (.const (.int .i64 0)) 3 := Option.some.inj ((congrArg (fun z => z.map Oper.op) ho).symm.trans (show ((opsOf 6 Tryz.f46)[7]?).map Oper.op = some (.binOp .leq 3 (.tmp 37) (.const (.int .i64 0)) 3) by kernel_rfl)); exact op_leq he (H.ev (.tmp 37) (.at 3) (by kernel_rfl)) hd34
    case ca =>
      refine ⟨?_, ?_, ?_, trivial⟩
      · exact ⟨(enters_of Tryz.func62 (by kernel_rfl) rfl), fun wz hk => (q3.out wz).mono fun x w2 ⟨h1, h2⟩ => ⟨_, h1, h2, fun _ => rfl⟩⟩
      · exact ⟨(enters_of Tryz.func62 (by kernel_rfl) rfl), fun wz hk => (q4.out wz).mono fun x w2 ⟨h1, h2⟩ => ⟨_, h1, h2, fun _ => rfl⟩⟩
      · exact ⟨(enters_of Tryz.func82 (by kernel_rfl) rfl), fun wz hk => (qd34.out wz).mono fun x w2 ⟨h1, h2⟩ => ⟨_, h1, h2, fun _ => rfl⟩⟩
    case cx =>
      exact trivial
    case fr =>
      exact trivial
    case rest =>
      intro T w4 hout hval k hF
      rw [show frameOf vsg6t_y.st.N T = (⟨#[T 0, T 1, T 2, T 3, T 4, T 5, T 6, T 7, T 8, T 9, T 10, T 11, T 12, T 13, T 14, T 15, T 16, T 17, T 18, T 19, T 20, T 21, T 22, T 23, T 24, T 25, T 26, T 27, T 28, T 29, T 30, T 31, T 32, T 33, T 34, T 35, T 36, T 37, T 38, T 39, T 40, T 41, T 42, T 43, T 44, T 45, T 46, T 47, T 48], []⟩ : Act) from frame_list 49 T]
      rw [show T 3 = .pointer (some ⟨w.heap.size, 0, none⟩) from hout 3 rfl]
      rw [show T 4 = .pointer (some ⟨w.heap.size + 1, 0, none⟩) from hout 4 rfl]
      rw [show T 5 = .pointer (some ⟨w.heap.size + 1 + 1, 0, none⟩) from hout 5 rfl]
      rw [show T 30 = .bool true from hval 8 (by decide : 8 < 9) (.inl rfl)]
      replace sp := sp.kept k (by simp)
      replace sa := sa.kept k (by simp)
      replace sb := sb.kept k (by simp)
      replace kk := kk.trans k
      clear hout hval hF k
      have xb0 := sb.c0
      have xb1 := sb.c1
      have xp0 := sp.c0
      have xp1 := sp.c1
      clear sp sa sb
      go_wp2_with fail
      with_reducible refine (qs.out _).mono ?_
      rintro e w5 ⟨rfl, k⟩
      replace kk := kk.trans k
      clear k
      have qw1 := Lib.hid (qw.out _ kk)
      clear xb0 xb1 xp0 xp1
      go_wp2_with fail
      with_reducible refine qw1.out.mono ?_
      rintro e w6 ⟨rfl, k⟩
      replace kk := kk.trans k
      clear k
      go_wp2
      go_ret2
      exact ⟨rfl, kk⟩

set_option maxRecDepth 100000 in
set_option maxHeartbeats 4000000 in
theorem vToSegment_3 (px py ax ay bx yb u1x u1y u2x u2y d12 u3x u3y u4x u4y d34 : Int) (R : ByteArray) (w : World)
    (qc : Hid (∀ W : World, Calls Tryz.prog 20 #[.slice (some ⟨W.heap.size, 0, none⟩) 3 3] (W.alloc (.cells #[.int .i64 px, .int .i64 py, .int .i64 ax, .int .i64 ay, .int .i64 bx, .int .i64 yb] 49 (0, 0))) fun e w' => e = .returned (.int .i64 0) ∧ Kp [] (W.alloc (.cells #[.int .i64 px, .int .i64 py, .int .i64 ax, .int .i64 ay, .int .i64 bx, .int .i64 yb] 49 (0, 0))) w'))
    (q1 : Hid (∀ W : World, Calls Tryz.prog 62 #[.agg #[.int .i64 bx, .int .i64 yb], .agg #[.int .i64 ax, .int .i64 ay]] W fun e w' => e = .returned (.agg #[.int .i64 u1x, .int .i64 u1y]) ∧ Kp [] W w'))
    (q2 : Hid (∀ W : World, Calls Tryz.prog 62 #[.agg #[.int .i64 px, .int .i64 py], .agg #[.int .i64 ax, .int .i64 ay]] W fun e w' => e = .returned (.agg #[.int .i64 u2x, .int .i64 u2y]) ∧ Kp [] W w'))
    (qd12 : Hid (∀ W : World, Calls Tryz.prog 82 #[.agg #[.int .i64 u1x, .int .i64 u1y], .agg #[.int .i64 u2x, .int .i64 u2y]] W fun e w' => e = .returned (.int .i64 d12) ∧ Kp [] W w'))
    (hd12 : decide (d12 ≤ 0) = false)
    (q3 : Hid (∀ W : World, Calls Tryz.prog 62 #[.agg #[.int .i64 ax, .int .i64 ay], .agg #[.int .i64 bx, .int .i64 yb]] W fun e w' => e = .returned (.agg #[.int .i64 u3x, .int .i64 u3y]) ∧ Kp [] W w'))
    (q4 : Hid (∀ W : World, Calls Tryz.prog 62 #[.agg #[.int .i64 px, .int .i64 py], .agg #[.int .i64 bx, .int .i64 yb]] W fun e w' => e = .returned (.agg #[.int .i64 u4x, .int .i64 u4y]) ∧ Kp [] W w'))
    (qd34 : Hid (∀ W : World, Calls Tryz.prog 82 #[.agg #[.int .i64 u3x, .int .i64 u3y], .agg #[.int .i64 u4x, .int .i64 u4y]] W fun e w' => e = .returned (.int .i64 d34) ∧ Kp [] W w'))
    (hd34 : decide (d34 ≤ 0) = false)
    (qt : Hid (∀ W : World, Kp [] w W → Calls Tryz.prog 44 #[.agg #[.int .i64 px, .int .i64 py], .agg #[.int .i64 ax, .int .i64 ay], .agg #[.int .i64 bx, .int .i64 yb]] W fun e w' => e = .returned (.tuple #[.string R, .int .i64 0]) ∧ Kp [] W w')) :
    Calls Tryz.prog 46 #[.agg #[.int .i64 px, .int .i64 py], .agg #[.int .i64 ax, .int .i64 ay], .agg #[.int .i64 bx, .int .i64 yb]] w fun e w' => e = .returned (.tuple #[.string R, .int .i64 0]) ∧ Kp [] w w' := by
  have sp0 := PtB.made w px py
  have sp : PtB (((w.alloc (.cells #[.int .i64 px, .int .i64 py] 49 (0, 0))).alloc (.cells #[.int .i64 ax, .int .i64 ay] 49 (0, 0))).alloc (.cells #[.int .i64 bx, .int .i64 yb] 49 (0, 0))) (w.heap.size) px py := ((sp0).alloc (.cells #[.int .i64 ax, .int .i64 ay] 49 (0, 0))).alloc (.cells #[.int .i64 bx, .int .i64 yb] 49 (0, 0))
  have sa0 := PtB.made (w.alloc (.cells #[.int .i64 px, .int .i64 py] 49 (0, 0))) ax ay
  simp only [World.size_alloc] at sa0
  have sa : PtB (((w.alloc (.cells #[.int .i64 px, .int .i64 py] 49 (0, 0))).alloc (.cells #[.int .i64 ax, .int .i64 ay] 49 (0, 0))).alloc (.cells #[.int .i64 bx, .int .i64 yb] 49 (0, 0))) (w.heap.size + 1) ax ay := (sa0).alloc (.cells #[.int .i64 bx, .int .i64 yb] 49 (0, 0))
  have sb0 := PtB.made ((w.alloc (.cells #[.int .i64 px, .int .i64 py] 49 (0, 0))).alloc (.cells #[.int .i64 ax, .int .i64 ay] 49 (0, 0))) bx yb
  simp only [World.size_alloc] at sb0
  have sb : PtB (((w.alloc (.cells #[.int .i64 px, .int .i64 py] 49 (0, 0))).alloc (.cells #[.int .i64 ax, .int .i64 ay] 49 (0, 0))).alloc (.cells #[.int .i64 bx, .int .i64 yb] 49 (0, 0))) (w.heap.size + 1 + 1) bx yb := sb0
  have k0 : Kp [] w (((w.alloc (.cells #[.int .i64 px, .int .i64 py] 49 (0, 0))).alloc (.cells #[.int .i64 ax, .int .i64 ay] 49 (0, 0))).alloc (.cells #[.int .i64 bx, .int .i64 yb] 49 (0, 0))) := (((Kp.refl _ _).alloc _).alloc _).alloc _
  have xp0 := sp.c0
  have xp1 := sp.c1
  have xa0 := sa.c0
  have xa1 := sa.c1
  have xb0 := sb.c0
  have xb1 := sb.c1
  have qq := Lib.hid (qc.out (((w.alloc (.cells #[.int .i64 px, .int .i64 py] 49 (0, 0))).alloc (.cells #[.int .i64 ax, .int .i64 ay] 49 (0, 0))).alloc (.cells #[.int .i64 bx, .int .i64 yb] 49 (0, 0))))
  simp only [World.size_alloc] at qq
  replace sp := sp.alloc (.cells #[.int .i64 px, .int .i64 py, .int .i64 ax, .int .i64 ay, .int .i64 bx, .int .i64 yb] 49 (0, 0))
  replace sa := sa.alloc (.cells #[.int .i64 px, .int .i64 py, .int .i64 ax, .int .i64 ay, .int .i64 bx, .int .i64 yb] 49 (0, 0))
  replace sb := sb.alloc (.cells #[.int .i64 px, .int .i64 py, .int .i64 ax, .int .i64 ay, .int .i64 bx, .int .i64 yb] 49 (0, 0))
  replace k0 := k0.alloc (.cells #[.int .i64 px, .int .i64 py, .int .i64 ax, .int .i64 ay, .int .i64 bx, .int .i64 yb] 49 (0, 0))
  clear qc sp0 sa0 sb0
  go_enter Tryz.func46, Tryz.ntmps46
  go_wp2_with (refine wpList_stepN rfl (op_bsP3 rfl rfl rfl rfl) (by simp only [Act.put, World.size_alloc, List.setIfInBounds_toArray, List.set_cons_succ, List.set_cons_zero]; rfl) ?_)
  with_reducible refine qq.out.mono ?_
  rintro e w1 ⟨rfl, k⟩
  have kk := k0.trans k
  replace sp := sp.kept k (by simp)
  replace sa := sa.kept k (by simp)
  replace sb := sb.kept k (by simp)
  clear k k0 qq xp0 xp1 xa0 xa1 xb0 xb1
  go_wp2_with fail
  rw [frame_lit]
  refine reg_refl vsg4f_y (fun k => ([.pointer (some ⟨w.heap.size + 1 + 1, 0, none⟩), .pointer (some ⟨w.heap.size + 1, 0, none⟩), .pointer (some ⟨w.heap.size, 0, none⟩), .int .i64 d12, .agg #[.int .i64 bx, .int .i64 yb], .agg #[.int .i64 ax, .int .i64 ay], .agg #[.int .i64 u1x, .int .i64 u1y], .agg #[.int .i64 px, .int .i64 py], .agg #[.int .i64 u2x, .int .i64 u2y]] : List Value).getD k undef) [] (fun _ _ _ => True) (opsOf 4 Tryz.f46) [0, 1, 3, 4, 7] vsg4f_ca [] [] (by kernel_rfl) (by kernel_rfl) vsg4f_ok ⟨rfl, rfl, rfl, trivial⟩ ?sp ?ca ?cx (by decide) ?fr (fun _ _ _ _ h _ => h) ?rest
  case sp =>
    refine ⟨?_, ?_, ?_, ?_, ?_, trivial⟩
    · intro T wz H o ho; have he : o.op = .load 49 (.tmp 5) := Option.some.inj ((congrArg (fun z => z.map Oper.op) ho).symm.trans (show ((opsOf 4 Tryz.f46)[0]?).map Oper.op = some (.load 49 (.tmp 5)) by kernel_rfl)); exact op_ldP he (H.ev (.tmp 5) (.at 0) (by kernel_rfl)) (PtB.kept (L := []) (show PtB (World.drew _) _ _ _ from sb) H.kp (by simp))
    · intro T wz H o ho; have he : o.op = .load 49 (.tmp 4) := Option.some.inj ((congrArg (fun z => z.map Oper.op) ho).symm.trans (show ((opsOf 4 Tryz.f46)[1]?).map Oper.op = some (.load 49 (.tmp 4)) by kernel_rfl)); exact op_ldP he (H.ev (.tmp 4) (.at 1) (by kernel_rfl)) (PtB.kept (L := []) (show PtB (World.drew _) _ _ _ from sa) H.kp (by simp))
    · intro T wz H o ho; have he : o.op = .load 49 (.tmp 3) := Option.some.inj ((congrArg (fun z => z.map Oper.op) ho).symm.trans (show ((opsOf 4 Tryz.f46)[3]?).map Oper.op = some (.load 49 (.tmp 3)) by kernel_rfl)); exact op_ldP he (H.ev (.tmp 3) (.at 2) (by kernel_rfl)) (PtB.kept (L := []) (show PtB (World.drew _) _ _ _ from sp) H.kp (by simp))
    · intro T wz H o ho; have he : o.op = .load 49 (.tmp 4) := Option.some.inj ((congrArg (fun z => z.map Oper.op) ho).symm.trans (show ((opsOf 4 Tryz.f46)[4]?).map Oper.op = some (.load 49 (.tmp 4)) by kernel_rfl)); exact op_ldP he (H.ev (.tmp 4) (.at 1) (by kernel_rfl)) (PtB.kept (L := []) (show PtB (World.drew _) _ _ _ from sa) H.kp (by simp))
    · intro T wz H o ho; have he : o.op = .binOp .leq 3 (.tmp 24) (.const (.int .i64 0)) 3 := Option.some.inj ((congrArg (fun z => z.map Oper.op) ho).symm.trans (show ((opsOf 4 Tryz.f46)[7]?).map Oper.op = some (.binOp .leq 3 (.tmp 24) (.const (.int .i64 0)) 3) by kernel_rfl)); exact op_leq he (H.ev (.tmp 24) (.at 3) (by kernel_rfl)) hd12
  case ca =>
    refine ⟨?_, ?_, ?_, trivial⟩
    · exact ⟨(enters_of Tryz.func62 (by kernel_rfl) rfl), fun wz hk => (q1.out wz).mono fun x w2 ⟨h1, h2⟩ => ⟨_, h1, h2, fun _ => rfl⟩⟩
    · exact ⟨(enters_of Tryz.func62 (by kernel_rfl) rfl), fun wz hk => (q2.out wz).mono fun x w2 ⟨h1, h2⟩ => ⟨_, h1, h2, fun _ => rfl⟩⟩
    · exact ⟨(enters_of Tryz.func82 (by kernel_rfl) rfl), fun wz hk => (qd12.out wz).mono fun x w2 ⟨h1, h2⟩ => ⟨_, h1, h2, fun _ => rfl⟩⟩
  case cx =>
    exact trivial
  case fr =>
    exact trivial
  case rest =>
    intro T w3 hout hval k hF
    rw [show frameOf vsg4f_y.st.N T = (⟨#[T 0, T 1, T 2, T 3, T 4, T 5, T 6, T 7, T 8, T 9, T 10, T 11, T 12, T 13, T 14, T 15, T 16, T 17, T 18, T 19, T 20, T 21, T 22, T 23, T 24, T 25, T 26, T 27, T 28, T 29, T 30, T 31, T 32, T 33, T 34, T 35, T 36, T 37, T 38, T 39, T 40, T 41, T 42, T 43, T 44, T 45, T 46, T 47, T 48], []⟩ : Act) from frame_list 49 T]
    rw [show T 3 = .pointer (some ⟨w.heap.size, 0, none⟩) from hout 3 rfl]
    rw [show T 4 = .pointer (some ⟨w.heap.size + 1, 0, none⟩) from hout 4 rfl]
    rw [show T 5 = .pointer (some ⟨w.heap.size + 1 + 1, 0, none⟩) from hout 5 rfl]
    rw [show T 17 = .bool false from hval 8 (by decide : 8 < 9) (.inl rfl)]
    replace sp := sp.kept k (by simp)
    replace sa := sa.kept k (by simp)
    replace sb := sb.kept k (by simp)
    replace kk := kk.trans k
    clear hout hval hF k
    go_wp2_with fail
    rw [frame_lit]
    refine reg_refl vsg6f_y (fun k => ([.pointer (some ⟨w.heap.size + 1, 0, none⟩), .pointer (some ⟨w.heap.size + 1 + 1, 0, none⟩), .pointer (some ⟨w.heap.size, 0, none⟩), .int .i64 d34, .agg #[.int .i64 ax, .int .i64 ay], .agg #[.int .i64 bx, .int .i64 yb], .agg #[.int .i64 u3x, .int .i64 u3y], .agg #[.int .i64 px, .int .i64 py], .agg #[.int .i64 u4x, .int .i64 u4y]] : List Value).getD k undef) [] (fun _ _ _ => True) (opsOf 6 Tryz.f46) [0, 1, 3, 4, 7] vsg6f_ca [] [] (by kernel_rfl) (by kernel_rfl) vsg6f_ok ⟨rfl, rfl, rfl, trivial⟩ ?sp ?ca ?cx (by decide) ?fr (fun _ _ _ _ h _ => h) ?rest
    case sp =>
      refine ⟨?_, ?_, ?_, ?_, ?_, trivial⟩
      · intro T wz H o ho; have he : o.op = .load 49 (.tmp 4) := Option.some.inj ((congrArg (fun z => z.map Oper.op) ho).symm.trans (show ((opsOf 6 Tryz.f46)[0]?).map Oper.op = some (.load 49 (.tmp 4)) by kernel_rfl)); exact op_ldP he (H.ev (.tmp 4) (.at 0) (by kernel_rfl)) (PtB.kept (L := []) (show PtB (World.drew _) _ _ _ from sa) H.kp (by simp))
      · intro T wz H o ho; have he : o.op = .load 49 (.tmp 5) := Option.some.inj ((congrArg (fun z => z.map Oper.op) ho).symm.trans (show ((opsOf 6 Tryz.f46)[1]?).map Oper.op = some (.load 49 (.tmp 5)) by kernel_rfl)); exact op_ldP he (H.ev (.tmp 5) (.at 1) (by kernel_rfl)) (PtB.kept (L := []) (show PtB (World.drew _) _ _ _ from sb) H.kp (by simp))
      · intro T wz H o ho; have he : o.op = .load 49 (.tmp 3) := Option.some.inj ((congrArg (fun z => z.map Oper.op) ho).symm.trans (show ((opsOf 6 Tryz.f46)[3]?).map Oper.op = some (.load 49 (.tmp 3)) by kernel_rfl)); exact op_ldP he (H.ev (.tmp 3) (.at 2) (by kernel_rfl)) (PtB.kept (L := []) (show PtB (World.drew _) _ _ _ from sp) H.kp (by simp))
      · intro T wz H o ho; have he : o.op = .load 49 (.tmp 5) := Option.some.inj ((congrArg (fun z => z.map Oper.op) ho).symm.trans (show ((opsOf 6 Tryz.f46)[4]?).map Oper.op = some (.load 49 (.tmp 5)) by kernel_rfl)); exact op_ldP he (H.ev (.tmp 5) (.at 1) (by kernel_rfl)) (PtB.kept (L := []) (show PtB (World.drew _) _ _ _ from sb) H.kp (by simp))
      · intro T wz H o ho; have he : o.op = .binOp .leq 3 (.tmp 37) (.const (.int .i64 0)) 3 := Option.some.inj ((congrArg (fun z => z.map Oper.op) ho).symm.trans (show ((opsOf 6 Tryz.f46)[7]?).map Oper.op = some (.binOp .leq 3 (.tmp 37) (.const (.int .i64 0)) 3) by kernel_rfl)); exact op_leq he (H.ev (.tmp 37) (.at 3) (by kernel_rfl)) hd34
    case ca =>
      refine ⟨?_, ?_, ?_, trivial⟩
      · exact ⟨(enters_of Tryz.func62 (by kernel_rfl) rfl), fun wz hk => (q3.out wz).mono fun x w2 ⟨h1, h2⟩ => ⟨_, h1, h2, fun _ => rfl⟩⟩
      · exact ⟨(enters_of Tryz.func62 (by kernel_rfl) rfl), fun wz hk => (q4.out wz).mono fun x w2 ⟨h1, h2⟩ => ⟨_, h1, h2, fun _ => rfl⟩⟩
      · exact ⟨(enters_of Tryz.func82 (by kernel_rfl) rfl), fun wz hk => (qd34.out wz).mono fun x w2 ⟨h1, h2⟩ => ⟨_, h1, h2, fun _ => rfl⟩⟩
    case cx =>
      exact trivial
    case fr =>
      exact trivial
    case rest =>
      intro T w4 hout hval k hF
      rw [show frameOf vsg6f_y.st.N T = (⟨#[T 0, T 1, T 2, T 3, T 4, T 5, T 6, T 7, T 8, T 9, T 10, T 11, T 12, T 13, T 14, T 15, T 16, T 17, T 18, T 19, T 20, T 21, T 22, T 23, T 24, T 25, T 26, T 27, T 28, T 29, T 30, T 31, T 32, T 33, T 34, T 35, T 36, T 37, T 38, T 39, T 40, T 41, T 42, T 43, T 44, T 45, T 46, T 47, T 48], []⟩ : Act) from frame_list 49 T]
      rw [show T 3 = .pointer (some ⟨w.heap.size, 0, none⟩) from hout 3 rfl]
      rw [show T 4 = .pointer (some ⟨w.heap.size + 1, 0, none⟩) from hout 4 rfl]
      rw [show T 5 = .pointer (some ⟨w.heap.size + 1 + 1, 0, none⟩) from hout 5 rfl]
      rw [show T 30 = .bool false from hval 8 (by decide : 8 < 9) (.inl rfl)]
      replace sp := sp.kept k (by simp)
      replace sa := sa.kept k (by simp)
      replace sb := sb.kept k (by simp)
      replace kk := kk.trans k
      clear hout hval hF k
      have xp0 := sp.c0
      have xp1 := sp.c1
      have xa0 := sa.c0
      have xa1 := sa.c1
      have xb0 := sb.c0
      have xb1 := sb.c1
      clear sp sa sb
      have qt1 := Lib.hid (qt.out _ kk)
      go_wp2_with fail
      with_reducible refine qt1.out.mono ?_
      rintro e w5 ⟨rfl, k⟩
      replace kk := kk.trans k
      clear k
      go_wp2
      go_ret2
      exact ⟨rfl, kk⟩

end Go.Proofs.YtcgilcmhandgfaaGreatDoor
