/- Texts Vref5, Vref6, Vec16: each says in its own first comment what it proves. -/
import Derived.Test.YtcgilcmhandgfaaGreatDoorM61
import Derived.Test.YtcgilcmhandgfaaGreatDoorM57
import Derived.Laws.StructEq
import Derived.Test.YtcgilcmhandgfaaGreatDoorM58
import Derived.Test.YtcgilcmhandgfaaGreatDoorM47
import Derived.Test.YtcgilcmhandgfaaGreatDoorM45
/- The reference of layer 7: Ratio, FromLine, ToLine. -/
namespace Go.Proofs.YtcgilcmhandgfaaGreatDoor
open Go.RowKit
open Go.Lib (nDigits itoa decDigits)

theorem op_geq {a : Act} {w : World} {o : Oper} {x : Operand} {v : Int} {b : Bool} (h : o.op = .binOp .geq 3 x (.const (.int .i64 0)) 3) (hx : a.eval x = .int .i64 v) (hb : decide (0 ≤ v) = b) :
    (execOp a.eval o).run Tryz.prog w = .ok (.value (.bool b)) w := by
  have hc : a.eval (.const (.int .i64 0)) = .int .i64 0 := rfl
  subst hb
  generalize a.eval = r at *
  simp [execOp, h, hx, hc, go_sem]
theorem eqP (ax ay bx yb : Int) (W : World) : (Op.equalIn 10000 49 (.agg #[.int .i64 ax, .int .i64 ay]) (.agg #[.int .i64 bx, .int .i64 yb])).run Tryz.prog W = .ok (ax == bx && ay == yb) W := by
  have u3 := Tryz.underlying3
  have a3 := Tryz.isAgg3
  have z3 := Tryz.sizeOf3
  have hS : Tryz.prog.underlying 49 = some (.struct (Tryz.prog.fieldsOf 49)) := by kernel_rfl
  rw [show (10000 : Nat) = 9999 + 1 from rfl, run_equalIn_agg W 9999 49 _ _ hS (by kernel_rfl)]
  simp only [Program.fieldsOf, Tryz.underlying49]
  go_simp
  by_cases h1 : ax = bx <;> by_cases h2 : ay = yb <;> simp [h1, h2]

set_option maxRecDepth 100000 in
set_option maxHeartbeats 4000000 in
theorem rRatio7 (n d : Int) (x xx y r : ByteArray) (w : World)
    (q1 : Hid (Gw w 112 #[.int .i64 n] (.string x)))
    (q2 : Hid (Gw w 131 #[.string x, .string x] (.string xx)))
    (q3 : Hid (Gw w 112 #[.int .i64 d] (.string y)))
    (q4 : Hid (Gw w 130 #[.string xx, .string y] (.string r))) :
    Calls Tryz.prog 133 #[.int .i64 n, .int .i64 d] w fun e w' => e = .returned (.string r) ∧ Kp [] w w' := by
  unfold Gw at q1 q2 q3 q4
  have kk : Kp [] w w := Kp.refl _ _
  go_enter Tryz.func133, Tryz.ntmps133
  go_wp2_with fail
  with_reducible refine (q1.out _ kk).mono ?_
  rintro e w1 ⟨rfl, k⟩
  replace kk := kk.trans k
  clear k
  go_wp2_with fail
  with_reducible refine (q2.out _ kk).mono ?_
  rintro e w2 ⟨rfl, k⟩
  replace kk := kk.trans k
  clear k
  go_wp2_with fail
  with_reducible refine (q3.out _ kk).mono ?_
  rintro e w3 ⟨rfl, k⟩
  replace kk := kk.trans k
  clear k
  go_wp2_with fail
  with_reducible refine (q4.out _ kk).mono ?_
  rintro e w4 ⟨rfl, k⟩
  replace kk := kk.trans k
  clear k
  go_wp2
  go_ret
  exact ⟨rfl, kk⟩

def vrfl_s : RSt := ⟨9, 15, 3, fun i => ([7, 8, 9, 10, 11, 12, 13, 14, 6] : List Nat).getD i 0, fun i => ([0, 0, 0, 1, 0, 0, 1, 1, 0] : List Nat).getD i 0, fun i => ([0, 0, 0, 0, 0, 0, 1, 2, 0] : List Nat).getD i 0, fun i => ([9, 9, 9, 9, 9, 9, 8, 0, 1, 2, 3, 4, 5, 6, 7, 9] : List Nat).getD i 9, fun i => ([3, 6, 7] : List Nat).getD i 0, fun _ => false, fun _ => true, fun _ => 0, fun _ => false⟩
def vrfl_y : RSy := ⟨vrfl_s, fun i => ([.at 3, .at 4, .at 5, .at 6, .at 3, .at 4, .at 7, .at 8, .at 8] : List SV).getD i .un, [(3, .at 2), (4, .at 0), (5, .at 1)], fun i => ([false, false, false, true, false, false, true, true, false] : List Bool).getD i false⟩
def vrfl_ca : List (Nat × Nat × List SV) := [(3, 87, [.at 3, .at 4, .at 5]), (6, 92, [.at 3, .at 4]), (7, 133, [.at 6, .at 7])]
theorem vrfl_ok : reflOk (opsOf 1 Tryz.f102) vrfl_y [0, 1, 2, 4, 5] vrfl_ca [] [] = true := by kernel_rfl
set_option maxRecDepth 100000 in
set_option maxHeartbeats 4000000 in
theorem rFromLine7 (px py ax ay bx yb u f : Int) (r : ByteArray) (w : World)
    (q1 : Hid (Gw w 87 #[.agg #[.int .i64 ax, .int .i64 ay], .agg #[.int .i64 bx, .int .i64 yb], .agg #[.int .i64 px, .int .i64 py]] (.int .i64 u)))
    (q2 : Hid (Gw w 92 #[.agg #[.int .i64 ax, .int .i64 ay], .agg #[.int .i64 bx, .int .i64 yb]] (.int .i64 f)))
    (q3 : Hid (Gw w 133 #[.int .i64 u, .int .i64 f] (.string r))) :
    Calls Tryz.prog 102 #[.agg #[.int .i64 px, .int .i64 py], .agg #[.int .i64 ax, .int .i64 ay], .agg #[.int .i64 bx, .int .i64 yb]] w fun e w' => e = .returned (.string r) ∧ Kp [] w w' := by
  unfold Gw at q1 q2 q3
  have sp := PtB.made w px py
  replace sp := sp.alloc (.cells #[.int .i64 ax, .int .i64 ay] 49 (0, 0))
  replace sp := sp.alloc (.cells #[.int .i64 bx, .int .i64 yb] 49 (0, 0))
  have sa := PtB.made (w.alloc (.cells #[.int .i64 px, .int .i64 py] 49 (0, 0))) ax ay
  replace sa := sa.alloc (.cells #[.int .i64 bx, .int .i64 yb] 49 (0, 0))
  have sb := PtB.made ((w.alloc (.cells #[.int .i64 px, .int .i64 py] 49 (0, 0))).alloc (.cells #[.int .i64 ax, .int .i64 ay] 49 (0, 0))) bx yb
  simp only [World.size_alloc] at *
  have kk : Kp [] w (((w.alloc (.cells #[.int .i64 px, .int .i64 py] 49 (0, 0))).alloc (.cells #[.int .i64 ax, .int .i64 ay] 49 (0, 0))).alloc (.cells #[.int .i64 bx, .int .i64 yb] 49 (0, 0))) := (((Kp.refl _ _).alloc _).alloc _).alloc _
  have xp0 := sp.c0
  have xp1 := sp.c1
  have xa0 := sa.c0
  have xa1 := sa.c1
  have xb0 := sb.c0
  have xb1 := sb.c1
  go_enter Tryz.func102, Tryz.ntmps102
  go_wp2_with fail
  rw [frame_lit]
  refine reg_refl vrfl_y (fun k => ([.pointer (some ⟨w.heap.size + 1, 0, none⟩), .pointer (some ⟨w.heap.size + 1 + 1, 0, none⟩), .pointer (some ⟨w.heap.size, 0, none⟩), .agg #[.int .i64 ax, .int .i64 ay], .agg #[.int .i64 bx, .int .i64 yb], .agg #[.int .i64 px, .int .i64 py], .int .i64 u, .int .i64 f, .string r] : List Value).getD k undef) [] (fun _ _ _ => True) (opsOf 1 Tryz.f102) [0, 1, 2, 4, 5] vrfl_ca [] [] (by kernel_rfl) (by kernel_rfl) vrfl_ok ⟨rfl, rfl, rfl, trivial⟩ ?sp ?ca ?cx (by decide) ?fr (fun _ _ _ _ h _ => h) ?rest
  case sp =>
    refine ⟨?_, ?_, ?_, ?_, ?_, trivial⟩
    · intro T wz H o ho; have he : o.op = .load 49 (.tmp 4) := Option.some.inj ((congrArg (fun z => z.map Oper.op) ho).symm.trans (show ((opsOf 1 Tryz.f102)[0]?).map Oper.op = some (.load 49 (.tmp 4)) by kernel_rfl)); exact op_ldP he (H.ev (.tmp 4) (.at 0) (by kernel_rfl)) (PtB.kept (L := []) (show PtB (World.drew (((w.alloc (.cells #[.int .i64 px, .int .i64 py] 49 (0, 0))).alloc (.cells #[.int .i64 ax, .int .i64 ay] 49 (0, 0))).alloc (.cells #[.int .i64 bx, .int .i64 yb] 49 (0, 0)))) _ _ _ from sa) H.kp (by simp))
    · intro T wz H o ho; have he : o.op = .load 49 (.tmp 5) := Option.some.inj ((congrArg (fun z => z.map Oper.op) ho).symm.trans (show ((opsOf 1 Tryz.f102)[1]?).map Oper.op = some (.load 49 (.tmp 5)) by kernel_rfl)); exact op_ldP he (H.ev (.tmp 5) (.at 1) (by kernel_rfl)) (PtB.kept (L := []) (show PtB (World.drew (((w.alloc (.cells #[.int .i64 px, .int .i64 py] 49 (0, 0))).alloc (.cells #[.int .i64 ax, .int .i64 ay] 49 (0, 0))).alloc (.cells #[.int .i64 bx, .int .i64 yb] 49 (0, 0)))) _ _ _ from sb) H.kp (by simp))
    · intro T wz H o ho; have he : o.op = .load 49 (.tmp 3) := Option.some.inj ((congrArg (fun z => z.map Oper.op) ho).symm.trans (show ((opsOf 1 Tryz.f102)[2]?).map Oper.op = some (.load 49 (.tmp 3)) by kernel_rfl)); exact op_ldP he (H.ev (.tmp 3) (.at 2) (by kernel_rfl)) (PtB.kept (L := []) (show PtB (World.drew (((w.alloc (.cells #[.int .i64 px, .int .i64 py] 49 (0, 0))).alloc (.cells #[.int .i64 ax, .int .i64 ay] 49 (0, 0))).alloc (.cells #[.int .i64 bx, .int .i64 yb] 49 (0, 0)))) _ _ _ from sp) H.kp (by simp))
    · intro T wz H o ho; have he : o.op = .load 49 (.tmp 4) := Option.some.inj ((congrArg (fun z => z.map Oper.op) ho).symm.trans (show ((opsOf 1 Tryz.f102)[4]?).map Oper.op = some (.load 49 (.tmp 4)) by kernel_rfl)); exact op_ldP he (H.ev (.tmp 4) (.at 0) (by kernel_rfl)) (PtB.kept (L := []) (show PtB (World.drew (((w.alloc (.cells #[.int .i64 px, .int .i64 py] 49 (0, 0))).alloc (.cells #[.int .i64 ax, .int .i64 ay] 49 (0, 0))).alloc (.cells #[.int .i64 bx, .int .i64 yb] 49 (0, 0)))) _ _ _ from sa) H.kp (by simp))
    · intro T wz H o ho; have he : o.op = .load 49 (.tmp 5) := Option.some.inj ((congrArg (fun z => z.map Oper.op) ho).symm.trans (show ((opsOf 1 Tryz.f102)[5]?).map Oper.op = some (.load 49 (.tmp 5)) by kernel_rfl)); exact op_ldP he (H.ev (.tmp 5) (.at 1) (by kernel_rfl)) (PtB.kept (L := []) (show PtB (World.drew (((w.alloc (.cells #[.int .i64 px, .int .i64 py] 49 (0, 0))).alloc (.cells #[.int .i64 ax, .int .i64 ay] 49 (0, 0))).alloc (.cells #[.int .i64 bx, .int .i64 yb] 49 (0, 0)))) _ _ _ from sb) H.kp (by simp))
  case ca =>
    refine ⟨?_, ?_, ?_, trivial⟩
    · exact ⟨(enters_of Tryz.func87 (by kernel_rfl) rfl), fun wz hk => (q1.out wz (kk.drew.trans hk)).mono fun x w2 ⟨h1, h2⟩ => ⟨_, h1, h2, fun _ => rfl⟩⟩
    · exact ⟨(enters_of Tryz.func92 (by kernel_rfl) rfl), fun wz hk => (q2.out wz (kk.drew.trans hk)).mono fun x w2 ⟨h1, h2⟩ => ⟨_, h1, h2, fun _ => rfl⟩⟩
    · exact ⟨(enters_of Tryz.func133 (by kernel_rfl) rfl), fun wz hk => (q3.out wz (kk.drew.trans hk)).mono fun x w2 ⟨h1, h2⟩ => ⟨_, h1, h2, fun _ => rfl⟩⟩
  case cx =>
    exact trivial
  case fr =>
    exact trivial
  case rest =>
    intro T w1 hout hval k hF
    rw [show frameOf vrfl_y.st.N T = (⟨#[T 0, T 1, T 2, T 3, T 4, T 5, T 6, T 7, T 8, T 9, T 10, T 11, T 12, T 13, T 14], []⟩ : Act) from frame_list 15 T]
    rw [show T 6 = .string r from hval 8 (by decide : 8 < 9) (.inl rfl)]
    replace sp := sp.kept k (by simp)
    replace sa := sa.kept k (by simp)
    replace sb := sb.kept k (by simp)
    clear xp0 xp1 xa0 xa1 xb0 xb1
    have xp0 := sp.c0
    have xp1 := sp.c1
    have xa0 := sa.c0
    have xa1 := sa.c1
    have xb0 := sb.c0
    have xb1 := sb.c1
    replace kk := kk.trans k
    clear k hout hval hF
    clear sp sa sb xp0 xp1 xa0 xa1 xb0 xb1
    go_wp2
    go_ret
    exact ⟨rfl, kk⟩

set_option maxRecDepth 100000 in
set_option maxHeartbeats 4000000 in
theorem rToLine7_e (px py ax ay bx yb E : Int) (w : World)
    (he : (E != 0) = true)
    (q1 : Hid (Gw w 86 #[.agg #[.int .i64 px, .int .i64 py], .agg #[.int .i64 ax, .int .i64 ay], .agg #[.int .i64 bx, .int .i64 yb]] (.int .i64 E))) :
    Calls Tryz.prog 45 #[.agg #[.int .i64 px, .int .i64 py], .agg #[.int .i64 ax, .int .i64 ay], .agg #[.int .i64 bx, .int .i64 yb]] w fun e w' => e = .returned (.tuple #[.string ⟨#[]⟩, .int .i64 E]) ∧ Kp [] w w' := by
  unfold Gw at q1
  have sp := PtB.made w px py
  replace sp := sp.alloc (.cells #[.int .i64 ax, .int .i64 ay] 49 (0, 0))
  replace sp := sp.alloc (.cells #[.int .i64 bx, .int .i64 yb] 49 (0, 0))
  have sa := PtB.made (w.alloc (.cells #[.int .i64 px, .int .i64 py] 49 (0, 0))) ax ay
  replace sa := sa.alloc (.cells #[.int .i64 bx, .int .i64 yb] 49 (0, 0))
  have sb := PtB.made ((w.alloc (.cells #[.int .i64 px, .int .i64 py] 49 (0, 0))).alloc (.cells #[.int .i64 ax, .int .i64 ay] 49 (0, 0))) bx yb
  simp only [World.size_alloc] at *
  have kk : Kp [] w (((w.alloc (.cells #[.int .i64 px, .int .i64 py] 49 (0, 0))).alloc (.cells #[.int .i64 ax, .int .i64 ay] 49 (0, 0))).alloc (.cells #[.int .i64 bx, .int .i64 yb] 49 (0, 0))) := (((Kp.refl _ _).alloc _).alloc _).alloc _
  have xp0 := sp.c0
  have xp1 := sp.c1
  have xa0 := sa.c0
  have xa1 := sa.c1
  have xb0 := sb.c0
  have xb1 := sb.c1
  go_enter Tryz.func45, Tryz.ntmps45
  go_wp2_with fail
  with_reducible refine (q1.out _ kk).mono ?_
  rintro e w1 ⟨rfl, k⟩
  replace sp := sp.kept k (by simp)
  replace sa := sa.kept k (by simp)
  replace sb := sb.kept k (by simp)
  clear xp0 xp1 xa0 xa1 xb0 xb1
  have xp0 := sp.c0
  have xp1 := sp.c1
  have xa0 := sa.c0
  have xa1 := sa.c1
  have xb0 := sb.c0
  have xb1 := sb.c1
  replace kk := kk.trans k
  clear k
  clear sp sa sb xp0 xp1 xa0 xa1 xb0 xb1
  go_wp2
  go_ret2
  exact ⟨rfl, kk⟩

set_option maxRecDepth 100000 in
set_option maxHeartbeats 4000000 in
theorem rToLine7_z (px py ax ay bx yb : Int) (w : World)
    (hab : (ax == bx && ay == yb) = true)
    (q1 : Hid (Gw w 86 #[.agg #[.int .i64 px, .int .i64 py], .agg #[.int .i64 ax, .int .i64 ay], .agg #[.int .i64 bx, .int .i64 yb]] (.int .i64 0))) :
    Calls Tryz.prog 45 #[.agg #[.int .i64 px, .int .i64 py], .agg #[.int .i64 ax, .int .i64 ay], .agg #[.int .i64 bx, .int .i64 yb]] w fun e w' => e = .returned (.tuple #[.string ⟨#[]⟩, .int .i64 10]) ∧ Kp [] w w' := by
  unfold Gw at q1
  have sp := PtB.made w px py
  replace sp := sp.alloc (.cells #[.int .i64 ax, .int .i64 ay] 49 (0, 0))
  replace sp := sp.alloc (.cells #[.int .i64 bx, .int .i64 yb] 49 (0, 0))
  have sa := PtB.made (w.alloc (.cells #[.int .i64 px, .int .i64 py] 49 (0, 0))) ax ay
  replace sa := sa.alloc (.cells #[.int .i64 bx, .int .i64 yb] 49 (0, 0))
  have sb := PtB.made ((w.alloc (.cells #[.int .i64 px, .int .i64 py] 49 (0, 0))).alloc (.cells #[.int .i64 ax, .int .i64 ay] 49 (0, 0))) bx yb
  simp only [World.size_alloc] at *
  have kk : Kp [] w (((w.alloc (.cells #[.int .i64 px, .int .i64 py] 49 (0, 0))).alloc (.cells #[.int .i64 ax, .int .i64 ay] 49 (0, 0))).alloc (.cells #[.int .i64 bx, .int .i64 yb] 49 (0, 0))) := (((Kp.refl _ _).alloc _).alloc _).alloc _
  have xp0 := sp.c0
  have xp1 := sp.c1
  have xa0 := sa.c0
  have xa1 := sa.c1
  have xb0 := sb.c0
  have xb1 := sb.c1
  have hA : ∀ W : World, (Op.equalIn 10000 49 (.agg #[.int .i64 ax, .int .i64 ay]) (.agg #[.int .i64 bx, .int .i64 yb])).run Tryz.prog W = .ok true W := fun W => by rw [eqP, hab]
  go_enter Tryz.func45, Tryz.ntmps45
  go_wp2_with fail
  with_reducible refine (q1.out _ kk).mono ?_
  rintro e w1 ⟨rfl, k⟩
  replace sp := sp.kept k (by simp)
  replace sa := sa.kept k (by simp)
  replace sb := sb.kept k (by simp)
  clear xp0 xp1 xa0 xa1 xb0 xb1
  have xp0 := sp.c0
  have xp1 := sp.c1
  have xa0 := sa.c0
  have xa1 := sa.c1
  have xb0 := sb.c0
  have xb1 := sb.c1
  replace kk := kk.trans k
  clear k
  clear sp sa sb
  go_wp2
  go_ret2
  exact ⟨rfl, kk⟩

set_option maxRecDepth 100000 in
set_option maxHeartbeats 4000000 in
theorem rToLine7_0 (px py ax ay bx yb : Int) (r : ByteArray) (w : World)
    (hab : (ax == bx && ay == yb) = false)
    (q1 : Hid (Gw w 86 #[.agg #[.int .i64 px, .int .i64 py], .agg #[.int .i64 ax, .int .i64 ay], .agg #[.int .i64 bx, .int .i64 yb]] (.int .i64 0)))
    (q2 : Hid (Gw w 102 #[.agg #[.int .i64 px, .int .i64 py], .agg #[.int .i64 ax, .int .i64 ay], .agg #[.int .i64 bx, .int .i64 yb]] (.string r))) :
    Calls Tryz.prog 45 #[.agg #[.int .i64 px, .int .i64 py], .agg #[.int .i64 ax, .int .i64 ay], .agg #[.int .i64 bx, .int .i64 yb]] w fun e w' => e = .returned (.tuple #[.string r, .int .i64 0]) ∧ Kp [] w w' := by
  unfold Gw at q1 q2
  have sp := PtB.made w px py
  replace sp := sp.alloc (.cells #[.int .i64 ax, .int .i64 ay] 49 (0, 0))
  replace sp := sp.alloc (.cells #[.int .i64 bx, .int .i64 yb] 49 (0, 0))
  have sa := PtB.made (w.alloc (.cells #[.int .i64 px, .int .i64 py] 49 (0, 0))) ax ay
  replace sa := sa.alloc (.cells #[.int .i64 bx, .int .i64 yb] 49 (0, 0))
  have sb := PtB.made ((w.alloc (.cells #[.int .i64 px, .int .i64 py] 49 (0, 0))).alloc (.cells #[.int .i64 ax, .int .i64 ay] 49 (0, 0))) bx yb
  simp only [World.size_alloc] at *
  have kk : Kp [] w (((w.alloc (.cells #[.int .i64 px, .int .i64 py] 49 (0, 0))).alloc (.cells #[.int .i64 ax, .int .i64 ay] 49 (0, 0))).alloc (.cells #[.int .i64 bx, .int .i64 yb] 49 (0, 0))) := (((Kp.refl _ _).alloc _).alloc _).alloc _
  have xp0 := sp.c0
  have xp1 := sp.c1
  have xa0 := sa.c0
  have xa1 := sa.c1
  have xb0 := sb.c0
  have xb1 := sb.c1
  have hA : ∀ W : World, (Op.equalIn 10000 49 (.agg #[.int .i64 ax, .int .i64 ay]) (.agg #[.int .i64 bx, .int .i64 yb])).run Tryz.prog W = .ok false W := fun W => by rw [eqP, hab]
  go_enter Tryz.func45, Tryz.ntmps45
  go_wp2_with fail
  with_reducible refine (q1.out _ kk).mono ?_
  rintro e w1 ⟨rfl, k⟩
  replace sp := sp.kept k (by simp)
  replace sa := sa.kept k (by simp)
  replace sb := sb.kept k (by simp)
  clear xp0 xp1 xa0 xa1 xb0 xb1
  have xp0 := sp.c0
  have xp1 := sp.c1
  have xa0 := sa.c0
  have xa1 := sa.c1
  have xb0 := sb.c0
  have xb1 := sb.c1
  replace kk := kk.trans k
  clear k
  go_wp2_with fail
  with_reducible refine (q2.out _ kk).mono ?_
  rintro e w2 ⟨rfl, k⟩
  replace sp := sp.kept k (by simp)
  replace sa := sa.kept k (by simp)
  replace sb := sb.kept k (by simp)
  clear xp0 xp1 xa0 xa1 xb0 xb1
  have xp0 := sp.c0
  have xp1 := sp.c1
  have xa0 := sa.c0
  have xa1 := sa.c1
  have xb0 := sb.c0
  have xb1 := sb.c1
  replace kk := kk.trans k
  clear k
  clear sp sa sb xp0 xp1 xa0 xa1 xb0 xb1
  go_wp2
  go_ret2
  exact ⟨rfl, kk⟩

end Go.Proofs.YtcgilcmhandgfaaGreatDoor

/- The reference of layer 7: FromSegment, ToSegment. -/
namespace Go.Proofs.YtcgilcmhandgfaaGreatDoor
open Go.RowKit
open Go.Lib (nDigits itoa decDigits)

def vrs1a_s : RSt := ⟨6, 35, 2, fun i => ([11, 12, 13, 14, 15, 16] : List Nat).getD i 0, fun i => ([0, 0, 0, 1, 1, 0] : List Nat).getD i 0, fun i => ([0, 0, 0, 0, 1, 0] : List Nat).getD i 0, fun i => ([6, 6, 6, 6, 6, 6, 6, 6, 6, 6, 6, 0, 1, 2, 3, 4, 5, 6, 6, 6, 6, 6, 6, 6, 6, 6, 6, 6, 6, 6, 6, 6, 6, 6, 6, 6] : List Nat).getD i 6, fun i => ([3, 4] : List Nat).getD i 0, fun _ => false, fun _ => true, fun _ => 0, fun _ => false⟩
def vrs1a_y : RSy := ⟨vrs1a_s, fun i => ([.at 4, .at 5, .at 6, .at 7, .at 3, .bool true] : List SV).getD i .un, [(3, .at 1), (4, .at 2), (7, .at 0)], fun i => ([false, false, false, true, true, false] : List Bool).getD i false⟩
def vrs1a_ca : List (Nat × Nat × List SV) := [(3, 120, [.at 5, .at 6]), (4, 84, [.at 4, .at 7])]
theorem vrs1a_ok : reflOk (opsOf 2 Tryz.f104) vrs1a_y [0, 1, 2, 5] vrs1a_ca [] [] = true := by kernel_rfl
set_option maxRecDepth 100000 in
set_option maxHeartbeats 4000000 in
theorem rFromSegment7_1 (px py ax ay bx yb dx dy ux uy t1 f : Int) (r : ByteArray) (w : World)
    (qd : Hid (Gw w 120 #[.agg #[.int .i64 bx, .int .i64 yb], .agg #[.int .i64 ax, .int .i64 ay]] (.agg #[.int .i64 dx, .int .i64 dy])))
    (q1 : Hid (Gw w 120 #[.agg #[.int .i64 px, .int .i64 py], .agg #[.int .i64 ax, .int .i64 ay]] (.agg #[.int .i64 ux, .int .i64 uy])))
    (q2 : Hid (Gw w 84 #[.agg #[.int .i64 dx, .int .i64 dy], .agg #[.int .i64 ux, .int .i64 uy]] (.int .i64 t1)))
    (h1 : decide (t1 ≤ 0) = true)
    (qf : Hid (Gw w 92 #[.agg #[.int .i64 px, .int .i64 py], .agg #[.int .i64 ax, .int .i64 ay]] (.int .i64 f)))
    (qw : Hid (Gw w 53 #[.int .i64 f] (.string r))) :
    Calls Tryz.prog 104 #[.agg #[.int .i64 px, .int .i64 py], .agg #[.int .i64 ax, .int .i64 ay], .agg #[.int .i64 bx, .int .i64 yb]] w fun e w' => e = .returned (.string r) ∧ Kp [] w w' := by
  unfold Gw at qd q1 q2 qf qw
  have sp := PtB.made w px py
  replace sp := sp.alloc (.cells #[.int .i64 ax, .int .i64 ay] 49 (0, 0))
  replace sp := sp.alloc (.cells #[.int .i64 bx, .int .i64 yb] 49 (0, 0))
  have sa := PtB.made (w.alloc (.cells #[.int .i64 px, .int .i64 py] 49 (0, 0))) ax ay
  replace sa := sa.alloc (.cells #[.int .i64 bx, .int .i64 yb] 49 (0, 0))
  have sb := PtB.made ((w.alloc (.cells #[.int .i64 px, .int .i64 py] 49 (0, 0))).alloc (.cells #[.int .i64 ax, .int .i64 ay] 49 (0, 0))) bx yb
  simp only [World.size_alloc] at *
  have kk : Kp [] w (((w.alloc (.cells #[.int .i64 px, .int .i64 py] 49 (0, 0))).alloc (.cells #[.int .i64 ax, .int .i64 ay] 49 (0, 0))).alloc (.cells #[.int .i64 bx, .int .i64 yb] 49 (0, 0))) := (((Kp.refl _ _).alloc _).alloc _).alloc _
  have xp0 := sp.c0
  have xp1 := sp.c1
  have xa0 := sa.c0
  have xa1 := sa.c1
  have xb0 := sb.c0
  have xb1 := sb.c1
  go_enter Tryz.func104, Tryz.ntmps104
  go_wp2_with fail
  with_reducible refine (qd.out _ kk).mono ?_
  rintro e w1 ⟨rfl, k⟩
  replace sp := sp.kept k (by simp)
  replace sa := sa.kept k (by simp)
  replace sb := sb.kept k (by simp)
  clear xp0 xp1 xa0 xa1 xb0 xb1
  have xp0 := sp.c0
  have xp1 := sp.c1
  have xa0 := sa.c0
  have xa1 := sa.c1
  have xb0 := sb.c0
  have xb1 := sb.c1
  replace kk := kk.trans k
  clear k
  clear xp0 xp1 xa0 xa1 xb0 xb1
  replace sp := sp.alloc (.cells #[.int .i64 dx, .int .i64 dy] 49 (0, 0))
  replace sa := sa.alloc (.cells #[.int .i64 dx, .int .i64 dy] 49 (0, 0))
  replace sb := sb.alloc (.cells #[.int .i64 dx, .int .i64 dy] 49 (0, 0))
  have sd := PtB.made w1 dx dy
  replace kk := kk.alloc (.cells #[.int .i64 dx, .int .i64 dy] 49 (0, 0))
  have xp0 := sp.c0
  have xp1 := sp.c1
  have xa0 := sa.c0
  have xa1 := sa.c1
  have xb0 := sb.c0
  have xb1 := sb.c1
  have xd0 := sd.c0
  have xd1 := sd.c1
  go_wp2_with fail
  rw [frame_lit]
  refine reg_refl vrs1a_y (fun k => ([.pointer (some ⟨w1.heap.size, 0, none⟩), .pointer (some ⟨w.heap.size, 0, none⟩), .pointer (some ⟨w.heap.size + 1, 0, none⟩), .int .i64 t1, .agg #[.int .i64 dx, .int .i64 dy], .agg #[.int .i64 px, .int .i64 py], .agg #[.int .i64 ax, .int .i64 ay], .agg #[.int .i64 ux, .int .i64 uy]] : List Value).getD k undef) [] (fun _ _ _ => True) (opsOf 2 Tryz.f104) [0, 1, 2, 5] vrs1a_ca [] [] (by kernel_rfl) (by kernel_rfl) vrs1a_ok ⟨rfl, rfl, rfl, trivial⟩ ?sp ?ca ?cx (by decide) ?fr (fun _ _ _ _ h _ => h) ?rest
  case sp =>
    refine ⟨?_, ?_, ?_, ?_, trivial⟩
    · intro T wz H o ho; have he : o.op = .load 49 (.tmp 7) := Option.some.inj ((congrArg (fun z => z.map Oper.op) ho).symm.trans (show ((opsOf 2 Tryz.f104)[0]?).map Oper.op = some (.load 49 (.tmp 7)) by kernel_rfl)); exact op_ldP he (H.ev (.tmp 7) (.at 0) (by kernel_rfl)) (PtB.kept (L := []) (show PtB (World.drew (w1.alloc (.cells #[.int .i64 dx, .int .i64 dy] 49 (0, 0)))) _ _ _ from sd) H.kp (by simp))
    · intro T wz H o ho; have he : o.op = .load 49 (.tmp 3) := Option.some.inj ((congrArg (fun z => z.map Oper.op) ho).symm.trans (show ((opsOf 2 Tryz.f104)[1]?).map Oper.op = some (.load 49 (.tmp 3)) by kernel_rfl)); exact op_ldP he (H.ev (.tmp 3) (.at 1) (by kernel_rfl)) (PtB.kept (L := []) (show PtB (World.drew (w1.alloc (.cells #[.int .i64 dx, .int .i64 dy] 49 (0, 0)))) _ _ _ from sp) H.kp (by simp))
    · intro T wz H o ho; have he : o.op = .load 49 (.tmp 4) := Option.some.inj ((congrArg (fun z => z.map Oper.op) ho).symm.trans (show ((opsOf 2 Tryz.f104)[2]?).map Oper.op = some (.load 49 (.tmp 4)) by kernel_rfl)); exact op_ldP he (H.ev (.tmp 4) (.at 2) (by kernel_rfl)) (PtB.kept (L := []) (show PtB (World.drew (w1.alloc (.cells #[.int .i64 dx, .int .i64 dy] 49 (0, 0)))) _ _ _ from sa) H.kp (by simp))
    · intro T wz H o ho; have he : o.op = .binOp .leq 3 (.tmp 15) (.const (.int .i64 0)) 3 := Option.some.inj ((congrArg (fun z => z.map Oper.op) ho).symm.trans (show ((opsOf 2 Tryz.f104)[5]?).map Oper.op = some (.binOp .leq 3 (.tmp 15) (.const (.int .i64 0)) 3) by kernel_rfl)); exact op_leq he (H.ev (.tmp 15) (.at 3) (by kernel_rfl)) h1
  case ca =>
    refine ⟨?_, ?_, trivial⟩
    · exact ⟨(enters_of Tryz.func120 (by kernel_rfl) rfl), fun wz hk => (q1.out wz (kk.drew.trans hk)).mono fun x w2 ⟨h1, h2⟩ => ⟨_, h1, h2, fun _ => rfl⟩⟩
    · exact ⟨(enters_of Tryz.func84 (by kernel_rfl) rfl), fun wz hk => (q2.out wz (kk.drew.trans hk)).mono fun x w2 ⟨h1, h2⟩ => ⟨_, h1, h2, fun _ => rfl⟩⟩
  case cx =>
    exact trivial
  case fr =>
    exact trivial
  case rest =>
    intro T w2 hout hval k hF
    rw [show frameOf vrs1a_y.st.N T = (⟨#[T 0, T 1, T 2, T 3, T 4, T 5, T 6, T 7, T 8, T 9, T 10, T 11, T 12, T 13, T 14, T 15, T 16, T 17, T 18, T 19, T 20, T 21, T 22, T 23, T 24, T 25, T 26, T 27, T 28, T 29, T 30, T 31, T 32, T 33, T 34], []⟩ : Act) from frame_list 35 T]
    rw [show T 3 = .pointer (some ⟨w.heap.size, 0, none⟩) from hout 3 rfl]
    rw [show T 4 = .pointer (some ⟨w.heap.size + 1, 0, none⟩) from hout 4 rfl]
    rw [show T 5 = .pointer (some ⟨w.heap.size + 1 + 1, 0, none⟩) from hout 5 rfl]
    rw [show T 7 = .pointer (some ⟨w1.heap.size, 0, none⟩) from hout 7 rfl]
    rw [show T 16 = .bool true from hval 5 (by decide : 5 < 6) (.inl rfl)]
    replace sp := sp.kept k (by simp)
    replace sa := sa.kept k (by simp)
    replace sb := sb.kept k (by simp)
    replace sd := sd.kept k (by simp)
    clear xp0 xp1 xa0 xa1 xb0 xb1 xd0 xd1
    have xp0 := sp.c0
    have xp1 := sp.c1
    have xa0 := sa.c0
    have xa1 := sa.c1
    have xb0 := sb.c0
    have xb1 := sb.c1
    have xd0 := sd.c0
    have xd1 := sd.c1
    replace kk := kk.trans k
    clear k hout hval hF
    go_wp2_with fail
    with_reducible refine (qf.out _ kk).mono ?_
    rintro e w3 ⟨rfl, k⟩
    replace sp := sp.kept k (by simp)
    replace sa := sa.kept k (by simp)
    replace sb := sb.kept k (by simp)
    replace sd := sd.kept k (by simp)
    clear xp0 xp1 xa0 xa1 xb0 xb1 xd0 xd1
    have xp0 := sp.c0
    have xp1 := sp.c1
    have xa0 := sa.c0
    have xa1 := sa.c1
    have xb0 := sb.c0
    have xb1 := sb.c1
    have xd0 := sd.c0
    have xd1 := sd.c1
    replace kk := kk.trans k
    clear k
    go_wp2_with fail
    with_reducible refine (qw.out _ kk).mono ?_
    rintro e w4 ⟨rfl, k⟩
    replace sp := sp.kept k (by simp)
    replace sa := sa.kept k (by simp)
    replace sb := sb.kept k (by simp)
    replace sd := sd.kept k (by simp)
    clear xp0 xp1 xa0 xa1 xb0 xb1 xd0 xd1
    have xp0 := sp.c0
    have xp1 := sp.c1
    have xa0 := sa.c0
    have xa1 := sa.c1
    have xb0 := sb.c0
    have xb1 := sb.c1
    have xd0 := sd.c0
    have xd1 := sd.c1
    replace kk := kk.trans k
    clear k
    clear sp sa sb sd xp0 xp1 xa0 xa1 xb0 xb1 xd0 xd1
    go_wp2
    go_ret
    exact ⟨rfl, kk⟩

def vrs2a_s : RSt := ⟨6, 35, 2, fun i => ([11, 12, 13, 14, 15, 16] : List Nat).getD i 0, fun i => ([0, 0, 0, 1, 1, 0] : List Nat).getD i 0, fun i => ([0, 0, 0, 0, 1, 0] : List Nat).getD i 0, fun i => ([6, 6, 6, 6, 6, 6, 6, 6, 6, 6, 6, 0, 1, 2, 3, 4, 5, 6, 6, 6, 6, 6, 6, 6, 6, 6, 6, 6, 6, 6, 6, 6, 6, 6, 6, 6] : List Nat).getD i 6, fun i => ([3, 4] : List Nat).getD i 0, fun _ => false, fun _ => true, fun _ => 0, fun _ => false⟩
def vrs2a_y : RSy := ⟨vrs2a_s, fun i => ([.at 4, .at 5, .at 6, .at 7, .at 3, .bool false] : List SV).getD i .un, [(3, .at 1), (4, .at 2), (7, .at 0)], fun i => ([false, false, false, true, true, false] : List Bool).getD i false⟩
def vrs2a_ca : List (Nat × Nat × List SV) := [(3, 120, [.at 5, .at 6]), (4, 84, [.at 4, .at 7])]
theorem vrs2a_ok : reflOk (opsOf 2 Tryz.f104) vrs2a_y [0, 1, 2, 5] vrs2a_ca [] [] = true := by kernel_rfl
def vrs2b_s : RSt := ⟨6, 35, 2, fun i => ([21, 22, 23, 24, 25, 26] : List Nat).getD i 0, fun i => ([0, 0, 0, 1, 1, 0] : List Nat).getD i 0, fun i => ([0, 0, 0, 0, 1, 0] : List Nat).getD i 0, fun i => ([6, 6, 6, 6, 6, 6, 6, 6, 6, 6, 6, 6, 6, 6, 6, 6, 6, 6, 6, 6, 6, 0, 1, 2, 3, 4, 5, 6, 6, 6, 6, 6, 6, 6, 6, 6] : List Nat).getD i 6, fun i => ([3, 4] : List Nat).getD i 0, fun _ => false, fun _ => true, fun _ => 0, fun _ => false⟩
def vrs2b_y : RSy := ⟨vrs2b_s, fun i => ([.at 4, .at 5, .at 6, .at 7, .at 3, .bool true] : List SV).getD i .un, [(3, .at 1), (5, .at 2), (7, .at 0)], fun i => ([false, false, false, true, true, false] : List Bool).getD i false⟩
def vrs2b_ca : List (Nat × Nat × List SV) := [(3, 120, [.at 5, .at 6]), (4, 84, [.at 4, .at 7])]
theorem vrs2b_ok : reflOk (opsOf 4 Tryz.f104) vrs2b_y [0, 1, 2, 5] vrs2b_ca [] [] = true := by kernel_rfl
set_option maxRecDepth 100000 in
set_option maxHeartbeats 4000000 in
theorem rFromSegment7_2 (px py ax ay bx yb dx dy ux uy t1 vx vy t2 f : Int) (r : ByteArray) (w : World)
    (qd : Hid (Gw w 120 #[.agg #[.int .i64 bx, .int .i64 yb], .agg #[.int .i64 ax, .int .i64 ay]] (.agg #[.int .i64 dx, .int .i64 dy])))
    (q1 : Hid (Gw w 120 #[.agg #[.int .i64 px, .int .i64 py], .agg #[.int .i64 ax, .int .i64 ay]] (.agg #[.int .i64 ux, .int .i64 uy])))
    (q2 : Hid (Gw w 84 #[.agg #[.int .i64 dx, .int .i64 dy], .agg #[.int .i64 ux, .int .i64 uy]] (.int .i64 t1)))
    (h1 : decide (t1 ≤ 0) = false)
    (q3 : Hid (Gw w 120 #[.agg #[.int .i64 px, .int .i64 py], .agg #[.int .i64 bx, .int .i64 yb]] (.agg #[.int .i64 vx, .int .i64 vy])))
    (q4 : Hid (Gw w 84 #[.agg #[.int .i64 dx, .int .i64 dy], .agg #[.int .i64 vx, .int .i64 vy]] (.int .i64 t2)))
    (h2 : decide (0 ≤ t2) = true)
    (qf : Hid (Gw w 92 #[.agg #[.int .i64 px, .int .i64 py], .agg #[.int .i64 bx, .int .i64 yb]] (.int .i64 f)))
    (qw : Hid (Gw w 53 #[.int .i64 f] (.string r))) :
    Calls Tryz.prog 104 #[.agg #[.int .i64 px, .int .i64 py], .agg #[.int .i64 ax, .int .i64 ay], .agg #[.int .i64 bx, .int .i64 yb]] w fun e w' => e = .returned (.string r) ∧ Kp [] w w' := by
  unfold Gw at qd q1 q2 q3 q4 qf qw
  have sp := PtB.made w px py
  replace sp := sp.alloc (.cells #[.int .i64 ax, .int .i64 ay] 49 (0, 0))
  replace sp := sp.alloc (.cells #[.int .i64 bx, .int .i64 yb] 49 (0, 0))
  have sa := PtB.made (w.alloc (.cells #[.int .i64 px, .int .i64 py] 49 (0, 0))) ax ay
  replace sa := sa.alloc (.cells #[.int .i64 bx, .int .i64 yb] 49 (0, 0))
  have sb := PtB.made ((w.alloc (.cells #[.int .i64 px, .int .i64 py] 49 (0, 0))).alloc (.cells #[.int .i64 ax, .int .i64 ay] 49 (0, 0))) bx yb
  simp only [World.size_alloc] at *
  have kk : Kp [] w (((w.alloc (.cells #[.int .i64 px, .int .i64 py] 49 (0, 0))).alloc (.cells #[.int .i64 ax, .int .i64 ay] 49 (0, 0))).alloc (.cells #[.int .i64 bx, .int .i64 yb] 49 (0, 0))) := (((Kp.refl _ _).alloc _).alloc _).alloc _
  have xp0 := sp.c0
  have xp1 := sp.c1
  have xa0 := sa.c0
  have xa1 := sa.c1
  have xb0 := sb.c0
  have xb1 := sb.c1
  go_enter Tryz.func104, Tryz.ntmps104
  go_wp2_with fail
  with_reducible refine (qd.out _ kk).mono ?_
  rintro e w1 ⟨rfl, k⟩
  replace sp := sp.kept k (by simp)
  replace sa := sa.kept k (by simp)
  replace sb := sb.kept k (by simp)
  clear xp0 xp1 xa0 xa1 xb0 xb1
  have xp0 := sp.c0
  have xp1 := sp.c1
  have xa0 := sa.c0
  have xa1 := sa.c1
  have xb0 := sb.c0
  have xb1 := sb.c1
  replace kk := kk.trans k
  clear k
  clear xp0 xp1 xa0 xa1 xb0 xb1
  replace sp := sp.alloc (.cells #[.int .i64 dx, .int .i64 dy] 49 (0, 0))
  replace sa := sa.alloc (.cells #[.int .i64 dx, .int .i64 dy] 49 (0, 0))
  replace sb := sb.alloc (.cells #[.int .i64 dx, .int .i64 dy] 49 (0, 0))
  have sd := PtB.made w1 dx dy
  replace kk := kk.alloc (.cells #[.int .i64 dx, .int .i64 dy] 49 (0, 0))
  have xp0 := sp.c0
  have xp1 := sp.c1
  have xa0 := sa.c0
  have xa1 := sa.c1
  have xb0 := sb.c0
  have xb1 := sb.c1
  have xd0 := sd.c0
  have xd1 := sd.c1
  go_wp2_with fail
  rw [frame_lit]
  refine reg_refl vrs2a_y (fun k => ([.pointer (some ⟨w1.heap.size, 0, none⟩), .pointer (some ⟨w.heap.size, 0, none⟩), .pointer (some ⟨w.heap.size + 1, 0, none⟩), .int .i64 t1, .agg #[.int .i64 dx, .int .i64 dy], .agg #[.int .i64 px, .int .i64 py], .agg #[.int .i64 ax, .int .i64 ay], .agg #[.int .i64 ux, .int .i64 uy]] : List Value).getD k undef) [] (fun _ _ _ => True) (opsOf 2 Tryz.f104) [0, 1, 2, 5] vrs2a_ca [] [] (by kernel_rfl) (by kernel_rfl) vrs2a_ok ⟨rfl, rfl, rfl, trivial⟩ ?sp ?ca ?cx (by decide) ?fr (fun _ _ _ _ h _ => h) ?rest
  case sp =>
    refine ⟨?_, ?_, ?_, ?_, trivial⟩
    · intro T wz H o ho; have he : o.op = .load 49 (.tmp 7) := Option.some.inj ((congrArg (fun z => z.map Oper.op) ho).symm.trans (show ((opsOf 2 Tryz.f104)[0]?).map Oper.op = some (.load 49 (.tmp 7)) by kernel_rfl)); exact op_ldP he (H.ev (.tmp 7) (.at 0) (by kernel_rfl)) (PtB.kept (L := []) (show PtB (World.drew (w1.alloc (.cells #[.int .i64 dx, .int .i64 dy] 49 (0, 0)))) _ _ _ from sd) H.kp (by simp))
    · intro T wz H o ho; have he : o.op = .load 49 (.tmp 3) := Option.some.inj ((congrArg (fun z => z.map Oper.op) ho).symm.trans (show ((opsOf 2 Tryz.f104)[1]?).map Oper.op = some (.load 49 (.tmp 3)) by kernel_rfl)); exact op_ldP he (H.ev (.tmp 3) (.at 1) (by kernel_rfl)) (PtB.kept (L := []) (show PtB (World.drew (w1.alloc (.cells #[.int .i64 dx, .int .i64 dy] 49 (0, 0)))) _ _ _ from sp) H.kp (by simp))
    · intro T wz H o ho; have he : o.op = .load 49 (.tmp 4) := Option.some.inj ((congrArg (fun z => z.map Oper.op) ho).symm.trans (show ((opsOf 2 Tryz.f104)[2]?).map Oper.op = some (.load 49 (.tmp 4)) by kernel_rfl)); exact op_ldP he (H.ev (.tmp 4) (.at 2) (by kernel_rfl)) (PtB.kept (L := []) (show PtB (World.drew (w1.alloc (.cells #[.int .i64 dx, .int .i64 dy] 49 (0, 0)))) _ _ _ from sa) H.kp (by simp))
    · intro T wz H o ho; have he : o.op = .binOp .leq 3 (.tmp 15) (.const (.int .i64 0)) 3 := Option.some.inj ((congrArg (fun z => z.map Oper.op) ho).symm.trans (show ((opsOf 2 Tryz.f104)[5]?).map Oper.op = some (.binOp .leq 3 (.tmp 15) (.const (.int .i64 0)) 3) by kernel_rfl)); exact op_leq he (H.ev (.tmp 15) (.at 3) (by kernel_rfl)) h1
  case ca =>
    refine ⟨?_, ?_, trivial⟩
    · exact ⟨(enters_of Tryz.func120 (by kernel_rfl) rfl), fun wz hk => (q1.out wz (kk.drew.trans hk)).mono fun x w2 ⟨h1, h2⟩ => ⟨_, h1, h2, fun _ => rfl⟩⟩
    · exact ⟨(enters_of Tryz.func84 (by kernel_rfl) rfl), fun wz hk => (q2.out wz (kk.drew.trans hk)).mono fun x w2 ⟨h1, h2⟩ => ⟨_, h1, h2, fun _ => rfl⟩⟩
  case cx =>
    exact trivial
  case fr =>
    exact trivial
  case rest =>
    intro T w2 hout hval k hF
    rw [show frameOf vrs2a_y.st.N T = (⟨#[T 0, T 1, T 2, T 3, T 4, T 5, T 6, T 7, T 8, T 9, T 10, T 11, T 12, T 13, T 14, T 15, T 16, T 17, T 18, T 19, T 20, T 21, T 22, T 23, T 24, T 25, T 26, T 27, T 28, T 29, T 30, T 31, T 32, T 33, T 34], []⟩ : Act) from frame_list 35 T]
    rw [show T 3 = .pointer (some ⟨w.heap.size, 0, none⟩) from hout 3 rfl]
    rw [show T 4 = .pointer (some ⟨w.heap.size + 1, 0, none⟩) from hout 4 rfl]
    rw [show T 5 = .pointer (some ⟨w.heap.size + 1 + 1, 0, none⟩) from hout 5 rfl]
    rw [show T 7 = .pointer (some ⟨w1.heap.size, 0, none⟩) from hout 7 rfl]
    rw [show T 16 = .bool false from hval 5 (by decide : 5 < 6) (.inl rfl)]
    replace sp := sp.kept k (by simp)
    replace sa := sa.kept k (by simp)
    replace sb := sb.kept k (by simp)
    replace sd := sd.kept k (by simp)
    clear xp0 xp1 xa0 xa1 xb0 xb1 xd0 xd1
    have xp0 := sp.c0
    have xp1 := sp.c1
    have xa0 := sa.c0
    have xa1 := sa.c1
    have xb0 := sb.c0
    have xb1 := sb.c1
    have xd0 := sd.c0
    have xd1 := sd.c1
    replace kk := kk.trans k
    clear k hout hval hF
    go_wp2_with fail
    rw [frame_lit]
    refine reg_refl vrs2b_y (fun k => ([.pointer (some ⟨w1.heap.size, 0, none⟩), .pointer (some ⟨w.heap.size, 0, none⟩), .pointer (some ⟨w.heap.size + 1 + 1, 0, none⟩), .int .i64 t2, .agg #[.int .i64 dx, .int .i64 dy], .agg #[.int .i64 px, .int .i64 py], .agg #[.int .i64 bx, .int .i64 yb], .agg #[.int .i64 vx, .int .i64 vy]] : List Value).getD k undef) [] (fun _ _ _ => True) (opsOf 4 Tryz.f104) [0, 1, 2, 5] vrs2b_ca [] [] (by kernel_rfl) (by kernel_rfl) vrs2b_ok ⟨rfl, rfl, rfl, trivial⟩ ?sp ?ca ?cx (by decide) ?fr (fun _ _ _ _ h _ => h) ?rest
    case sp =>
      refine ⟨?_, ?_, ?_, ?_, trivial⟩
      · intro T wz H o ho; have he : o.op = .load 49 (.tmp 7) := Option.some.inj ((congrArg (fun z => z.map Oper.op) ho).symm.trans (show ((opsOf 4 Tryz.f104)[0]?).map Oper.op = some (.load 49 (.tmp 7)) by kernel_rfl)); exact op_ldP he (H.ev (.tmp 7) (.at 0) (by kernel_rfl)) (PtB.kept (L := []) (show PtB (World.drew w2) _ _ _ from sd) H.kp (by simp))
      · intro T wz H o ho; have he : o.op = .load 49 (.tmp 3) := Option.some.inj ((congrArg (fun z => z.map Oper.op) ho).symm.trans (show ((opsOf 4 Tryz.f104)[1]?).map Oper.op = some (.load 49 (.tmp 3)) by kernel_rfl)); exact op_ldP he (H.ev (.tmp 3) (.at 1) (by kernel_rfl)) (PtB.kept (L := []) (show PtB (World.drew w2) _ _ _ from sp) H.kp (by simp))
      · intro T wz H o ho; have he : o.op = .load 49 (.tmp 5) := Option.some.inj ((congrArg (fun z => z.map Oper.op) ho).symm.trans (show ((opsOf 4 Tryz.f104)[2]?).map Oper.op = some (.load 49 (.tmp 5)) by kernel_rfl)); exact op_ldP he (H.ev (.tmp 5) (.at 2) (by kernel_rfl)) (PtB.kept (L := []) (show PtB (World.drew w2) _ _ _ from sb) H.kp (by simp))
      · intro T wz H o ho; have he : o.op = .binOp .geq 3 (.tmp 25) (.const (.int .i64 0)) 3 := Option.some.inj ((congrArg (fun z => z.map Oper.op) ho).symm.trans (show ((opsOf 4 Tryz.f104)[5]?).map Oper.op = some (.binOp .geq 3 (.tmp 25) (.const (.int .i64 0)) 3) by kernel_rfl)); exact op_geq he (H.ev (.tmp 25) (.at 3) (by kernel_rfl)) h2
    case ca =>
      refine ⟨?_, ?_, trivial⟩
      · exact ⟨(enters_of Tryz.func120 (by kernel_rfl) rfl), fun wz hk => (q3.out wz (kk.drew.trans hk)).mono fun x w2 ⟨h1, h2⟩ => ⟨_, h1, h2, fun _ => rfl⟩⟩
      · exact ⟨(enters_of Tryz.func84 (by kernel_rfl) rfl), fun wz hk => (q4.out wz (kk.drew.trans hk)).mono fun x w2 ⟨h1, h2⟩ => ⟨_, h1, h2, fun _ => rfl⟩⟩
    case cx =>
      exact trivial
    case fr =>
      exact trivial
    case rest =>
      intro T w3 hout hval k hF
      rw [show frameOf vrs2b_y.st.N T = (⟨#[T 0, T 1, T 2, T 3, T 4, T 5, T 6, T 7, T 8, T 9, T 10, T 11, T 12, T 13, T 14, T 15, T 16, T 17, T 18, T 19, T 20, T 21, T 22, T 23, T 24, T 25, T 26, T 27, T 28, T 29, T 30, T 31, T 32, T 33, T 34], []⟩ : Act) from frame_list 35 T]
      rw [show T 3 = .pointer (some ⟨w.heap.size, 0, none⟩) from hout 3 rfl]
      rw [show T 4 = .pointer (some ⟨w.heap.size + 1, 0, none⟩) from hout 4 rfl]
      rw [show T 5 = .pointer (some ⟨w.heap.size + 1 + 1, 0, none⟩) from hout 5 rfl]
      rw [show T 7 = .pointer (some ⟨w1.heap.size, 0, none⟩) from hout 7 rfl]
      rw [show T 26 = .bool true from hval 5 (by decide : 5 < 6) (.inl rfl)]
      replace sp := sp.kept k (by simp)
      replace sa := sa.kept k (by simp)
      replace sb := sb.kept k (by simp)
      replace sd := sd.kept k (by simp)
      clear xp0 xp1 xa0 xa1 xb0 xb1 xd0 xd1
      have xp0 := sp.c0
      have xp1 := sp.c1
      have xa0 := sa.c0
      have xa1 := sa.c1
      have xb0 := sb.c0
      have xb1 := sb.c1
      have xd0 := sd.c0
      have xd1 := sd.c1
      replace kk := kk.trans k
      clear k hout hval hF
      go_wp2_with fail
      with_reducible refine (qf.out _ kk).mono ?_
      rintro e w4 ⟨rfl, k⟩
      replace sp := sp.kept k (by simp)
      replace sa := sa.kept k (by simp)
      replace sb := sb.kept k (by simp)
      replace sd := sd.kept k (by simp)
      clear xp0 xp1 xa0 xa1 xb0 xb1 xd0 xd1
      have xp0 := sp.c0
      have xp1 := sp.c1
      have xa0 := sa.c0
      have xa1 := sa.c1
      have xb0 := sb.c0
      have xb1 := sb.c1
      have xd0 := sd.c0
      have xd1 := sd.c1
      replace kk := kk.trans k
      clear k
      go_wp2_with fail
      with_reducible refine (qw.out _ kk).mono ?_
      rintro e w5 ⟨rfl, k⟩
      replace sp := sp.kept k (by simp)
      replace sa := sa.kept k (by simp)
      replace sb := sb.kept k (by simp)
      replace sd := sd.kept k (by simp)
      clear xp0 xp1 xa0 xa1 xb0 xb1 xd0 xd1
      have xp0 := sp.c0
      have xp1 := sp.c1
      have xa0 := sa.c0
      have xa1 := sa.c1
      have xb0 := sb.c0
      have xb1 := sb.c1
      have xd0 := sd.c0
      have xd1 := sd.c1
      replace kk := kk.trans k
      clear k
      clear sp sa sb sd xp0 xp1 xa0 xa1 xb0 xb1 xd0 xd1
      go_wp2
      go_ret
      exact ⟨rfl, kk⟩

def vrs3a_s : RSt := ⟨6, 35, 2, fun i => ([11, 12, 13, 14, 15, 16] : List Nat).getD i 0, fun i => ([0, 0, 0, 1, 1, 0] : List Nat).getD i 0, fun i => ([0, 0, 0, 0, 1, 0] : List Nat).getD i 0, fun i => ([6, 6, 6, 6, 6, 6, 6, 6, 6, 6, 6, 0, 1, 2, 3, 4, 5, 6, 6, 6, 6, 6, 6, 6, 6, 6, 6, 6, 6, 6, 6, 6, 6, 6, 6, 6] : List Nat).getD i 6, fun i => ([3, 4] : List Nat).getD i 0, fun _ => false, fun _ => true, fun _ => 0, fun _ => false⟩
def vrs3a_y : RSy := ⟨vrs3a_s, fun i => ([.at 4, .at 5, .at 6, .at 7, .at 3, .bool false] : List SV).getD i .un, [(3, .at 1), (4, .at 2), (7, .at 0)], fun i => ([false, false, false, true, true, false] : List Bool).getD i false⟩
def vrs3a_ca : List (Nat × Nat × List SV) := [(3, 120, [.at 5, .at 6]), (4, 84, [.at 4, .at 7])]
theorem vrs3a_ok : reflOk (opsOf 2 Tryz.f104) vrs3a_y [0, 1, 2, 5] vrs3a_ca [] [] = true := by kernel_rfl
def vrs3b_s : RSt := ⟨6, 35, 2, fun i => ([21, 22, 23, 24, 25, 26] : List Nat).getD i 0, fun i => ([0, 0, 0, 1, 1, 0] : List Nat).getD i 0, fun i => ([0, 0, 0, 0, 1, 0] : List Nat).getD i 0, fun i => ([6, 6, 6, 6, 6, 6, 6, 6, 6, 6, 6, 6, 6, 6, 6, 6, 6, 6, 6, 6, 6, 0, 1, 2, 3, 4, 5, 6, 6, 6, 6, 6, 6, 6, 6, 6] : List Nat).getD i 6, fun i => ([3, 4] : List Nat).getD i 0, fun _ => false, fun _ => true, fun _ => 0, fun _ => false⟩
def vrs3b_y : RSy := ⟨vrs3b_s, fun i => ([.at 4, .at 5, .at 6, .at 7, .at 3, .bool false] : List SV).getD i .un, [(3, .at 1), (5, .at 2), (7, .at 0)], fun i => ([false, false, false, true, true, false] : List Bool).getD i false⟩
def vrs3b_ca : List (Nat × Nat × List SV) := [(3, 120, [.at 5, .at 6]), (4, 84, [.at 4, .at 7])]
theorem vrs3b_ok : reflOk (opsOf 4 Tryz.f104) vrs3b_y [0, 1, 2, 5] vrs3b_ca [] [] = true := by kernel_rfl
set_option maxRecDepth 100000 in
set_option maxHeartbeats 4000000 in
theorem rFromSegment7_3 (px py ax ay bx yb dx dy ux uy t1 vx vy t2 : Int) (r : ByteArray) (w : World)
    (qd : Hid (Gw w 120 #[.agg #[.int .i64 bx, .int .i64 yb], .agg #[.int .i64 ax, .int .i64 ay]] (.agg #[.int .i64 dx, .int .i64 dy])))
    (q1 : Hid (Gw w 120 #[.agg #[.int .i64 px, .int .i64 py], .agg #[.int .i64 ax, .int .i64 ay]] (.agg #[.int .i64 ux, .int .i64 uy])))
    (q2 : Hid (Gw w 84 #[.agg #[.int .i64 dx, .int .i64 dy], .agg #[.int .i64 ux, .int .i64 uy]] (.int .i64 t1)))
    (h1 : decide (t1 ≤ 0) = false)
    (q3 : Hid (Gw w 120 #[.agg #[.int .i64 px, .int .i64 py], .agg #[.int .i64 bx, .int .i64 yb]] (.agg #[.int .i64 vx, .int .i64 vy])))
    (q4 : Hid (Gw w 84 #[.agg #[.int .i64 dx, .int .i64 dy], .agg #[.int .i64 vx, .int .i64 vy]] (.int .i64 t2)))
    (h2 : decide (0 ≤ t2) = false)
    (ql : Hid (Gw w 102 #[.agg #[.int .i64 px, .int .i64 py], .agg #[.int .i64 ax, .int .i64 ay], .agg #[.int .i64 bx, .int .i64 yb]] (.string r))) :
    Calls Tryz.prog 104 #[.agg #[.int .i64 px, .int .i64 py], .agg #[.int .i64 ax, .int .i64 ay], .agg #[.int .i64 bx, .int .i64 yb]] w fun e w' => e = .returned (.string r) ∧ Kp [] w w' := by
  unfold Gw at qd q1 q2 q3 q4 ql
  have sp := PtB.made w px py
  replace sp := sp.alloc (.cells #[.int .i64 ax, .int .i64 ay] 49 (0, 0))
  replace sp := sp.alloc (.cells #[.int .i64 bx, .int .i64 yb] 49 (0, 0))
  have sa := PtB.made (w.alloc (.cells #[.int .i64 px, .int .i64 py] 49 (0, 0))) ax ay
  replace sa := sa.alloc (.cells #[.int .i64 bx, .int .i64 yb] 49 (0, 0))
  have sb := PtB.made ((w.alloc (.cells #[.int .i64 px, .int .i64 py] 49 (0, 0))).alloc (.cells #[.int .i64 ax, .int .i64 ay] 49 (0, 0))) bx yb
  simp only [World.size_alloc] at *
  have kk : Kp [] w (((w.alloc (.cells #[.int .i64 px, .int .i64 py] 49 (0, 0))).alloc (.cells #[.int .i64 ax, .int .i64 ay] 49 (0, 0))).alloc (.cells #[.int .i64 bx, .int .i64 yb] 49 (0, 0))) := (((Kp.refl _ _).alloc _).alloc _).alloc _
  have xp0 := sp.c0
  have xp1 := sp.c1
  have xa0 := sa.c0
  have xa1 := sa.c1
  have xb0 := sb.c0
  have xb1 := sb.c1
  go_enter Tryz.func104, Tryz.ntmps104
  go_wp2_with fail
  with_reducible refine (qd.out _ kk).mono ?_
  rintro e w1 ⟨rfl, k⟩
  replace sp := sp.kept k (by simp)
  replace sa := sa.kept k (by simp)
  replace sb := sb.kept k (by simp)
  clear xp0 xp1 xa0 xa1 xb0 xb1
  have xp0 := sp.c0
  have xp1 := sp.c1
  have xa0 := sa.c0
  have xa1 := sa.c1
  have xb0 := sb.c0
  have xb1 := sb.c1
  replace kk := kk.trans k
  clear k
  clear xp0 xp1 xa0 xa1 xb0 xb1
  replace sp := sp.alloc (.cells #[.int .i64 dx, .int .i64 dy] 49 (0, 0))
  replace sa := sa.alloc (.cells #[.int .i64 dx, .int .i64 dy] 49 (0, 0))
  replace sb := sb.alloc (.cells #[.int .i64 dx, .int .i64 dy] 49 (0, 0))
  have sd := PtB.made w1 dx dy
  replace kk := kk.alloc (.cells #[.int .i64 dx, .int .i64 dy] 49 (0, 0))
  have xp0 := sp.c0
  have xp1 := sp.c1
  have xa0 := sa.c0
  have xa1 := sa.c1
  have xb0 := sb.c0
  have xb1 := sb.c1
  have xd0 := sd.c0
  have xd1 := sd.c1
  go_wp2_with fail
  rw [frame_lit]
  refine reg_refl vrs3a_y (fun k => ([.pointer (some ⟨w1.heap.size, 0, none⟩), .pointer (some ⟨w.heap.size, 0, none⟩), .pointer (some ⟨w.heap.size + 1, 0, none⟩), .int .i64 t1, .agg #[.int .i64 dx, .int .i64 dy], .agg #[.int .i64 px, .int .i64 py], .agg #[.int .i64 ax, .int .i64 ay], .agg #[.int .i64 ux, .int .i64 uy]] : List Value).getD k undef) [] (fun _ _ _ => True) (opsOf 2 Tryz.f104) [0, 1, 2, 5] vrs3a_ca [] [] (by kernel_rfl) (by kernel_rfl) vrs3a_ok ⟨rfl, rfl, rfl, trivial⟩ ?sp ?ca ?cx (by decide) ?fr (fun _ _ _ _ h _ => h) ?rest
  case sp =>
    refine ⟨?_, ?_, ?_, ?_, trivial⟩
    · intro T wz H o ho; have he : o.op = .load 49 (.tmp 7) := Option.some.inj ((congrArg (fun z => z.map Oper.op) ho).symm.trans (show ((opsOf 2 Tryz.f104)[0]?).map Oper.op = some (.load 49 (.tmp 7)) by kernel_rfl)); exact op_ldP he (H.ev (.tmp 7) (.at 0) (by kernel_rfl)) (PtB.kept (L := []) (show PtB (World.drew (w1.alloc (.cells #[.int .i64 dx, .int .i64 dy] 49 (0, 0)))) _ _ _ from sd) H.kp (by simp))
    · intro T wz H o ho; have he : o.op = .load 49 (.tmp 3) := Option.some.inj ((congrArg (fun z => z.map Oper.op) ho).symm.trans (show ((opsOf 2 Tryz.f104)[1]?).map Oper.op = some (.load 49 (.tmp 3)) by kernel_rfl)); exact op_ldP he (H.ev (.tmp 3) (.at 1) (by kernel_rfl)) (PtB.kept (L := []) (show PtB (World.drew (w1.alloc (.cells #[.int .i64 dx, .int .i64 dy] 49 (0, 0)))) _ _ _ from sp) H.kp (by simp))
    · intro T wz H o ho; have he : o.op = .load 49 (.tmp 4) := Option.some.inj ((congrArg (fun z => z.map Oper.op) ho).symm.trans (show ((opsOf 2 Tryz.f104)[2]?).map Oper.op = some (.load 49 (.tmp 4)) by kernel_rfl)); exact op_ldP he (H.ev (.tmp 4) (.at 2) (by kernel_rfl)) (PtB.kept (L := []) (show PtB (World.drew (w1.alloc (.cells #[.int .i64 dx, .int .i64 dy] 49 (0, 0)))) _ _ _ from sa) H.kp (by simp))
    · intro T wz H o ho; have he : o.op = .binOp .leq 3 (.tmp 15) (.const (.int .i64 0)) 3 := Option.some.inj ((congrArg (fun z => z.map Oper.op) ho).symm.trans (show ((opsOf 2 Tryz.f104)[5]?).map Oper.op = some (.binOp .leq 3 (.tmp 15) (.const (.int .i64 0)) 3) by kernel_rfl)); exact op_leq he (H.ev (.tmp 15) (.at 3) (by kernel_rfl)) h1
  case ca =>
    refine ⟨?_, ?_, trivial⟩
    · exact ⟨(enters_of Tryz.func120 (by kernel_rfl) rfl), fun wz hk => (q1.out wz (kk.drew.trans hk)).mono fun x w2 ⟨h1, h2⟩ => ⟨_, h1, h2, fun _ => rfl⟩⟩
    · exact ⟨(enters_of Tryz.func84 (by kernel_rfl) rfl), fun wz hk => (q2.out wz (kk.drew.trans hk)).mono fun x w2 ⟨h1, h2⟩ => ⟨_, h1, h2, fun _ => rfl⟩⟩
  case cx =>
    exact trivial
  case fr =>
    exact trivial
  case rest =>
    intro T w2 hout hval k hF
    rw [show frameOf vrs3a_y.st.N T = (⟨#[T 0, T 1, T 2, T 3, T 4, T 5, T 6, T 7, T 8, T 9, T 10, T 11, T 12, T 13, T 14, T 15, T 16, T 17, T 18, T 19, T 20, T 21, T 22, T 23, T 24, T 25, T 26, T 27, T 28, T 29, T 30, T 31, T 32, T 33, T 34], []⟩ : Act) from frame_list 35 T]
    rw [show T 3 = .pointer (some ⟨w.heap.size, 0, none⟩) from hout 3 rfl]
    rw [show T 4 = .pointer (some ⟨w.heap.size + 1, 0, none⟩) from hout 4 rfl]
    rw [show T 5 = .pointer (some ⟨w.heap.size + 1 + 1, 0, none⟩) from hout 5 rfl]
    rw [show T 7 = .pointer (some ⟨w1.heap.size, 0, none⟩) from hout 7 rfl]
    rw [show T 16 = .bool false from hval 5 (by decide : 5 < 6) (.inl rfl)]
    replace sp := sp.kept k (by simp)
    replace sa := sa.kept k (by simp)
    replace sb := sb.kept k (by simp)
    replace sd := sd.kept k (by simp)
    clear xp0 xp1 xa0 xa1 xb0 xb1 xd0 xd1
    have xp0 := sp.c0
    have xp1 := sp.c1
    have xa0 := sa.c0
    have xa1 := sa.c1
    have xb0 := sb.c0
    have xb1 := sb.c1
    have xd0 := sd.c0
    have xd1 := sd.c1
    replace kk := kk.trans k
    clear k hout hval hF
    go_wp2_with fail
    rw [frame_lit]
    refine reg_refl vrs3b_y (fun k => ([.pointer (some ⟨w1.heap.size, 0, none⟩), .pointer (some ⟨w.heap.size, 0, none⟩), .pointer (some ⟨w.heap.size + 1 + 1, 0, none⟩), .int .i64 t2, .agg #[.int .i64 dx, .int .i64 dy], .agg #[.int .i64 px, .int .i64 py], .agg #[.int .i64 bx, .int .i64 yb], .agg #[.int .i64 vx, .int .i64 vy]] : List Value).getD k undef) [] (fun _ _ _ => True) (opsOf 4 Tryz.f104) [0, 1, 2, 5] vrs3b_ca [] [] (by kernel_rfl) (by kernel_rfl) vrs3b_ok ⟨rfl, rfl, rfl, trivial⟩ ?sp ?ca ?cx (by decide) ?fr (fun _ _ _ _ h _ => h) ?rest
    case sp =>
      refine ⟨?_, ?_, ?_, ?_, trivial⟩
      · intro T wz H o ho; have he : o.op = .load 49 (.tmp 7) := Option.some.inj ((congrArg (fun z => z.map Oper.op) ho).symm.trans (show ((opsOf 4 Tryz.f104)[0]?).map Oper.op = some (.load 49 (.tmp 7)) by kernel_rfl)); exact op_ldP he (H.ev (.tmp 7) (.at 0) (by kernel_rfl)) (PtB.kept (L := []) (show PtB (World.drew w2) _ _ _ from sd) H.kp (by simp))
      · intro T wz H o ho; have he : o.op = .load 49 (.tmp 3) := Option.some.inj ((congrArg (fun z => z.map Oper.op) ho).symm.trans (show ((opsOf 4 Tryz.f104)[1]?).map Oper.op = some (.load 49 (.tmp 3)) by kernel_rfl)); exact op_ldP he (H.ev (.tmp 3) (.at 1) (by kernel_rfl)) (PtB.kept (L := []) (show PtB (World.drew w2) _ _ _ from sp) H.kp (by simp))
      · intro T wz H o ho; have he : o.op = .load 49 (.tmp 5) := Option.some.inj ((congrArg (fun z => z.map Oper.op) ho).symm.trans (show ((opsOf 4 Tryz.f104)[2]?).map Oper.op = some (.load 49 (.tmp 5)) by kernel_rfl)); exact op_ldP he (H.ev (.tmp 5) (.at 2) (by kernel_rfl)) (PtB.kept (L := []) (show PtB (World.drew w2) _ _ _ from sb) H.kp (by simp))
      · intro T wz H o ho; have he : o.op = .binOp .geq 3 (.tmp 25) (.const (.int .i64 0)) 3 := Option.some.inj ((congrArg (fun z => z.map Oper.op) ho).symm.trans (show ((opsOf 4 Tryz.f104)[5]?).map Oper.op = some (.binOp .geq 3 (.tmp 25) (.const (.int .i64 0)) 3) by kernel_rfl)); exact op_geq he (H.ev (.tmp 25) (.at 3) (by kernel_rfl)) h2
    case ca =>
      refine ⟨?_, ?_, trivial⟩
      · exact ⟨(enters_of Tryz.func120 (by kernel_rfl) rfl), fun wz hk => (q3.out wz (kk.drew.trans hk)).mono fun x w2 ⟨h1, h2⟩ => ⟨_, h1, h2, fun _ => rfl⟩⟩
      · exact ⟨(enters_of Tryz.func84 (by kernel_rfl) rfl), fun wz hk => (q4.out wz (kk.drew.trans hk)).mono fun x w2 ⟨h1, h2⟩ => ⟨_, h1, h2, fun _ => rfl⟩⟩
    case cx =>
      exact trivial
    case fr =>
      exact trivial
    case rest =>
      intro T w3 hout hval k hF
      rw [show frameOf vrs3b_y.st.N T = (⟨#[T 0, T 1, T 2, T 3, T 4, T 5, T 6, T 7, T 8, T 9, T 10, T 11, T 12, T 13, T 14, T 15, T 16, T 17, T 18, T 19, T 20, T 21, T 22, T 23, T 24, T 25, T 26, T 27, T 28, T 29, T 30, T 31, T 32, T 33, T 34], []⟩ : Act) from frame_list 35 T]
      rw [show T 3 = .pointer (some ⟨w.heap.size, 0, none⟩) from hout 3 rfl]
      rw [show T 4 = .pointer (some ⟨w.heap.size + 1, 0, none⟩) from hout 4 rfl]
      rw [show T 5 = .pointer (some ⟨w.heap.size + 1 + 1, 0, none⟩) from hout 5 rfl]
      rw [show T 7 = .pointer (some ⟨w1.heap.size, 0, none⟩) from hout 7 rfl]
      rw [show T 26 = .bool false from hval 5 (by decide : 5 < 6) (.inl rfl)]
      replace sp := sp.kept k (by simp)
      replace sa := sa.kept k (by simp)
      replace sb := sb.kept k (by simp)
      replace sd := sd.kept k (by simp)
      clear xp0 xp1 xa0 xa1 xb0 xb1 xd0 xd1
      have xp0 := sp.c0
      have xp1 := sp.c1
      have xa0 := sa.c0
      have xa1 := sa.c1
      have xb0 := sb.c0
      have xb1 := sb.c1
      have xd0 := sd.c0
      have xd1 := sd.c1
      replace kk := kk.trans k
      clear k hout hval hF
      go_wp2_with fail
      with_reducible refine (ql.out _ kk).mono ?_
      rintro e w4 ⟨rfl, k⟩
      replace sp := sp.kept k (by simp)
      replace sa := sa.kept k (by simp)
      replace sb := sb.kept k (by simp)
      replace sd := sd.kept k (by simp)
      clear xp0 xp1 xa0 xa1 xb0 xb1 xd0 xd1
      have xp0 := sp.c0
      have xp1 := sp.c1
      have xa0 := sa.c0
      have xa1 := sa.c1
      have xb0 := sb.c0
      have xb1 := sb.c1
      have xd0 := sd.c0
      have xd1 := sd.c1
      replace kk := kk.trans k
      clear k
      clear sp sa sb sd xp0 xp1 xa0 xa1 xb0 xb1 xd0 xd1
      go_wp2
      go_ret
      exact ⟨rfl, kk⟩

set_option maxRecDepth 100000 in
set_option maxHeartbeats 4000000 in
theorem rToSegment7_e (px py ax ay bx yb E : Int) (w : World)
    (he : (E != 0) = true)
    (q1 : Hid (Gw w 86 #[.agg #[.int .i64 px, .int .i64 py], .agg #[.int .i64 ax, .int .i64 ay], .agg #[.int .i64 bx, .int .i64 yb]] (.int .i64 E))) :
    Calls Tryz.prog 47 #[.agg #[.int .i64 px, .int .i64 py], .agg #[.int .i64 ax, .int .i64 ay], .agg #[.int .i64 bx, .int .i64 yb]] w fun e w' => e = .returned (.tuple #[.string ⟨#[]⟩, .int .i64 E]) ∧ Kp [] w w' := by
  unfold Gw at q1
  have sp := PtB.made w px py
  replace sp := sp.alloc (.cells #[.int .i64 ax, .int .i64 ay] 49 (0, 0))
  replace sp := sp.alloc (.cells #[.int .i64 bx, .int .i64 yb] 49 (0, 0))
  have sa := PtB.made (w.alloc (.cells #[.int .i64 px, .int .i64 py] 49 (0, 0))) ax ay
  replace sa := sa.alloc (.cells #[.int .i64 bx, .int .i64 yb] 49 (0, 0))
  have sb := PtB.made ((w.alloc (.cells #[.int .i64 px, .int .i64 py] 49 (0, 0))).alloc (.cells #[.int .i64 ax, .int .i64 ay] 49 (0, 0))) bx yb
  simp only [World.size_alloc] at *
  have kk : Kp [] w (((w.alloc (.cells #[.int .i64 px, .int .i64 py] 49 (0, 0))).alloc (.cells #[.int .i64 ax, .int .i64 ay] 49 (0, 0))).alloc (.cells #[.int .i64 bx, .int .i64 yb] 49 (0, 0))) := (((Kp.refl _ _).alloc _).alloc _).alloc _
  have xp0 := sp.c0
  have xp1 := sp.c1
  have xa0 := sa.c0
  have xa1 := sa.c1
  have xb0 := sb.c0
  have xb1 := sb.c1
  go_enter Tryz.func47, Tryz.ntmps47
  go_wp2_with fail
  with_reducible refine (q1.out _ kk).mono ?_
  rintro e w1 ⟨rfl, k⟩
  replace sp := sp.kept k (by simp)
  replace sa := sa.kept k (by simp)
  replace sb := sb.kept k (by simp)
  clear xp0 xp1 xa0 xa1 xb0 xb1
  have xp0 := sp.c0
  have xp1 := sp.c1
  have xa0 := sa.c0
  have xa1 := sa.c1
  have xb0 := sb.c0
  have xb1 := sb.c1
  replace kk := kk.trans k
  clear k
  clear sp sa sb xp0 xp1 xa0 xa1 xb0 xb1
  go_wp2
  go_ret2
  exact ⟨rfl, kk⟩

set_option maxRecDepth 100000 in
set_option maxHeartbeats 4000000 in
theorem rToSegment7_0 (px py ax ay bx yb : Int) (r : ByteArray) (w : World)
    (q1 : Hid (Gw w 86 #[.agg #[.int .i64 px, .int .i64 py], .agg #[.int .i64 ax, .int .i64 ay], .agg #[.int .i64 bx, .int .i64 yb]] (.int .i64 0)))
    (q2 : Hid (Gw w 104 #[.agg #[.int .i64 px, .int .i64 py], .agg #[.int .i64 ax, .int .i64 ay], .agg #[.int .i64 bx, .int .i64 yb]] (.string r))) :
    Calls Tryz.prog 47 #[.agg #[.int .i64 px, .int .i64 py], .agg #[.int .i64 ax, .int .i64 ay], .agg #[.int .i64 bx, .int .i64 yb]] w fun e w' => e = .returned (.tuple #[.string r, .int .i64 0]) ∧ Kp [] w w' := by
  unfold Gw at q1 q2
  have sp := PtB.made w px py
  replace sp := sp.alloc (.cells #[.int .i64 ax, .int .i64 ay] 49 (0, 0))
  replace sp := sp.alloc (.cells #[.int .i64 bx, .int .i64 yb] 49 (0, 0))
  have sa := PtB.made (w.alloc (.cells #[.int .i64 px, .int .i64 py] 49 (0, 0))) ax ay
  replace sa := sa.alloc (.cells #[.int .i64 bx, .int .i64 yb] 49 (0, 0))
  have sb := PtB.made ((w.alloc (.cells #[.int .i64 px, .int .i64 py] 49 (0, 0))).alloc (.cells #[.int .i64 ax, .int .i64 ay] 49 (0, 0))) bx yb
  simp only [World.size_alloc] at *
  have kk : Kp [] w (((w.alloc (.cells #[.int .i64 px, .int .i64 py] 49 (0, 0))).alloc (.cells #[.int .i64 ax, .int .i64 ay] 49 (0, 0))).alloc (.cells #[.int .i64 bx, .int .i64 yb] 49 (0, 0))) := (((Kp.refl _ _).alloc _).alloc _).alloc _
  have xp0 := sp.c0
  have xp1 := sp.c1
  have xa0 := sa.c0
  have xa1 := sa.c1
  have xb0 := sb.c0
  have xb1 := sb.c1
  go_enter Tryz.func47, Tryz.ntmps47
  go_wp2_with fail
  with_reducible refine (q1.out _ kk).mono ?_
  rintro e w1 ⟨rfl, k⟩
  replace sp := sp.kept k (by simp)
  replace sa := sa.kept k (by simp)
  replace sb := sb.kept k (by simp)
  clear xp0 xp1 xa0 xa1 xb0 xb1
  have xp0 := sp.c0
  have xp1 := sp.c1
  have xa0 := sa.c0
  have xa1 := sa.c1
  have xb0 := sb.c0
  have xb1 := sb.c1
  replace kk := kk.trans k
  clear k
  go_wp2_with fail
  with_reducible refine (q2.out _ kk).mono ?_
  rintro e w2 ⟨rfl, k⟩
  replace sp := sp.kept k (by simp)
  replace sa := sa.kept k (by simp)
  replace sb := sb.kept k (by simp)
  clear xp0 xp1 xa0 xa1 xb0 xb1
  have xp0 := sp.c0
  have xp1 := sp.c1
  have xa0 := sa.c0
  have xa1 := sa.c1
  have xb0 := sb.c0
  have xb1 := sb.c1
  replace kk := kk.trans k
  clear k
  clear sp sa sb xp0 xp1 xa0 xa1 xb0 xb1
  go_wp2
  go_ret2
  exact ⟨rfl, kk⟩

end Go.Proofs.YtcgilcmhandgfaaGreatDoor

/- ToLine and ToSegment of package vector and of the reference of layer 7 answer alike. -/
namespace Go.Proofs.YtcgilcmhandgfaaGreatDoor
open Go.RowKit
open Go.Lib (nDigits itoa decDigits)

theorem sq_nn (x : Int) : 0 ≤ x * x := by
  rcases Int.le_total 0 x with h | h
  · exact Int.mul_nonneg h h
  · exact Int.mul_nonneg_of_nonpos_of_nonpos h h
theorem sq_z {x : Int} (h : x * x = 0) : x = 0 := by rcases Int.mul_eq_zero.1 h with h | h <;> exact h
theorem sqs2_zero {x y : Int} : sqs [x, y] = 0 ↔ x = 0 ∧ y = 0 := by
  have e : sqs [x, y] = x * x + y * y := by unfold sqs; simp
  rw [e]
  constructor
  · intro h
    have h1 := sq_nn x
    have h2 := sq_nn y
    exact ⟨sq_z (by omega), sq_z (by omega)⟩
  · rintro ⟨rfl, rfl⟩; rfl
theorem sqs2_eq (x y : Int) : sqs [x, y] = x * x + y * y := by unfold sqs; simp
theorem div_ofInt (a b : Int) : Rat.divInt a b = ((a : Rat) / (b : Rat)) := by
  rw [Rat.divInt_eq_div]
theorem toLine_z (px py ax ay bx yb : Int) (w : World) (h : ckP [(px, py), (ax, ay), (bx, yb)] = 0) (h0 : sqs [bx - ax, yb - ay] = 0) (hT : Tab w) :
    Calls Tryz.prog 44 #[.agg #[.int .i64 px, .int .i64 py], .agg #[.int .i64 ax, .int .i64 ay], .agg #[.int .i64 bx, .int .i64 yb]] w fun e w' => e = .returned (.tuple #[.string ⟨#[]⟩, .int .i64 10]) ∧ Kp [] w w' := by
  have hv := vcr_le h
  have ha := ckP_in h (ax, ay) (by simp)
  have hb := ckP_in h (bx, yb) (by simp)
  have d1 := sub_bd hb.1 ha.1
  have d2 := sub_bd hb.2 ha.2
  dsimp only at d1 d2 ha hb
  refine vToLine_0 px py ax ay bx yb (crV px py ax ay bx yb) (bx - ax) (yb - ay) 10 _ w (Lib.hid fun W => cross_c px py ax ay bx yb W h)
    (Lib.hid fun W => vminus bx yb ax ay W (Nat.le_trans hb.1 (by decide)) (Nat.le_trans hb.2 (by decide)) (Nat.le_trans ha.1 (by decide)) (Nat.le_trans ha.2 (by decide))) (Lib.hid fun W kW => ?_)
  have hN := heap_alloc_new W (.cells #[.int .i64 (bx - ax), .int .i64 (yb - ay)] 3 (0, 0))
  have q := vdistance_z (crV px py ax ay bx yb) W.heap.size 2 [bx - ax, yb - ay] (W.alloc (.cells #[.int .i64 (bx - ax), .int .i64 (yb - ay)] 3 (0, 0))) hv
    (fun i hi => by
      rcases i with _ | _ | i
      · exact (new_cell hN _).trans rfl
      · exact (new_cell hN _).trans rfl
      · exact absurd hi (by simp)) (by simp)
    (fun n hn => by
      rcases List.mem_cons.1 hn with rfl | hn
      · exact Nat.le_trans d1 (by decide)
      · rw [List.mem_singleton.1 hn]; exact Nat.le_trans d2 (by decide)) (by simp) (by simp) h0 (tab_kp (tab_kp hT kW) ((Kp.refl _ _).alloc _))
  exact q
/-- the distance from a line: text and error -/
def lnT (px py ax ay bx yb : Int) : ByteArray := if sqs [bx - ax, yb - ay] = 0 then ⟨#[]⟩ else RS ((crV px py ax ay bx yb * crV px py ax ay bx yb : Int) / (sqs [bx - ax, yb - ay] : Int) : Rat)
def lnE (ax ay bx yb : Int) : Int := if sqs [bx - ax, yb - ay] = 0 then 10 else 0
def tkP (E : Int) (t : ByteArray) : ByteArray := if E = 0 then t else ⟨#[]⟩
def ekP (E e : Int) : Int := if E = 0 then e else E
theorem toLine_p (px py ax ay bx yb : Int) (w : World) (hT : Tab w) :
    Calls Tryz.prog 44 #[.agg #[.int .i64 px, .int .i64 py], .agg #[.int .i64 ax, .int .i64 ay], .agg #[.int .i64 bx, .int .i64 yb]] w fun e w' => e = .returned (.tuple #[.string (tkP (ckP [(px, py), (ax, ay), (bx, yb)]) (lnT px py ax ay bx yb)), .int .i64 (ekP (ckP [(px, py), (ax, ay), (bx, yb)]) (lnE ax ay bx yb))]) ∧ Kp [] w w' := by
  by_cases h : ckP [(px, py), (ax, ay), (bx, yb)] = 0
  · unfold tkP ekP
    rw [if_pos h, if_pos h]
    unfold lnT lnE
    by_cases h0 : sqs [bx - ax, yb - ay] = 0
    · rw [if_pos h0, if_pos h0]
      exact toLine_z px py ax ay bx yb w h h0 hT
    · rw [if_neg h0, if_neg h0]
      exact toLine_c px py ax ay bx yb w h h0 hT
  · unfold tkP ekP
    rw [if_neg h, if_neg h]
    exact vToLine_e px py ax ay bx yb _ _ w (by simp [h]) (Lib.hid fun W => cross_p px py ax ay bx yb W)
theorem vok_small {z : Int} (h : z.natAbs ≤ 1000000000000000000) : Ok z := ok_pow (k := 20) (by omega) (by omega)
theorem nd_small {z : Int} (h : z.natAbs ≤ 1000000000000000000) : nDigits z.natAbs ≤ 1200 := Nat.le_trans (vok_small h) (by omega)
theorem ratio_r (n d : Int) (hn : n.natAbs ≤ 1000000000000000000) (hd : d.natAbs ≤ 1000000000000000000) (h0 : d ≠ 0) (w : World) :
    Calls Tryz.prog 133 #[.int .i64 n, .int .i64 d] w fun e w' => e = .returned (.string (RS ((n * n : Int) / (d : Int) : Rat))) ∧ Kp [] w w' := by
  have hnn : Ok (n * n) := ok_pow (k := 40) (by have := mul_bd hn hn; omega) (by omega)
  have q4 : Hid (Gw w 130 #[.string (S (n * n)), .string (S d)] (.string (RS ((n * n : Int) / (d : Int) : Rat)))) := gw_of fun W => by
    have q := lowest_S hnn (vok_small hd) h0 W
    rwa [div_ofInt _ _] at q
  exact rRatio7 n d (S n) (S (n * n)) (S d) _ w (gw_of fun W => of_any n W (by omega) (by omega)) (gw_of fun W => times_ref n n W (nd_small hn) (nd_small hn)) (gw_of fun W => of_any d W (by omega) (by omega)) q4
theorem eq_points (ax ay bx yb : Int) : (ax == bx && ay == yb) = decide (sqs [bx - ax, yb - ay] = 0) := by
  by_cases h : sqs [bx - ax, yb - ay] = 0
  · have := sqs2_zero.1 h
    simp [h]
    omega
  · have h2 : ¬ (ax = bx ∧ ay = yb) := fun e => h (sqs2_zero.2 (by omega))
    simp [h]
    exact fun e e2 => h2 ⟨e, e2⟩
theorem fromLine_r (px py ax ay bx yb : Int) (w : World) (h : ckP [(px, py), (ax, ay), (bx, yb)] = 0) (h0 : sqs [bx - ax, yb - ay] ≠ 0) :
    Calls Tryz.prog 102 #[.agg #[.int .i64 px, .int .i64 py], .agg #[.int .i64 ax, .int .i64 ay], .agg #[.int .i64 bx, .int .i64 yb]] w fun e w' => e = .returned (.string (RS ((crV px py ax ay bx yb * crV px py ax ay bx yb : Int) / (sqs [bx - ax, yb - ay] : Int) : Rat))) ∧ Kp [] w w' := by
  obtain ⟨hp1, hp2⟩ := ckP_in h (px, py) (by simp)
  obtain ⟨ha1, ha2⟩ := ckP_in h (ax, ay) (by simp)
  obtain ⟨hb1, hb2⟩ := ckP_in h (bx, yb) (by simp)
  dsimp only at hp1 hp2 ha1 ha2 hb1 hb2
  have hv := vcr_le h
  have e : crV ax ay bx yb px py = crV px py ax ay bx yb := by unfold crV; grind
  have hd : (sqs [bx - ax, yb - ay]).natAbs ≤ 1000000000000000000 := by
    have m1 := mul_bd (sub_bd hb1 ha1) (sub_bd hb1 ha1)
    have m2 := mul_bd (sub_bd hb2 ha2) (sub_bd hb2 ha2)
    rw [sqs2_eq]
    omega
  refine rFromLine7 px py ax ay bx yb (crV px py ax ay bx yb) (sqs [bx - ax, yb - ay]) _ w (gw_of fun W => ?_) (gw_of fun W => ?_) (gw_of fun W => ratio_r _ _ hv hd h0 W)
  · have q := left_r ax ay bx yb px py W ha1 ha2 hb1 hb2 hp1 hp2
    rwa [e] at q
  · rw [sqs2_eq]
    exact far_r ax ay bx yb W ha1 ha2 hb1 hb2
theorem toLine_r (px py ax ay bx yb : Int) (w : World) :
    Calls Tryz.prog 45 #[.agg #[.int .i64 px, .int .i64 py], .agg #[.int .i64 ax, .int .i64 ay], .agg #[.int .i64 bx, .int .i64 yb]] w fun e w' => e = .returned (.tuple #[.string (tkP (ckP [(px, py), (ax, ay), (bx, yb)]) (lnT px py ax ay bx yb)), .int .i64 (ekP (ckP [(px, py), (ax, ay), (bx, yb)]) (lnE ax ay bx yb))]) ∧ Kp [] w w' := by
  have qp : Hid (Gw w 86 #[.agg #[.int .i64 px, .int .i64 py], .agg #[.int .i64 ax, .int .i64 ay], .agg #[.int .i64 bx, .int .i64 yb]] (.int .i64 (ckP [(px, py), (ax, ay), (bx, yb)]))) := gw_of fun W => rthree_c px py ax ay bx yb W
  by_cases h : ckP [(px, py), (ax, ay), (bx, yb)] = 0
  · unfold tkP ekP
    rw [if_pos h, if_pos h]
    rw [h] at qp
    unfold lnT lnE
    have he := eq_points ax ay bx yb
    by_cases h0 : sqs [bx - ax, yb - ay] = 0
    · rw [if_pos h0, if_pos h0]
      rw [decide_eq_true h0] at he
      exact rToLine7_z px py ax ay bx yb w he qp
    · rw [if_neg h0, if_neg h0]
      rw [decide_eq_false h0] at he
      exact rToLine7_0 px py ax ay bx yb _ w he qp (gw_of fun W => fromLine_r px py ax ay bx yb W h h0)
  · unfold tkP ekP
    rw [if_neg h, if_neg h]
    exact rToLine7_e px py ax ay bx yb _ w (by simp [h]) qp
/-- the distance from a segment -/
def sgT (px py ax ay bx yb : Int) : ByteArray :=
  if (bx - ax) * (px - ax) + (yb - ay) * (py - ay) ≤ 0 then S ((px - ax) * (px - ax) + (py - ay) * (py - ay))
  else if (ax - bx) * (px - bx) + (ay - yb) * (py - yb) ≤ 0 then S ((px - bx) * (px - bx) + (py - yb) * (py - yb))
  else RS ((crV px py ax ay bx yb * crV px py ax ay bx yb : Int) / (sqs [bx - ax, yb - ay] : Int) : Rat)
theorem sq_bd {x1 x2 y1 y2 : Int} (h1 : x1.natAbs ≤ 100000) (h2 : x2.natAbs ≤ 100000) (h3 : y1.natAbs ≤ 100000) (h4 : y2.natAbs ≤ 100000) : ((x1 - x2) * (x1 - x2) + (y1 - y2) * (y1 - y2)).natAbs ≤ 1000000000000000000 := by
  have m1 := mul_bd (sub_bd h1 h2) (sub_bd h1 h2)
  have m2 := mul_bd (sub_bd h3 h4) (sub_bd h3 h4)
  generalize (x1 - x2) * (x1 - x2) = u at *
  generalize (y1 - y2) * (y1 - y2) = v at *
  omega
theorem seg_not {px py ax ay bx yb : Int} (h1 : ¬ (bx - ax) * (px - ax) + (yb - ay) * (py - ay) ≤ 0) : sqs [bx - ax, yb - ay] ≠ 0 := fun h => by
  obtain ⟨e1, e2⟩ := sqs2_zero.1 h
  rw [e1, e2] at h1
  simp at h1
theorem toSegment_p (px py ax ay bx yb : Int) (w : World) (hT : Tab w) :
    Calls Tryz.prog 46 #[.agg #[.int .i64 px, .int .i64 py], .agg #[.int .i64 ax, .int .i64 ay], .agg #[.int .i64 bx, .int .i64 yb]] w fun e w' => e = .returned (.tuple #[.string (tkP (ckP [(px, py), (ax, ay), (bx, yb)]) (sgT px py ax ay bx yb)), .int .i64 (ckP [(px, py), (ax, ay), (bx, yb)])]) ∧ Kp [] w w' := by
  have qc : Hid (∀ W : World, Calls Tryz.prog 20 #[.slice (some ⟨W.heap.size, 0, none⟩) 3 3] (W.alloc (.cells #[.int .i64 px, .int .i64 py, .int .i64 ax, .int .i64 ay, .int .i64 bx, .int .i64 yb] 49 (0, 0))) fun e w' => e = .returned (.int .i64 (ckP [(px, py), (ax, ay), (bx, yb)])) ∧ Kp [] (W.alloc (.cells #[.int .i64 px, .int .i64 py, .int .i64 ax, .int .i64 ay, .int .i64 bx, .int .i64 yb] 49 (0, 0))) w') := fun W => by
    have hN := heap_alloc_new W (.cells #[.int .i64 px, .int .i64 py, .int .i64 ax, .int .i64 ay, .int .i64 bx, .int .i64 yb] 49 (0, 0))
    exact vCheck W.heap.size 0 3 (some ⟨W.heap.size, 0, none⟩) [(px, py), (ax, ay), (bx, yb)] (W.alloc (.cells #[.int .i64 px, .int .i64 py, .int .i64 ax, .int .i64 ay, .int .i64 bx, .int .i64 yb] 49 (0, 0))) (fun i hi => by
      rcases i with _ | _ | _ | i
      · exact ⟨(new_cell hN _).trans rfl, (new_cell hN _).trans rfl⟩
      · exact ⟨(new_cell hN _).trans rfl, (new_cell hN _).trans rfl⟩
      · exact ⟨(new_cell hN _).trans rfl, (new_cell hN _).trans rfl⟩
      · exact absurd hi (by simp)) (fun _ => ⟨rfl, by simp⟩) (by simp)
  by_cases h : ckP [(px, py), (ax, ay), (bx, yb)] = 0
  · obtain ⟨hp1, hp2⟩ := ckP_in h (px, py) (by simp)
    obtain ⟨ha1, ha2⟩ := ckP_in h (ax, ay) (by simp)
    obtain ⟨hb1, hb2⟩ := ckP_in h (bx, yb) (by simp)
    dsimp only at hp1 hp2 ha1 ha2 hb1 hb2
    unfold tkP
    rw [if_pos h]
    have q1 : Hid (∀ W : World, Calls Tryz.prog 62 #[.agg #[.int .i64 bx, .int .i64 yb], .agg #[.int .i64 ax, .int .i64 ay]] W fun e w' => e = .returned (.agg #[.int .i64 (bx - ax), .int .i64 (yb - ay)]) ∧ Kp [] W w') := Lib.hid fun W => vminus bx yb ax ay W (by omega) (by omega) (by omega) (by omega)
    have q2 : Hid (∀ W : World, Calls Tryz.prog 62 #[.agg #[.int .i64 px, .int .i64 py], .agg #[.int .i64 ax, .int .i64 ay]] W fun e w' => e = .returned (.agg #[.int .i64 (px - ax), .int .i64 (py - ay)]) ∧ Kp [] W w') := Lib.hid fun W => vminus px py ax ay W (by omega) (by omega) (by omega) (by omega)
    have q12 : Hid (∀ W : World, Calls Tryz.prog 82 #[.agg #[.int .i64 (bx - ax), .int .i64 (yb - ay)], .agg #[.int .i64 (px - ax), .int .i64 (py - ay)]] W fun e w' => e = .returned (.int .i64 ((bx - ax) * (px - ax) + (yb - ay) * (py - ay))) ∧ Kp [] W w') := Lib.hid fun W => vdot _ _ _ _ W (by omega) (by omega) (by omega) (by omega)
    have q3 : Hid (∀ W : World, Calls Tryz.prog 62 #[.agg #[.int .i64 ax, .int .i64 ay], .agg #[.int .i64 bx, .int .i64 yb]] W fun e w' => e = .returned (.agg #[.int .i64 (ax - bx), .int .i64 (ay - yb)]) ∧ Kp [] W w') := Lib.hid fun W => vminus ax ay bx yb W (by omega) (by omega) (by omega) (by omega)
    have q4 : Hid (∀ W : World, Calls Tryz.prog 62 #[.agg #[.int .i64 px, .int .i64 py], .agg #[.int .i64 bx, .int .i64 yb]] W fun e w' => e = .returned (.agg #[.int .i64 (px - bx), .int .i64 (py - yb)]) ∧ Kp [] W w') := Lib.hid fun W => vminus px py bx yb W (by omega) (by omega) (by omega) (by omega)
    have q34 : Hid (∀ W : World, Calls Tryz.prog 82 #[.agg #[.int .i64 (ax - bx), .int .i64 (ay - yb)], .agg #[.int .i64 (px - bx), .int .i64 (py - yb)]] W fun e w' => e = .returned (.int .i64 ((ax - bx) * (px - bx) + (ay - yb) * (py - yb))) ∧ Kp [] W w') := Lib.hid fun W => vdot _ _ _ _ W (by omega) (by omega) (by omega) (by omega)
    rw [h] at qc ⊢
    unfold sgT
    by_cases h1 : (bx - ax) * (px - ax) + (yb - ay) * (py - ay) ≤ 0
    · rw [if_pos h1]
      exact vToSegment_1 px py ax ay bx yb _ _ _ _ _ _ _ w qc q1 q2 q12 (decide_eq_true h1) (Lib.hid fun W => square_c ax ay px py W ha1 ha2 hp1 hp2) (Lib.hid fun W kW => vwhole (sq_bd hp1 ha1 hp2 ha2) W (tab_kp hT kW))
    · rw [if_neg h1]
      by_cases h2 : (ax - bx) * (px - bx) + (ay - yb) * (py - yb) ≤ 0
      · rw [if_pos h2]
        exact vToSegment_2 px py ax ay bx yb _ _ _ _ _ _ _ _ _ _ _ _ w qc q1 q2 q12 (decide_eq_false h1) q3 q4 q34 (decide_eq_true h2) (Lib.hid fun W => square_c bx yb px py W hb1 hb2 hp1 hp2) (Lib.hid fun W kW => vwhole (sq_bd hp1 hb1 hp2 hb2) W (tab_kp hT kW))
      · rw [if_neg h2]
        exact vToSegment_3 px py ax ay bx yb _ _ _ _ _ _ _ _ _ _ _ w qc q1 q2 q12 (decide_eq_false h1) q3 q4 q34 (decide_eq_false h2) (Lib.hid fun W kW => toLine_c px py ax ay bx yb W h (seg_not h1) (tab_kp hT kW))
  · unfold tkP
    rw [if_neg h]
    exact vToSegment_e px py ax ay bx yb _ w (by simp [h]) qc
theorem rtimes_c (ax ay bx yb : Int) (w : World) (h1 : ax.natAbs ≤ 1000000) (h2 : ay.natAbs ≤ 1000000) (h3 : bx.natAbs ≤ 1000000) (h4 : yb.natAbs ≤ 1000000) : Hid (Gw w 84 #[.agg #[.int .i64 ax, .int .i64 ay], .agg #[.int .i64 bx, .int .i64 yb]] (.int .i64 (ax * bx + ay * yb))) := gw_of fun W => rTimes7 ax ay bx yb W h1 h2 h3 h4
theorem rminus_c (ax ay bx yb : Int) (w : World) (h1 : ax.natAbs ≤ 100000) (h2 : ay.natAbs ≤ 100000) (h3 : bx.natAbs ≤ 100000) (h4 : yb.natAbs ≤ 100000) : Hid (Gw w 120 #[.agg #[.int .i64 ax, .int .i64 ay], .agg #[.int .i64 bx, .int .i64 yb]] (.agg #[.int .i64 (ax - bx), .int .i64 (ay - yb)])) := gw_of fun W => rMinus7 ax ay bx yb W (by omega) (by omega) (by omega) (by omega)
theorem dot_neg (ax ay bx yb px py : Int) : (ax - bx) * (px - bx) + (ay - yb) * (py - yb) = -((bx - ax) * (px - bx) + (yb - ay) * (py - yb)) := by grind
theorem fromSegment_r (px py ax ay bx yb : Int) (w : World) (h : ckP [(px, py), (ax, ay), (bx, yb)] = 0) :
    Calls Tryz.prog 104 #[.agg #[.int .i64 px, .int .i64 py], .agg #[.int .i64 ax, .int .i64 ay], .agg #[.int .i64 bx, .int .i64 yb]] w fun e w' => e = .returned (.string (sgT px py ax ay bx yb)) ∧ Kp [] w w' := by
  obtain ⟨hp1, hp2⟩ := ckP_in h (px, py) (by simp)
  obtain ⟨ha1, ha2⟩ := ckP_in h (ax, ay) (by simp)
  obtain ⟨hb1, hb2⟩ := ckP_in h (bx, yb) (by simp)
  dsimp only at hp1 hp2 ha1 ha2 hb1 hb2
  have qd := rminus_c bx yb ax ay w hb1 hb2 ha1 ha2
  have q1 := rminus_c px py ax ay w hp1 hp2 ha1 ha2
  have q2 := rtimes_c (bx - ax) (yb - ay) (px - ax) (py - ay) w (by omega) (by omega) (by omega) (by omega)
  have q3 := rminus_c px py bx yb w hp1 hp2 hb1 hb2
  have q4 := rtimes_c (bx - ax) (yb - ay) (px - bx) (py - yb) w (by omega) (by omega) (by omega) (by omega)
  have qf1 : Hid (Gw w 92 #[.agg #[.int .i64 px, .int .i64 py], .agg #[.int .i64 ax, .int .i64 ay]] (.int .i64 ((px - ax) * (px - ax) + (py - ay) * (py - ay)))) := gw_of fun W => by
    have q := far_r px py ax ay W hp1 hp2 ha1 ha2
    rwa [sq_swap ax px, sq_swap ay py] at q
  have qf2 : Hid (Gw w 92 #[.agg #[.int .i64 px, .int .i64 py], .agg #[.int .i64 bx, .int .i64 yb]] (.int .i64 ((px - bx) * (px - bx) + (py - yb) * (py - yb)))) := gw_of fun W => by
    have q := far_r px py bx yb W hp1 hp2 hb1 hb2
    rwa [sq_swap bx px, sq_swap yb py] at q
  have b1 := sq_bd hp1 ha1 hp2 ha2
  have b2 := sq_bd hp1 hb1 hp2 hb2
  unfold sgT
  by_cases h1 : (bx - ax) * (px - ax) + (yb - ay) * (py - ay) ≤ 0
  · rw [if_pos h1]
    exact rFromSegment7_1 px py ax ay bx yb _ _ _ _ _ _ _ w qd q1 q2 (decide_eq_true h1) qf1 (gw_of fun W => rwhole_any _ W ⟨by omega, by omega⟩)
  · rw [if_neg h1, dot_neg]
    by_cases h2 : 0 ≤ (bx - ax) * (px - bx) + (yb - ay) * (py - yb)
    · rw [if_pos (by omega)]
      exact rFromSegment7_2 px py ax ay bx yb _ _ _ _ _ _ _ _ _ _ w qd q1 q2 (decide_eq_false h1) q3 q4 (decide_eq_true h2) qf2 (gw_of fun W => rwhole_any _ W ⟨by omega, by omega⟩)
    · rw [if_neg (by omega)]
      exact rFromSegment7_3 px py ax ay bx yb _ _ _ _ _ _ _ _ _ w qd q1 q2 (decide_eq_false h1) q3 q4 (decide_eq_false h2) (gw_of fun W => fromLine_r px py ax ay bx yb W h (seg_not h1))
theorem toSegment_r (px py ax ay bx yb : Int) (w : World) :
    Calls Tryz.prog 47 #[.agg #[.int .i64 px, .int .i64 py], .agg #[.int .i64 ax, .int .i64 ay], .agg #[.int .i64 bx, .int .i64 yb]] w fun e w' => e = .returned (.tuple #[.string (tkP (ckP [(px, py), (ax, ay), (bx, yb)]) (sgT px py ax ay bx yb)), .int .i64 (ckP [(px, py), (ax, ay), (bx, yb)])]) ∧ Kp [] w w' := by
  have qp : Hid (Gw w 86 #[.agg #[.int .i64 px, .int .i64 py], .agg #[.int .i64 ax, .int .i64 ay], .agg #[.int .i64 bx, .int .i64 yb]] (.int .i64 (ckP [(px, py), (ax, ay), (bx, yb)]))) := gw_of fun W => rthree_c px py ax ay bx yb W
  by_cases h : ckP [(px, py), (ax, ay), (bx, yb)] = 0
  · unfold tkP
    rw [if_pos h]
    rw [h] at qp ⊢
    exact rToSegment7_0 px py ax ay bx yb _ w qp (gw_of fun W => fromSegment_r px py ax ay bx yb W h)
  · unfold tkP
    rw [if_neg h]
    exact rToSegment7_e px py ax ay bx yb _ w (by simp [h]) qp

end Go.Proofs.YtcgilcmhandgfaaGreatDoor
