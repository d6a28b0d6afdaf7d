/- VectorNormals returns true for every input. -/
import Derived.Test.YtcgilcmhandgfaaGreatDoorM63
import Derived.Test.YtcgilcmhandgfaaGreatDoorM64
namespace Go.Proofs.YtcgilcmhandgfaaGreatDoor
open Go.RowKit
open Go.Lib (nDigits itoa decDigits)

/-- a place far from the origin -/
def farS (p : P3) : Bool := farP (p.x, p.y) || farP (p.z, 0)

theorem op_faS0 {a : Act} {w : World} {o : Oper} {x : Operand} {b : Nat} (h : o.op = .fieldAddr 56 x 0) (hx : a.eval x = .pointer (some ⟨b, 0, none⟩)) :
    (execOp a.eval o).run Tryz.prog w = .ok (.value (.pointer (some ⟨b, 0, none⟩))) w := by
  generalize a.eval = r at *
  simp [execOp, h, hx, go_sem]
theorem op_faS1 {a : Act} {w : World} {o : Oper} {x : Operand} {b : Nat} (h : o.op = .fieldAddr 56 x 1) (hx : a.eval x = .pointer (some ⟨b, 0, none⟩)) :
    (execOp a.eval o).run Tryz.prog w = .ok (.value (.pointer (some ⟨b, 1, none⟩))) w := by
  generalize a.eval = r at *
  simp [execOp, h, hx, go_sem]
theorem op_faS2 {a : Act} {w : World} {o : Oper} {x : Operand} {b : Nat} (h : o.op = .fieldAddr 56 x 2) (hx : a.eval x = .pointer (some ⟨b, 0, none⟩)) :
    (execOp a.eval o).run Tryz.prog w = .ok (.value (.pointer (some ⟨b, 2, none⟩))) w := by
  generalize a.eval = r at *
  simp [execOp, h, hx, go_sem]
theorem op_ldi {a : Act} {w : World} {o : Oper} {x : Operand} {b i : Nat} {v : Int} (h : o.op = .load 3 x) (hx : a.eval x = .pointer (some ⟨b, i, none⟩)) (hc : w.cell? ⟨b, i, none⟩ = some (.int .i64 v)) :
    (execOp a.eval o).run Tryz.prog w = .ok (.value (.int .i64 v)) w := by
  generalize a.eval = r at *
  simp [execOp, h, hx, hc, go_sem]

def vnct_s : RSt := ⟨12, 14, 3, fun i => ([3, 4, 5, 6, 7, 8, 9, 10, 11, 12, 13, 2] : List Nat).getD i 0, fun i => ([0, 0, 0, 0, 1, 0, 0, 1, 2, 1, 0, 0] : List Nat).getD i 0, fun i => ([0, 0, 0, 0, 0, 0, 0, 1, 0, 2, 0, 0] : List Nat).getD i 0, fun i => ([12, 12, 11, 0, 1, 2, 3, 4, 5, 6, 7, 8, 9, 10, 12] : List Nat).getD i 12, fun i => ([4, 7, 9] : List Nat).getD i 0, fun _ => false, fun _ => true, fun _ => 0, fun _ => false⟩
def vnct_y : RSy := ⟨vnct_s, fun i => ([.at 0, .at 5, .at 1, .at 6, .at 3, .at 2, .at 7, .at 4, .un, .bool false, .bool true, .bool true] : List SV).getD i .un, [(1, .at 0)], fun i => ([false, false, false, false, true, false, false, true, false, true, false, false] : List Bool).getD i false⟩
def vnct_ca : List (Nat × Nat × List SV) := [(4, 49, [.at 5, .at 6]), (7, 49, [.at 7, .num .i64 0])]
theorem vnct_ok : reflOk (opsOf 1 Tryz.f51) vnct_y [0, 1, 2, 3, 5, 6] vnct_ca [9] [8] = true := by kernel_rfl

set_option maxRecDepth 100000 in
set_option maxHeartbeats 4000000 in
theorem norm1_true (x y z : Int) (w : World) (hf : farS ⟨x, y, z⟩ = true) :
    Calls Tryz.prog 51 #[.agg #[.int .i64 x, .int .i64 y, .int .i64 z]] w fun e w' => e = .returned (.bool true) ∧ Kp [] w w' := by
  have s := SpB.made 56 w x y z
  have kk : Kp [] w (w.alloc (.cells #[.int .i64 x, .int .i64 y, .int .i64 z] 56 (0, 0))) := (Kp.refl _ _).alloc _
  have q1 := Lib.hid fun W => vat x y W
  have q2 := Lib.hid fun W => vat z 0 W
  have qn : Hid (∀ (W : World) (gl : Nat), W.heap[gl]? = some (.cells #[.int .i64 x, .int .i64 y, .int .i64 z, .int .i64 0] 49 (0, 0)) → Calls Tryz.prog 48 #[.slice (some ⟨gl, 0, none⟩) 2 2] W fun e w' => e = .returned (.bool false) ∧ Kp [] W w') := fun W gl hN => by
    have q := vnear gl 0 2 (some ⟨gl, 0, none⟩) [(x, y), (z, 0)] W (fun i hi => by
      rcases i with _ | _ | i
      · exact ⟨(new_cell hN _).trans rfl, (new_cell hN _).trans rfl⟩
      · exact ⟨(new_cell hN _).trans rfl, (new_cell hN _).trans rfl⟩
      · exact absurd hi (by simp)) (fun _ => ⟨rfl, (Array.getElem?_eq_some_iff.1 hN).1⟩) (by simp)
    have e : (![(x, y), (z, (0 : Int))].any farP) = false := by unfold farS at hf; rw [List.any_cons, List.any_cons, List.any_nil, Bool.or_false, hf]; rfl
    rw [e] at q
    exact q
  clear hf
  go_enter Tryz.func51, Tryz.ntmps51
  go_wp2_with fail
  rw [frame_lit]
  refine reg_refl vnct_y (fun k => ([.pointer (some ⟨w.heap.size, 0, none⟩), .pointer (some ⟨w.heap.size, 1, none⟩), .pointer (some ⟨w.heap.size, 2, none⟩), .agg #[.int .i64 x, .int .i64 y], .agg #[.int .i64 z, .int .i64 0], .int .i64 x, .int .i64 y, .int .i64 z] : List Value).getD k undef) [] (fun i u wz => i = 8 → ∃ h, u = .slice (some ⟨h, 0, none⟩) 2 2 ∧ wz.heap[h]? = some (.cells #[.int .i64 x, .int .i64 y, .int .i64 z, .int .i64 0] 49 (0, 0))) (opsOf 1 Tryz.f51) [0, 1, 2, 3, 5, 6] vnct_ca [9] [8] (by kernel_rfl) (by kernel_rfl) vnct_ok ⟨rfl, trivial⟩ ?sp ?ca ?cx (by decide) ?fr (fun i u y z h k => fun e => by obtain ⟨h1, a1, a2⟩ := h e; exact ⟨h1, a1, (k.block h1 (Array.getElem?_eq_some_iff.1 a2).1 (by exact List.not_mem_nil)).trans a2⟩) ?rest
  case sp =>
    refine ⟨?_, ?_, ?_, ?_, ?_, ?_, trivial⟩
    · intro T wz H o ho; have he : o.op = .fieldAddr 56 (.tmp 1) 0 := Option.some.inj ((congrArg (fun z => z.map Oper.op) ho).symm.trans (show ((opsOf 1 Tryz.f51)[0]?).map Oper.op = some (.fieldAddr 56 (.tmp 1) 0) by kernel_rfl)); exact op_faS0 he (H.ev (.tmp 1) (.at 0) (by kernel_rfl))
    · intro T wz H o ho; have he : o.op = .load 3 (.tmp 3) := Option.some.inj ((congrArg (fun z => z.map Oper.op) ho).symm.trans (show ((opsOf 1 Tryz.f51)[1]?).map Oper.op = some (.load 3 (.tmp 3)) by kernel_rfl)); exact op_ldi he (H.ev (.tmp 3) (.at 0) (by kernel_rfl)) (SpB.kept (L := []) (show SpB 56 (World.drew (w.alloc (.cells #[.int .i64 x, .int .i64 y, .int .i64 z] 56 (0, 0)))) _ _ _ _ from s) H.kp (by simp)).c0
    · intro T wz H o ho; have he : o.op = .fieldAddr 56 (.tmp 1) 1 := Option.some.inj ((congrArg (fun z => z.map Oper.op) ho).symm.trans (show ((opsOf 1 Tryz.f51)[2]?).map Oper.op = some (.fieldAddr 56 (.tmp 1) 1) by kernel_rfl)); exact op_faS1 he (H.ev (.tmp 1) (.at 0) (by kernel_rfl))
    · intro T wz H o ho; have he : o.op = .load 3 (.tmp 5) := Option.some.inj ((congrArg (fun z => z.map Oper.op) ho).symm.trans (show ((opsOf 1 Tryz.f51)[3]?).map Oper.op = some (.load 3 (.tmp 5)) by kernel_rfl)); exact op_ldi he (H.ev (.tmp 5) (.at 1) (by kernel_rfl)) (SpB.kept (L := []) (show SpB 56 (World.drew (w.alloc (.cells #[.int .i64 x, .int .i64 y, .int .i64 z] 56 (0, 0)))) _ _ _ _ from s) H.kp (by simp)).c1
    · intro T wz H o ho; have he : o.op = .fieldAddr 56 (.tmp 1) 2 := Option.some.inj ((congrArg (fun z => z.map Oper.op) ho).symm.trans (show ((opsOf 1 Tryz.f51)[5]?).map Oper.op = some (.fieldAddr 56 (.tmp 1) 2) by kernel_rfl)); exact op_faS2 he (H.ev (.tmp 1) (.at 0) (by kernel_rfl))
    · intro T wz H o ho; have he : o.op = .load 3 (.tmp 8) := Option.some.inj ((congrArg (fun z => z.map Oper.op) ho).symm.trans (show ((opsOf 1 Tryz.f51)[6]?).map Oper.op = some (.load 3 (.tmp 8)) by kernel_rfl)); exact op_ldi he (H.ev (.tmp 8) (.at 2) (by kernel_rfl)) (SpB.kept (L := []) (show SpB 56 (World.drew (w.alloc (.cells #[.int .i64 x, .int .i64 y, .int .i64 z] 56 (0, 0)))) _ _ _ _ from s) H.kp (by simp)).c2
  case ca =>
    refine ⟨?_, ?_, trivial⟩
    · exact ⟨(enters_of Tryz.func49 (by kernel_rfl) rfl), fun wz hk => (q1.out wz).mono fun x w2 ⟨h1, h2⟩ => ⟨_, h1, h2, fun _ => rfl⟩⟩
    · exact ⟨(enters_of Tryz.func49 (by kernel_rfl) rfl), fun wz hk => (q2.out wz).mono fun x w2 ⟨h1, h2⟩ => ⟨_, h1, h2, fun _ => rfl⟩⟩
  case cx =>
    refine ⟨?_, trivial⟩
    · intro T wz H o ho; obtain ⟨h, hg1, hg2⟩ := (H.fr 8 (by decide : 8 < 12) rfl (by kernel_rfl)) rfl; have he : o.op = .call { callee := .value (.func 48), args := #[.tmp 11], argTypes := #[22] } := Option.some.inj ((congrArg (fun z => z.map Oper.op) ho).symm.trans (show ((opsOf 1 Tryz.f51)[9]?).map Oper.op = some (.call { callee := .value (.func 48), args := #[.tmp 11], argTypes := #[22] }) by kernel_rfl)); exact ⟨_, _, op_call1 (enters_of Tryz.func48 (by kernel_rfl) rfl) he ((frame_eval (N := 14) (d := 11) (by decide)).trans hg1), (qn.out wz h hg2).mono fun x w2 ⟨h1, h2⟩ => ⟨_, h1, h2, fun _ => rfl⟩⟩
  case fr =>
    refine ⟨?_, trivial⟩
    · intro T wz H o ho; have he : o.op = .buildSlice 22 2 #[(0, .tmp 7), (1, .tmp 10)] := Option.some.inj ((congrArg (fun z => z.map Oper.op) ho).symm.trans (show ((opsOf 1 Tryz.f51)[8]?).map Oper.op = some (.buildSlice 22 2 #[(0, .tmp 7), (1, .tmp 10)]) by kernel_rfl)); exact ⟨_, _, op_bsP2 he (H.ev (.tmp 7) (.at 3) (by kernel_rfl)) (H.ev (.tmp 10) (.at 4) (by kernel_rfl)), fun _ => ⟨_, rfl, heap_alloc_new _ _⟩, (Kp.refl _ _).alloc _⟩
  case rest =>
    intro T w3 hout hval k hF
    rw [show frameOf vnct_y.st.N T = (⟨#[T 0, T 1, T 2, T 3, T 4, T 5, T 6, T 7, T 8, T 9, T 10, T 11, T 12, T 13], []⟩ : Act) from frame_list 14 T]
    rw [show T 2 = .bool true from hval 11 (by decide : 11 < 12) (.inl rfl)]
    replace kk := kk.trans k
    clear hout hval hF k q1 q2 qn s
    go_wp2
    go_ret
    exact ⟨rfl, kk⟩

def vncf_s : RSt := ⟨12, 14, 3, fun i => ([3, 4, 5, 6, 7, 8, 9, 10, 11, 12, 13, 2] : List Nat).getD i 0, fun i => ([0, 0, 0, 0, 1, 0, 0, 1, 2, 1, 0, 0] : List Nat).getD i 0, fun i => ([0, 0, 0, 0, 0, 0, 0, 1, 0, 2, 0, 0] : List Nat).getD i 0, fun i => ([12, 12, 11, 0, 1, 2, 3, 4, 5, 6, 7, 8, 9, 10, 12] : List Nat).getD i 12, fun i => ([4, 7, 9] : List Nat).getD i 0, fun _ => false, fun _ => true, fun _ => 0, fun _ => false⟩
def vncf_y : RSy := ⟨vncf_s, fun i => ([.at 0, .at 5, .at 1, .at 6, .at 3, .at 2, .at 7, .at 4, .un, .bool true, .bool false, .bool false] : List SV).getD i .un, [(1, .at 0)], fun i => ([false, false, false, false, true, false, false, true, false, true, false, false] : List Bool).getD i false⟩
def vncf_ca : List (Nat × Nat × List SV) := [(4, 49, [.at 5, .at 6]), (7, 49, [.at 7, .num .i64 0])]
theorem vncf_ok : reflOk (opsOf 1 Tryz.f51) vncf_y [0, 1, 2, 3, 5, 6] vncf_ca [9] [8] = true := by kernel_rfl

set_option maxRecDepth 100000 in
set_option maxHeartbeats 4000000 in
theorem norm1_false (x y z : Int) (w : World) (hf : farS ⟨x, y, z⟩ = false) :
    Calls Tryz.prog 51 #[.agg #[.int .i64 x, .int .i64 y, .int .i64 z]] w fun e w' => e = .returned (.bool false) ∧ Kp [] w w' := by
  have s := SpB.made 56 w x y z
  have kk : Kp [] w (w.alloc (.cells #[.int .i64 x, .int .i64 y, .int .i64 z] 56 (0, 0))) := (Kp.refl _ _).alloc _
  have q1 := Lib.hid fun W => vat x y W
  have q2 := Lib.hid fun W => vat z 0 W
  have qn : Hid (∀ (W : World) (gl : Nat), W.heap[gl]? = some (.cells #[.int .i64 x, .int .i64 y, .int .i64 z, .int .i64 0] 49 (0, 0)) → Calls Tryz.prog 48 #[.slice (some ⟨gl, 0, none⟩) 2 2] W fun e w' => e = .returned (.bool true) ∧ Kp [] W w') := fun W gl hN => by
    have q := vnear gl 0 2 (some ⟨gl, 0, none⟩) [(x, y), (z, 0)] W (fun i hi => by
      rcases i with _ | _ | i
      · exact ⟨(new_cell hN _).trans rfl, (new_cell hN _).trans rfl⟩
      · exact ⟨(new_cell hN _).trans rfl, (new_cell hN _).trans rfl⟩
      · exact absurd hi (by simp)) (fun _ => ⟨rfl, (Array.getElem?_eq_some_iff.1 hN).1⟩) (by simp)
    have e : (![(x, y), (z, (0 : Int))].any farP) = true := by unfold farS at hf; rw [List.any_cons, List.any_cons, List.any_nil, Bool.or_false, hf]; rfl
    rw [e] at q
    exact q
  clear hf
  go_enter Tryz.func51, Tryz.ntmps51
  go_wp2_with fail
  rw [frame_lit]
  refine reg_refl vncf_y (fun k => ([.pointer (some ⟨w.heap.size, 0, none⟩), .pointer (some ⟨w.heap.size, 1, none⟩), .pointer (some ⟨w.heap.size, 2, none⟩), .agg #[.int .i64 x, .int .i64 y], .agg #[.int .i64 z, .int .i64 0], .int .i64 x, .int .i64 y, .int .i64 z] : List Value).getD k undef) [] (fun i u wz => i = 8 → ∃ h, u = .slice (some ⟨h, 0, none⟩) 2 2 ∧ wz.heap[h]? = some (.cells #[.int .i64 x, .int .i64 y, .int .i64 z, .int .i64 0] 49 (0, 0))) (opsOf 1 Tryz.f51) [0, 1, 2, 3, 5, 6] vncf_ca [9] [8] (by kernel_rfl) (by kernel_rfl) vncf_ok ⟨rfl, trivial⟩ ?sp ?ca ?cx (by decide) ?fr (fun i u y z h k => fun e => by obtain ⟨h1, a1, a2⟩ := h e; exact ⟨h1, a1, (k.block h1 (Array.getElem?_eq_some_iff.1 a2).1 (by exact List.not_mem_nil)).trans a2⟩) ?rest
  case sp =>
    refine ⟨?_, ?_, ?_, ?_, ?_, ?_, trivial⟩
    · intro T wz H o ho; have he : o.op = .fieldAddr 56 (.tmp 1) 0 := Option.some.inj ((congrArg (fun z => z.map Oper.op) ho).symm.trans (show ((opsOf 1 Tryz.f51)[0]?).map Oper.op = some (.fieldAddr 56 (.tmp 1) 0) by kernel_rfl)); exact op_faS0 he (H.ev (.tmp 1) (.at 0) (by kernel_rfl))
    · intro T wz H o ho; have he : o.op = .load 3 (.tmp 3) := Option.some.inj ((congrArg (fun z => z.map Oper.op) ho).symm.trans (show ((opsOf 1 Tryz.f51)[1]?).map Oper.op = some (.load 3 (.tmp 3)) by kernel_rfl)); exact op_ldi he (H.ev (.tmp 3) (.at 0) (by kernel_rfl)) (SpB.kept (L := []) (show SpB 56 (World.drew (w.alloc (.cells #[.int .i64 x, .int .i64 y, .int .i64 z] 56 (0, 0)))) _ _ _ _ from s) H.kp (by simp)).c0
    · intro T wz H o ho; have he : o.op = .fieldAddr 56 (.tmp 1) 1 := Option.some.inj ((congrArg (fun z => z.map Oper.op) ho).symm.trans (show ((opsOf 1 Tryz.f51)[2]?).map Oper.op = some (.fieldAddr 56 (.tmp 1) 1) by kernel_rfl)); exact op_faS1 he (H.ev (.tmp 1) (.at 0) (by kernel_rfl))
    · intro T wz H o ho; have he : o.op = .load 3 (.tmp 5) := Option.some.inj ((congrArg (fun z => z.map Oper.op) ho).symm.trans (show ((opsOf 1 Tryz.f51)[3]?).map Oper.op = some (.load 3 (.tmp 5)) by kernel_rfl)); exact op_ldi he (H.ev (.tmp 5) (.at 1) (by kernel_rfl)) (SpB.kept (L := []) (show SpB 56 (World.drew (w.alloc (.cells #[.int .i64 x, .int .i64 y, .int .i64 z] 56 (0, 0)))) _ _ _ _ from s) H.kp (by simp)).c1
    · intro T wz H o ho; have he : o.op = .fieldAddr 56 (.tmp 1) 2 := Option.some.inj ((congrArg (fun z => z.map Oper.op) ho).symm.trans (show ((opsOf 1 Tryz.f51)[5]?).map Oper.op = some (.fieldAddr 56 (.tmp 1) 2) by kernel_rfl)); exact op_faS2 he (H.ev (.tmp 1) (.at 0) (by kernel_rfl))
    · intro T wz H o ho; have he : o.op = .load 3 (.tmp 8) := Option.some.inj ((congrArg (fun z => z.map Oper.op) ho).symm.trans (show ((opsOf 1 Tryz.f51)[6]?).map Oper.op = some (.load 3 (.tmp 8)) by kernel_rfl)); exact op_ldi he (H.ev (.tmp 8) (.at 2) (by kernel_rfl)) (SpB.kept (L := []) (show SpB 56 (World.drew (w.alloc (.cells #[.int .i64 x, .int .i64 y, .int .i64 z] 56 (0, 0)))) _ _ _ _ from s) H.kp (by simp)).c2
  case ca =>
    refine ⟨?_, ?_, trivial⟩
    · exact ⟨(enters_of Tryz.func49 (by kernel_rfl) rfl), fun wz hk => (q1.out wz).mono fun x w2 ⟨h1, h2⟩ => ⟨_, h1, h2, fun _ => rfl⟩⟩
    · exact ⟨(enters_of Tryz.func49 (by kernel_rfl) rfl), fun wz hk => (q2.out wz).mono fun x w2 ⟨h1, h2⟩ => ⟨_, h1, h2, fun _ => rfl⟩⟩
  case cx =>
    refine ⟨?_, trivial⟩
    · intro T wz H o ho; obtain ⟨h, hg1, hg2⟩ := (H.fr 8 (by decide : 8 < 12) rfl (by kernel_rfl)) rfl; have he : o.op = .call { callee := .value (.func 48), args := #[.tmp 11], argTypes := #[22] } := Option.some.inj ((congrArg (fun z => z.map Oper.op) ho).symm.trans (show ((opsOf 1 Tryz.f51)[9]?).map Oper.op = some (.call { callee := .value (.func 48), args := #[.tmp 11], argTypes := #[22] }) by kernel_rfl)); exact ⟨_, _, op_call1 (enters_of Tryz.func48 (by kernel_rfl) rfl) he ((frame_eval (N := 14) (d := 11) (by decide)).trans hg1), (qn.out wz h hg2).mono fun x w2 ⟨h1, h2⟩ => ⟨_, h1, h2, fun _ => rfl⟩⟩
  case fr =>
    refine ⟨?_, trivial⟩
    · intro T wz H o ho; have he : o.op = .buildSlice 22 2 #[(0, .tmp 7), (1, .tmp 10)] := Option.some.inj ((congrArg (fun z => z.map Oper.op) ho).symm.trans (show ((opsOf 1 Tryz.f51)[8]?).map Oper.op = some (.buildSlice 22 2 #[(0, .tmp 7), (1, .tmp 10)]) by kernel_rfl)); exact ⟨_, _, op_bsP2 he (H.ev (.tmp 7) (.at 3) (by kernel_rfl)) (H.ev (.tmp 10) (.at 4) (by kernel_rfl)), fun _ => ⟨_, rfl, heap_alloc_new _ _⟩, (Kp.refl _ _).alloc _⟩
  case rest =>
    intro T w3 hout hval k hF
    rw [show frameOf vncf_y.st.N T = (⟨#[T 0, T 1, T 2, T 3, T 4, T 5, T 6, T 7, T 8, T 9, T 10, T 11, T 12, T 13], []⟩ : Act) from frame_list 14 T]
    rw [show T 2 = .bool false from hval 11 (by decide : 11 < 12) (.inl rfl)]
    replace kk := kk.trans k
    clear hout hval hF k q1 q2 qn s
    go_wp2
    go_ret
    exact ⟨rfl, kk⟩

theorem norm1 (p : P3) (w : World) : Calls Tryz.prog 51 #[.agg #[.int .i64 p.x, .int .i64 p.y, .int .i64 p.z]] w fun e w' => e = .returned (.bool (farS p)) ∧ Kp [] w w' := by
  cases h : farS p with
  | true => exact norm1_true p.x p.y p.z w h
  | false => exact norm1_false p.x p.y p.z w h

set_option maxRecDepth 100000 in
set_option maxHeartbeats 4000000 in
theorem normals_far (ax ay az bx yb bz cx cy cz dx dy dz : Int) (w : World) (hfar : ([⟨ax, ay, az⟩, ⟨bx, yb, bz⟩, ⟨cx, cy, cz⟩, ⟨dx, dy, dz⟩] : List P3).any farS = true) (aw : Hid (Gw w 13 #[] (.bool true))) :
    Calls Tryz.prog 10 #[.agg #[.int .i64 ax, .int .i64 ay, .int .i64 az, .int .i64 bx, .int .i64 yb, .int .i64 bz, .int .i64 cx, .int .i64 cy, .int .i64 cz, .int .i64 dx, .int .i64 dy, .int .i64 dz]] w fun e w' => e = .returned (.bool true) ∧ Kp [] w w' := by
  have s := ArB.made 57 w [ax, ay, az, bx, yb, bz, cx, cy, cz, dx, dy, dz]
  have kk : Kp [] w (w.alloc (.cells #[.int .i64 ax, .int .i64 ay, .int .i64 az, .int .i64 bx, .int .i64 yb, .int .i64 bz, .int .i64 cx, .int .i64 cy, .int .i64 cz, .int .i64 dx, .int .i64 dy, .int .i64 dz] 57 (0, 0))) := (Kp.refl _ _).alloc _
  have x0 := s.c (i := 0) rfl
  have x1 := s.c (i := 1) rfl
  have x2 := s.c (i := 2) rfl
  have x3 := s.c (i := 3) rfl
  have x4 := s.c (i := 4) rfl
  have x5 := s.c (i := 5) rfl
  have x6 := s.c (i := 6) rfl
  have x7 := s.c (i := 7) rfl
  have x8 := s.c (i := 8) rfl
  have x9 := s.c (i := 9) rfl
  have x10 := s.c (i := 10) rfl
  have x11 := s.c (i := 11) rfl
  have hP : Sps (w.alloc (.cells #[.int .i64 ax, .int .i64 ay, .int .i64 az, .int .i64 bx, .int .i64 yb, .int .i64 bz, .int .i64 cx, .int .i64 cy, .int .i64 cz, .int .i64 dx, .int .i64 dy, .int .i64 dz] 57 (0, 0))) w.heap.size 0 ([⟨ax, ay, az⟩, ⟨bx, yb, bz⟩, ⟨cx, cy, cz⟩, ⟨dx, dy, dz⟩] : List P3) := fun i hi => by
    rcases i with _ | _ | _ | _ | i
    · exact ⟨x0, x1, x2⟩
    · exact ⟨x3, x4, x5⟩
    · exact ⟨x6, x7, x8⟩
    · exact ⟨x9, x10, x11⟩
    · exact absurd hi (by simp)
  have qf := Lib.hid (vcontainsS 51 w.heap.size 0 4 (some ⟨w.heap.size, 0, none⟩) ([⟨ax, ay, az⟩, ⟨bx, yb, bz⟩, ⟨cx, cy, cz⟩, ⟨dx, dy, dz⟩] : List P3) farS _ hP (fun _ => ⟨rfl, by simp⟩) (by simp) (enters_of Tryz.func51 (by kernel_rfl) rfl) (fun e W => norm1 e W))
  simp only [List.length_cons, List.length_nil, Nat.zero_add, Nat.reduceAdd] at qf
  rw [hfar] at qf
  clear hP
  unfold Gw at aw
  go_enter Tryz.func10, Tryz.ntmps10
  go_wp2_with fail
  with_reducible refine qf.out.mono ?_
  rintro e w1 ⟨rfl, k⟩
  replace kk := kk.trans k
  clear k s x0 x1 x2 x3 x4 x5 x6 x7 x8 x9 x10 x11
  go_wp2_with fail
  with_reducible refine (aw.out _ kk).mono ?_
  rintro e w2 ⟨rfl, k⟩
  replace kk := kk.trans k
  go_wp2
  go_ret
  exact ⟨rfl, kk⟩

set_option maxRecDepth 100000 in
set_option maxHeartbeats 4000000 in
theorem normals_core (ax ay az bx yb bz cx cy cz dx dy dz n1 n2 n3 x : Int) (w : World)
    (hfar : ([⟨ax, ay, az⟩, ⟨bx, yb, bz⟩, ⟨cx, cy, cz⟩, ⟨dx, dy, dz⟩] : List P3).any farS = false)
    (lb0 : -18000 ≤ bx - ax) (ub0 : bx - ax ≤ 18000) (Lb0 : -12000000000000 ≤ n1 * (bx - ax)) (Ub0 : n1 * (bx - ax) ≤ 12000000000000)
    (lb1 : -18000 ≤ yb - ay) (ub1 : yb - ay ≤ 18000) (Lb1 : -12000000000000 ≤ n2 * (yb - ay)) (Ub1 : n2 * (yb - ay) ≤ 12000000000000)
    (lb2 : -18000 ≤ bz - az) (ub2 : bz - az ≤ 18000) (Lb2 : -12000000000000 ≤ n3 * (bz - az)) (Ub2 : n3 * (bz - az) ≤ 12000000000000)
    (zb : (n1 * (bx - ax) + n2 * (yb - ay) + n3 * (bz - az) != 0) = false)
    (lc0 : -18000 ≤ cx - ax) (uc0 : cx - ax ≤ 18000) (Lc0 : -12000000000000 ≤ n1 * (cx - ax)) (Uc0 : n1 * (cx - ax) ≤ 12000000000000)
    (lc1 : -18000 ≤ cy - ay) (uc1 : cy - ay ≤ 18000) (Lc1 : -12000000000000 ≤ n2 * (cy - ay)) (Uc1 : n2 * (cy - ay) ≤ 12000000000000)
    (lc2 : -18000 ≤ cz - az) (uc2 : cz - az ≤ 18000) (Lc2 : -12000000000000 ≤ n3 * (cz - az)) (Uc2 : n3 * (cz - az) ≤ 12000000000000)
    (zc : (n1 * (cx - ax) + n2 * (cy - ay) + n3 * (cz - az) != 0) = false)
    (x1 : -100000000000000 ≤ x) (x2 : x ≤ 100000000000000)
    (q1 : Hid (Gw w 36 #[.agg #[.int .i64 ax, .int .i64 ay, .int .i64 az], .agg #[.int .i64 bx, .int .i64 yb, .int .i64 bz], .agg #[.int .i64 cx, .int .i64 cy, .int .i64 cz]] (.tuple #[.agg #[.int .i64 n1, .int .i64 n2, .int .i64 n3], .int .i64 0])))
    (q2 : Hid (Gw w 38 #[.agg #[.int .i64 ax, .int .i64 ay, .int .i64 az], .agg #[.int .i64 bx, .int .i64 yb, .int .i64 bz], .agg #[.int .i64 cx, .int .i64 cy, .int .i64 cz], .agg #[.int .i64 dx, .int .i64 dy, .int .i64 dz]] (.tuple #[.int .i64 x, .int .i64 0])))
    (q3 : Hid (Gw w 38 #[.agg #[.int .i64 bx, .int .i64 yb, .int .i64 bz], .agg #[.int .i64 ax, .int .i64 ay, .int .i64 az], .agg #[.int .i64 cx, .int .i64 cy, .int .i64 cz], .agg #[.int .i64 dx, .int .i64 dy, .int .i64 dz]] (.tuple #[.int .i64 (-x), .int .i64 0])))
    (q4 : Hid (Gw w 38 #[.agg #[.int .i64 bx, .int .i64 yb, .int .i64 bz], .agg #[.int .i64 cx, .int .i64 cy, .int .i64 cz], .agg #[.int .i64 dx, .int .i64 dy, .int .i64 dz], .agg #[.int .i64 ax, .int .i64 ay, .int .i64 az]] (.tuple #[.int .i64 (-x), .int .i64 0])))
    (aw : Hid (Gw w 13 #[] (.bool true))) :
    Calls Tryz.prog 10 #[.agg #[.int .i64 ax, .int .i64 ay, .int .i64 az, .int .i64 bx, .int .i64 yb, .int .i64 bz, .int .i64 cx, .int .i64 cy, .int .i64 cz, .int .i64 dx, .int .i64 dy, .int .i64 dz]] w fun e w' => e = .returned (.bool true) ∧ Kp [] w w' := by
  have s := ArB.made 57 w [ax, ay, az, bx, yb, bz, cx, cy, cz, dx, dy, dz]
  have kk : Kp [] w (w.alloc (.cells #[.int .i64 ax, .int .i64 ay, .int .i64 az, .int .i64 bx, .int .i64 yb, .int .i64 bz, .int .i64 cx, .int .i64 cy, .int .i64 cz, .int .i64 dx, .int .i64 dy, .int .i64 dz] 57 (0, 0))) := (Kp.refl _ _).alloc _
  have y0 := s.c (i := 0) rfl
  have y1 := s.c (i := 1) rfl
  have y2 := s.c (i := 2) rfl
  have y3 := s.c (i := 3) rfl
  have y4 := s.c (i := 4) rfl
  have y5 := s.c (i := 5) rfl
  have y6 := s.c (i := 6) rfl
  have y7 := s.c (i := 7) rfl
  have y8 := s.c (i := 8) rfl
  have y9 := s.c (i := 9) rfl
  have y10 := s.c (i := 10) rfl
  have y11 := s.c (i := 11) rfl
  have hP : Sps (w.alloc (.cells #[.int .i64 ax, .int .i64 ay, .int .i64 az, .int .i64 bx, .int .i64 yb, .int .i64 bz, .int .i64 cx, .int .i64 cy, .int .i64 cz, .int .i64 dx, .int .i64 dy, .int .i64 dz] 57 (0, 0))) w.heap.size 0 ([⟨ax, ay, az⟩, ⟨bx, yb, bz⟩, ⟨cx, cy, cz⟩, ⟨dx, dy, dz⟩] : List P3) := fun i hi => by
    rcases i with _ | _ | _ | _ | i
    · exact ⟨y0, y1, y2⟩
    · exact ⟨y3, y4, y5⟩
    · exact ⟨y6, y7, y8⟩
    · exact ⟨y9, y10, y11⟩
    · exact absurd hi (by simp)
  have qf := Lib.hid (vcontainsS 51 w.heap.size 0 4 (some ⟨w.heap.size, 0, none⟩) ([⟨ax, ay, az⟩, ⟨bx, yb, bz⟩, ⟨cx, cy, cz⟩, ⟨dx, dy, dz⟩] : List P3) farS _ hP (fun _ => ⟨rfl, by simp⟩) (by simp) (enters_of Tryz.func51 (by kernel_rfl) rfl) (fun e W => norm1 e W))
  simp only [List.length_cons, List.length_nil, Nat.zero_add, Nat.reduceAdd] at qf
  rw [hfar] at qf
  clear hP
  unfold Gw at q1 q2 q3 q4 aw
  go_enter Tryz.func10, Tryz.ntmps10
  go_wp2_with fail
  with_reducible refine qf.out.mono ?_
  rintro e w1 ⟨rfl, k⟩
  replace kk := kk.trans k
  replace s := s.kept k (by simp)
  clear y0 y1 y2 y3 y4 y5 y6 y7 y8 y9 y10 y11
  clear k
  have y0 := s.c (i := 0) rfl
  have y1 := s.c (i := 1) rfl
  have y2 := s.c (i := 2) rfl
  have y3 := s.c (i := 3) rfl
  have y4 := s.c (i := 4) rfl
  have y5 := s.c (i := 5) rfl
  have y6 := s.c (i := 6) rfl
  have y7 := s.c (i := 7) rfl
  have y8 := s.c (i := 8) rfl
  have y9 := s.c (i := 9) rfl
  have y10 := s.c (i := 10) rfl
  have y11 := s.c (i := 11) rfl
  go_wp2_with fail
  with_reducible refine (q1.out _ kk).mono ?_
  rintro e w2 ⟨rfl, k⟩
  replace kk := kk.trans k
  replace s := s.kept k (by simp)
  clear y0 y1 y2 y3 y4 y5 y6 y7 y8 y9 y10 y11
  clear k
  replace s := s.alloc (.cells #[.int .i64 n1, .int .i64 n2, .int .i64 n3] 58 (0, 0))
  have t := SpB.made 58 w2 n1 n2 n3
  replace kk := kk.alloc (.cells #[.int .i64 n1, .int .i64 n2, .int .i64 n3] 58 (0, 0))
  generalize hb : w2.heap.size = bn at *
  go_wp2_with fail
  go_loopw [28] (fun s28 wr => ∃ k : Nat, k ≤ 2 ∧ s28 = .int .i64 k ∧ ArB 57 wr w.heap.size [ax, ay, az, bx, yb, bz, cx, cy, cz, dx, dy, dz] ∧ SpB 58 wr bn n1 n2 n3 ∧ Kp [] w wr)
    (fun s28 _ => 2 - (intOf s28).toNat)
  case atStart => exact ⟨0, by omega, rfl, s, t, kk⟩
  case round =>
    obtain ⟨k, hk1, rfl, s, t, kk⟩ := hrel
    have y0 := s.c (i := 0) rfl
    have y1 := s.c (i := 1) rfl
    have y2 := s.c (i := 2) rfl
    have y3 := s.c (i := 3) rfl
    have y4 := s.c (i := 4) rfl
    have y5 := s.c (i := 5) rfl
    have y6 := s.c (i := 6) rfl
    have y7 := s.c (i := 7) rfl
    have y8 := s.c (i := 8) rfl
    have y9 := s.c (i := 9) rfl
    have y10 := s.c (i := 10) rfl
    have y11 := s.c (i := 11) rfl
    have t0 := t.c0
    have t1 := t.c1
    have t2 := t.c2
    rcases k with _ | k
    · have s2 := s.alloc (.cells #[.int .i64 bx, .int .i64 yb, .int .i64 bz] 56 (0, 0))
      have t2 := t.alloc (.cells #[.int .i64 bx, .int .i64 yb, .int .i64 bz] 56 (0, 0))
      have kk2 := kk.alloc (.cells #[.int .i64 bx, .int .i64 yb, .int .i64 bz] 56 (0, 0))
      have p := SpB.made 56 wr bx yb bz
      have p0 := p.c0
      have p1 := p.c1
      have p2 := p.c2
      have T0 := t2.c0
      have S0 := s2.c (i := 0) rfl
      have T1 := t2.c1
      have S1 := s2.c (i := 1) rfl
      have T2 := t2.c2
      have S2 := s2.c (i := 2) rfl
      clear p
      go_wp2
      go_roundw
      case rel => exact ⟨1, by omega, rfl, s2, t2, kk2⟩
      case measure => simp [intOf]
    rcases k with _ | k
    · have s2 := s.alloc (.cells #[.int .i64 cx, .int .i64 cy, .int .i64 cz] 56 (0, 0))
      have t2 := t.alloc (.cells #[.int .i64 cx, .int .i64 cy, .int .i64 cz] 56 (0, 0))
      have kk2 := kk.alloc (.cells #[.int .i64 cx, .int .i64 cy, .int .i64 cz] 56 (0, 0))
      have p := SpB.made 56 wr cx cy cz
      have p0 := p.c0
      have p1 := p.c1
      have p2 := p.c2
      have T0 := t2.c0
      have S0 := s2.c (i := 0) rfl
      have T1 := t2.c1
      have S1 := s2.c (i := 1) rfl
      have T2 := t2.c2
      have S2 := s2.c (i := 2) rfl
      clear p
      go_wp2
      go_roundw
      case rel => exact ⟨2, by omega, rfl, s2, t2, kk2⟩
      case measure => simp [intOf]
    rcases k with _ | k
    · clear t t0 t1 t2
      go_wp2_with fail
      with_reducible refine (q2.out _ kk).mono ?_
      rintro e v1 ⟨rfl, k⟩
      replace kk := kk.trans k
      replace s := s.kept k (by simp)
      clear y0 y1 y2 y3 y4 y5 y6 y7 y8 y9 y10 y11
      clear k
      have y0 := s.c (i := 0) rfl
      have y1 := s.c (i := 1) rfl
      have y2 := s.c (i := 2) rfl
      have y3 := s.c (i := 3) rfl
      have y4 := s.c (i := 4) rfl
      have y5 := s.c (i := 5) rfl
      have y6 := s.c (i := 6) rfl
      have y7 := s.c (i := 7) rfl
      have y8 := s.c (i := 8) rfl
      have y9 := s.c (i := 9) rfl
      have y10 := s.c (i := 10) rfl
      have y11 := s.c (i := 11) rfl
      go_wp2_with fail
      with_reducible refine (q3.out _ kk).mono ?_
      rintro e v2 ⟨rfl, k⟩
      replace kk := kk.trans k
      replace s := s.kept k (by simp)
      clear y0 y1 y2 y3 y4 y5 y6 y7 y8 y9 y10 y11
      clear k
      have y0 := s.c (i := 0) rfl
      have y1 := s.c (i := 1) rfl
      have y2 := s.c (i := 2) rfl
      have y3 := s.c (i := 3) rfl
      have y4 := s.c (i := 4) rfl
      have y5 := s.c (i := 5) rfl
      have y6 := s.c (i := 6) rfl
      have y7 := s.c (i := 7) rfl
      have y8 := s.c (i := 8) rfl
      have y9 := s.c (i := 9) rfl
      have y10 := s.c (i := 10) rfl
      have y11 := s.c (i := 11) rfl
      go_wp2_with fail
      with_reducible refine (q4.out _ kk).mono ?_
      rintro e v3 ⟨rfl, k⟩
      replace kk := kk.trans k
      replace s := s.kept k (by simp)
      clear y0 y1 y2 y3 y4 y5 y6 y7 y8 y9 y10 y11
      clear k
      have y0 := s.c (i := 0) rfl
      have y1 := s.c (i := 1) rfl
      have y2 := s.c (i := 2) rfl
      have y3 := s.c (i := 3) rfl
      have y4 := s.c (i := 4) rfl
      have y5 := s.c (i := 5) rfl
      have y6 := s.c (i := 6) rfl
      have y7 := s.c (i := 7) rfl
      have y8 := s.c (i := 8) rfl
      have y9 := s.c (i := 9) rfl
      have y10 := s.c (i := 10) rfl
      have y11 := s.c (i := 11) rfl
      clear y0 y1 y2 y3 y4 y5 y6 y7 y8 y9 y10 y11 s
      go_wp2_with fail
      with_reducible refine (aw.out _ kk).mono ?_
      rintro e v9 ⟨rfl, k⟩
      replace kk := kk.trans k
      go_wp2
      go_ret
      exact ⟨rfl, kk⟩
    · exact absurd hk1 (by omega)

theorem farS_no {x y z : Int} (h : farS ⟨x, y, z⟩ = false) : -9000 ≤ x ∧ x ≤ 9000 ∧ -9000 ≤ y ∧ y ≤ 9000 ∧ -9000 ≤ z ∧ z ≤ 9000 := by
  unfold farS at h
  rw [Bool.or_eq_false_iff] at h
  obtain ⟨h1, h2⟩ := h
  have a := farP_no h1
  have b := farP_no h2
  dsimp only at a b
  omega
theorem inS_of {x y z : Int} (h1 : -100000 ≤ x ∧ x ≤ 100000) (h2 : -100000 ≤ y ∧ y ≤ 100000) (h3 : -100000 ≤ z ∧ z ≤ 100000) : inS ⟨x, y, z⟩ = true := by
  unfold inS
  rw [(inB_iff x).2 h1, (inB_iff y).2 h2, (inB_iff z).2 h3]
  rfl
theorem nr_near {ay az yb bz cy cz : Int} (h1 : (yb - ay).natAbs ≤ 18000) (h2 : (cz - az).natAbs ≤ 18000) (h3 : (bz - az).natAbs ≤ 18000) (h4 : (cy - ay).natAbs ≤ 18000) : (nrX ay az yb bz cy cz).natAbs ≤ 648000000 := by
  unfold nrX
  have m1 := mul_bd h1 h2
  have m2 := mul_bd h3 h4
  omega

theorem Normals_any (ax ay az bx yb bz cx cy cz dx dy dz : Int) (w : World) (hT : Tab w) :
    Calls Tryz.prog 10 #[.agg #[.int .i64 ax, .int .i64 ay, .int .i64 az, .int .i64 bx, .int .i64 yb, .int .i64 bz, .int .i64 cx, .int .i64 cy, .int .i64 cz, .int .i64 dx, .int .i64 dy, .int .i64 dz]] w fun e w' => e = .returned (.bool true) ∧ Kp [] w w' := by
  have aw : Hid (Gw w 13 #[] (.bool true)) := fun W k => vawake W (tab_kp hT k)
  cases hfar : ([⟨ax, ay, az⟩, ⟨bx, yb, bz⟩, ⟨cx, cy, cz⟩, ⟨dx, dy, dz⟩] : List P3).any farS with
  | true => exact normals_far ax ay az bx yb bz cx cy cz dx dy dz w hfar aw
  | false =>
    have hf : farS ⟨ax, ay, az⟩ = false ∧ farS ⟨bx, yb, bz⟩ = false ∧ farS ⟨cx, cy, cz⟩ = false ∧ farS ⟨dx, dy, dz⟩ = false := by simpa using hfar
    obtain ⟨af1, af2, af3, af4, af5, af6⟩ := farS_no hf.1
    obtain ⟨bf1, bf2, bf3, bf4, bf5, bf6⟩ := farS_no hf.2.1
    obtain ⟨cf1, cf2, cf3, cf4, cf5, cf6⟩ := farS_no hf.2.2.1
    obtain ⟨df1, df2, df3, df4, df5, df6⟩ := farS_no hf.2.2.2
    have h3 : ckS ([⟨ax, ay, az⟩, ⟨bx, yb, bz⟩, ⟨cx, cy, cz⟩] : List P3) = 0 := by rw [ckS_eq _ (by simp)]; simp; exact ⟨inS_of (by omega) (by omega) (by omega), inS_of (by omega) (by omega) (by omega), inS_of (by omega) (by omega) (by omega)⟩
    have h4 : ckS ([⟨ax, ay, az⟩, ⟨bx, yb, bz⟩, ⟨cx, cy, cz⟩, ⟨dx, dy, dz⟩] : List P3) = 0 := by rw [ckS_eq _ (by simp)]; simp; exact ⟨inS_of (by omega) (by omega) (by omega), inS_of (by omega) (by omega) (by omega), inS_of (by omega) (by omega) (by omega), inS_of (by omega) (by omega) (by omega)⟩
    have h5 : ckS ([⟨bx, yb, bz⟩, ⟨ax, ay, az⟩, ⟨cx, cy, cz⟩, ⟨dx, dy, dz⟩] : List P3) = 0 := by rw [ckS_eq _ (by simp)]; simp; exact ⟨inS_of (by omega) (by omega) (by omega), inS_of (by omega) (by omega) (by omega), inS_of (by omega) (by omega) (by omega), inS_of (by omega) (by omega) (by omega)⟩
    have h6 : ckS ([⟨bx, yb, bz⟩, ⟨cx, cy, cz⟩, ⟨dx, dy, dz⟩, ⟨ax, ay, az⟩] : List P3) = 0 := by rw [ckS_eq _ (by simp)]; simp; exact ⟨inS_of (by omega) (by omega) (by omega), inS_of (by omega) (by omega) (by omega), inS_of (by omega) (by omega) (by omega), inS_of (by omega) (by omega) (by omega)⟩
    have b1 : (nrX ay az yb bz cy cz).natAbs ≤ 648000000 := nr_near (by omega) (by omega) (by omega) (by omega)
    have b2 : (nrX az ax bz bx cz cx).natAbs ≤ 648000000 := nr_near (by omega) (by omega) (by omega) (by omega)
    have b3 : (nrX ax ay bx yb cx cy).natAbs ≤ 648000000 := nr_near (by omega) (by omega) (by omega) (by omega)
    have v1 : voV bx yb bz ax ay az cx cy cz dx dy dz = -voV ax ay az bx yb bz cx cy cz dx dy dz := by unfold voV nrX; grind
    have v2 : voV bx yb bz cx cy cz dx dy dz ax ay az = -voV ax ay az bx yb bz cx cy cz dx dy dz := by unfold voV nrX; grind
    have zb : (nrX ay az yb bz cy cz) * (bx - ax) + (nrX az ax bz bx cz cx) * (yb - ay) + (nrX ax ay bx yb cx cy) * (bz - az) = 0 := by unfold nrX; grind
    have zc : (nrX ay az yb bz cy cz) * (cx - ax) + (nrX az ax bz bx cz cx) * (cy - ay) + (nrX ax ay bx yb cx cy) * (cz - az) = 0 := by unfold nrX; grind
    have bv : (voV ax ay az bx yb bz cx cy cz dx dy dz).natAbs ≤ 100000000000000 := by
      unfold voV
      have m1 := mul_bd b1 (show (dx - ax).natAbs ≤ 18000 by omega)
      have m2 := mul_bd b2 (show (dy - ay).natAbs ≤ 18000 by omega)
      have m3 := mul_bd b3 (show (dz - az).natAbs ≤ 18000 by omega)
      generalize (nrX ay az yb bz cy cz) * (dx - ax) = x at *
      generalize (nrX az ax bz bx cz cx) * (dy - ay) = y at *
      generalize (nrX ax ay bx yb cx cy) * (dz - az) = z at *
      omega
    have mb0 := mul_bd b1 (show (bx - ax).natAbs ≤ 18000 by omega)
    have mb1 := mul_bd b2 (show (yb - ay).natAbs ≤ 18000 by omega)
    have mb2 := mul_bd b3 (show (bz - az).natAbs ≤ 18000 by omega)
    have mc0 := mul_bd b1 (show (cx - ax).natAbs ≤ 18000 by omega)
    have mc1 := mul_bd b2 (show (cy - ay).natAbs ≤ 18000 by omega)
    have mc2 := mul_bd b3 (show (cz - az).natAbs ≤ 18000 by omega)
    have q1 : Hid (Gw w 36 #[.agg #[.int .i64 ax, .int .i64 ay, .int .i64 az], .agg #[.int .i64 bx, .int .i64 yb, .int .i64 bz], .agg #[.int .i64 cx, .int .i64 cy, .int .i64 cz]] (.tuple #[.agg #[.int .i64 (nrX ay az yb bz cy cz), .int .i64 (nrX az ax bz bx cz cx), .int .i64 (nrX ax ay bx yb cx cy)], .int .i64 0])) := gw_of fun W => normal_c ax ay az bx yb bz cx cy cz W h3
    have q2 : Hid (Gw w 38 #[.agg #[.int .i64 ax, .int .i64 ay, .int .i64 az], .agg #[.int .i64 bx, .int .i64 yb, .int .i64 bz], .agg #[.int .i64 cx, .int .i64 cy, .int .i64 cz], .agg #[.int .i64 dx, .int .i64 dy, .int .i64 dz]] (.tuple #[.int .i64 (voV ax ay az bx yb bz cx cy cz dx dy dz), .int .i64 0])) := gw_of fun W => volume_c ax ay az bx yb bz cx cy cz dx dy dz W h4
    have q3 : Hid (Gw w 38 #[.agg #[.int .i64 bx, .int .i64 yb, .int .i64 bz], .agg #[.int .i64 ax, .int .i64 ay, .int .i64 az], .agg #[.int .i64 cx, .int .i64 cy, .int .i64 cz], .agg #[.int .i64 dx, .int .i64 dy, .int .i64 dz]] (.tuple #[.int .i64 (-voV ax ay az bx yb bz cx cy cz dx dy dz), .int .i64 0])) := gw_of fun W => by
      have q := volume_c bx yb bz ax ay az cx cy cz dx dy dz W h5
      rwa [v1] at q
    have q4 : Hid (Gw w 38 #[.agg #[.int .i64 bx, .int .i64 yb, .int .i64 bz], .agg #[.int .i64 cx, .int .i64 cy, .int .i64 cz], .agg #[.int .i64 dx, .int .i64 dy, .int .i64 dz], .agg #[.int .i64 ax, .int .i64 ay, .int .i64 az]] (.tuple #[.int .i64 (-voV ax ay az bx yb bz cx cy cz dx dy dz), .int .i64 0])) := gw_of fun W => by
      have q := volume_c bx yb bz cx cy cz dx dy dz ax ay az W h6
      rwa [v2] at q
    clear v1 v2 h3 h4 h5 h6
    generalize nrX ay az yb bz cy cz = n1 at *
    generalize nrX az ax bz bx cz cx = n2 at *
    generalize nrX ax ay bx yb cx cy = n3 at *
    generalize voV ax ay az bx yb bz cx cy cz dx dy dz = x at *
    exact normals_core ax ay az bx yb bz cx cy cz dx dy dz n1 n2 n3 x w hfar (by omega) (by omega) (by have := mb0; omega) (by have := mb0; omega) (by omega) (by omega) (by have := mb1; omega) (by have := mb1; omega) (by omega) (by omega) (by have := mb2; omega) (by have := mb2; omega) (by rw [zb]; rfl) (by omega) (by omega) (by have := mc0; omega) (by have := mc0; omega) (by omega) (by omega) (by have := mc1; omega) (by have := mc1; omega) (by omega) (by omega) (by have := mc2; omega) (by have := mc2; omega) (by rw [zc]; rfl) (by omega) (by omega) q1 q2 q3 q4 aw

end Go.Proofs.YtcgilcmhandgfaaGreatDoor
