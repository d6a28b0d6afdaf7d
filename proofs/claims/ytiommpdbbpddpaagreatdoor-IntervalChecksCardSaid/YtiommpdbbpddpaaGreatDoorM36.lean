/- Texts Long2, Arith2a: each says in its own first comment what it proves. -/
import Derived.Test.YtiommpdbbpddpaaGreatDoorM50
import Derived.Test.YtiommpdbbpddpaaGreatDoorM35
import Derived.Test.YtiommpdbbpddpaaGreatDoorM30
/- long of the reference of layer 2. -/
namespace Go.Proofs.YtiommpdbbpddpaaGreatDoor
open Go.RowKit
open Go.Lib (nDigits itoa decDigits)

/-- integers of which none is too long -/
theorem rchk0 {w : World} {z : Int} (h : Ok z) : Hid (Gw w 64 #[.string (S z)] (.int .i64 0)) := gw_same fun W => by
  have c := rcheck_any (S z) W (Nat.le_trans h.size (by omega))
  rwa [chk_S0 h] at c
set_option maxRecDepth 100000 in
set_option maxHeartbeats 2000000 in
theorem long_S (g o c : Nat) (zs : List Int) (w : World) (hs : Strs w g o (zs.map S)) (hg : g < w.heap.size) (hl : zs.length ≤ 1000000) (q : ∀ z ∈ zs, Ok z) :
    Calls Tryz.prog 57 #[.slice (some ⟨g, o, none⟩) zs.length c] w fun x w' => x = .returned (.bool false) ∧ Kp [] w w' := by
  go_enter Tryz.func57, Tryz.ntmps57
  go_wp2
  go_loopg [3] zs.length (fun gk s3 wr => ∃ k : Nat, s3 = .int .i64 k ∧ k + gk = zs.length ∧ Kp [] w wr)
  case atStart => exact ⟨0, rfl, by omega, Kp.refl _ _⟩
  case round =>
    obtain ⟨k, rfl, hk, hkp⟩ := hrel
    have hl1 : (zs.length : Int) ≤ 1000000 := by omega
    by_cases hlt : k < zs.length
    · have hcell := (hs.kp hg hkp (by simp)) k (by simpa using hlt)
      rw [List.getElem_map] at hcell
      have hq := rchk0 (w := wr) (q _ (List.getElem_mem hlt))
      unfold Gw at hq
      have hlt' : (k : Int) < (zs.length : Int) := by omega
      have hz1 : 0 ≤ (k : Int) := by omega
      have Hk := Lib.hid hk
      clear hk q
      generalize S zs[k] = s at *
      go_wp2_with fail
      with_reducible refine (hq.out _ (Kp.refl _ _)).mono ?_
      rintro e w' ⟨rfl, k2⟩
      go_wp2
      have hk := Hk.out
      go_roundg (gk - 1)
      case measure => omega
      case rel => exact ⟨k + 1, by go_num, by omega, hkp.trans k2⟩
    · have hlt' : ¬ (k : Int) < (zs.length : Int) := by omega
      clear q
      go_wp2
      go_ret
      exact ⟨rfl, hkp⟩

end Go.Proofs.YtiommpdbbpddpaaGreatDoor

/- Compare, Add, Sub, Mul and Div of the reference of layer 2. -/
namespace Go.Proofs.YtiommpdbbpddpaaGreatDoor
open Go.RowKit
open Go.Lib (nDigits itoa decDigits)

set_option maxRecDepth 100000 in
set_option maxHeartbeats 4000000 in
theorem rpair_0 (a b : ByteArray) (e : Int) (w : World) (c : Hid (Gw w 32 #[.string a] (.int .i64 0))) (d : Hid (Gw w 32 #[.string b] (.int .i64 e))) :
    Calls Tryz.prog 55 #[.string a, .string b] w fun r0 w' => r0 = .returned (.int .i64 e) ∧ Kp [] w w' := by
  unfold Gw at c d
  have kk := Kp.refl [] w
  go_enter Tryz.func55, Tryz.ntmps55
  go_wp2_with fail
  with_reducible refine (c.out _ kk).mono ?_
  rintro e w1 ⟨rfl, k⟩
  replace kk := kk.trans k; clear k
  go_wp2_with fail
  with_reducible refine (d.out _ kk).mono ?_
  rintro e w2 ⟨rfl, k⟩
  replace kk := kk.trans k; clear k
  go_wp2
  go_ret
  exact ⟨rfl, kk⟩
















set_option maxRecDepth 100000 in
set_option maxHeartbeats 4000000 in
theorem rMul_0 (a b t0 t1 t2 t3 t4 s : ByteArray) (w : World) (p : Hid (Gw w 55 #[.string a, .string b] (.int .i64 0))) (cr : Hid (∀ W, Calls Tryz.prog 56 #[.string a, .string b] W (Crossed W t0 t1 t2 t3 t4))) (lg : Hid (∀ W g, B5 W g t0 t1 t2 t3 t4 → Calls Tryz.prog 57 #[.slice (some ⟨g, 2, none⟩) 2 3] W fun x w' => x = .returned (.bool false) ∧ Kp [] W w')) (o : Hid (Gw w 75 #[.string a, .string b] (.string s))) :
    Calls Tryz.prog 38 #[.string a, .string b] w fun r0 w' => r0 = .returned (.tuple #[.string s, .int .i64 0]) ∧ Kp [] w w' := by
  unfold Gw at p o
  have kk := Kp.refl [] w
  go_enter Tryz.func38, Tryz.ntmps38
  go_wp2_with fail
  with_reducible refine (p.out _ kk).mono ?_
  rintro e w1 ⟨rfl, k⟩
  replace kk := kk.trans k; clear k
  go_wp2_with fail
  with_reducible refine (cr.out _).mono ?_
  rintro e w2 ⟨g, rfl, hb, hg, k⟩
  replace kk := kk.trans k; clear k
  have hb : B5 w2 g t0 t1 t2 t3 t4 := hb
  have hl := lg.out _ _ hb
  clear hb hg cr lg p
  have hl := Lib.hid hl
  go_wp2_with fail
  with_reducible refine hl.out.mono ?_
  rintro e w3 ⟨rfl, k⟩
  replace kk := kk.trans k; clear k hl
  go_wp2_with fail
  with_reducible refine (o.out _ kk).mono ?_
  rintro e w4 ⟨rfl, k⟩
  replace kk := kk.trans k; clear k
  go_wp2
  go_ret2
  exact ⟨rfl, kk⟩

theorem op_sl3 {a : Act} {w : World} {o : Oper} {x : Operand} {g : Nat} (h : o.op = .slice 78 x none (some (.const (.int .i64 3))) none) (hx : a.eval x = .slice (some ⟨g, 0, none⟩) 5 5) :
    (execOp a.eval o).run Tryz.prog w = .ok (.value (.slice (some ⟨g, 0, none⟩) 3 5)) w := by
  have hc : a.eval (.const (.int .i64 3)) = .int .i64 3 := rfl
  generalize a.eval = r at *
  simp [execOp, h, hx, hc, go_sem]
theorem op_bsI1 {a : Act} {w : World} {o : Oper} {x : Operand} {u : ByteArray} (h : o.op = .buildSlice 78 1 #[(0, x)]) (hx : a.eval x = .string u) :
    (execOp a.eval o).run Tryz.prog w = .ok (.value (.slice (some ⟨w.heap.size, 0, none⟩) 1 1)) (w.alloc (.cells #[.string u] 61 (0, 0))) := by
  generalize a.eval = r at *
  simp [execOp, h, hx, go_sem]
def rAdd5_s : RSt := ⟨14, 34, 3, fun i => ([17, 18, 19, 20, 21, 22, 23, 24, 25, 26, 27, 28, 29, 30] : List Nat).getD i 0, fun i => ([0, 0, 1, 0, 0, 0, 0, 0, 0, 0, 1, 2, 1, 0] : List Nat).getD i 0, fun i => ([0, 0, 0, 0, 0, 0, 0, 0, 0, 0, 1, 0, 2, 0] : List Nat).getD i 0, fun i => ([14, 14, 14, 14, 14, 14, 14, 14, 14, 14, 14, 14, 14, 14, 14, 14, 14, 0, 1, 2, 3, 4, 5, 6, 7, 8, 9, 10, 11, 12, 13, 14, 14, 14, 14] : List Nat).getD i 14, fun i => ([2, 10, 12] : List Nat).getD i 0, fun i => ([false, false, false, false, true, true, true, true, true, true, true, true, true, false] : List Bool).getD i false, fun i => ([true, true, true, true, true, true, true, true, true, true, true, true, true, true] : List Bool).getD i false, fun i => ([0, 0, 0, 0, 3, 3, 3, 3, 3, 3, 3, 3, 3, 0] : List Nat).getD i 0, fun i => ([false, false, false, false, false, false, false, false, false, false, false, false, false, false] : List Bool).getD i false⟩
def rAdd5_y : RSy := ⟨rAdd5_s, fun i => ([.at 0, .at 4, .bool false, .bool false, .at 0, .at 1, .at 5, .at 0, .at 2, .at 6, .at 3, .un, .bool false, .bool false] : List SV).getD i .un, [(7, .at 0)], fun i => ([false, false, true, false, false, false, false, false, false, false, true, false, true, false] : List Bool).getD i false⟩
def rAdd5_ca : List (Nat × Nat × List SV) := [(2, 57, [.at 4]), (10, 73, [.at 5, .at 6])]
theorem rAdd5_ok : reflOk (opsOf 5 Tryz.f37) rAdd5_y [1, 5, 6, 8, 9] rAdd5_ca [12] [11] = true := by kernel_rfl

set_option maxRecDepth 100000 in
set_option maxHeartbeats 4000000 in
theorem rAdd_0 (a b t0 t1 t2 t3 t4 s out : ByteArray) (w : World) (p : Hid (Gw w 55 #[.string a, .string b] (.int .i64 0))) (cr : Hid (∀ W, Calls Tryz.prog 56 #[.string a, .string b] W (Crossed W t0 t1 t2 t3 t4))) (lg : Hid (∀ W g, B5 W g t0 t1 t2 t3 t4 → Calls Tryz.prog 57 #[.slice (some ⟨g, 0, none⟩) 3 5] W fun x w' => x = .returned (.bool false) ∧ Kp [] W w'))
    (q1 : Hid (∀ W, Calls Tryz.prog 73 #[.string t0, .string t1] W fun e w' => e = .returned (.string s) ∧ Kp [] W w'))
    (lg1 : Hid (∀ W h, W.heap[h]? = some (.cells #[.string s] 61 (0, 0)) → Calls Tryz.prog 57 #[.slice (some ⟨h, 0, none⟩) 1 1] W fun x w' => x = .returned (.bool false) ∧ Kp [] W w'))
    (o : Hid (Gw w 74 #[.string a, .string b] (.string out))) :
    Calls Tryz.prog 37 #[.string a, .string b] w fun r0 w' => r0 = .returned (.tuple #[.string out, .int .i64 0]) ∧ Kp [] w w' := by
  unfold Gw at p o
  have kk := Kp.refl [] w
  go_enter Tryz.func37, Tryz.ntmps37
  go_wp2_with fail
  with_reducible refine (p.out _ kk).mono ?_
  rintro e w1 ⟨rfl, k⟩
  replace kk := kk.trans k; clear k
  go_wp2_with fail
  with_reducible refine (cr.out _).mono ?_
  rintro e w2 ⟨g, rfl, hb, hg, k⟩
  replace kk := kk.trans k; clear k
  have hb : B5 w2 g t0 t1 t2 t3 t4 := hb
  go_wp2_with fail
  rw [frame_lit]
  refine reg_refl rAdd5_y (fun k => ([.slice (some ⟨g, 0, none⟩) 5 5, .pointer (some ⟨g, 0, none⟩), .pointer (some ⟨g, 1, none⟩), .string s, .slice (some ⟨g, 0, none⟩) 3 5, .string t0, .string t1] : List Value).getD k undef) [] (fun i u wz => i = 11 → ∃ h, u = .slice (some ⟨h, 0, none⟩) 1 1 ∧ wz.heap[h]? = some (.cells #[.string s] 61 (0, 0))) (opsOf 5 Tryz.f37) [1, 5, 6, 8, 9] rAdd5_ca [12] [11] (by kernel_rfl) (by kernel_rfl) rAdd5_ok ⟨rfl, trivial⟩ ?sp ?ca ?cx (by decide) ?fr (fun i u y z h k => fun e => by obtain ⟨h1, a1, a2⟩ := h e; exact ⟨h1, a1, (k.block h1 (Array.getElem?_eq_some_iff.1 a2).1 (by exact List.not_mem_nil)).trans a2⟩) ?rest
  case sp =>
    refine ⟨?_, ?_, ?_, ?_, ?_, trivial⟩
    · intro T wz H o ho; have he : o.op = .slice 78 (.tmp 17) none (some (.const (.int .i64 3))) none := Option.some.inj ((congrArg (fun z => z.map Oper.op) ho).symm.trans (show ((opsOf 5 Tryz.f37)[1]?).map Oper.op = some (.slice 78 (.tmp 17) none (some (.const (.int .i64 3))) none) by kernel_rfl)); exact op_sl3 he (H.ev (.tmp 17) (.at 0) (by kernel_rfl))
    · intro T wz H o ho; have he : o.op = .indexAddr 78 (.tmp 21) (.const (.int .i64 0)) := Option.some.inj ((congrArg (fun z => z.map Oper.op) ho).symm.trans (show ((opsOf 5 Tryz.f37)[5]?).map Oper.op = some (.indexAddr 78 (.tmp 21) (.const (.int .i64 0))) by kernel_rfl)); exact op_ixI (i := 0) he (H.ev (.tmp 21) (.at 0) (by kernel_rfl)) rfl (by decide)
    · intro T wz H o ho; have he : o.op = .load 61 (.tmp 22) := Option.some.inj ((congrArg (fun z => z.map Oper.op) ho).symm.trans (show ((opsOf 5 Tryz.f37)[6]?).map Oper.op = some (.load 61 (.tmp 22)) by kernel_rfl)); exact op_ldI he (H.ev (.tmp 22) (.at 1) (by kernel_rfl)) (((B5.kept (L := []) (w := w2.drew) hb H.kp (by simp)).c 0).trans rfl)
    · intro T wz H o ho; have he : o.op = .indexAddr 78 (.tmp 24) (.const (.int .i64 1)) := Option.some.inj ((congrArg (fun z => z.map Oper.op) ho).symm.trans (show ((opsOf 5 Tryz.f37)[8]?).map Oper.op = some (.indexAddr 78 (.tmp 24) (.const (.int .i64 1))) by kernel_rfl)); exact op_ixI (i := 1) he (H.ev (.tmp 24) (.at 0) (by kernel_rfl)) rfl (by decide)
    · intro T wz H o ho; have he : o.op = .load 61 (.tmp 25) := Option.some.inj ((congrArg (fun z => z.map Oper.op) ho).symm.trans (show ((opsOf 5 Tryz.f37)[9]?).map Oper.op = some (.load 61 (.tmp 25)) by kernel_rfl)); exact op_ldI he (H.ev (.tmp 25) (.at 2) (by kernel_rfl)) (((B5.kept (L := []) (w := w2.drew) hb H.kp (by simp)).c 1).trans rfl)
  case ca =>
    refine ⟨?_, ?_, trivial⟩
    · exact ⟨(enters_of Tryz.func57 (by kernel_rfl) rfl), fun wz hk => (lg.out wz g (B5.kept (L := []) (w := w2.drew) hb hk (by simp))).mono fun x w2 ⟨h1, h2⟩ => ⟨_, h1, h2, fun _ => rfl⟩⟩
    · exact ⟨(enters_of Tryz.func73 (by kernel_rfl) rfl), fun wz hk => (q1.out wz).mono fun x w2 ⟨h1, h2⟩ => ⟨_, h1, h2, fun _ => rfl⟩⟩
  case cx =>
    refine ⟨?_, trivial⟩
    · intro T wz H o ho; obtain ⟨h, hg1, hg2⟩ := (H.fr 11 (by decide : 11 < 14) rfl (by kernel_rfl)) rfl; have he : o.op = .call { callee := .value (.func 57), args := #[.tmp 28], argTypes := #[78] } := Option.some.inj ((congrArg (fun z => z.map Oper.op) ho).symm.trans (show ((opsOf 5 Tryz.f37)[12]?).map Oper.op = some (.call { callee := .value (.func 57), args := #[.tmp 28], argTypes := #[78] }) by kernel_rfl)); exact ⟨_, _, op_call1 (enters_of Tryz.func57 (by kernel_rfl) rfl) he ((frame_eval (N := 34) (d := 28) (by decide)).trans hg1), (lg1.out wz h hg2).mono fun x w2 ⟨h1, h2⟩ => ⟨_, h1, h2, fun _ => rfl⟩⟩
  case fr =>
    refine ⟨?_, trivial⟩
    · intro T wz H o ho; have he : o.op = .buildSlice 78 1 #[(0, .tmp 27)] := Option.some.inj ((congrArg (fun z => z.map Oper.op) ho).symm.trans (show ((opsOf 5 Tryz.f37)[11]?).map Oper.op = some (.buildSlice 78 1 #[(0, .tmp 27)]) by kernel_rfl)); exact ⟨_, _, op_bsI1 he (H.ev (.tmp 27) (.at 3) (by kernel_rfl)), fun _ => ⟨_, rfl, heap_alloc_new _ _⟩, (Kp.refl _ _).alloc _⟩
  case rest =>
    intro T w3 hout hval k hF
    rw [show frameOf rAdd5_y.st.N T = (⟨#[T 0, T 1, T 2, T 3, T 4, T 5, T 6, T 7, T 8, T 9, T 10, T 11, T 12, T 13, T 14, T 15, T 16, T 17, T 18, T 19, T 20, T 21, T 22, T 23, T 24, T 25, T 26, T 27, T 28, T 29, T 30, T 31, T 32, T 33], []⟩ : Act) from frame_list 34 T]
    rw [show T 0 = .string a from hout 0 rfl]
    rw [show T 1 = .string b from hout 1 rfl]
    rw [show T 30 = .bool false from hval 13 (by decide : 13 < 14) (.inl rfl)]
    replace kk := kk.trans k; clear k hout hval hF hb hg cr lg lg1 q1 p
    go_wp2_with fail
    with_reducible refine (o.out _ kk).mono ?_
    rintro e w4 ⟨rfl, k⟩
    replace kk := kk.trans k; clear k
    go_wp2
    go_ret2
    exact ⟨rfl, kk⟩

def rSub5_s : RSt := ⟨14, 34, 3, fun i => ([17, 18, 19, 20, 21, 22, 23, 24, 25, 26, 27, 28, 29, 30] : List Nat).getD i 0, fun i => ([0, 0, 1, 0, 0, 0, 0, 0, 0, 0, 1, 2, 1, 0] : List Nat).getD i 0, fun i => ([0, 0, 0, 0, 0, 0, 0, 0, 0, 0, 1, 0, 2, 0] : List Nat).getD i 0, fun i => ([14, 14, 14, 14, 14, 14, 14, 14, 14, 14, 14, 14, 14, 14, 14, 14, 14, 0, 1, 2, 3, 4, 5, 6, 7, 8, 9, 10, 11, 12, 13, 14, 14, 14, 14] : List Nat).getD i 14, fun i => ([2, 10, 12] : List Nat).getD i 0, fun i => ([false, false, false, false, true, true, true, true, true, true, true, true, true, false] : List Bool).getD i false, fun i => ([true, true, true, true, true, true, true, true, true, true, true, true, true, true] : List Bool).getD i false, fun i => ([0, 0, 0, 0, 3, 3, 3, 3, 3, 3, 3, 3, 3, 0] : List Nat).getD i 0, fun i => ([false, false, false, false, false, false, false, false, false, false, false, false, false, false] : List Bool).getD i false⟩
def rSub5_y : RSy := ⟨rSub5_s, fun i => ([.at 0, .at 4, .bool false, .bool false, .at 0, .at 1, .at 5, .at 0, .at 2, .at 6, .at 3, .un, .bool false, .bool false] : List SV).getD i .un, [(7, .at 0)], fun i => ([false, false, true, false, false, false, false, false, false, false, true, false, true, false] : List Bool).getD i false⟩
def rSub5_ca : List (Nat × Nat × List SV) := [(2, 57, [.at 4]), (10, 58, [.at 5, .at 6])]
theorem rSub5_ok : reflOk (opsOf 5 Tryz.f30) rSub5_y [1, 5, 6, 8, 9] rSub5_ca [12] [11] = true := by kernel_rfl

set_option maxRecDepth 100000 in
set_option maxHeartbeats 4000000 in
theorem rSub_0 (a b t0 t1 t2 t3 t4 s out : ByteArray) (w : World) (p : Hid (Gw w 55 #[.string a, .string b] (.int .i64 0))) (cr : Hid (∀ W, Calls Tryz.prog 56 #[.string a, .string b] W (Crossed W t0 t1 t2 t3 t4))) (lg : Hid (∀ W g, B5 W g t0 t1 t2 t3 t4 → Calls Tryz.prog 57 #[.slice (some ⟨g, 0, none⟩) 3 5] W fun x w' => x = .returned (.bool false) ∧ Kp [] W w'))
    (q1 : Hid (∀ W, Calls Tryz.prog 58 #[.string t0, .string t1] W fun e w' => e = .returned (.string s) ∧ Kp [] W w'))
    (lg1 : Hid (∀ W h, W.heap[h]? = some (.cells #[.string s] 61 (0, 0)) → Calls Tryz.prog 57 #[.slice (some ⟨h, 0, none⟩) 1 1] W fun x w' => x = .returned (.bool false) ∧ Kp [] W w'))
    (o : Hid (Gw w 59 #[.string a, .string b] (.string out))) :
    Calls Tryz.prog 30 #[.string a, .string b] w fun r0 w' => r0 = .returned (.tuple #[.string out, .int .i64 0]) ∧ Kp [] w w' := by
  unfold Gw at p o
  have kk := Kp.refl [] w
  go_enter Tryz.func30, Tryz.ntmps30
  go_wp2_with fail
  with_reducible refine (p.out _ kk).mono ?_
  rintro e w1 ⟨rfl, k⟩
  replace kk := kk.trans k; clear k
  go_wp2_with fail
  with_reducible refine (cr.out _).mono ?_
  rintro e w2 ⟨g, rfl, hb, hg, k⟩
  replace kk := kk.trans k; clear k
  have hb : B5 w2 g t0 t1 t2 t3 t4 := hb
  go_wp2_with fail
  rw [frame_lit]
  refine reg_refl rSub5_y (fun k => ([.slice (some ⟨g, 0, none⟩) 5 5, .pointer (some ⟨g, 0, none⟩), .pointer (some ⟨g, 1, none⟩), .string s, .slice (some ⟨g, 0, none⟩) 3 5, .string t0, .string t1] : List Value).getD k undef) [] (fun i u wz => i = 11 → ∃ h, u = .slice (some ⟨h, 0, none⟩) 1 1 ∧ wz.heap[h]? = some (.cells #[.string s] 61 (0, 0))) (opsOf 5 Tryz.f30) [1, 5, 6, 8, 9] rSub5_ca [12] [11] (by kernel_rfl) (by kernel_rfl) rSub5_ok ⟨rfl, trivial⟩ ?sp ?ca ?cx (by decide) ?fr (fun i u y z h k => fun e => by obtain ⟨h1, a1, a2⟩ := h e; exact ⟨h1, a1, (k.block h1 (Array.getElem?_eq_some_iff.1 a2).1 (by exact List.not_mem_nil)).trans a2⟩) ?rest
  case sp =>
    refine ⟨?_, ?_, ?_, ?_, ?_, trivial⟩
    · intro T wz H o ho; have he : o.op = .slice 78 (.tmp 17) none (some (.const (.int .i64 3))) none := Option.some.inj ((congrArg (fun z => z.map Oper.op) ho).symm.trans (show ((opsOf 5 Tryz.f30)[1]?).map Oper.op = some (.slice 78 (.tmp 17) none (some (.const (.int .i64 3))) none) by kernel_rfl)); exact op_sl3 he (H.ev (.tmp 17) (.at 0) (by kernel_rfl))
    · intro T wz H o ho; have he : o.op = .indexAddr 78 (.tmp 21) (.const (.int .i64 0)) := Option.some.inj ((congrArg (fun z => z.map Oper.op) ho).symm.trans (show ((opsOf 5 Tryz.f30)[5]?).map Oper.op = some (.indexAddr 78 (.tmp 21) (.const (.int .i64 0))) by kernel_rfl)); exact op_ixI (i := 0) he (H.ev (.tmp 21) (.at 0) (by kernel_rfl)) rfl (by decide)
    · intro T wz H o ho; have he : o.op = .load 61 (.tmp 22) := Option.some.inj ((congrArg (fun z => z.map Oper.op) ho).symm.trans (show ((opsOf 5 Tryz.f30)[6]?).map Oper.op = some (.load 61 (.tmp 22)) by kernel_rfl)); exact op_ldI he (H.ev (.tmp 22) (.at 1) (by kernel_rfl)) (((B5.kept (L := []) (w := w2.drew) hb H.kp (by simp)).c 0).trans rfl)
    · intro T wz H o ho; have he : o.op = .indexAddr 78 (.tmp 24) (.const (.int .i64 1)) := Option.some.inj ((congrArg (fun z => z.map Oper.op) ho).symm.trans (show ((opsOf 5 Tryz.f30)[8]?).map Oper.op = some (.indexAddr 78 (.tmp 24) (.const (.int .i64 1))) by kernel_rfl)); exact op_ixI (i := 1) he (H.ev (.tmp 24) (.at 0) (by kernel_rfl)) rfl (by decide)
    · intro T wz H o ho; have he : o.op = .load 61 (.tmp 25) := Option.some.inj ((congrArg (fun z => z.map Oper.op) ho).symm.trans (show ((opsOf 5 Tryz.f30)[9]?).map Oper.op = some (.load 61 (.tmp 25)) by kernel_rfl)); exact op_ldI he (H.ev (.tmp 25) (.at 2) (by kernel_rfl)) (((B5.kept (L := []) (w := w2.drew) hb H.kp (by simp)).c 1).trans rfl)
  case ca =>
    refine ⟨?_, ?_, trivial⟩
    · exact ⟨(enters_of Tryz.func57 (by kernel_rfl) rfl), fun wz hk => (lg.out wz g (B5.kept (L := []) (w := w2.drew) hb hk (by simp))).mono fun x w2 ⟨h1, h2⟩ => ⟨_, h1, h2, fun _ => rfl⟩⟩
    · exact ⟨(enters_of Tryz.func58 (by kernel_rfl) rfl), fun wz hk => (q1.out wz).mono fun x w2 ⟨h1, h2⟩ => ⟨_, h1, h2, fun _ => rfl⟩⟩
  case cx =>
    refine ⟨?_, trivial⟩
    · intro T wz H o ho; obtain ⟨h, hg1, hg2⟩ := (H.fr 11 (by decide : 11 < 14) rfl (by kernel_rfl)) rfl; have he : o.op = .call { callee := .value (.func 57), args := #[.tmp 28], argTypes := #[78] } := Option.some.inj ((congrArg (fun z => z.map Oper.op) ho).symm.trans (show ((opsOf 5 Tryz.f30)[12]?).map Oper.op = some (.call { callee := .value (.func 57), args := #[.tmp 28], argTypes := #[78] }) by kernel_rfl)); exact ⟨_, _, op_call1 (enters_of Tryz.func57 (by kernel_rfl) rfl) he ((frame_eval (N := 34) (d := 28) (by decide)).trans hg1), (lg1.out wz h hg2).mono fun x w2 ⟨h1, h2⟩ => ⟨_, h1, h2, fun _ => rfl⟩⟩
  case fr =>
    refine ⟨?_, trivial⟩
    · intro T wz H o ho; have he : o.op = .buildSlice 78 1 #[(0, .tmp 27)] := Option.some.inj ((congrArg (fun z => z.map Oper.op) ho).symm.trans (show ((opsOf 5 Tryz.f30)[11]?).map Oper.op = some (.buildSlice 78 1 #[(0, .tmp 27)]) by kernel_rfl)); exact ⟨_, _, op_bsI1 he (H.ev (.tmp 27) (.at 3) (by kernel_rfl)), fun _ => ⟨_, rfl, heap_alloc_new _ _⟩, (Kp.refl _ _).alloc _⟩
  case rest =>
    intro T w3 hout hval k hF
    rw [show frameOf rSub5_y.st.N T = (⟨#[T 0, T 1, T 2, T 3, T 4, T 5, T 6, T 7, T 8, T 9, T 10, T 11, T 12, T 13, T 14, T 15, T 16, T 17, T 18, T 19, T 20, T 21, T 22, T 23, T 24, T 25, T 26, T 27, T 28, T 29, T 30, T 31, T 32, T 33], []⟩ : Act) from frame_list 34 T]
    rw [show T 0 = .string a from hout 0 rfl]
    rw [show T 1 = .string b from hout 1 rfl]
    rw [show T 30 = .bool false from hval 13 (by decide : 13 < 14) (.inl rfl)]
    replace kk := kk.trans k; clear k hout hval hF hb hg cr lg lg1 q1 p
    go_wp2_with fail
    with_reducible refine (o.out _ kk).mono ?_
    rintro e w4 ⟨rfl, k⟩
    replace kk := kk.trans k; clear k
    go_wp2
    go_ret2
    exact ⟨rfl, kk⟩

end Go.Proofs.YtiommpdbbpddpaaGreatDoor
