/- Texts Reck, Span: each says in its own first comment what it proves. -/
import Derived.Test.YthjhjgglkooafaaGreatDoorM49
import Derived.Test.YthjhjgglkooafaaGreatDoorM45
import Derived.Test.YthjhjgglkooafaaGreatDoorM32
import Derived.Test.YthjhjgglkooafaaGreatDoorM38
/- The keeper of package reckon where no step fails. -/
namespace Go.Proofs.YthjhjgglkooafaaGreatDoor
open Go.RowKit
open Go.Lib (nDigits itoa decDigits)

/-- block g is a keeper with the error e -/
def RE (w : World) (g : Nat) (e : Int) : Prop := w.heap[g]? = some (.cells #[.int .i64 e] 105 (0, 0))
section
variable {w w' : World} {g : Nat} {e : Int} {L : List Nat}
theorem RE.lt (h : RE w g e) : g < w.heap.size := (Array.getElem?_eq_some_iff.1 h).1
theorem RE.cell (h : RE w g e) : w.cell? ⟨g, 0, none⟩ = some (.int .i64 e) := cell_of_one h
theorem RE.free (h : RE w g e) : w.frozen? ⟨g, 0, none⟩ = false := free_of_one h
theorem RE.kept (h : RE w g e) (k : Kp L w w') (hg : g ∉ L) : RE w' g e := (k.block g h.lt hg).trans h
theorem RE.alloc (h : RE w g e) (o : Obj) : RE (w.alloc o) g e := (Below.heap_alloc w o g h.lt).trans h
theorem RE.set (h : RE w g e) (f : Int) : RE (w.setCell ⟨g, 0, none⟩ (.int .i64 f)) g f := by
  unfold RE at *; simp [World.setCell, Array.getElem?_modify, h]
/-- what is stored again changes nothing -/
theorem RE.again (h : RE w g e) : Kp [] w (w.setCell ⟨g, 0, none⟩ (.int .i64 e)) := by
  have h2 := h.set e
  refine ⟨rfl, rfl, rfl, by simp [World.setCell], fun i hi _ => ?_⟩
  by_cases he : i = g
  · subst he; exact h2.trans h.symm
  · exact Below.heap_setCell w ⟨g, 0, none⟩ _ i he
end
set_option maxRecDepth 100000 in
set_option maxHeartbeats 1000000 in
theorem rkeep_0 (g : Nat) (w : World) (h : RE w g 0) :
    Calls Tryz.prog 41 #[.pointer (some ⟨g, 0, none⟩), .int .i64 0] w fun r w' => r = .returned (.tuple #[]) ∧ Kp [] w w' := by
  have hc := h.cell
  have hf := h.free
  have hl := h.lt
  have hk := h.again
  clear h
  go_enter Tryz.func41, Tryz.ntmps41
  go_wp2
  go_end0
  exact ⟨rfl, hk⟩
set_option maxRecDepth 100000 in
set_option maxHeartbeats 1000000 in
theorem rorder_0 (g : Nat) (a b : ByteArray) (v : Int) (w : World) (h : RE w g 0) (q : Hid (Gw w 98 #[.string a, .string b] (.tuple #[.int .i64 v, .int .i64 0]))) :
    Calls Tryz.prog 72 #[.pointer (some ⟨g, 0, none⟩), .string a, .string b] w fun r w' => r = .returned (.int .i64 v) ∧ Kp [] w w' := by
  unfold Gw at q
  go_enter Tryz.func72, Tryz.ntmps72
  go_wp2_with fail
  with_reducible refine (q.out _ (Kp.refl _ _)).mono ?_
  rintro e w1 ⟨rfl, k⟩
  have h1 := Lib.hid (rkeep_0 g w1 (h.kept k (by simp)))
  clear h q
  go_wp2_with fail
  with_reducible refine h1.out.mono ?_
  rintro e w2 ⟨rfl, k2⟩
  go_wp2
  go_ret
  exact ⟨rfl, k.trans k2⟩
/-- what a calculation that does not fail gives -/
def Quiet (c : Nat) (caps : Array Value) (w : World) (v : Value) : Prop := Hid (∀ (W : World) (g : Nat), RE W g 0 → Kp [] w W → Calls Tryz.prog c (#[.pointer (some ⟨g, 0, none⟩)] ++ caps) W fun x w' => x = .returned v ∧ Kp [] W w')

set_option maxRecDepth 100000 in
set_option maxHeartbeats 1000000 in
theorem rresult_bool (c : Nat) (caps : Array Value) (v : Bool) (w : World) (he : ∀ args w, (callFunc c args).run Tryz.prog w = .ok (.enter c args) w) (q : Quiet c caps w (.bool v)) :
    Calls Tryz.prog 38 #[.func (.func c) #[] caps] w fun x w' => x = .returned (.tuple #[.bool v, .int .i64 0]) ∧ Kp [] w w' := by
  have h0 : RE (w.alloc (.cells #[.int .i64 0] 105 (0, 0))) w.heap.size 0 := heap_alloc_new w _
  have k0 : Kp [] w (w.alloc (.cells #[.int .i64 0] 105 (0, 0))) := (Kp.refl _ _).alloc _
  have q1 := Lib.hid (q.out _ _ h0 k0)
  have H0 := Lib.hid h0
  clear q h0
  go_enter Tryz.func38, Tryz.ntmps38
  go_wp2_with (go_at_fn c; refine q1.out.mono ?_; rintro x w1 ⟨rfl, k1⟩; have hc := (H0.out.kept k1 (by simp)).cell)
  go_ret2
  exact ⟨rfl, k0.trans k1⟩















end Go.Proofs.YthjhjgglkooafaaGreatDoor

/- Check, keep, inside and Contains of package interval, on right, short numbers. -/
namespace Go.Proofs.YthjhjgglkooafaaGreatDoor
open Go.RowKit
open Go.Lib (nDigits itoa decDigits)

/-- a block that holds a span -/
def SpB (w : World) (b : Nat) (lo hi : ByteArray) : Prop := w.heap[b]? = some (.cells #[.string lo, .string hi] 43 (0, 0))
section
variable {w w' : World} {b : Nat} {lo hi : ByteArray} {L : List Nat}
theorem SpB.lt (h : SpB w b lo hi) : b < w.heap.size := (Array.getElem?_eq_some_iff.1 h).1
theorem SpB.c0 (h : SpB w b lo hi) : w.cell? ⟨b, 0, none⟩ = some (.string lo) := by unfold SpB at h; simp [World.cell?, h]
theorem SpB.c1 (h : SpB w b lo hi) : w.cell? ⟨b, 1, none⟩ = some (.string hi) := by unfold SpB at h; simp [World.cell?, h]
theorem SpB.f (h : SpB w b lo hi) (i : Nat) : w.frozen? ⟨b, i, none⟩ = false := by unfold SpB at h; simp [World.frozen?, h]
theorem SpB.kept (h : SpB w b lo hi) (k : Kp L w w') (hb : b ∉ L) : SpB w' b lo hi := (k.block b h.lt hb).trans h
theorem SpB.alloc (h : SpB w b lo hi) (o : Obj) : SpB (w.alloc o) b lo hi := (Below.heap_alloc w o b h.lt).trans h
theorem SpB.made (w : World) (lo hi : ByteArray) : SpB (w.alloc (.cells #[.string lo, .string hi] 43 (0, 0))) w.heap.size lo hi := heap_alloc_new w _
end
set_option maxRecDepth 100000 in
set_option maxHeartbeats 1000000 in
theorem icheck_0 (lo hi : ByteArray) (v : Int) (w : World) (hv : v ≤ 0) (q : Hid (∀ W : World, Calls Tryz.prog 98 #[.string lo, .string hi] W fun e w' => e = .returned (.tuple #[.int .i64 v, .int .i64 0]) ∧ Kp [] W w')) :
    Calls Tryz.prog 71 #[.agg #[.string lo, .string hi]] w fun e w' => e = .returned (.int .i64 0) ∧ Kp [] w w' := by
  have s := SpB.made w lo hi
  have c0 := s.c0
  have c1 := s.c1
  have k0 : Kp [] w (w.alloc (.cells #[.string lo, .string hi] 43 (0, 0))) := (Kp.refl _ _).alloc _
  clear s
  go_enter Tryz.func71, Tryz.ntmps71
  go_wp2_with fail
  with_reducible refine (q.out _).mono ?_
  rintro e w1 ⟨rfl, k⟩
  go_wp2
  go_ret
  exact ⟨rfl, k0.trans k⟩

set_option maxRecDepth 100000 in
set_option maxHeartbeats 4000000 in
theorem ikeep_1 (g b : Nat) (lo hi : ByteArray) (w : World) (h : RE w g 0) (hb : SpB w b lo hi) (q : Hid (∀ W : World, Calls Tryz.prog 71 #[.agg #[.string lo, .string hi]] W fun e w' => e = .returned (.int .i64 0) ∧ Kp [] W w')) :
    Calls Tryz.prog 40 #[.pointer (some ⟨g, 0, none⟩), .slice (some ⟨b, 0, none⟩) 1 1] w fun e w' => e = .returned (.tuple #[]) ∧ Kp [] w w' := by
  go_enter Tryz.func40, Tryz.ntmps40
  go_wp2
  go_loopg [8] 1 (fun gk s8 wr => ∃ k : Nat, s8 = .int .i64 k ∧ k + gk = 1 ∧ Kp [] w wr)
  case atStart => exact ⟨0, rfl, by omega, Kp.refl _ _⟩
  case round =>
    obtain ⟨k, rfl, hk, hkp⟩ := hrel
    by_cases hlt : k < 1
    · obtain rfl : k = 0 := by omega
      have hb1 := hb.kept hkp (by simp)
      have c0 := hb1.c0
      have c1 := hb1.c1
      have s := SpB.made wr lo hi
      have s0 := s.c0
      have s1 := s.c1
      have f0 := s.f 0
      have f1 := s.f 1
      have hr := (h.kept hkp (by simp)).alloc (.cells #[.string lo, .string hi] 43 (0, 0))
      have ka := hkp.alloc (.cells #[.string lo, .string hi] 43 (0, 0))
      clear hb1 s hlt
      go_wp2_with fail
      with_reducible refine (q.out _).mono ?_
      rintro e w1 ⟨rfl, k1⟩
      have q2 := Lib.hid (rkeep_0 g w1 (hr.kept k1 (by simp)))
      go_wp2_with fail
      with_reducible refine q2.out.mono ?_
      rintro e w2 ⟨rfl, k2⟩
      go_wp2
      go_roundg (gk - 1)
      case measure => omega
      case rel => exact ⟨1, by go_num, by omega, (ka.trans k1).trans k2⟩
    · obtain rfl : k = 1 := by omega
      clear hk hlt
      go_wp2
      go_end0
      exact ⟨rfl, hkp⟩
theorem op_fa {a : Act} {w : World} {o : Oper} {x : Operand} {b i : Nat} (h : o.op = .fieldAddr 43 x i) (hi : i = 0 ∨ i = 1) (hx : a.eval x = .pointer (some ⟨b, 0, none⟩)) :
    (execOp a.eval o).run Tryz.prog w = .ok (.value (.pointer (some ⟨b, i, none⟩))) w := by
  generalize a.eval = r at *
  rcases hi with rfl | rfl <;> simp [execOp, h, hx, go_sem]
theorem op_ldR {a : Act} {w : World} {o : Oper} {x : Operand} {b i : Nat} {s : ByteArray} (h : o.op = .load 22 x) (hx : a.eval x = .pointer (some ⟨b, i, none⟩)) (hc : w.cell? ⟨b, i, none⟩ = some (.string s)) :
    (execOp a.eval o).run Tryz.prog w = .ok (.value (.string s)) w := by
  generalize a.eval = r at *
  simp [execOp, h, hx, go_sem, hc]

def iin1_s : RSt := ⟨14, 27, 2, fun i => ([9, 10, 11, 12, 13, 14, 15, 16, 17, 18, 19, 20, 7, 8] : List Nat).getD i 0, fun i => ([0, 0, 0, 0, 0, 1, 0, 0, 0, 0, 0, 1, 0, 0] : List Nat).getD i 0, fun i => ([0, 0, 0, 0, 0, 0, 0, 0, 0, 0, 0, 1, 0, 0] : List Nat).getD i 0, fun i => ([14, 14, 14, 14, 14, 14, 14, 12, 13, 0, 1, 2, 3, 4, 5, 6, 7, 8, 9, 10, 11, 14, 14, 14, 14, 14, 14, 14] : List Nat).getD i 14, fun i => ([5, 11] : List Nat).getD i 0, fun _ => false, fun _ => true, fun _ => 0, fun _ => false⟩
def iin1_y : RSy := ⟨iin1_s, fun i => ([.at 4, .at 0, .at 5, .at 1, .at 6, .at 7, .at 4, .at 2, .at 8, .at 3, .at 9, .at 10, .at 7, .at 10] : List SV).getD i .un, [(0, .at 4), (4, .at 1), (5, .at 0)], fun i => ([false, false, false, false, false, true, false, false, false, false, false, true, false, false] : List Bool).getD i false⟩
def iin1_ca : List (Nat × Nat × List SV) := [(5, 72, [.at 4, .at 5, .at 6]), (11, 72, [.at 4, .at 8, .at 9])]
theorem iin1_ok : reflOk (opsOf 1 Tryz.f43) iin1_y [1, 2, 3, 4, 7, 8, 9, 10] iin1_ca [] [] = true := by kernel_rfl

set_option maxRecDepth 100000 in
set_option maxHeartbeats 4000000 in
theorem iinside_0 (g : Nat) (x y lo hi : ByteArray) (u v : Int) (r : Bool) (w : World) (h : RE w g 0) (hr0 : (decide (u ≤ 0) && decide (v ≤ 0)) = r)
    (qu : Hid (∀ W : World, RE W g 0 → Calls Tryz.prog 72 #[.pointer (some ⟨g, 0, none⟩), .string lo, .string x] W fun e w' => e = .returned (.int .i64 u) ∧ Kp [] W w'))
    (qv : Hid (∀ W : World, RE W g 0 → Calls Tryz.prog 72 #[.pointer (some ⟨g, 0, none⟩), .string y, .string hi] W fun e w' => e = .returned (.int .i64 v) ∧ Kp [] W w')) :
    Calls Tryz.prog 43 #[.pointer (some ⟨g, 0, none⟩), .agg #[.string x, .string y], .agg #[.string lo, .string hi]] w fun e w' => e = .returned (.bool r) ∧ Kp [] w w' := by
  have sa0 := (SpB.made w x y).alloc (.cells #[.string lo, .string hi] 43 (0, 0))
  have sb0 := SpB.made (w.alloc (.cells #[.string x, .string y] 43 (0, 0))) lo hi
  simp only [World.size_alloc] at sb0
  have hr1 := (h.alloc (.cells #[.string x, .string y] 43 (0, 0))).alloc (.cells #[.string lo, .string hi] 43 (0, 0))
  have k0 : Kp [] w ((w.alloc (.cells #[.string x, .string y] 43 (0, 0))).alloc (.cells #[.string lo, .string hi] 43 (0, 0))) := ((Kp.refl _ _).alloc _).alloc _
  have HR := Lib.hid hr0
  clear h hr0
  go_enter Tryz.func43, Tryz.ntmps43
  go_wp2_with fail
  generalize (w.alloc (.cells #[.string x, .string y] 43 (0, 0))).alloc (.cells #[.string lo, .string hi] 43 (0, 0)) = w1 at *
  generalize hba : w.heap.size = ba at *
  generalize hbb : ba + 1 = bb at *
  have sa : SpB w1.drew ba x y := sa0
  have sb : SpB w1.drew bb lo hi := sb0
  have hr : RE w1.drew g 0 := hr1
  clear sa0 sb0 hr1

  rw [frame_lit]
  refine reg_refl iin1_y (fun k => ([.pointer (some ⟨bb, 0, none⟩), .pointer (some ⟨ba, 0, none⟩), .pointer (some ⟨ba, 1, none⟩), .pointer (some ⟨bb, 1, none⟩), .pointer (some ⟨g, 0, none⟩), .string lo, .string x, .int .i64 u, .string y, .string hi, .int .i64 v] : List Value).getD k undef) [] (fun _ _ _ => True) (opsOf 1 Tryz.f43) [1, 2, 3, 4, 7, 8, 9, 10] iin1_ca [] [] (by kernel_rfl) (by kernel_rfl) iin1_ok ⟨rfl, rfl, rfl, trivial⟩ ?sp ?ca ?cx (by decide) ?fr (fun _ _ _ _ h _ => h) ?rest
  case sp =>
    refine ⟨?_, ?_, ?_, ?_, ?_, ?_, ?_, ?_, trivial⟩
    · intro T wz H o ho; have he : o.op = .fieldAddr 43 (.tmp 5) 0 := Option.some.inj ((congrArg (fun z => z.map Oper.op) ho).symm.trans (show ((opsOf 1 Tryz.f43)[1]?).map Oper.op = some (.fieldAddr 43 (.tmp 5) 0) by kernel_rfl)); exact op_fa he (.inl rfl) (H.ev (.tmp 5) (.at 0) (by kernel_rfl))
    · intro T wz H o ho; have he : o.op = .load 22 (.tmp 10) := Option.some.inj ((congrArg (fun z => z.map Oper.op) ho).symm.trans (show ((opsOf 1 Tryz.f43)[2]?).map Oper.op = some (.load 22 (.tmp 10)) by kernel_rfl)); exact op_ldR he (H.ev (.tmp 10) (.at 0) (by kernel_rfl)) ((SpB.kept (L := []) (w := w1.drew) sb H.kp (by simp)).c0)
    · intro T wz H o ho; have he : o.op = .fieldAddr 43 (.tmp 4) 0 := Option.some.inj ((congrArg (fun z => z.map Oper.op) ho).symm.trans (show ((opsOf 1 Tryz.f43)[3]?).map Oper.op = some (.fieldAddr 43 (.tmp 4) 0) by kernel_rfl)); exact op_fa he (.inl rfl) (H.ev (.tmp 4) (.at 1) (by kernel_rfl))
    · intro T wz H o ho; have he : o.op = .load 22 (.tmp 12) := Option.some.inj ((congrArg (fun z => z.map Oper.op) ho).symm.trans (show ((opsOf 1 Tryz.f43)[4]?).map Oper.op = some (.load 22 (.tmp 12)) by kernel_rfl)); exact op_ldR he (H.ev (.tmp 12) (.at 1) (by kernel_rfl)) ((SpB.kept (L := []) (w := w1.drew) sa H.kp (by simp)).c0)
    · intro T wz H o ho; have he : o.op = .fieldAddr 43 (.tmp 4) 1 := Option.some.inj ((congrArg (fun z => z.map Oper.op) ho).symm.trans (show ((opsOf 1 Tryz.f43)[7]?).map Oper.op = some (.fieldAddr 43 (.tmp 4) 1) by kernel_rfl)); exact op_fa he (.inr rfl) (H.ev (.tmp 4) (.at 1) (by kernel_rfl))
    · intro T wz H o ho; have he : o.op = .load 22 (.tmp 16) := Option.some.inj ((congrArg (fun z => z.map Oper.op) ho).symm.trans (show ((opsOf 1 Tryz.f43)[8]?).map Oper.op = some (.load 22 (.tmp 16)) by kernel_rfl)); exact op_ldR he (H.ev (.tmp 16) (.at 2) (by kernel_rfl)) ((SpB.kept (L := []) (w := w1.drew) sa H.kp (by simp)).c1)
    · intro T wz H o ho; have he : o.op = .fieldAddr 43 (.tmp 5) 1 := Option.some.inj ((congrArg (fun z => z.map Oper.op) ho).symm.trans (show ((opsOf 1 Tryz.f43)[9]?).map Oper.op = some (.fieldAddr 43 (.tmp 5) 1) by kernel_rfl)); exact op_fa he (.inr rfl) (H.ev (.tmp 5) (.at 0) (by kernel_rfl))
    · intro T wz H o ho; have he : o.op = .load 22 (.tmp 18) := Option.some.inj ((congrArg (fun z => z.map Oper.op) ho).symm.trans (show ((opsOf 1 Tryz.f43)[10]?).map Oper.op = some (.load 22 (.tmp 18)) by kernel_rfl)); exact op_ldR he (H.ev (.tmp 18) (.at 3) (by kernel_rfl)) ((SpB.kept (L := []) (w := w1.drew) sb H.kp (by simp)).c1)
  case ca =>
    refine ⟨?_, ?_, trivial⟩
    · exact ⟨(enters_of Tryz.func72 (by kernel_rfl) rfl), fun wz hk => (qu.out wz (RE.kept (L := []) (w := w1.drew) hr hk (by simp))).mono fun x w2 ⟨h1, h2⟩ => ⟨_, h1, h2, fun _ => rfl⟩⟩
    · exact ⟨(enters_of Tryz.func72 (by kernel_rfl) rfl), fun wz hk => (qv.out wz (RE.kept (L := []) (w := w1.drew) hr hk (by simp))).mono fun x w2 ⟨h1, h2⟩ => ⟨_, h1, h2, fun _ => rfl⟩⟩
  case cx =>
    exact trivial
  case fr =>
    exact trivial
  case rest =>
    intro T w3 hout hval k hF
    rw [show frameOf iin1_y.st.N T = (⟨#[T 0, T 1, T 2, T 3, T 4, T 5, T 6, T 7, T 8, T 9, T 10, T 11, T 12, T 13, T 14, T 15, T 16, T 17, T 18, T 19, T 20, T 21, T 22, T 23, T 24, T 25, T 26], []⟩ : Act) from frame_list 27 T]
    rw [show T 7 = .int .i64 u from hval 12 (by decide : 12 < 14) (.inl rfl)]
    rw [show T 8 = .int .i64 v from hval 13 (by decide : 13 < 14) (.inl rfl)]
    have kk := k0.trans k
    clear hout hval hF sa sb hr qu qv k k0 hba hbb
    cases r with
    | true =>
      obtain ⟨h1, h2⟩ : u ≤ 0 ∧ v ≤ 0 := by have := HR.out; simpa using this
      clear HR
      go_wp2
      go_ret
      exact ⟨rfl, kk⟩
    | false =>
      have hn : ¬ (u ≤ 0 ∧ v ≤ 0) := by have := HR.out; simpa using this
      clear HR
      by_cases h1 : u ≤ 0
      · have h2 : ¬ v ≤ 0 := fun h => hn ⟨h1, h⟩
        clear hn
        go_wp2
        go_ret
        exact ⟨rfl, kk⟩
      · clear hn
        go_wp2
        go_ret
        exact ⟨rfl, kk⟩
set_option maxRecDepth 100000 in
set_option maxHeartbeats 4000000 in
theorem contains_in (g b c : Nat) (lo hi x : ByteArray) (r : Bool) (w : World) (h : RE w g 0) (hb : SpB w b lo hi) (hc : StB w c x)
    (q1 : Hid (∀ W : World, Calls Tryz.prog 71 #[.agg #[.string lo, .string hi]] W fun e w' => e = .returned (.int .i64 0) ∧ Kp [] W w'))
    (q2 : Hid (∀ W : World, Calls Tryz.prog 42 #[.string x] W fun e w' => e = .returned (.int .i64 0) ∧ Kp [] W w'))
    (q3 : Hid (∀ W : World, RE W g 0 → Calls Tryz.prog 43 #[.pointer (some ⟨g, 0, none⟩), .agg #[.string x, .string x], .agg #[.string lo, .string hi]] W fun e w' => e = .returned (.bool r) ∧ Kp [] W w')) :
    Calls Tryz.prog 39 #[.pointer (some ⟨g, 0, none⟩), .pointer (some ⟨b, 0, none⟩), .pointer (some ⟨c, 0, none⟩)] w fun e w' => e = .returned (.bool r) ∧ Kp [] w w' := by
  have b0 := hb.c0
  have b1 := hb.c1
  have k0 : Kp [] w (w.alloc (.cells #[.string lo, .string hi] 43 (0, 0))) := (Kp.refl _ _).alloc _
  have qk := Lib.hid (ikeep_1 g w.heap.size lo hi _ (h.alloc (.cells #[.string lo, .string hi] 43 (0, 0))) (SpB.made w lo hi) q1)
  go_enter Tryz.func39, Tryz.ntmps39
  go_wp2_with fail
  with_reducible refine qk.out.mono ?_
  rintro e w1 ⟨rfl, k⟩
  have kk := k0.trans k
  clear k b0 b1 qk k0
  have c0 := (hc.kept kk (by simp)).c
  go_wp2_with fail
  with_reducible refine (q2.out _).mono ?_
  rintro e w2 ⟨rfl, k⟩
  replace kk := kk.trans k
  clear k c0
  have q4 := Lib.hid (rkeep_0 g w2 (h.kept kk (by simp)))
  go_wp2_with fail
  with_reducible refine q4.out.mono ?_
  rintro e w3 ⟨rfl, k⟩
  replace kk := kk.trans k
  clear k q4
  have c0 := (hc.kept kk (by simp)).c
  have b0 := (hb.kept kk (by simp)).c0
  have b1 := (hb.kept kk (by simp)).c1
  have q5 := Lib.hid (q3.out w3 (h.kept kk (by simp)))
  clear h hb hc q3
  go_wp2_with fail
  with_reducible refine q5.out.mono ?_
  rintro e w4 ⟨rfl, k⟩
  replace kk := kk.trans k
  go_wp2
  go_ret
  exact ⟨rfl, kk⟩
set_option maxRecDepth 100000 in
set_option maxHeartbeats 4000000 in
theorem contains_0 (lo hi x : ByteArray) (r : Bool) (w : World)
    (q1 : Hid (∀ W : World, Calls Tryz.prog 71 #[.agg #[.string lo, .string hi]] W fun e w' => e = .returned (.int .i64 0) ∧ Kp [] W w'))
    (q2 : Hid (∀ W : World, Calls Tryz.prog 42 #[.string x] W fun e w' => e = .returned (.int .i64 0) ∧ Kp [] W w'))
    (q3 : Hid (∀ (W : World) (g : Nat), RE W g 0 → Calls Tryz.prog 43 #[.pointer (some ⟨g, 0, none⟩), .agg #[.string x, .string x], .agg #[.string lo, .string hi]] W fun e w' => e = .returned (.bool r) ∧ Kp [] W w')) :
    Calls Tryz.prog 17 #[.agg #[.string lo, .string hi], .string x] w fun e w' => e = .returned (.tuple #[.bool r, .int .i64 0]) ∧ Kp [] w w' := by
  have s0 := (SpB.made w lo hi).alloc (.cells #[.string x] 22 (0, 0))
  have s1 := StB.made (w.alloc (.cells #[.string lo, .string hi] 43 (0, 0))) x
  simp only [World.size_alloc] at s1
  have k0 : Kp [] w ((w.alloc (.cells #[.string lo, .string hi] 43 (0, 0))).alloc (.cells #[.string x] 22 (0, 0))) := ((Kp.refl _ _).alloc _).alloc _
  have qr := Lib.hid (rresult_bool 39 #[.pointer (some ⟨w.heap.size, 0, none⟩), .pointer (some ⟨w.heap.size + 1, 0, none⟩)] r _ (enters_of Tryz.func39 (by kernel_rfl) rfl)
    (fun W g hg k => contains_in g _ _ lo hi x r W hg (s0.kept k (by simp)) (s1.kept k (by simp)) q1 q2 (fun W' h' => q3.out W' g h')))
  clear s0 s1 q1 q2 q3
  go_enter Tryz.func17, Tryz.ntmps17
  go_wp2_with fail
  with_reducible refine qr.out.mono ?_
  rintro e w1 ⟨rfl, k⟩
  go_wp2
  go_ret2
  exact ⟨rfl, k0.trans k⟩
section
variable {j : Nat} {l h x : Rat}
theorem cm_le {p q : Rat} : cmR p q ≤ 0 ↔ p ≤ q := by
  unfold cmR
  by_cases h1 : p < q
  · rw [if_pos h1]; exact ⟨fun _ => by grind, fun _ => by decide⟩
  · rw [if_neg h1]
    by_cases h2 : p = q
    · rw [if_pos h2]; exact ⟨fun _ => by grind, fun _ => by decide⟩
    · rw [if_neg h2]; exact ⟨fun h => absurd h (by decide), fun h => absurd h (by grind)⟩
theorem contains_c (hl : Sm j l) (hh : Sm j h) (hx : Sm j x) (hj : j + j ≤ 1024) (hle : l ≤ h) (w : World) :
    Calls Tryz.prog 17 #[.agg #[.string (RS l), .string (RS h)], .string (RS x)] w fun e w' => e = .returned (.tuple #[.bool (decide (l ≤ x) && decide (x ≤ h)), .int .i64 0]) ∧ Kp [] w w' := by
  refine contains_0 (RS l) (RS h) (RS x) _ w (fun W => icheck_0 _ _ _ W (cm_le.2 hle) (fun W' => cmp_c hl hh hj W')) (fun W => check_c hx (by omega) W) (fun W g hg => ?_)
  refine iinside_0 g _ _ _ _ (cmR l x) (cmR x h) _ W hg (by simp only [cm_le]) ?_ ?_
  · exact fun W' h' => rorder_0 g _ _ _ W' h' (gw_of fun W2 => cmp_c hl hx hj W2)
  · exact fun W' h' => rorder_0 g _ _ _ W' h' (gw_of fun W2 => cmp_c hx hh hj W2)
end

end Go.Proofs.YthjhjgglkooafaaGreatDoor
