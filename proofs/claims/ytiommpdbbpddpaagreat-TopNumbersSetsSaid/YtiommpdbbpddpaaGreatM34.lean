/- Texts RLow, RArith: each says in its own first comment what it proves. -/
import Derived.Test.YtiommpdbbpddpaaGreatM31
import Derived.Test.YtiommpdbbpddpaaGreatM33
import Derived.Test.YtiommpdbbpddpaaGreatM21
import Derived.Test.YtiommpdbbpddpaaGreatM51
import Derived.Test.YtiommpdbbpddpaaGreatM29
/- Lowest and crossed of the reference of layer 2. -/
namespace Go.Proofs.YtiommpdbbpddpaaGreat
open Go.RowKit
open Go.Lib (nDigits itoa decDigits)


































































































/-- what crossed makes: a new block of five texts -/
def Crossed (w : World) (t0 t1 t2 t3 t4 : ByteArray) (e : Ending) (w' : World) : Prop :=
  ∃ g, e = .returned (.slice (some ⟨g, 0, none⟩) 5 5) ∧ w'.heap[g]? = some (.cells #[.string t0, .string t1, .string t2, .string t3, .string t4] 55 (0, 0)) ∧ w.heap.size ≤ g ∧ Kp [] w w'
set_option maxRecDepth 100000 in
set_option maxHeartbeats 2000000 in
theorem crossed_core (a b n p m q t0 t1 t2 t3 t4 : ByteArray) (w : World)
    (s1 : Hid (∀ W, Calls Tryz.prog 30 #[.string a] W fun e w' => e = .returned (.tuple #[.string n, .string p]) ∧ Kp [] W w'))
    (s2 : Hid (∀ W, Calls Tryz.prog 30 #[.string b] W fun e w' => e = .returned (.tuple #[.string m, .string q]) ∧ Kp [] W w'))
    (c0 : Hid (∀ W, Calls Tryz.prog 57 #[.string n, .string q] W fun e w' => e = .returned (.string t0) ∧ Kp [] W w'))
    (c1 : Hid (∀ W, Calls Tryz.prog 57 #[.string m, .string p] W fun e w' => e = .returned (.string t1) ∧ Kp [] W w'))
    (c2 : Hid (∀ W, Calls Tryz.prog 57 #[.string p, .string q] W fun e w' => e = .returned (.string t2) ∧ Kp [] W w'))
    (c3 : Hid (∀ W, Calls Tryz.prog 57 #[.string n, .string m] W fun e w' => e = .returned (.string t3) ∧ Kp [] W w'))
    (c4 : Hid (∀ W, Calls Tryz.prog 57 #[.string p, .string m] W fun e w' => e = .returned (.string t4) ∧ Kp [] W w')) :
    Calls Tryz.prog 35 #[.string a, .string b] w (Crossed w t0 t1 t2 t3 t4) := by
  go_enter Tryz.func35, Tryz.ntmps35
  go_wp2_with fail
  with_reducible refine (s1.out _).mono ?_
  rintro x w1 ⟨rfl, k⟩
  have k1 := k; clear k
  go_wp2_with fail
  with_reducible refine (s2.out _).mono ?_
  rintro x w2 ⟨rfl, k⟩
  replace k1 := k1.trans k; clear k
  go_wp2_with fail
  with_reducible refine (c0.out _).mono ?_
  rintro x w3 ⟨rfl, k⟩
  replace k1 := k1.trans k; clear k
  go_wp2_with fail
  with_reducible refine (c1.out _).mono ?_
  rintro x w4 ⟨rfl, k⟩
  replace k1 := k1.trans k; clear k
  go_wp2_with fail
  with_reducible refine (c2.out _).mono ?_
  rintro x w5 ⟨rfl, k⟩
  replace k1 := k1.trans k; clear k
  go_wp2_with fail
  with_reducible refine (c3.out _).mono ?_
  rintro x w6 ⟨rfl, k⟩
  replace k1 := k1.trans k; clear k
  go_wp2_with fail
  with_reducible refine (c4.out _).mono ?_
  rintro x w7 ⟨rfl, k⟩
  replace k1 := k1.trans k; clear k
  have hz := k1.size
  go_wp2
  go_ret
  exact ⟨w7.heap.size, rfl, heap_alloc_new w7 _, hz, k1.alloc _⟩

theorem split_c {j : Nat} {q : Rat} (hq : Sm j q) (h : j ≤ 1024) (w : World) :
    Calls Tryz.prog 30 #[.string (RS q)] w fun e w' => e = .returned (.tuple #[.string (S q.num), .string (S (q.den : Int))]) ∧ Kp [] w w' := by
  have oq := hq.ok h
  have c := Split_any (RS q) w (Nat.le_trans oq.size (by omega))
  rwa [(sp_RS oq).1, (sp_RS oq).2.1] at c
theorem crossed_c {j k : Nat} {q r : Rat} (hq : Sm j q) (hr : Sm k r) (h : j + k ≤ 1024) (w : World) :
    Calls Tryz.prog 35 #[.string (RS q), .string (RS r)] w
      (Crossed w (S (q.num * (r.den : Int))) (S (r.num * (q.den : Int))) (S ((q.den : Int) * (r.den : Int))) (S (q.num * r.num)) (S ((q.den : Int) * r.num))) := by
  have oq := hq.ok (by omega)
  have or := hr.ok (by omega)
  have tm : ∀ x y : Int, Ok x → Ok y → Hid (∀ W, Calls Tryz.prog 57 #[.string (S x), .string (S y)] W fun e w' => e = .returned (.string (S (x * y))) ∧ Kp [] W w') :=
    fun x y hx hy W => times_ref x y W (Nat.le_trans hx (by omega)) (Nat.le_trans hy (by omega))
  exact crossed_core _ _ _ _ _ _ _ _ _ _ _ w (fun W => split_c hq (by omega) W) (fun W => split_c hr (by omega) W) (tm _ _ oq.1 or.2) (tm _ _ or.1 oq.2) (tm _ _ oq.2 or.2) (tm _ _ oq.1 or.1) (tm _ _ oq.2 or.1)
end Go.Proofs.YtiommpdbbpddpaaGreat

/- Plus, Minus, Times, By and Order of the reference of layer 2, on short, right numbers. -/
namespace Go.Proofs.YtiommpdbbpddpaaGreat
open Go.RowKit
open Go.Lib (nDigits itoa decDigits)

/-- a block of five texts -/
def B5 (w : World) (g : Nat) (t0 t1 t2 t3 t4 : ByteArray) : Prop := w.heap[g]? = some (.cells #[.string t0, .string t1, .string t2, .string t3, .string t4] 55 (0, 0))
section
variable {w w' : World} {g : Nat} {t0 t1 t2 t3 t4 : ByteArray} {L : List Nat}
theorem B5.lt (h : B5 w g t0 t1 t2 t3 t4) : g < w.heap.size := (Array.getElem?_eq_some_iff.1 h).1
theorem B5.kept (h : B5 w g t0 t1 t2 t3 t4) (k : Kp L w w') (hg : g ∉ L) : B5 w' g t0 t1 t2 t3 t4 := (k.block g h.lt hg).trans h
theorem B5.c (h : B5 w g t0 t1 t2 t3 t4) (n : Nat) : w.cell? ⟨g, n, none⟩ = (#[.string t0, .string t1, .string t2, .string t3, .string t4] : Array Value)[n]? := by unfold B5 at h; simp [World.cell?, h]
end
theorem op_ixI {a : Act} {w : World} {o : Oper} {x y : Operand} {b n c i : Nat} (h : o.op = .indexAddr 61 x y) (hx : a.eval x = .slice (some ⟨b, 0, none⟩) n c) (hy : a.eval y = .int .i64 (i : Int)) (hi : i < n) :
    (execOp a.eval o).run Tryz.prog w = .ok (.value (.pointer (some ⟨b, i, none⟩))) w := by
  have h0 : (0 : Int) ≤ (i : Int) := by omega
  have h1 : (i : Int) < (n : Int) := by omega
  generalize a.eval = r at *
  simp [execOp, h, hx, hy, go_sem, h0, h1]
theorem op_ldI {a : Act} {w : World} {o : Oper} {x : Operand} {b i : Nat} {s : ByteArray} (h : o.op = .load 55 x) (hx : a.eval x = .pointer (some ⟨b, i, none⟩)) (hc : w.cell? ⟨b, i, none⟩ = some (.string s)) :
    (execOp a.eval o).run Tryz.prog w = .ok (.value (.string s)) w := by
  generalize a.eval = r at *
  simp [execOp, h, hx, go_sem, hc]















































































































































































































































































































































































set_option maxRecDepth 100000 in
set_option maxHeartbeats 4000000 in
theorem rorder2_core (a b t0 t1 t2 t3 t4 : ByteArray) (v : Int) (w : World) (cr : Calls Tryz.prog 35 #[.string a, .string b] w (Crossed w t0 t1 t2 t3 t4))
    (q1 : Hid (∀ W, Calls Tryz.prog 33 #[.string t0, .string t1] W fun e w' => e = .returned (.int .i64 v) ∧ Kp [] W w')) :
    Calls Tryz.prog 18 #[.string a, .string b] w fun e w' => e = .returned (.int .i64 v) ∧ Kp [] w w' := by
  have cr := Lib.hid cr
  go_enter Tryz.func18, Tryz.ntmps18
  go_wp2_with fail
  with_reducible refine cr.out.mono ?_
  rintro x w1 ⟨g, rfl, hb, hg, k1⟩
  have hb : B5 w1 g t0 t1 t2 t3 t4 := hb
  go_wp2_with fail
  rw [frame_lit]
  refine reg_law (m := 8) (N := 16) (K := 1) (L := []) (J := fun _ _ => True) (dst := fun i => ([9, 10, 11, 12, 13, 14, 15, 4] : List Nat).getD i 0) (kind := fun i => ([0, 0, 0, 0, 0, 0, 1, 0] : List Nat).getD i 0) (pos := fun i => ([0, 0, 0, 0, 0, 0, 0, 0] : List Nat).getD i 0) (mate := fun _ => 0) (V := fun i => ([.slice (some ⟨g, 0, none⟩) 5 5, .pointer (some ⟨g, 0, none⟩), .string t0, .slice (some ⟨g, 0, none⟩) 5 5, .pointer (some ⟨g, 1, none⟩), .string t1, .int .i64 v, .int .i64 v] : List Value).getD i undef) (Z := fun _ => #[]) (C := fun _ => #[]) (Y := fun _ => 0) (by kernel_rfl) ?shape (by simp) (fun _ _ _ h _ => h) trivial ?rest
  case shape =>
    have lo : ∀ s, s ∈ ([5] : List Nat) → ∀ j, j < 8 → ([0, 0, 0, 0, 0, 0, 1, 0] : List Nat).getD j 0 ≤ 2 → ([9, 10, 11, 12, 13, 14, 15, 4] : List Nat).getD j 0 ≠ s := by decide
    refine ⟨rfl, by decide, by decide, by decide, ?_, ?_, ?_, ?_, ?_, by decide, by decide, ?_, ?_, ?_, fun l hs hr => jfin_of (m := 8) (by rfl) ?_ l hs hr⟩
    · intro i hi; obtain rfl | rfl | rfl | rfl | rfl | rfl | rfl | rfl : i = 0 ∨ i = 1 ∨ i = 2 ∨ i = 3 ∨ i = 4 ∨ i = 5 ∨ i = 6 ∨ i = 7 := by omega
      all_goals exact ⟨_, rfl, rfl, rfl⟩
    · intro i hi hk l T wz o c hr hM hkp hj hc ho; obtain rfl | rfl | rfl | rfl | rfl | rfl | rfl | rfl : i = 0 ∨ i = 1 ∨ i = 2 ∨ i = 3 ∨ i = 4 ∨ i = 5 ∨ i = 6 ∨ i = 7 := by omega
      · obtain rfl := Option.some.inj ho; exact op_mv rfl (by rw [frame_eval (by decide), hM.out 5 (lo 5 (by decide))]; rfl)
      · obtain rfl := Option.some.inj ho; exact op_ixI (i := 0) rfl (by rw [frame_eval (by decide)]; exact hM.val 0 (by decide) (by decide) (dep_of hr rfl (by kernel_rfl))) rfl (by decide)
      · obtain rfl := Option.some.inj ho; exact op_ldI rfl (by rw [frame_eval (by decide)]; exact hM.val 1 (by decide) (by decide) (dep_of hr rfl (by kernel_rfl))) (((B5.kept (w := w1.drew) hb hkp (by simp)).c 0).trans rfl)
      · obtain rfl := Option.some.inj ho; exact op_mv rfl (by rw [frame_eval (by decide), hM.out 5 (lo 5 (by decide))]; rfl)
      · obtain rfl := Option.some.inj ho; exact op_ixI (i := 1) rfl (by rw [frame_eval (by decide)]; exact hM.val 3 (by decide) (by decide) (dep_of hr rfl (by kernel_rfl))) rfl (by decide)
      · obtain rfl := Option.some.inj ho; exact op_ldI rfl (by rw [frame_eval (by decide)]; exact hM.val 4 (by decide) (by decide) (dep_of hr rfl (by kernel_rfl))) (((B5.kept (w := w1.drew) hb hkp (by simp)).c 1).trans rfl)
      · exact absurd hk (by decide)
      · obtain rfl := Option.some.inj ho; exact op_as rfl (by rw [frame_eval (by decide)]; exact hM.val 6 (by decide) (by decide) (dep_of hr rfl (by kernel_rfl)))
    · intro i hi hk l T wz o hr hM hkp hj ho; obtain rfl | rfl | rfl | rfl | rfl | rfl | rfl | rfl : i = 0 ∨ i = 1 ∨ i = 2 ∨ i = 3 ∨ i = 4 ∨ i = 5 ∨ i = 6 ∨ i = 7 := by omega
      · exact absurd hk (by decide)
      · exact absurd hk (by decide)
      · exact absurd hk (by decide)
      · exact absurd hk (by decide)
      · exact absurd hk (by decide)
      · exact absurd hk (by decide)
      · obtain rfl := Option.some.inj ho
        exact ⟨_, _, op_call2 (enters_of Tryz.func33 (by kernel_rfl) rfl) rfl (by rw [frame_eval (by decide)]; exact hM.val 2 (by decide) (by decide) (dep_of hr rfl (by kernel_rfl))) (by rw [frame_eval (by decide)]; exact hM.val 5 (by decide) (by decide) (dep_of hr rfl (by kernel_rfl))), (q1.out _).mono fun x w2 ⟨h1, h2⟩ => ⟨h1, trivial, h2⟩⟩
      · exact absurd hk (by decide)
    · intro i hi hk; obtain rfl | rfl | rfl | rfl | rfl | rfl | rfl | rfl : i = 0 ∨ i = 1 ∨ i = 2 ∨ i = 3 ∨ i = 4 ∨ i = 5 ∨ i = 6 ∨ i = 7 := by omega
      all_goals exact absurd hk (by decide)
    · intro i hi hk; obtain rfl | rfl | rfl | rfl | rfl | rfl | rfl | rfl : i = 0 ∨ i = 1 ∨ i = 2 ∨ i = 3 ∨ i = 4 ∨ i = 5 ∨ i = 6 ∨ i = 7 := by omega
      · exact absurd hk (by decide)
      · exact absurd hk (by decide)
      · exact absurd hk (by decide)
      · exact absurd hk (by decide)
      · exact absurd hk (by decide)
      · exact absurd hk (by decide)
      · refine ⟨by decide, fun l hr j hj hkj hp => ?_⟩
        obtain rfl | rfl | rfl | rfl | rfl | rfl | rfl | rfl : j = 0 ∨ j = 1 ∨ j = 2 ∨ j = 3 ∨ j = 4 ∨ j = 5 ∨ j = 6 ∨ j = 7 := by omega
        · exact absurd hkj (by decide)
        · exact absurd hkj (by decide)
        · exact absurd hkj (by decide)
        · exact absurd hkj (by decide)
        · exact absurd hkj (by decide)
        · exact absurd hkj (by decide)
        · exact absurd hp (by decide)
        · exact absurd hkj (by decide)
      · exact absurd hk (by decide)
    · intro i hi hk; obtain rfl | rfl | rfl | rfl | rfl | rfl | rfl | rfl : i = 0 ∨ i = 1 ∨ i = 2 ∨ i = 3 ∨ i = 4 ∨ i = 5 ∨ i = 6 ∨ i = 7 := by omega
      all_goals exact absurd hk (by decide)
    · intro i hi hk; obtain rfl | rfl | rfl | rfl | rfl | rfl | rfl | rfl : i = 0 ∨ i = 1 ∨ i = 2 ∨ i = 3 ∨ i = 4 ∨ i = 5 ∨ i = 6 ∨ i = 7 := by omega
      all_goals exact absurd hk (by decide)
    · intro i hi hk; obtain rfl | rfl | rfl | rfl | rfl | rfl | rfl | rfl : i = 0 ∨ i = 1 ∨ i = 2 ∨ i = 3 ∨ i = 4 ∨ i = 5 ∨ i = 6 ∨ i = 7 := by omega
      all_goals exact absurd hk (by decide)
    · intro i hi; obtain rfl | rfl | rfl | rfl | rfl | rfl | rfl | rfl : i = 0 ∨ i = 1 ∨ i = 2 ∨ i = 3 ∨ i = 4 ∨ i = 5 ∨ i = 6 ∨ i = 7 := by omega
      all_goals exact ⟨_, rfl, by kernel_rfl⟩
  case rest =>
    intro T B w2 hout hval hal hdis hj hk
    rw [show frameOf 16 T = (⟨#[T 0, T 1, T 2, T 3, T 4, T 5, T 6, T 7, T 8, T 9, T 10, T 11, T 12, T 13, T 14, T 15], []⟩ : Act) from frame_list 16 T]
    rw [show T 4 = .int .i64 v from hval 7 (by decide) (by decide)]
    have kk := k1.trans hk
    clear hout hval hal hdis hj hb hg k1 hk cr
    go_wp2
    go_ret
    exact ⟨rfl, kk⟩

section
variable {j k : Nat} {q r : Rat}





























theorem rorder2 (hq : Sm j q) (hr : Sm k r) (h : j + k ≤ 1024) (w : World) :
    Calls Tryz.prog 18 #[.string (RS q), .string (RS r)] w fun e w' => e = .returned (.int .i64 (cmR q r)) ∧ Kp [] w w' := by
  have h1 := ok_pow (hq.nd hr) (by omega)
  have h2 := ok_pow (hq.dn hr) (by omega)
  rw [← cmp_num]
  exact rorder2_core _ _ _ _ _ _ _ _ w (crossed_c hq hr (by omega) w) (fun W => rorder_any plus_all _ _ W h1 h2)
end
end Go.Proofs.YtiommpdbbpddpaaGreat
