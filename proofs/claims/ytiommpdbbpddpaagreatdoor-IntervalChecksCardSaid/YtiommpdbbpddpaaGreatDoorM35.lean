/- Texts RLow, RArith: each says in its own first comment what it proves. -/
import Derived.Test.YtiommpdbbpddpaaGreatDoorM32
import Derived.Test.YtiommpdbbpddpaaGreatDoorM34
import Derived.Test.YtiommpdbbpddpaaGreatDoorM22
import Derived.Test.YtiommpdbbpddpaaGreatDoorM21
import Derived.Test.YtiommpdbbpddpaaGreatDoorM30
/- Lowest and crossed of the reference of layer 2. -/
namespace Go.Proofs.YtiommpdbbpddpaaGreatDoor
open Go.RowKit
open Go.Lib (nDigits itoa decDigits)

set_option maxRecDepth 100000 in
set_option maxHeartbeats 2000000 in
theorem lowest_core (a b g g2 n1 m1 d1 m2 : ByteArray) (neg one : Bool) (w : World) (hn : n1.size ≤ 4000000000) (hd : d1.size ≤ 4000000000)
    (q1 : Hid (∀ W, Calls Tryz.prog 67 #[.string a, .string b] W fun e w' => e = .returned (.string g) ∧ Kp [] W w'))
    (q2 : Hid (∀ W, Calls Tryz.prog 96 #[.string b] W fun e w' => e = .returned (.bool neg) ∧ W = w'))
    (q3 : neg = true → Hid (∀ W, Calls Tryz.prog 84 #[.string g] W fun e w' => e = .returned (.string g2) ∧ W = w')) (e3 : neg = false → g = g2)
    (q4 : Hid (∀ W, Calls Tryz.prog 99 #[.string a, .string g2] W fun e w' => e = .returned (.tuple #[.string n1, .string m1]) ∧ Kp [] W w'))
    (q5 : Hid (∀ W, Calls Tryz.prog 99 #[.string b, .string g2] W fun e w' => e = .returned (.tuple #[.string d1, .string m2]) ∧ Kp [] W w'))
    (h1 : (d1.toList == [49]) = one) :
    Calls Tryz.prog 90 #[.string a, .string b] w fun e w' => e = .returned (.string (if one then n1 else n1 ++ ⟨#[47]⟩ ++ d1)) ∧ Kp [] w w' := by
  have hs : (1 : Int) ≤ 9223372036854775807 := by decide
  have hn' : (n1.size : Int) ≤ 4000000000 := by omega
  have hd' : (d1.size : Int) ≤ 4000000000 := by omega
  cases neg with
  | true =>
    replace q3 := q3 rfl
    clear e3
    cases one with
    | true =>
      go_enter Tryz.func90, Tryz.ntmps90
      go_wp2_with fail
      with_reducible refine (q1.out _).mono ?_
      rintro x w1 ⟨rfl, k1⟩
      go_wp2_with fail
      with_reducible refine (q2.out _).mono ?_
      rintro x _ ⟨rfl, rfl⟩
      go_wp2_with fail
      with_reducible refine (q3.out _).mono ?_
      rintro x _ ⟨rfl, rfl⟩
      go_wp2_with fail
      with_reducible refine (q4.out _).mono ?_
      rintro x w2 ⟨rfl, k2⟩
      go_wp2_with fail
      with_reducible refine (q5.out _).mono ?_
      rintro x w3 ⟨rfl, k3⟩
      go_wp2
      go_ret
      exact ⟨rfl, (k1.trans k2).trans k3⟩
    | false =>
      go_enter Tryz.func90, Tryz.ntmps90
      go_wp2_with fail
      with_reducible refine (q1.out _).mono ?_
      rintro x w1 ⟨rfl, k1⟩
      go_wp2_with fail
      with_reducible refine (q2.out _).mono ?_
      rintro x _ ⟨rfl, rfl⟩
      go_wp2_with fail
      with_reducible refine (q3.out _).mono ?_
      rintro x _ ⟨rfl, rfl⟩
      go_wp2_with fail
      with_reducible refine (q4.out _).mono ?_
      rintro x w2 ⟨rfl, k2⟩
      go_wp2_with fail
      with_reducible refine (q5.out _).mono ?_
      rintro x w3 ⟨rfl, k3⟩
      go_wp2
      go_ret
      exact ⟨rfl, (k1.trans k2).trans k3⟩
  | false =>
    obtain rfl := e3 rfl
    clear q3 e3
    cases one with
    | true =>
      go_enter Tryz.func90, Tryz.ntmps90
      go_wp2_with fail
      with_reducible refine (q1.out _).mono ?_
      rintro x w1 ⟨rfl, k1⟩
      go_wp2_with fail
      with_reducible refine (q2.out _).mono ?_
      rintro x _ ⟨rfl, rfl⟩
      go_wp2_with fail
      with_reducible refine (q4.out _).mono ?_
      rintro x w2 ⟨rfl, k2⟩
      go_wp2_with fail
      with_reducible refine (q5.out _).mono ?_
      rintro x w3 ⟨rfl, k3⟩
      go_wp2
      go_ret
      exact ⟨rfl, (k1.trans k2).trans k3⟩
    | false =>
      go_enter Tryz.func90, Tryz.ntmps90
      go_wp2_with fail
      with_reducible refine (q1.out _).mono ?_
      rintro x w1 ⟨rfl, k1⟩
      go_wp2_with fail
      with_reducible refine (q2.out _).mono ?_
      rintro x _ ⟨rfl, rfl⟩
      go_wp2_with fail
      with_reducible refine (q4.out _).mono ?_
      rintro x w2 ⟨rfl, k2⟩
      go_wp2_with fail
      with_reducible refine (q5.out _).mono ?_
      rintro x w3 ⟨rfl, k3⟩
      go_wp2
      go_ret
      exact ⟨rfl, (k1.trans k2).trans k3⟩

theorem RS_one (q : Rat) : (if ((S (q.den : Int)).toList == [49]) = true then S q.num else S q.num ++ ⟨#[47]⟩ ++ S (q.den : Int)) = RS q := by
  have h := isOne_S (q.den : Int)
  unfold isOne at h
  rw [h]
  unfold RS
  by_cases e : q.den = 1
  · rw [if_pos e, decide_eq_true (by omega), if_pos rfl]
  · rw [if_neg e, decide_eq_false (by omega), if_neg (by decide)]

theorem lowest_S {n d : Int} (hn : Ok n) (hd : Ok d) (h0 : d ≠ 0) (w : World) :
    Calls Tryz.prog 90 #[.string (S n), .string (S d)] w fun e w' => e = .returned (.string (RS (Rat.divInt n d))) ∧ Kp [] w w' := by
  obtain ⟨v1, v2⟩ := red_val n d h0
  have hgz : gcdI n d ≠ 0 := by rw [gcdI_eq]; have := Int.gcd_pos_of_ne_zero_left n h0; omega
  have og : Ok (gcdI n d) := ok_le hd (gcdI_le h0)
  have o1 := ok_num hn h0
  have o2 := ok_den (n := n) hd h0
  rw [← RS_one]
  have hz1 : (S (Rat.divInt n d).num).size ≤ 4000000000 := Nat.le_trans o1.size (by omega)
  have hz2 : (S ((Rat.divInt n d).den : Int)).size ≤ 4000000000 := Nat.le_trans o2.size (by omega)
  have q1 : Hid (∀ W, Calls Tryz.prog 67 #[.string (S n), .string (S d)] W fun e w' => e = .returned (.string (S (gcdI n d))) ∧ Kp [] W w') := fun W => shared_any n d W hn hd
  have q2 := Lib.hid (fun W => below_any d W)
  rcases Int.lt_or_gt_of_ne h0 with h | h
  · rw [sgn_neg h, Int.neg_one_mul] at v1 v2
    rw [decide_eq_true h] at q2
    rw [← v1] at hz1 ⊢
    rw [← v2] at hz2 ⊢
    exact lowest_core (S n) (S d) (S (gcdI n d)) (S (-gcdI n d)) _ (S (n.fmod (-gcdI n d))) _ (S (d.fmod (-gcdI n d))) true _ w hz1 hz2 q1 q2
      (fun _ W => turned_any (gcdI n d) W (Nat.le_trans og.size (by omega))) (fun h => by cases h)
      (fun W => parted_any n (-gcdI n d) W (by omega) hn og.neg) (fun W => parted_any d (-gcdI n d) W (by omega) hd og.neg) rfl
  · rw [sgn_pos h, Int.one_mul] at v1 v2
    rw [decide_eq_false (by omega)] at q2
    rw [← v1] at hz1 ⊢
    rw [← v2] at hz2 ⊢
    exact lowest_core (S n) (S d) (S (gcdI n d)) (S (gcdI n d)) _ (S (n.fmod (gcdI n d))) _ (S (d.fmod (gcdI n d))) false _ w hz1 hz2 q1 q2
      (fun h => by cases h) (fun _ => rfl) (fun W => parted_any n (gcdI n d) W hgz hn og) (fun W => parted_any d (gcdI n d) W hgz hd og) rfl

/-- what crossed makes: a new block of five texts -/
def Crossed (w : World) (t0 t1 t2 t3 t4 : ByteArray) (e : Ending) (w' : World) : Prop :=
  ∃ g, e = .returned (.slice (some ⟨g, 0, none⟩) 5 5) ∧ w'.heap[g]? = some (.cells #[.string t0, .string t1, .string t2, .string t3, .string t4] 61 (0, 0)) ∧ w.heap.size ≤ g ∧ Kp [] w w'
set_option maxRecDepth 100000 in
set_option maxHeartbeats 2000000 in
theorem crossed_core (a b n p m q t0 t1 t2 t3 t4 : ByteArray) (w : World)
    (s1 : Hid (∀ W, Calls Tryz.prog 39 #[.string a] W fun e w' => e = .returned (.tuple #[.string n, .string p]) ∧ Kp [] W w'))
    (s2 : Hid (∀ W, Calls Tryz.prog 39 #[.string b] W fun e w' => e = .returned (.tuple #[.string m, .string q]) ∧ Kp [] W w'))
    (c0 : Hid (∀ W, Calls Tryz.prog 89 #[.string n, .string q] W fun e w' => e = .returned (.string t0) ∧ Kp [] W w'))
    (c1 : Hid (∀ W, Calls Tryz.prog 89 #[.string m, .string p] W fun e w' => e = .returned (.string t1) ∧ Kp [] W w'))
    (c2 : Hid (∀ W, Calls Tryz.prog 89 #[.string p, .string q] W fun e w' => e = .returned (.string t2) ∧ Kp [] W w'))
    (c3 : Hid (∀ W, Calls Tryz.prog 89 #[.string n, .string m] W fun e w' => e = .returned (.string t3) ∧ Kp [] W w'))
    (c4 : Hid (∀ W, Calls Tryz.prog 89 #[.string p, .string m] W fun e w' => e = .returned (.string t4) ∧ Kp [] W w')) :
    Calls Tryz.prog 56 #[.string a, .string b] w (Crossed w t0 t1 t2 t3 t4) := by
  go_enter Tryz.func56, Tryz.ntmps56
  go_wp2_with fail
  with_reducible refine (s1.out _).mono ?_
  rintro x w1 ⟨rfl, k⟩
  have k1 := k; clear k
  go_wp2_with fail
  with_reducible refine (s2.out _).mono ?_
  rintro x w2 ⟨rfl, k⟩
  replace k1 := k1.trans k; clear k
  go_wp2_with fail
  with_reducible refine (c0.out _).mono ?_
  rintro x w3 ⟨rfl, k⟩
  replace k1 := k1.trans k; clear k
  go_wp2_with fail
  with_reducible refine (c1.out _).mono ?_
  rintro x w4 ⟨rfl, k⟩
  replace k1 := k1.trans k; clear k
  go_wp2_with fail
  with_reducible refine (c2.out _).mono ?_
  rintro x w5 ⟨rfl, k⟩
  replace k1 := k1.trans k; clear k
  go_wp2_with fail
  with_reducible refine (c3.out _).mono ?_
  rintro x w6 ⟨rfl, k⟩
  replace k1 := k1.trans k; clear k
  go_wp2_with fail
  with_reducible refine (c4.out _).mono ?_
  rintro x w7 ⟨rfl, k⟩
  replace k1 := k1.trans k; clear k
  have hz := k1.size
  go_wp2
  go_ret
  exact ⟨w7.heap.size, rfl, heap_alloc_new w7 _, hz, k1.alloc _⟩

theorem split_c {j : Nat} {q : Rat} (hq : Sm j q) (h : j ≤ 1024) (w : World) :
    Calls Tryz.prog 39 #[.string (RS q)] w fun e w' => e = .returned (.tuple #[.string (S q.num), .string (S (q.den : Int))]) ∧ Kp [] w w' := by
  have oq := hq.ok h
  have c := Split_any (RS q) w (Nat.le_trans oq.size (by omega))
  rwa [(sp_RS oq).1, (sp_RS oq).2.1] at c
theorem crossed_c {j k : Nat} {q r : Rat} (hq : Sm j q) (hr : Sm k r) (h : j + k ≤ 1024) (w : World) :
    Calls Tryz.prog 56 #[.string (RS q), .string (RS r)] w
      (Crossed w (S (q.num * (r.den : Int))) (S (r.num * (q.den : Int))) (S ((q.den : Int) * (r.den : Int))) (S (q.num * r.num)) (S ((q.den : Int) * r.num))) := by
  have oq := hq.ok (by omega)
  have or := hr.ok (by omega)
  have tm : ∀ x y : Int, Ok x → Ok y → Hid (∀ W, Calls Tryz.prog 89 #[.string (S x), .string (S y)] W fun e w' => e = .returned (.string (S (x * y))) ∧ Kp [] W w') :=
    fun x y hx hy W => times_ref x y W (Nat.le_trans hx (by omega)) (Nat.le_trans hy (by omega))
  exact crossed_core _ _ _ _ _ _ _ _ _ _ _ w (fun W => split_c hq (by omega) W) (fun W => split_c hr (by omega) W) (tm _ _ oq.1 or.2) (tm _ _ or.1 oq.2) (tm _ _ oq.2 or.2) (tm _ _ oq.1 or.1) (tm _ _ oq.2 or.1)
end Go.Proofs.YtiommpdbbpddpaaGreatDoor

/- Plus, Minus, Times, By and Order of the reference of layer 2, on short, right numbers. -/
namespace Go.Proofs.YtiommpdbbpddpaaGreatDoor
open Go.RowKit
open Go.Lib (nDigits itoa decDigits)

/-- a block of five texts -/
def B5 (w : World) (g : Nat) (t0 t1 t2 t3 t4 : ByteArray) : Prop := w.heap[g]? = some (.cells #[.string t0, .string t1, .string t2, .string t3, .string t4] 61 (0, 0))
section
variable {w w' : World} {g : Nat} {t0 t1 t2 t3 t4 : ByteArray} {L : List Nat}
theorem B5.lt (h : B5 w g t0 t1 t2 t3 t4) : g < w.heap.size := (Array.getElem?_eq_some_iff.1 h).1
theorem B5.kept (h : B5 w g t0 t1 t2 t3 t4) (k : Kp L w w') (hg : g ∉ L) : B5 w' g t0 t1 t2 t3 t4 := (k.block g h.lt hg).trans h
theorem B5.c (h : B5 w g t0 t1 t2 t3 t4) (n : Nat) : w.cell? ⟨g, n, none⟩ = (#[.string t0, .string t1, .string t2, .string t3, .string t4] : Array Value)[n]? := by unfold B5 at h; simp [World.cell?, h]
end
theorem op_ixI {a : Act} {w : World} {o : Oper} {x y : Operand} {b n c i : Nat} (h : o.op = .indexAddr 78 x y) (hx : a.eval x = .slice (some ⟨b, 0, none⟩) n c) (hy : a.eval y = .int .i64 (i : Int)) (hi : i < n) :
    (execOp a.eval o).run Tryz.prog w = .ok (.value (.pointer (some ⟨b, i, none⟩))) w := by
  have h0 : (0 : Int) ≤ (i : Int) := by omega
  have h1 : (i : Int) < (n : Int) := by omega
  generalize a.eval = r at *
  simp [execOp, h, hx, hy, go_sem, h0, h1]
theorem op_ldI {a : Act} {w : World} {o : Oper} {x : Operand} {b i : Nat} {s : ByteArray} (h : o.op = .load 61 x) (hx : a.eval x = .pointer (some ⟨b, i, none⟩)) (hc : w.cell? ⟨b, i, none⟩ = some (.string s)) :
    (execOp a.eval o).run Tryz.prog w = .ok (.value (.string s)) w := by
  generalize a.eval = r at *
  simp [execOp, h, hx, go_sem, hc]

set_option maxRecDepth 100000 in
set_option maxHeartbeats 4000000 in
theorem rplus_core (a b t0 t1 t2 t3 t4 s out : ByteArray) (w : World) (cr : Calls Tryz.prog 56 #[.string a, .string b] w (Crossed w t0 t1 t2 t3 t4))
    (q1 : Hid (∀ W, Calls Tryz.prog 73 #[.string t0, .string t1] W fun e w' => e = .returned (.string s) ∧ Kp [] W w'))
    (q2 : Hid (∀ W, Calls Tryz.prog 90 #[.string s, .string t2] W fun e w' => e = .returned (.string out) ∧ Kp [] W w')) :
    Calls Tryz.prog 74 #[.string a, .string b] w fun e w' => e = .returned (.string out) ∧ Kp [] w w' := by
  have cr := Lib.hid cr
  go_enter Tryz.func74, Tryz.ntmps74
  go_wp2_with fail
  with_reducible refine cr.out.mono ?_
  rintro x w1 ⟨g, rfl, hb, hg, k1⟩
  have hb : B5 w1 g t0 t1 t2 t3 t4 := hb
  go_wp2_with fail
  rw [frame_lit]
  refine reg_law (m := 12) (N := 20) (K := 2) (L := []) (J := fun _ _ => True) (dst := fun i => ([9, 10, 11, 12, 13, 14, 15, 16, 17, 18, 19, 4] : List Nat).getD i 0) (kind := fun i => ([0, 0, 0, 0, 0, 0, 1, 0, 0, 0, 1, 0] : List Nat).getD i 0) (pos := fun i => ([0, 0, 0, 0, 0, 0, 0, 0, 0, 0, 1, 0] : List Nat).getD i 0) (mate := fun _ => 0) (V := fun i => ([.slice (some ⟨g, 0, none⟩) 5 5, .pointer (some ⟨g, 0, none⟩), .string t0, .slice (some ⟨g, 0, none⟩) 5 5, .pointer (some ⟨g, 1, none⟩), .string t1, .string s, .slice (some ⟨g, 0, none⟩) 5 5, .pointer (some ⟨g, 2, none⟩), .string t2, .string out, .string out] : List Value).getD i undef) (Z := fun _ => #[]) (C := fun _ => #[]) (Y := fun _ => 0) (by kernel_rfl) ?shape (by simp) (fun _ _ _ h _ => h) trivial ?rest
  case shape =>
    have lo : ∀ s, s ∈ ([5] : List Nat) → ∀ j, j < 12 → ([0, 0, 0, 0, 0, 0, 1, 0, 0, 0, 1, 0] : List Nat).getD j 0 ≤ 2 → ([9, 10, 11, 12, 13, 14, 15, 16, 17, 18, 19, 4] : List Nat).getD j 0 ≠ s := by decide
    refine ⟨rfl, by decide, by decide, by decide, ?_, ?_, ?_, ?_, ?_, by decide, by decide, ?_, ?_, ?_, fun l hs hr => jfin_of (m := 12) (by rfl) ?_ l hs hr⟩
    · intro i hi; obtain rfl | rfl | rfl | rfl | rfl | rfl | rfl | rfl | rfl | rfl | rfl | rfl : i = 0 ∨ i = 1 ∨ i = 2 ∨ i = 3 ∨ i = 4 ∨ i = 5 ∨ i = 6 ∨ i = 7 ∨ i = 8 ∨ i = 9 ∨ i = 10 ∨ i = 11 := by omega
      all_goals exact ⟨_, rfl, rfl, rfl⟩
    · intro i hi hk l T wz o c hr hM hkp hj hc ho; obtain rfl | rfl | rfl | rfl | rfl | rfl | rfl | rfl | rfl | rfl | rfl | rfl : i = 0 ∨ i = 1 ∨ i = 2 ∨ i = 3 ∨ i = 4 ∨ i = 5 ∨ i = 6 ∨ i = 7 ∨ i = 8 ∨ i = 9 ∨ i = 10 ∨ i = 11 := by omega
      · obtain rfl := Option.some.inj ho; exact op_mv rfl (by rw [frame_eval (by decide), hM.out 5 (lo 5 (by decide))]; rfl)
      · obtain rfl := Option.some.inj ho; exact op_ixI (i := 0) rfl (by rw [frame_eval (by decide)]; exact hM.val 0 (by decide) (by decide) (dep_of hr rfl (by kernel_rfl))) rfl (by decide)
      · obtain rfl := Option.some.inj ho; exact op_ldI rfl (by rw [frame_eval (by decide)]; exact hM.val 1 (by decide) (by decide) (dep_of hr rfl (by kernel_rfl))) (((B5.kept (w := w1.drew) hb hkp (by simp)).c 0).trans rfl)
      · obtain rfl := Option.some.inj ho; exact op_mv rfl (by rw [frame_eval (by decide), hM.out 5 (lo 5 (by decide))]; rfl)
      · obtain rfl := Option.some.inj ho; exact op_ixI (i := 1) rfl (by rw [frame_eval (by decide)]; exact hM.val 3 (by decide) (by decide) (dep_of hr rfl (by kernel_rfl))) rfl (by decide)
      · obtain rfl := Option.some.inj ho; exact op_ldI rfl (by rw [frame_eval (by decide)]; exact hM.val 4 (by decide) (by decide) (dep_of hr rfl (by kernel_rfl))) (((B5.kept (w := w1.drew) hb hkp (by simp)).c 1).trans rfl)
      · exact absurd hk (by decide)
      · obtain rfl := Option.some.inj ho; exact op_mv rfl (by rw [frame_eval (by decide), hM.out 5 (lo 5 (by decide))]; rfl)
      · obtain rfl := Option.some.inj ho; exact op_ixI (i := 2) rfl (by rw [frame_eval (by decide)]; exact hM.val 7 (by decide) (by decide) (dep_of hr rfl (by kernel_rfl))) rfl (by decide)
      · obtain rfl := Option.some.inj ho; exact op_ldI rfl (by rw [frame_eval (by decide)]; exact hM.val 8 (by decide) (by decide) (dep_of hr rfl (by kernel_rfl))) (((B5.kept (w := w1.drew) hb hkp (by simp)).c 2).trans rfl)
      · exact absurd hk (by decide)
      · obtain rfl := Option.some.inj ho; exact op_as rfl (by rw [frame_eval (by decide)]; exact hM.val 10 (by decide) (by decide) (dep_of hr rfl (by kernel_rfl)))
    · intro i hi hk l T wz o hr hM hkp hj ho; obtain rfl | rfl | rfl | rfl | rfl | rfl | rfl | rfl | rfl | rfl | rfl | rfl : i = 0 ∨ i = 1 ∨ i = 2 ∨ i = 3 ∨ i = 4 ∨ i = 5 ∨ i = 6 ∨ i = 7 ∨ i = 8 ∨ i = 9 ∨ i = 10 ∨ i = 11 := by omega
      · exact absurd hk (by decide)
      · exact absurd hk (by decide)
      · exact absurd hk (by decide)
      · exact absurd hk (by decide)
      · exact absurd hk (by decide)
      · exact absurd hk (by decide)
      · obtain rfl := Option.some.inj ho
        exact ⟨_, _, op_call2 (enters_of Tryz.func73 (by kernel_rfl) rfl) rfl (by rw [frame_eval (by decide)]; exact hM.val 2 (by decide) (by decide) (dep_of hr rfl (by kernel_rfl))) (by rw [frame_eval (by decide)]; exact hM.val 5 (by decide) (by decide) (dep_of hr rfl (by kernel_rfl))), (q1.out _).mono fun x w2 ⟨h1, h2⟩ => ⟨h1, trivial, h2⟩⟩
      · exact absurd hk (by decide)
      · exact absurd hk (by decide)
      · exact absurd hk (by decide)
      · obtain rfl := Option.some.inj ho
        exact ⟨_, _, op_call2 (enters_of Tryz.func90 (by kernel_rfl) rfl) rfl (by rw [frame_eval (by decide)]; exact hM.val 6 (by decide) (by decide) (dep_of hr rfl (by kernel_rfl))) (by rw [frame_eval (by decide)]; exact hM.val 9 (by decide) (by decide) (dep_of hr rfl (by kernel_rfl))), (q2.out _).mono fun x w2 ⟨h1, h2⟩ => ⟨h1, trivial, h2⟩⟩
      · exact absurd hk (by decide)
    · intro i hi hk; obtain rfl | rfl | rfl | rfl | rfl | rfl | rfl | rfl | rfl | rfl | rfl | rfl : i = 0 ∨ i = 1 ∨ i = 2 ∨ i = 3 ∨ i = 4 ∨ i = 5 ∨ i = 6 ∨ i = 7 ∨ i = 8 ∨ i = 9 ∨ i = 10 ∨ i = 11 := by omega
      all_goals exact absurd hk (by decide)
    · intro i hi hk; obtain rfl | rfl | rfl | rfl | rfl | rfl | rfl | rfl | rfl | rfl | rfl | rfl : i = 0 ∨ i = 1 ∨ i = 2 ∨ i = 3 ∨ i = 4 ∨ i = 5 ∨ i = 6 ∨ i = 7 ∨ i = 8 ∨ i = 9 ∨ i = 10 ∨ i = 11 := by omega
      · exact absurd hk (by decide)
      · exact absurd hk (by decide)
      · exact absurd hk (by decide)
      · exact absurd hk (by decide)
      · exact absurd hk (by decide)
      · exact absurd hk (by decide)
      · refine ⟨by decide, fun l hr j hj hkj hp => ?_⟩
        obtain rfl | rfl | rfl | rfl | rfl | rfl | rfl | rfl | rfl | rfl | rfl | rfl : j = 0 ∨ j = 1 ∨ j = 2 ∨ j = 3 ∨ j = 4 ∨ j = 5 ∨ j = 6 ∨ j = 7 ∨ j = 8 ∨ j = 9 ∨ j = 10 ∨ j = 11 := by omega
        · exact absurd hkj (by decide)
        · exact absurd hkj (by decide)
        · exact absurd hkj (by decide)
        · exact absurd hkj (by decide)
        · exact absurd hkj (by decide)
        · exact absurd hkj (by decide)
        · exact absurd hp (by decide)
        · exact absurd hkj (by decide)
        · exact absurd hkj (by decide)
        · exact absurd hkj (by decide)
        · exact absurd hp (by decide)
        · exact absurd hkj (by decide)
      · exact absurd hk (by decide)
      · exact absurd hk (by decide)
      · exact absurd hk (by decide)
      · refine ⟨by decide, fun l hr j hj hkj hp => ?_⟩
        obtain rfl | rfl | rfl | rfl | rfl | rfl | rfl | rfl | rfl | rfl | rfl | rfl : j = 0 ∨ j = 1 ∨ j = 2 ∨ j = 3 ∨ j = 4 ∨ j = 5 ∨ j = 6 ∨ j = 7 ∨ j = 8 ∨ j = 9 ∨ j = 10 ∨ j = 11 := by omega
        · exact absurd hkj (by decide)
        · exact absurd hkj (by decide)
        · exact absurd hkj (by decide)
        · exact absurd hkj (by decide)
        · exact absurd hkj (by decide)
        · exact absurd hkj (by decide)
        · exact dep_of hr rfl (by kernel_rfl)
        · exact absurd hkj (by decide)
        · exact absurd hkj (by decide)
        · exact absurd hkj (by decide)
        · exact absurd hp (by decide)
        · exact absurd hkj (by decide)
      · exact absurd hk (by decide)
    · intro i hi hk; obtain rfl | rfl | rfl | rfl | rfl | rfl | rfl | rfl | rfl | rfl | rfl | rfl : i = 0 ∨ i = 1 ∨ i = 2 ∨ i = 3 ∨ i = 4 ∨ i = 5 ∨ i = 6 ∨ i = 7 ∨ i = 8 ∨ i = 9 ∨ i = 10 ∨ i = 11 := by omega
      all_goals exact absurd hk (by decide)
    · intro i hi hk; obtain rfl | rfl | rfl | rfl | rfl | rfl | rfl | rfl | rfl | rfl | rfl | rfl : i = 0 ∨ i = 1 ∨ i = 2 ∨ i = 3 ∨ i = 4 ∨ i = 5 ∨ i = 6 ∨ i = 7 ∨ i = 8 ∨ i = 9 ∨ i = 10 ∨ i = 11 := by omega
      all_goals exact absurd hk (by decide)
    · intro i hi hk; obtain rfl | rfl | rfl | rfl | rfl | rfl | rfl | rfl | rfl | rfl | rfl | rfl : i = 0 ∨ i = 1 ∨ i = 2 ∨ i = 3 ∨ i = 4 ∨ i = 5 ∨ i = 6 ∨ i = 7 ∨ i = 8 ∨ i = 9 ∨ i = 10 ∨ i = 11 := by omega
      all_goals exact absurd hk (by decide)
    · intro i hi; obtain rfl | rfl | rfl | rfl | rfl | rfl | rfl | rfl | rfl | rfl | rfl | rfl : i = 0 ∨ i = 1 ∨ i = 2 ∨ i = 3 ∨ i = 4 ∨ i = 5 ∨ i = 6 ∨ i = 7 ∨ i = 8 ∨ i = 9 ∨ i = 10 ∨ i = 11 := by omega
      all_goals exact ⟨_, rfl, by kernel_rfl⟩
  case rest =>
    intro T B w2 hout hval hal hdis hj hk
    rw [show frameOf 20 T = (⟨#[T 0, T 1, T 2, T 3, T 4, T 5, T 6, T 7, T 8, T 9, T 10, T 11, T 12, T 13, T 14, T 15, T 16, T 17, T 18, T 19], []⟩ : Act) from frame_list 20 T]
    rw [show T 4 = .string out from hval 11 (by decide) (by decide)]
    have kk := k1.trans hk
    clear hout hval hal hdis hj hb hg k1 hk cr
    go_wp2
    go_ret
    exact ⟨rfl, kk⟩

set_option maxRecDepth 100000 in
set_option maxHeartbeats 4000000 in
theorem rminus_core (a b t0 t1 t2 t3 t4 s out : ByteArray) (w : World) (cr : Calls Tryz.prog 56 #[.string a, .string b] w (Crossed w t0 t1 t2 t3 t4))
    (q1 : Hid (∀ W, Calls Tryz.prog 58 #[.string t0, .string t1] W fun e w' => e = .returned (.string s) ∧ Kp [] W w'))
    (q2 : Hid (∀ W, Calls Tryz.prog 90 #[.string s, .string t2] W fun e w' => e = .returned (.string out) ∧ Kp [] W w')) :
    Calls Tryz.prog 59 #[.string a, .string b] w fun e w' => e = .returned (.string out) ∧ Kp [] w w' := by
  have cr := Lib.hid cr
  go_enter Tryz.func59, Tryz.ntmps59
  go_wp2_with fail
  with_reducible refine cr.out.mono ?_
  rintro x w1 ⟨g, rfl, hb, hg, k1⟩
  have hb : B5 w1 g t0 t1 t2 t3 t4 := hb
  go_wp2_with fail
  rw [frame_lit]
  refine reg_law (m := 12) (N := 20) (K := 2) (L := []) (J := fun _ _ => True) (dst := fun i => ([9, 10, 11, 12, 13, 14, 15, 16, 17, 18, 19, 4] : List Nat).getD i 0) (kind := fun i => ([0, 0, 0, 0, 0, 0, 1, 0, 0, 0, 1, 0] : List Nat).getD i 0) (pos := fun i => ([0, 0, 0, 0, 0, 0, 0, 0, 0, 0, 1, 0] : List Nat).getD i 0) (mate := fun _ => 0) (V := fun i => ([.slice (some ⟨g, 0, none⟩) 5 5, .pointer (some ⟨g, 0, none⟩), .string t0, .slice (some ⟨g, 0, none⟩) 5 5, .pointer (some ⟨g, 1, none⟩), .string t1, .string s, .slice (some ⟨g, 0, none⟩) 5 5, .pointer (some ⟨g, 2, none⟩), .string t2, .string out, .string out] : List Value).getD i undef) (Z := fun _ => #[]) (C := fun _ => #[]) (Y := fun _ => 0) (by kernel_rfl) ?shape (by simp) (fun _ _ _ h _ => h) trivial ?rest
  case shape =>
    have lo : ∀ s, s ∈ ([5] : List Nat) → ∀ j, j < 12 → ([0, 0, 0, 0, 0, 0, 1, 0, 0, 0, 1, 0] : List Nat).getD j 0 ≤ 2 → ([9, 10, 11, 12, 13, 14, 15, 16, 17, 18, 19, 4] : List Nat).getD j 0 ≠ s := by decide
    refine ⟨rfl, by decide, by decide, by decide, ?_, ?_, ?_, ?_, ?_, by decide, by decide, ?_, ?_, ?_, fun l hs hr => jfin_of (m := 12) (by rfl) ?_ l hs hr⟩
    · intro i hi; obtain rfl | rfl | rfl | rfl | rfl | rfl | rfl | rfl | rfl | rfl | rfl | rfl : i = 0 ∨ i = 1 ∨ i = 2 ∨ i = 3 ∨ i = 4 ∨ i = 5 ∨ i = 6 ∨ i = 7 ∨ i = 8 ∨ i = 9 ∨ i = 10 ∨ i = 11 := by omega
      all_goals exact ⟨_, rfl, rfl, rfl⟩
    · intro i hi hk l T wz o c hr hM hkp hj hc ho; obtain rfl | rfl | rfl | rfl | rfl | rfl | rfl | rfl | rfl | rfl | rfl | rfl : i = 0 ∨ i = 1 ∨ i = 2 ∨ i = 3 ∨ i = 4 ∨ i = 5 ∨ i = 6 ∨ i = 7 ∨ i = 8 ∨ i = 9 ∨ i = 10 ∨ i = 11 := by omega
      · obtain rfl := Option.some.inj ho; exact op_mv rfl (by rw [frame_eval (by decide), hM.out 5 (lo 5 (by decide))]; rfl)
      · obtain rfl := Option.some.inj ho; exact op_ixI (i := 0) rfl (by rw [frame_eval (by decide)]; exact hM.val 0 (by decide) (by decide) (dep_of hr rfl (by kernel_rfl))) rfl (by decide)
      · obtain rfl := Option.some.inj ho; exact op_ldI rfl (by rw [frame_eval (by decide)]; exact hM.val 1 (by decide) (by decide) (dep_of hr rfl (by kernel_rfl))) (((B5.kept (w := w1.drew) hb hkp (by simp)).c 0).trans rfl)
      · obtain rfl := Option.some.inj ho; exact op_mv rfl (by rw [frame_eval (by decide), hM.out 5 (lo 5 (by decide))]; rfl)
      · obtain rfl := Option.some.inj ho; exact op_ixI (i := 1) rfl (by rw [frame_eval (by decide)]; exact hM.val 3 (by decide) (by decide) (dep_of hr rfl (by kernel_rfl))) rfl (by decide)
      · obtain rfl := Option.some.inj ho; exact op_ldI rfl (by rw [frame_eval (by decide)]; exact hM.val 4 (by decide) (by decide) (dep_of hr rfl (by kernel_rfl))) (((B5.kept (w := w1.drew) hb hkp (by simp)).c 1).trans rfl)
      · exact absurd hk (by decide)
      · obtain rfl := Option.some.inj ho; exact op_mv rfl (by rw [frame_eval (by decide), hM.out 5 (lo 5 (by decide))]; rfl)
      · obtain rfl := Option.some.inj ho; exact op_ixI (i := 2) rfl (by rw [frame_eval (by decide)]; exact hM.val 7 (by decide) (by decide) (dep_of hr rfl (by kernel_rfl))) rfl (by decide)
      · obtain rfl := Option.some.inj ho; exact op_ldI rfl (by rw [frame_eval (by decide)]; exact hM.val 8 (by decide) (by decide) (dep_of hr rfl (by kernel_rfl))) (((B5.kept (w := w1.drew) hb hkp (by simp)).c 2).trans rfl)
      · exact absurd hk (by decide)
      · obtain rfl := Option.some.inj ho; exact op_as rfl (by rw [frame_eval (by decide)]; exact hM.val 10 (by decide) (by decide) (dep_of hr rfl (by kernel_rfl)))
    · intro i hi hk l T wz o hr hM hkp hj ho; obtain rfl | rfl | rfl | rfl | rfl | rfl | rfl | rfl | rfl | rfl | rfl | rfl : i = 0 ∨ i = 1 ∨ i = 2 ∨ i = 3 ∨ i = 4 ∨ i = 5 ∨ i = 6 ∨ i = 7 ∨ i = 8 ∨ i = 9 ∨ i = 10 ∨ i = 11 := by omega
      · exact absurd hk (by decide)
      · exact absurd hk (by decide)
      · exact absurd hk (by decide)
      · exact absurd hk (by decide)
      · exact absurd hk (by decide)
      · exact absurd hk (by decide)
      · obtain rfl := Option.some.inj ho
        exact ⟨_, _, op_call2 (enters_of Tryz.func58 (by kernel_rfl) rfl) rfl (by rw [frame_eval (by decide)]; exact hM.val 2 (by decide) (by decide) (dep_of hr rfl (by kernel_rfl))) (by rw [frame_eval (by decide)]; exact hM.val 5 (by decide) (by decide) (dep_of hr rfl (by kernel_rfl))), (q1.out _).mono fun x w2 ⟨h1, h2⟩ => ⟨h1, trivial, h2⟩⟩
      · exact absurd hk (by decide)
      · exact absurd hk (by decide)
      · exact absurd hk (by decide)
      · obtain rfl := Option.some.inj ho
        exact ⟨_, _, op_call2 (enters_of Tryz.func90 (by kernel_rfl) rfl) rfl (by rw [frame_eval (by decide)]; exact hM.val 6 (by decide) (by decide) (dep_of hr rfl (by kernel_rfl))) (by rw [frame_eval (by decide)]; exact hM.val 9 (by decide) (by decide) (dep_of hr rfl (by kernel_rfl))), (q2.out _).mono fun x w2 ⟨h1, h2⟩ => ⟨h1, trivial, h2⟩⟩
      · exact absurd hk (by decide)
    · intro i hi hk; obtain rfl | rfl | rfl | rfl | rfl | rfl | rfl | rfl | rfl | rfl | rfl | rfl : i = 0 ∨ i = 1 ∨ i = 2 ∨ i = 3 ∨ i = 4 ∨ i = 5 ∨ i = 6 ∨ i = 7 ∨ i = 8 ∨ i = 9 ∨ i = 10 ∨ i = 11 := by omega
      all_goals exact absurd hk (by decide)
    · intro i hi hk; obtain rfl | rfl | rfl | rfl | rfl | rfl | rfl | rfl | rfl | rfl | rfl | rfl : i = 0 ∨ i = 1 ∨ i = 2 ∨ i = 3 ∨ i = 4 ∨ i = 5 ∨ i = 6 ∨ i = 7 ∨ i = 8 ∨ i = 9 ∨ i = 10 ∨ i = 11 := by omega
      · exact absurd hk (by decide)
      · exact absurd hk (by decide)
      · exact absurd hk (by decide)
      · exact absurd hk (by decide)
      · exact absurd hk (by decide)
      · exact absurd hk (by decide)
      · refine ⟨by decide, fun l hr j hj hkj hp => ?_⟩
        obtain rfl | rfl | rfl | rfl | rfl | rfl | rfl | rfl | rfl | rfl | rfl | rfl : j = 0 ∨ j = 1 ∨ j = 2 ∨ j = 3 ∨ j = 4 ∨ j = 5 ∨ j = 6 ∨ j = 7 ∨ j = 8 ∨ j = 9 ∨ j = 10 ∨ j = 11 := by omega
        · exact absurd hkj (by decide)
        · exact absurd hkj (by decide)
        · exact absurd hkj (by decide)
        · exact absurd hkj (by decide)
        · exact absurd hkj (by decide)
        · exact absurd hkj (by decide)
        · exact absurd hp (by decide)
        · exact absurd hkj (by decide)
        · exact absurd hkj (by decide)
        · exact absurd hkj (by decide)
        · exact absurd hp (by decide)
        · exact absurd hkj (by decide)
      · exact absurd hk (by decide)
      · exact absurd hk (by decide)
      · exact absurd hk (by decide)
      · refine ⟨by decide, fun l hr j hj hkj hp => ?_⟩
        obtain rfl | rfl | rfl | rfl | rfl | rfl | rfl | rfl | rfl | rfl | rfl | rfl : j = 0 ∨ j = 1 ∨ j = 2 ∨ j = 3 ∨ j = 4 ∨ j = 5 ∨ j = 6 ∨ j = 7 ∨ j = 8 ∨ j = 9 ∨ j = 10 ∨ j = 11 := by omega
        · exact absurd hkj (by decide)
        · exact absurd hkj (by decide)
        · exact absurd hkj (by decide)
        · exact absurd hkj (by decide)
        · exact absurd hkj (by decide)
        · exact absurd hkj (by decide)
        · exact dep_of hr rfl (by kernel_rfl)
        · exact absurd hkj (by decide)
        · exact absurd hkj (by decide)
        · exact absurd hkj (by decide)
        · exact absurd hp (by decide)
        · exact absurd hkj (by decide)
      · exact absurd hk (by decide)
    · intro i hi hk; obtain rfl | rfl | rfl | rfl | rfl | rfl | rfl | rfl | rfl | rfl | rfl | rfl : i = 0 ∨ i = 1 ∨ i = 2 ∨ i = 3 ∨ i = 4 ∨ i = 5 ∨ i = 6 ∨ i = 7 ∨ i = 8 ∨ i = 9 ∨ i = 10 ∨ i = 11 := by omega
      all_goals exact absurd hk (by decide)
    · intro i hi hk; obtain rfl | rfl | rfl | rfl | rfl | rfl | rfl | rfl | rfl | rfl | rfl | rfl : i = 0 ∨ i = 1 ∨ i = 2 ∨ i = 3 ∨ i = 4 ∨ i = 5 ∨ i = 6 ∨ i = 7 ∨ i = 8 ∨ i = 9 ∨ i = 10 ∨ i = 11 := by omega
      all_goals exact absurd hk (by decide)
    · intro i hi hk; obtain rfl | rfl | rfl | rfl | rfl | rfl | rfl | rfl | rfl | rfl | rfl | rfl : i = 0 ∨ i = 1 ∨ i = 2 ∨ i = 3 ∨ i = 4 ∨ i = 5 ∨ i = 6 ∨ i = 7 ∨ i = 8 ∨ i = 9 ∨ i = 10 ∨ i = 11 := by omega
      all_goals exact absurd hk (by decide)
    · intro i hi; obtain rfl | rfl | rfl | rfl | rfl | rfl | rfl | rfl | rfl | rfl | rfl | rfl : i = 0 ∨ i = 1 ∨ i = 2 ∨ i = 3 ∨ i = 4 ∨ i = 5 ∨ i = 6 ∨ i = 7 ∨ i = 8 ∨ i = 9 ∨ i = 10 ∨ i = 11 := by omega
      all_goals exact ⟨_, rfl, by kernel_rfl⟩
  case rest =>
    intro T B w2 hout hval hal hdis hj hk
    rw [show frameOf 20 T = (⟨#[T 0, T 1, T 2, T 3, T 4, T 5, T 6, T 7, T 8, T 9, T 10, T 11, T 12, T 13, T 14, T 15, T 16, T 17, T 18, T 19], []⟩ : Act) from frame_list 20 T]
    rw [show T 4 = .string out from hval 11 (by decide) (by decide)]
    have kk := k1.trans hk
    clear hout hval hal hdis hj hb hg k1 hk cr
    go_wp2
    go_ret
    exact ⟨rfl, kk⟩

set_option maxRecDepth 100000 in
set_option maxHeartbeats 4000000 in
theorem rtimes_core (a b t0 t1 t2 t3 t4 out : ByteArray) (w : World) (cr : Calls Tryz.prog 56 #[.string a, .string b] w (Crossed w t0 t1 t2 t3 t4))
    (q1 : Hid (∀ W, Calls Tryz.prog 90 #[.string t3, .string t2] W fun e w' => e = .returned (.string out) ∧ Kp [] W w')) :
    Calls Tryz.prog 75 #[.string a, .string b] w fun e w' => e = .returned (.string out) ∧ Kp [] w w' := by
  have cr := Lib.hid cr
  go_enter Tryz.func75, Tryz.ntmps75
  go_wp2_with fail
  with_reducible refine cr.out.mono ?_
  rintro x w1 ⟨g, rfl, hb, hg, k1⟩
  have hb : B5 w1 g t0 t1 t2 t3 t4 := hb
  go_wp2_with fail
  rw [frame_lit]
  refine reg_law (m := 8) (N := 16) (K := 1) (L := []) (J := fun _ _ => True) (dst := fun i => ([9, 10, 11, 12, 13, 14, 15, 4] : List Nat).getD i 0) (kind := fun i => ([0, 0, 0, 0, 0, 0, 1, 0] : List Nat).getD i 0) (pos := fun i => ([0, 0, 0, 0, 0, 0, 0, 0] : List Nat).getD i 0) (mate := fun _ => 0) (V := fun i => ([.slice (some ⟨g, 0, none⟩) 5 5, .pointer (some ⟨g, 3, none⟩), .string t3, .slice (some ⟨g, 0, none⟩) 5 5, .pointer (some ⟨g, 2, none⟩), .string t2, .string out, .string out] : List Value).getD i undef) (Z := fun _ => #[]) (C := fun _ => #[]) (Y := fun _ => 0) (by kernel_rfl) ?shape (by simp) (fun _ _ _ h _ => h) trivial ?rest
  case shape =>
    have lo : ∀ s, s ∈ ([5] : List Nat) → ∀ j, j < 8 → ([0, 0, 0, 0, 0, 0, 1, 0] : List Nat).getD j 0 ≤ 2 → ([9, 10, 11, 12, 13, 14, 15, 4] : List Nat).getD j 0 ≠ s := by decide
    refine ⟨rfl, by decide, by decide, by decide, ?_, ?_, ?_, ?_, ?_, by decide, by decide, ?_, ?_, ?_, fun l hs hr => jfin_of (m := 8) (by rfl) ?_ l hs hr⟩
    · intro i hi; obtain rfl | rfl | rfl | rfl | rfl | rfl | rfl | rfl : i = 0 ∨ i = 1 ∨ i = 2 ∨ i = 3 ∨ i = 4 ∨ i = 5 ∨ i = 6 ∨ i = 7 := by omega
      all_goals exact ⟨_, rfl, rfl, rfl⟩
    · intro i hi hk l T wz o c hr hM hkp hj hc ho; obtain rfl | rfl | rfl | rfl | rfl | rfl | rfl | rfl : i = 0 ∨ i = 1 ∨ i = 2 ∨ i = 3 ∨ i = 4 ∨ i = 5 ∨ i = 6 ∨ i = 7 := by omega
      · obtain rfl := Option.some.inj ho; exact op_mv rfl (by rw [frame_eval (by decide), hM.out 5 (lo 5 (by decide))]; rfl)
      · obtain rfl := Option.some.inj ho; exact op_ixI (i := 3) rfl (by rw [frame_eval (by decide)]; exact hM.val 0 (by decide) (by decide) (dep_of hr rfl (by kernel_rfl))) rfl (by decide)
      · obtain rfl := Option.some.inj ho; exact op_ldI rfl (by rw [frame_eval (by decide)]; exact hM.val 1 (by decide) (by decide) (dep_of hr rfl (by kernel_rfl))) (((B5.kept (w := w1.drew) hb hkp (by simp)).c 3).trans rfl)
      · obtain rfl := Option.some.inj ho; exact op_mv rfl (by rw [frame_eval (by decide), hM.out 5 (lo 5 (by decide))]; rfl)
      · obtain rfl := Option.some.inj ho; exact op_ixI (i := 2) rfl (by rw [frame_eval (by decide)]; exact hM.val 3 (by decide) (by decide) (dep_of hr rfl (by kernel_rfl))) rfl (by decide)
      · obtain rfl := Option.some.inj ho; exact op_ldI rfl (by rw [frame_eval (by decide)]; exact hM.val 4 (by decide) (by decide) (dep_of hr rfl (by kernel_rfl))) (((B5.kept (w := w1.drew) hb hkp (by simp)).c 2).trans rfl)
      · exact absurd hk (by decide)
      · obtain rfl := Option.some.inj ho; exact op_as rfl (by rw [frame_eval (by decide)]; exact hM.val 6 (by decide) (by decide) (dep_of hr rfl (by kernel_rfl)))
    · intro i hi hk l T wz o hr hM hkp hj ho; obtain rfl | rfl | rfl | rfl | rfl | rfl | rfl | rfl : i = 0 ∨ i = 1 ∨ i = 2 ∨ i = 3 ∨ i = 4 ∨ i = 5 ∨ i = 6 ∨ i = 7 := by omega
      · exact absurd hk (by decide)
      · exact absurd hk (by decide)
      · exact absurd hk (by decide)
      · exact absurd hk (by decide)
      · exact absurd hk (by decide)
      · exact absurd hk (by decide)
      · obtain rfl := Option.some.inj ho
        exact ⟨_, _, op_call2 (enters_of Tryz.func90 (by kernel_rfl) rfl) rfl (by rw [frame_eval (by decide)]; exact hM.val 2 (by decide) (by decide) (dep_of hr rfl (by kernel_rfl))) (by rw [frame_eval (by decide)]; exact hM.val 5 (by decide) (by decide) (dep_of hr rfl (by kernel_rfl))), (q1.out _).mono fun x w2 ⟨h1, h2⟩ => ⟨h1, trivial, h2⟩⟩
      · exact absurd hk (by decide)
    · intro i hi hk; obtain rfl | rfl | rfl | rfl | rfl | rfl | rfl | rfl : i = 0 ∨ i = 1 ∨ i = 2 ∨ i = 3 ∨ i = 4 ∨ i = 5 ∨ i = 6 ∨ i = 7 := by omega
      all_goals exact absurd hk (by decide)
    · intro i hi hk; obtain rfl | rfl | rfl | rfl | rfl | rfl | rfl | rfl : i = 0 ∨ i = 1 ∨ i = 2 ∨ i = 3 ∨ i = 4 ∨ i = 5 ∨ i = 6 ∨ i = 7 := by omega
      · exact absurd hk (by decide)
      · exact absurd hk (by decide)
      · exact absurd hk (by decide)
      · exact absurd hk (by decide)
      · exact absurd hk (by decide)
      · exact absurd hk (by decide)
      · refine ⟨by decide, fun l hr j hj hkj hp => ?_⟩
        obtain rfl | rfl | rfl | rfl | rfl | rfl | rfl | rfl : j = 0 ∨ j = 1 ∨ j = 2 ∨ j = 3 ∨ j = 4 ∨ j = 5 ∨ j = 6 ∨ j = 7 := by omega
        · exact absurd hkj (by decide)
        · exact absurd hkj (by decide)
        · exact absurd hkj (by decide)
        · exact absurd hkj (by decide)
        · exact absurd hkj (by decide)
        · exact absurd hkj (by decide)
        · exact absurd hp (by decide)
        · exact absurd hkj (by decide)
      · exact absurd hk (by decide)
    · intro i hi hk; obtain rfl | rfl | rfl | rfl | rfl | rfl | rfl | rfl : i = 0 ∨ i = 1 ∨ i = 2 ∨ i = 3 ∨ i = 4 ∨ i = 5 ∨ i = 6 ∨ i = 7 := by omega
      all_goals exact absurd hk (by decide)
    · intro i hi hk; obtain rfl | rfl | rfl | rfl | rfl | rfl | rfl | rfl : i = 0 ∨ i = 1 ∨ i = 2 ∨ i = 3 ∨ i = 4 ∨ i = 5 ∨ i = 6 ∨ i = 7 := by omega
      all_goals exact absurd hk (by decide)
    · intro i hi hk; obtain rfl | rfl | rfl | rfl | rfl | rfl | rfl | rfl : i = 0 ∨ i = 1 ∨ i = 2 ∨ i = 3 ∨ i = 4 ∨ i = 5 ∨ i = 6 ∨ i = 7 := by omega
      all_goals exact absurd hk (by decide)
    · intro i hi; obtain rfl | rfl | rfl | rfl | rfl | rfl | rfl | rfl : i = 0 ∨ i = 1 ∨ i = 2 ∨ i = 3 ∨ i = 4 ∨ i = 5 ∨ i = 6 ∨ i = 7 := by omega
      all_goals exact ⟨_, rfl, by kernel_rfl⟩
  case rest =>
    intro T B w2 hout hval hal hdis hj hk
    rw [show frameOf 16 T = (⟨#[T 0, T 1, T 2, T 3, T 4, T 5, T 6, T 7, T 8, T 9, T 10, T 11, T 12, T 13, T 14, T 15], []⟩ : Act) from frame_list 16 T]
    rw [show T 4 = .string out from hval 7 (by decide) (by decide)]
    have kk := k1.trans hk
    clear hout hval hal hdis hj hb hg k1 hk cr
    go_wp2
    go_ret
    exact ⟨rfl, kk⟩













































































set_option maxRecDepth 100000 in
set_option maxHeartbeats 4000000 in
theorem rorder2_core (a b t0 t1 t2 t3 t4 : ByteArray) (v : Int) (w : World) (cr : Calls Tryz.prog 56 #[.string a, .string b] w (Crossed w t0 t1 t2 t3 t4))
    (q1 : Hid (∀ W, Calls Tryz.prog 66 #[.string t0, .string t1] W fun e w' => e = .returned (.int .i64 v) ∧ Kp [] W w')) :
    Calls Tryz.prog 33 #[.string a, .string b] w fun e w' => e = .returned (.int .i64 v) ∧ Kp [] w w' := by
  have cr := Lib.hid cr
  go_enter Tryz.func33, Tryz.ntmps33
  go_wp2_with fail
  with_reducible refine cr.out.mono ?_
  rintro x w1 ⟨g, rfl, hb, hg, k1⟩
  have hb : B5 w1 g t0 t1 t2 t3 t4 := hb
  go_wp2_with fail
  rw [frame_lit]
  refine reg_law (m := 8) (N := 16) (K := 1) (L := []) (J := fun _ _ => True) (dst := fun i => ([9, 10, 11, 12, 13, 14, 15, 4] : List Nat).getD i 0) (kind := fun i => ([0, 0, 0, 0, 0, 0, 1, 0] : List Nat).getD i 0) (pos := fun i => ([0, 0, 0, 0, 0, 0, 0, 0] : List Nat).getD i 0) (mate := fun _ => 0) (V := fun i => ([.slice (some ⟨g, 0, none⟩) 5 5, .pointer (some ⟨g, 0, none⟩), .string t0, .slice (some ⟨g, 0, none⟩) 5 5, .pointer (some ⟨g, 1, none⟩), .string t1, .int .i64 v, .int .i64 v] : List Value).getD i undef) (Z := fun _ => #[]) (C := fun _ => #[]) (Y := fun _ => 0) (by kernel_rfl) ?shape (by simp) (fun _ _ _ h _ => h) trivial ?rest
  case shape =>
    have lo : ∀ s, s ∈ ([5] : List Nat) → ∀ j, j < 8 → ([0, 0, 0, 0, 0, 0, 1, 0] : List Nat).getD j 0 ≤ 2 → ([9, 10, 11, 12, 13, 14, 15, 4] : List Nat).getD j 0 ≠ s := by decide
    refine ⟨rfl, by decide, by decide, by decide, ?_, ?_, ?_, ?_, ?_, by decide, by decide, ?_, ?_, ?_, fun l hs hr => jfin_of (m := 8) (by rfl) ?_ l hs hr⟩
    · intro i hi; obtain rfl | rfl | rfl | rfl | rfl | rfl | rfl | rfl : i = 0 ∨ i = 1 ∨ i = 2 ∨ i = 3 ∨ i = 4 ∨ i = 5 ∨ i = 6 ∨ i = 7 := by omega
      all_goals exact ⟨_, rfl, rfl, rfl⟩
    · intro i hi hk l T wz o c hr hM hkp hj hc ho; obtain rfl | rfl | rfl | rfl | rfl | rfl | rfl | rfl : i = 0 ∨ i = 1 ∨ i = 2 ∨ i = 3 ∨ i = 4 ∨ i = 5 ∨ i = 6 ∨ i = 7 := by omega
      · obtain rfl := Option.some.inj ho; exact op_mv rfl (by rw [frame_eval (by decide), hM.out 5 (lo 5 (by decide))]; rfl)
      · obtain rfl := Option.some.inj ho; exact op_ixI (i := 0) rfl (by rw [frame_eval (by decide)]; exact hM.val 0 (by decide) (by decide) (dep_of hr rfl (by kernel_rfl))) rfl (by decide)
      · obtain rfl := Option.some.inj ho; exact op_ldI rfl (by rw [frame_eval (by decide)]; exact hM.val 1 (by decide) (by decide) (dep_of hr rfl (by kernel_rfl))) (((B5.kept (w := w1.drew) hb hkp (by simp)).c 0).trans rfl)
      · obtain rfl := Option.some.inj ho; exact op_mv rfl (by rw [frame_eval (by decide), hM.out 5 (lo 5 (by decide))]; rfl)
      · obtain rfl := Option.some.inj ho; exact op_ixI (i := 1) rfl (by rw [frame_eval (by decide)]; exact hM.val 3 (by decide) (by decide) (dep_of hr rfl (by kernel_rfl))) rfl (by decide)
      · obtain rfl := Option.some.inj ho; exact op_ldI rfl (by rw [frame_eval (by decide)]; exact hM.val 4 (by decide) (by decide) (dep_of hr rfl (by kernel_rfl))) (((B5.kept (w := w1.drew) hb hkp (by simp)).c 1).trans rfl)
      · exact absurd hk (by decide)
      · obtain rfl := Option.some.inj ho; exact op_as rfl (by rw [frame_eval (by decide)]; exact hM.val 6 (by decide) (by decide) (dep_of hr rfl (by kernel_rfl)))
    · intro i hi hk l T wz o hr hM hkp hj ho; obtain rfl | rfl | rfl | rfl | rfl | rfl | rfl | rfl : i = 0 ∨ i = 1 ∨ i = 2 ∨ i = 3 ∨ i = 4 ∨ i = 5 ∨ i = 6 ∨ i = 7 := by omega
      · exact absurd hk (by decide)
      · exact absurd hk (by decide)
      · exact absurd hk (by decide)
      · exact absurd hk (by decide)
      · exact absurd hk (by decide)
      · exact absurd hk (by decide)
      · obtain rfl := Option.some.inj ho
        exact ⟨_, _, op_call2 (enters_of Tryz.func66 (by kernel_rfl) rfl) rfl (by rw [frame_eval (by decide)]; exact hM.val 2 (by decide) (by decide) (dep_of hr rfl (by kernel_rfl))) (by rw [frame_eval (by decide)]; exact hM.val 5 (by decide) (by decide) (dep_of hr rfl (by kernel_rfl))), (q1.out _).mono fun x w2 ⟨h1, h2⟩ => ⟨h1, trivial, h2⟩⟩
      · exact absurd hk (by decide)
    · intro i hi hk; obtain rfl | rfl | rfl | rfl | rfl | rfl | rfl | rfl : i = 0 ∨ i = 1 ∨ i = 2 ∨ i = 3 ∨ i = 4 ∨ i = 5 ∨ i = 6 ∨ i = 7 := by omega
      all_goals exact absurd hk (by decide)
    · intro i hi hk; obtain rfl | rfl | rfl | rfl | rfl | rfl | rfl | rfl : i = 0 ∨ i = 1 ∨ i = 2 ∨ i = 3 ∨ i = 4 ∨ i = 5 ∨ i = 6 ∨ i = 7 := by omega
      · exact absurd hk (by decide)
      · exact absurd hk (by decide)
      · exact absurd hk (by decide)
      · exact absurd hk (by decide)
      · exact absurd hk (by decide)
      · exact absurd hk (by decide)
      · refine ⟨by decide, fun l hr j hj hkj hp => ?_⟩
        obtain rfl | rfl | rfl | rfl | rfl | rfl | rfl | rfl : j = 0 ∨ j = 1 ∨ j = 2 ∨ j = 3 ∨ j = 4 ∨ j = 5 ∨ j = 6 ∨ j = 7 := by omega
        · exact absurd hkj (by decide)
        · exact absurd hkj (by decide)
        · exact absurd hkj (by decide)
        · exact absurd hkj (by decide)
        · exact absurd hkj (by decide)
        · exact absurd hkj (by decide)
        · exact absurd hp (by decide)
        · exact absurd hkj (by decide)
      · exact absurd hk (by decide)
    · intro i hi hk; obtain rfl | rfl | rfl | rfl | rfl | rfl | rfl | rfl : i = 0 ∨ i = 1 ∨ i = 2 ∨ i = 3 ∨ i = 4 ∨ i = 5 ∨ i = 6 ∨ i = 7 := by omega
      all_goals exact absurd hk (by decide)
    · intro i hi hk; obtain rfl | rfl | rfl | rfl | rfl | rfl | rfl | rfl : i = 0 ∨ i = 1 ∨ i = 2 ∨ i = 3 ∨ i = 4 ∨ i = 5 ∨ i = 6 ∨ i = 7 := by omega
      all_goals exact absurd hk (by decide)
    · intro i hi hk; obtain rfl | rfl | rfl | rfl | rfl | rfl | rfl | rfl : i = 0 ∨ i = 1 ∨ i = 2 ∨ i = 3 ∨ i = 4 ∨ i = 5 ∨ i = 6 ∨ i = 7 := by omega
      all_goals exact absurd hk (by decide)
    · intro i hi; obtain rfl | rfl | rfl | rfl | rfl | rfl | rfl | rfl : i = 0 ∨ i = 1 ∨ i = 2 ∨ i = 3 ∨ i = 4 ∨ i = 5 ∨ i = 6 ∨ i = 7 := by omega
      all_goals exact ⟨_, rfl, by kernel_rfl⟩
  case rest =>
    intro T B w2 hout hval hal hdis hj hk
    rw [show frameOf 16 T = (⟨#[T 0, T 1, T 2, T 3, T 4, T 5, T 6, T 7, T 8, T 9, T 10, T 11, T 12, T 13, T 14, T 15], []⟩ : Act) from frame_list 16 T]
    rw [show T 4 = .int .i64 v from hval 7 (by decide) (by decide)]
    have kk := k1.trans hk
    clear hout hval hal hdis hj hb hg k1 hk cr
    go_wp2
    go_ret
    exact ⟨rfl, kk⟩

section
variable {j k : Nat} {q r : Rat}
theorem rplus2 (hq : Sm j q) (hr : Sm k r) (h : j + k < 1024) (w : World) :
    Calls Tryz.prog 74 #[.string (RS q), .string (RS r)] w fun e w' => e = .returned (.string (RS (q + r))) ∧ Kp [] w w' := by
  have h1 := ok_pow (hq.nd hr) (by omega)
  have h2 := ok_pow (hq.dn hr) (by omega)
  have h3 := ok_pow (addI_lt (hq.nd hr) (hq.dn hr)) h
  have h4 := ok_pow (hq.dd hr) (by omega)
  rw [add_RS]
  exact rplus_core _ _ _ _ _ _ _ _ _ w (crossed_c hq hr (by omega) w) (fun W => plus_all.out _ _ W h1 h2) (fun W => lowest_S h3 h4 (den_nz q r) W)
theorem rminus2 (hq : Sm j q) (hr : Sm k r) (h : j + k < 1024) (w : World) :
    Calls Tryz.prog 59 #[.string (RS q), .string (RS r)] w fun e w' => e = .returned (.string (RS (q - r))) ∧ Kp [] w w' := by
  have h1 := ok_pow (hq.nd hr) (by omega)
  have h2 := ok_pow (hq.dn hr) (by omega)
  have h3 := ok_pow (subI_lt (hq.nd hr) (hq.dn hr)) h
  have h4 := ok_pow (hq.dd hr) (by omega)
  rw [sub_RS]
  exact rminus_core _ _ _ _ _ _ _ _ _ w (crossed_c hq hr (by omega) w) (fun W => minus_any plus_all _ _ W h1 h2) (fun W => lowest_S h3 h4 (den_nz q r) W)
theorem rtimes2 (hq : Sm j q) (hr : Sm k r) (h : j + k ≤ 1024) (w : World) :
    Calls Tryz.prog 75 #[.string (RS q), .string (RS r)] w fun e w' => e = .returned (.string (RS (q * r))) ∧ Kp [] w w' := by
  have h1 := ok_pow (hq.nn hr) (by omega)
  have h4 := ok_pow (hq.dd hr) (by omega)
  rw [mul_RS]
  exact rtimes_core _ _ _ _ _ _ _ _ w (crossed_c hq hr (by omega) w) (fun W => lowest_S h1 h4 (den_nz q r) W)







theorem rorder2 (hq : Sm j q) (hr : Sm k r) (h : j + k ≤ 1024) (w : World) :
    Calls Tryz.prog 33 #[.string (RS q), .string (RS r)] w fun e w' => e = .returned (.int .i64 (cmR q r)) ∧ Kp [] w w' := by
  have h1 := ok_pow (hq.nd hr) (by omega)
  have h2 := ok_pow (hq.dn hr) (by omega)
  rw [← cmp_num]
  exact rorder2_core _ _ _ _ _ _ _ _ w (crossed_c hq hr (by omega) w) (fun W => rorder_any plus_all _ _ W h1 h2)
end
end Go.Proofs.YtiommpdbbpddpaaGreatDoor
