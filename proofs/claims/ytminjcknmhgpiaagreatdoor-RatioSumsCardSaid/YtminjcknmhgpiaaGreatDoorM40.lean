/- Texts Root5, Root6: each says in its own first comment what it proves. -/
import Derived.Test.YtminjcknmhgpiaaGreatDoorM39
/- signRoots, in package ratio. -/
namespace Go.Proofs.YtminjcknmhgpiaaGreatDoor
open Go.RowKit
open Go.Lib (nDigits itoa decDigits)

set_option maxRecDepth 100000 in
theorem frame_51 (T : Nat → Value) : frameOf 51 T = ⟨#[T 0, T 1, T 2, T 3, T 4, T 5, T 6, T 7, T 8, T 9, T 10, T 11, T 12, T 13, T 14, T 15, T 16, T 17, T 18, T 19, T 20, T 21, T 22, T 23, T 24, T 25, T 26, T 27, T 28, T 29, T 30, T 31, T 32, T 33, T 34, T 35, T 36, T 37, T 38, T 39, T 40, T 41, T 42, T 43, T 44, T 45, T 46, T 47, T 48, T 49, T 50], []⟩ := by
  unfold frameOf
  simp only [Act.mk.injEq, and_true]
  apply Array.ext
  · simp
  · intro i h1 h2
    rw [Array.getElem_ofFn]
    simp only [Array.size_ofFn] at h1
    obtain rfl | rfl | rfl | rfl | rfl | rfl | rfl | rfl | rfl | rfl | rfl | rfl | rfl | rfl | rfl | rfl | rfl | rfl | rfl | rfl | rfl | rfl | rfl | rfl | rfl | rfl | rfl | rfl | rfl | rfl | rfl | rfl | rfl | rfl | rfl | rfl | rfl | rfl | rfl | rfl | rfl | rfl | rfl | rfl | rfl | rfl | rfl | rfl | rfl | rfl | rfl : i = 0 ∨ i = 1 ∨ i = 2 ∨ i = 3 ∨ i = 4 ∨ i = 5 ∨ i = 6 ∨ i = 7 ∨ i = 8 ∨ i = 9 ∨ i = 10 ∨ i = 11 ∨ i = 12 ∨ i = 13 ∨ i = 14 ∨ i = 15 ∨ i = 16 ∨ i = 17 ∨ i = 18 ∨ i = 19 ∨ i = 20 ∨ i = 21 ∨ i = 22 ∨ i = 23 ∨ i = 24 ∨ i = 25 ∨ i = 26 ∨ i = 27 ∨ i = 28 ∨ i = 29 ∨ i = 30 ∨ i = 31 ∨ i = 32 ∨ i = 33 ∨ i = 34 ∨ i = 35 ∨ i = 36 ∨ i = 37 ∨ i = 38 ∨ i = 39 ∨ i = 40 ∨ i = 41 ∨ i = 42 ∨ i = 43 ∨ i = 44 ∨ i = 45 ∨ i = 46 ∨ i = 47 ∨ i = 48 ∨ i = 49 ∨ i = 50 := by omega
    all_goals rfl

theorem op_fa {a : Act} {w : World} {o : Oper} {x : Operand} {b : Nat} (h : o.op = .fieldAddr 86 x 0) (hx : a.eval x = .pointer (some ⟨b, 0, none⟩)) :
    (execOp a.eval o).run Tryz.prog w = .ok (.value (.pointer (some ⟨b, 0, none⟩))) w := by
  generalize a.eval = r at *
  simp [execOp, h, hx, go_sem]
theorem op_lds {a : Act} {w : World} {o : Oper} {x : Operand} {b : Nat} {n d : ByteArray} (h : o.op = .load 25 x) (hx : a.eval x = .pointer (some ⟨b, 0, none⟩)) (hb : FrB w b n d) :
    (execOp a.eval o).run Tryz.prog w = .ok (.value (.string n)) w := by
  have z0 := hb.c0
  generalize a.eval = r at *
  simp [execOp, h, hx, go_sem, z0]
theorem op_mul {a : Act} {w : World} {o : Oper} {x y : Operand} {s t : Int} (h : o.op = .binOp .mul 3 x y 3) (hx : a.eval x = .int .i64 s) (hy : a.eval y = .int .i64 t) (hw : IntKind.i64.wrap (s * t) = s * t) :
    (execOp a.eval o).run Tryz.prog w = .ok (.value (.int .i64 (s * t))) w := by
  generalize a.eval = r at *
  simp [execOp, h, hx, hy, go_sem, hw]
theorem op_mf3 {a : Act} {w : World} {o : Oper} {F : Nat} {x y z : Operand} {u v t : Value} (h : o.op = .makeFunc (.func F) #[] #[x, y, z]) (hx : a.eval x = u) (hy : a.eval y = v) (hz : a.eval z = t) :
    (execOp a.eval o).run Tryz.prog w = .ok (.value (.func (.func F) #[] #[u, v, t])) w := by
  generalize a.eval = r at *
  simp [execOp, h, hx, hy, hz, go_sem]
theorem op_call_sign {a : Act} {w : World} {o : Oper} {x y : Operand} {ty : Array TypeId} {u v : Value} (h : o.op = .call { callee := .value (.func 59), args := #[x, y], argTypes := ty }) (hx : a.eval x = u) (hy : a.eval y = v) :
    (execOp a.eval o).run Tryz.prog w = .ok (.enter 59 #[u, v]) w := by
  have hf : a.eval (.func 59) = .func (.func 59) #[] #[] := rfl
  generalize a.eval = r at *
  simp [execOp, h, hx, hy, hf, go_sem]
theorem op_call_squareOf {a : Act} {w : World} {o : Oper} {x y z : Operand} {ty : Array TypeId} {u v t : Value} (h : o.op = .call { callee := .value (.func 135), args := #[x, y, z], argTypes := ty }) (hx : a.eval x = u) (hy : a.eval y = v) (hz : a.eval z = t) :
    (execOp a.eval o).run Tryz.prog w = .ok (.enter 135 #[u, v, t]) w := by
  have hf : a.eval (.func 135) = .func (.func 135) #[] #[] := rfl
  generalize a.eval = r at *
  simp [execOp, h, hx, hy, hz, hf, go_sem]
theorem op_call_signOfTwo {a : Act} {w : World} {o : Oper} {x y z : Operand} {ty : Array TypeId} {u v t : Value} (h : o.op = .call { callee := .value (.func 133), args := #[x, y, z], argTypes := ty }) (hx : a.eval x = u) (hy : a.eval y = v) (hz : a.eval z = t) :
    (execOp a.eval o).run Tryz.prog w = .ok (.enter 133 #[u, v, t]) w := by
  have hf : a.eval (.func 133) = .func (.func 133) #[] #[] := rfl
  generalize a.eval = r at *
  simp [execOp, h, hx, hy, hz, hf, go_sem]

theorem stV_le {s t o : Int} (hs : -1 ≤ s ∧ s ≤ 1) (ht : -1 ≤ t ∧ t ≤ 1) (ho : -1 ≤ o ∧ o ≤ 1) : -1 ≤ stV s t o ∧ stV s t o ≤ 1 := by
  unfold stV
  split
  · exact ht
  · split
    · exact hs
    · split
      · exact hs
      · obtain ⟨s1, s2⟩ := hs
        obtain ⟨t1, t2⟩ := ho
        obtain rfl | rfl | rfl : s = -1 ∨ s = 0 ∨ s = 1 := by omega
        · omega
        · omega
        · omega
theorem mul_le1 {s t : Int} (hs : -1 ≤ s ∧ s ≤ 1) (ht : -1 ≤ t ∧ t ≤ 1) : -1 ≤ s * t ∧ s * t ≤ 1 := by
  obtain ⟨s1, s2⟩ := hs
  obtain ⟨t1, t2⟩ := ht
  obtain rfl | rfl | rfl : s = -1 ∨ s = 0 ∨ s = 1 := by omega
  · omega
  · omega
  · omega
theorem sgV_le (n1 p1 n2 p2 n3 p3 : ByteArray) : -1 ≤ sgV n1 p1 n2 p2 n3 p3 ∧ sgV n1 p1 n2 p2 n3 p3 ≤ 1 := stV_le (signI_le _) (mul_le1 (signI_le _) (signI_le _)) (cmpV_le _ _)

set_option maxRecDepth 100000 in
set_option maxHeartbeats 1000000 in
theorem signRoots_cl1 (g bk b1 b2 : Nat) (e : Int) (n p m q : ByteArray) (w : World) (h : KE w g e) (hn : n.size ≤ 9223372036854775807) (hp : p.size ≤ 9223372036854775807) (hm : m.size ≤ 9223372036854775807) (hq : q.size ≤ 9223372036854775807)
    (sk : PtB w bk g) (s1 : FrB w b1 n p) (s2 : FrB w b2 m q) :
    Calls Tryz.prog 136 #[.pointer (some ⟨bk, 0, none⟩), .pointer (some ⟨b1, 0, none⟩), .pointer (some ⟨b2, 0, none⟩)] w fun x w' => x = .returned (.int .i64 (orV n p m q)) ∧ KE w' g (kp e (orE n p m q)) ∧ Kp [g] w w' := by
  have q1 := Lib.hid (k_order g e n p m q w h hn hp hm hq)
  generalize orV n p m q = V at *
  generalize orE n p m q = E at *
  have ck := sk.c
  have c10 := s1.c0
  have c11 := s1.c1
  have c20 := s2.c0
  have c21 := s2.c1
  go_enter Tryz.func136, Tryz.ntmps136
  go_wp2_with fail
  with_reducible refine q1.out.mono ?_
  rintro x w1 ⟨rfl, hE1, k1⟩
  go_wp2
  go_ret
  exact ⟨rfl, hE1, k1⟩

/-- the sign of b root c + d root e, the sign of a + b root c + d root e, and the errors -/
def rsR (n2 p2 n3 p3 n4 p4 n5 p5 : ByteArray) : Int := stV (signI n2 * signI n3) (signI n4 * signI n5) (orV (sqN n2 p2 n3 p3) (sqD n2 p2 n3 p3) (sqN n4 p4 n5 p5) (sqD n4 p4 n5 p5))
def rsT (n2 p2 n3 p3 n4 p4 n5 p5 : ByteArray) : Int := stE (signI n2 * signI n3) (signI n4 * signI n5) (orE (sqN n2 p2 n3 p3) (sqD n2 p2 n3 p3) (sqN n4 p4 n5 p5) (sqD n4 p4 n5 p5))
def rsV (n1 p1 n2 p2 n3 p3 n4 p4 n5 p5 : ByteArray) : Int := stV (signI n1) (rsR n2 p2 n3 p3 n4 p4 n5 p5) (r2V n1 p1 (sqN n2 p2 n3 p3) (sqD n2 p2 n3 p3) (sqN n4 p4 n5 p5) (sqD n4 p4 n5 p5) n2 p2 n4 p4 n3 p3 n5 p5)
def rsE (n1 p1 n2 p2 n3 p3 n4 p4 n5 p5 : ByteArray) : Int :=
  kp (sqE n2 p2 n3 p3) (kp (sqE n4 p4 n5 p5) (kp (chk n2.data.toList) (kp (chk n3.data.toList) (kp (chk n4.data.toList) (kp (chk n5.data.toList) (kp (rsT n2 p2 n3 p3 n4 p4 n5 p5) (kp (chk n1.data.toList) (stE (signI n1) (rsR n2 p2 n3 p3 n4 p4 n5 p5) (r2E n1 p1 (sqN n2 p2 n3 p3) (sqD n2 p2 n3 p3) (sqN n4 p4 n5 p5) (sqD n4 p4 n5 p5) n2 p2 n4 p4 n3 p3 n5 p5)))))))))

set_option maxRecDepth 100000 in
set_option maxHeartbeats 16000000 in
theorem k_signRoots (g : Nat) (e : Int) (n1 p1 n2 p2 n3 p3 n4 p4 n5 p5 : ByteArray) (w : World) (h : KE w g e) (z1 : n1.size ≤ 9223372036854775807) (y1 : p1.size ≤ 9223372036854775807) (z2 : n2.size ≤ 9223372036854775807) (y2 : p2.size ≤ 9223372036854775807) (z3 : n3.size ≤ 9223372036854775807) (y3 : p3.size ≤ 9223372036854775807) (z4 : n4.size ≤ 9223372036854775807) (y4 : p4.size ≤ 9223372036854775807) (z5 : n5.size ≤ 9223372036854775807) (y5 : p5.size ≤ 9223372036854775807) :
    Calls Tryz.prog 103 #[.pointer (some ⟨g, 0, none⟩), .agg #[.string n1, .string p1], .agg #[.string n2, .string p2], .agg #[.string n3, .string p3], .agg #[.string n4, .string p4], .agg #[.string n5, .string p5]] w fun x w' => x = .returned (.int .i64 (rsV n1 p1 n2 p2 n3 p3 n4 p4 n5 p5)) ∧ KE w' g (kp e (rsE n1 p1 n2 p2 n3 p3 n4 p4 n5 p5)) ∧ Kp [g] w w' := by
  have hl := h.lt
  have q1 := Lib.hid (fun W E hE => k_squareOf g E n2 p2 n3 p3 W hE z2 y2 z3 y3)
  have q2 := Lib.hid (fun W E hE => k_squareOf g E n4 p4 n5 p5 W hE z4 y4 z5 y5)
  have r1 := Lib.hid (fun W E hE => k_sign g E n1 W hE (by omega))
  have r2 := Lib.hid (fun W E hE => k_sign g E n2 W hE (by omega))
  have r3 := Lib.hid (fun W E hE => k_sign g E n3 W hE (by omega))
  have r4 := Lib.hid (fun W E hE => k_sign g E n4 W hE (by omega))
  have r5 := Lib.hid (fun W E hE => k_sign g E n5 W hE (by omega))
  have q6 := Lib.hid (fun (W : World) (E : Int) (o0 o6 o7 : Nat) (hE : KE W g E) (sk : PtB W o0 g) (s1 : FrB W o6 (sqN n2 p2 n3 p3) (sqD n2 p2 n3 p3)) (s2 : FrB W o7 (sqN n4 p4 n5 p5) (sqD n4 p4 n5 p5)) =>
    signOfTwo_any 136 g #[.pointer (some ⟨o0, 0, none⟩), .pointer (some ⟨o6, 0, none⟩), .pointer (some ⟨o7, 0, none⟩)] E (signI n2 * signI n3) (signI n4 * signI n5) (orV (sqN n2 p2 n3 p3) (sqD n2 p2 n3 p3) (sqN n4 p4 n5 p5) (sqD n4 p4 n5 p5)) (orE (sqN n2 p2 n3 p3) (sqD n2 p2 n3 p3) (sqN n4 p4 n5 p5) (sqD n4 p4 n5 p5)) W hE (mul_le1 (signI_le _) (signI_le _)) (cmpV_le _ _) (enters_of Tryz.func136 (by kernel_rfl) rfl)
      (signRoots_cl1 g o0 o6 o7 E (sqN n2 p2 n3 p3) (sqD n2 p2 n3 p3) (sqN n4 p4 n5 p5) (sqD n4 p4 n5 p5) W hE (sqN_size _ _ _ _) (sqD_size _ _ _ _) (sqN_size _ _ _ _) (sqD_size _ _ _ _) sk s1 s2))
  have q7 := Lib.hid (fun (W : World) (E : Int) (o0 o1 o6 o7 o2 o4 o3 o5 : Nat) (hE : KE W g E) (sk : PtB W o0 g) (s1 : FrB W o1 n1 p1) (t1 : FrB W o6 (sqN n2 p2 n3 p3) (sqD n2 p2 n3 p3)) (t2 : FrB W o7 (sqN n4 p4 n5 p5) (sqD n4 p4 n5 p5)) (s2 : FrB W o2 n2 p2) (s4 : FrB W o4 n4 p4) (s3 : FrB W o3 n3 p3) (s5 : FrB W o5 n5 p5)
      (g0 : o0 ≠ g) (g1 : o1 ≠ g) (g6 : o6 ≠ g) (g7 : o7 ≠ g) (g2 : o2 ≠ g) (g4 : o4 ≠ g) (g3 : o3 ≠ g) (g5 : o5 ≠ g) =>
    signOfTwo_any 137 g #[.pointer (some ⟨o0, 0, none⟩), .pointer (some ⟨o1, 0, none⟩), .pointer (some ⟨o6, 0, none⟩), .pointer (some ⟨o7, 0, none⟩), .pointer (some ⟨o2, 0, none⟩), .pointer (some ⟨o4, 0, none⟩), .pointer (some ⟨o3, 0, none⟩), .pointer (some ⟨o5, 0, none⟩)] E (signI n1) (rsR n2 p2 n3 p3 n4 p4 n5 p5) (r2V n1 p1 (sqN n2 p2 n3 p3) (sqD n2 p2 n3 p3) (sqN n4 p4 n5 p5) (sqD n4 p4 n5 p5) n2 p2 n4 p4 n3 p3 n5 p5) (r2E n1 p1 (sqN n2 p2 n3 p3) (sqD n2 p2 n3 p3) (sqN n4 p4 n5 p5) (sqD n4 p4 n5 p5) n2 p2 n4 p4 n3 p3 n5 p5) W hE (signI_le _) (sgV_le _ _ _ _ _ _) (enters_of Tryz.func137 (by kernel_rfl) rfl)
      (signRoots_cl2 g o0 o1 o6 o7 o2 o4 o3 o5 E n1 p1 (sqN n2 p2 n3 p3) (sqD n2 p2 n3 p3) (sqN n4 p4 n5 p5) (sqD n4 p4 n5 p5) n2 p2 n4 p4 n3 p3 n5 p5 W hE z1 y1 (sqN_size _ _ _ _) (sqD_size _ _ _ _) (sqN_size _ _ _ _) (sqD_size _ _ _ _) z2 y2 z4 y4 z3 y3 z5 y5 sk s1 t1 t2 s2 s4 s3 s5 g0 g1 g6 g7 g2 g4 g3 g5))
  have ev : Hid (rsV n1 p1 n2 p2 n3 p3 n4 p4 n5 p5 = stV (signI n1) (rsR n2 p2 n3 p3 n4 p4 n5 p5) (r2V n1 p1 (sqN n2 p2 n3 p3) (sqD n2 p2 n3 p3) (sqN n4 p4 n5 p5) (sqD n4 p4 n5 p5) n2 p2 n4 p4 n3 p3 n5 p5)) := rfl
  have er : Hid (rsR n2 p2 n3 p3 n4 p4 n5 p5 = stV (signI n2 * signI n3) (signI n4 * signI n5) (orV (sqN n2 p2 n3 p3) (sqD n2 p2 n3 p3) (sqN n4 p4 n5 p5) (sqD n4 p4 n5 p5))) := rfl
  have et : Hid (rsT n2 p2 n3 p3 n4 p4 n5 p5 = stE (signI n2 * signI n3) (signI n4 * signI n5) (orE (sqN n2 p2 n3 p3) (sqD n2 p2 n3 p3) (sqN n4 p4 n5 p5) (sqD n4 p4 n5 p5))) := rfl
  have ee : Hid (rsE n1 p1 n2 p2 n3 p3 n4 p4 n5 p5 = kp (sqE n2 p2 n3 p3) (kp (sqE n4 p4 n5 p5) (kp (chk n2.data.toList) (kp (chk n3.data.toList) (kp (chk n4.data.toList) (kp (chk n5.data.toList) (kp (rsT n2 p2 n3 p3 n4 p4 n5 p5) (kp (chk n1.data.toList) (stE (signI n1) (rsR n2 p2 n3 p3 n4 p4 n5 p5) (r2E n1 p1 (sqN n2 p2 n3 p3) (sqD n2 p2 n3 p3) (sqN n4 p4 n5 p5) (sqD n4 p4 n5 p5) n2 p2 n4 p4 n3 p3 n5 p5)))))))))) := rfl
  rw [← er.out, ← et.out] at q6
  rw [← ev.out] at q7
  clear ev er et
  have hw1 := mul_wrap (signI_le n2) (signI_le n3)
  have hw2 := mul_wrap (signI_le n4) (signI_le n5)
  generalize stE (signI n1) (rsR n2 p2 n3 p3 n4 p4 n5 p5) (r2E n1 p1 (sqN n2 p2 n3 p3) (sqD n2 p2 n3 p3) (sqN n4 p4 n5 p5) (sqD n4 p4 n5 p5) n2 p2 n4 p4 n3 p3 n5 p5) = X9 at *
  generalize rsV n1 p1 n2 p2 n3 p3 n4 p4 n5 p5 = VV at *
  generalize rsR n2 p2 n3 p3 n4 p4 n5 p5 = RR at *
  generalize rsT n2 p2 n3 p3 n4 p4 n5 p5 = RT at *
  generalize sqE n2 p2 n3 p3 = X1 at *
  generalize sqE n4 p4 n5 p5 = X2 at *
  generalize sqN n2 p2 n3 p3 = S0 at *
  generalize sqD n2 p2 n3 p3 = S1 at *
  generalize sqN n4 p4 n5 p5 = R0 at *
  generalize sqD n4 p4 n5 p5 = R1 at *
  generalize chk n1.data.toList = K1 at *
  generalize signI n1 = I1 at *
  generalize chk n2.data.toList = K2 at *
  generalize signI n2 = I2 at *
  generalize chk n3.data.toList = K3 at *
  generalize signI n3 = I3 at *
  generalize chk n4.data.toList = K4 at *
  generalize signI n4 = I4 at *
  generalize chk n5.data.toList = K5 at *
  generalize signI n5 = I5 at *
  have sk := (((((PtB.made w g).alloc (.cells #[.string n1, .string p1] 86 (0, 0))).alloc (.cells #[.string n2, .string p2] 86 (0, 0))).alloc (.cells #[.string n3, .string p3] 86 (0, 0))).alloc (.cells #[.string n4, .string p4] 86 (0, 0))).alloc (.cells #[.string n5, .string p5] 86 (0, 0))
  have s1 := ((((FrB.made (w.alloc (.cells #[.pointer (some ⟨g, 0, none⟩)] 89 (0, 0))) n1 p1).alloc (.cells #[.string n2, .string p2] 86 (0, 0))).alloc (.cells #[.string n3, .string p3] 86 (0, 0))).alloc (.cells #[.string n4, .string p4] 86 (0, 0))).alloc (.cells #[.string n5, .string p5] 86 (0, 0))
  have s2 := (((FrB.made ((w.alloc (.cells #[.pointer (some ⟨g, 0, none⟩)] 89 (0, 0))).alloc (.cells #[.string n1, .string p1] 86 (0, 0))) n2 p2).alloc (.cells #[.string n3, .string p3] 86 (0, 0))).alloc (.cells #[.string n4, .string p4] 86 (0, 0))).alloc (.cells #[.string n5, .string p5] 86 (0, 0))
  have s3 := ((FrB.made (((w.alloc (.cells #[.pointer (some ⟨g, 0, none⟩)] 89 (0, 0))).alloc (.cells #[.string n1, .string p1] 86 (0, 0))).alloc (.cells #[.string n2, .string p2] 86 (0, 0))) n3 p3).alloc (.cells #[.string n4, .string p4] 86 (0, 0))).alloc (.cells #[.string n5, .string p5] 86 (0, 0))
  have s4 := (FrB.made ((((w.alloc (.cells #[.pointer (some ⟨g, 0, none⟩)] 89 (0, 0))).alloc (.cells #[.string n1, .string p1] 86 (0, 0))).alloc (.cells #[.string n2, .string p2] 86 (0, 0))).alloc (.cells #[.string n3, .string p3] 86 (0, 0))) n4 p4).alloc (.cells #[.string n5, .string p5] 86 (0, 0))
  have s5 := FrB.made (((((w.alloc (.cells #[.pointer (some ⟨g, 0, none⟩)] 89 (0, 0))).alloc (.cells #[.string n1, .string p1] 86 (0, 0))).alloc (.cells #[.string n2, .string p2] 86 (0, 0))).alloc (.cells #[.string n3, .string p3] 86 (0, 0))).alloc (.cells #[.string n4, .string p4] 86 (0, 0))) n5 p5
  simp only [World.size_alloc] at s1 s2 s3 s4 s5
  have hE := ((((((h).alloc (.cells #[.pointer (some ⟨g, 0, none⟩)] 89 (0, 0))).alloc (.cells #[.string n1, .string p1] 86 (0, 0))).alloc (.cells #[.string n2, .string p2] 86 (0, 0))).alloc (.cells #[.string n3, .string p3] 86 (0, 0))).alloc (.cells #[.string n4, .string p4] 86 (0, 0))).alloc (.cells #[.string n5, .string p5] 86 (0, 0))
  have k0 : Kp [g] w ((((((w.alloc (.cells #[.pointer (some ⟨g, 0, none⟩)] 89 (0, 0))).alloc (.cells #[.string n1, .string p1] 86 (0, 0))).alloc (.cells #[.string n2, .string p2] 86 (0, 0))).alloc (.cells #[.string n3, .string p3] 86 (0, 0))).alloc (.cells #[.string n4, .string p4] 86 (0, 0))).alloc (.cells #[.string n5, .string p5] 86 (0, 0))) := ((((((Kp.refl _ _).alloc _).alloc _).alloc _).alloc _).alloc _).alloc _
  clear h
  have g0 : w.heap.size ≠ g := by omega
  have g1 : w.heap.size + 1 ≠ g := by omega
  have g2 : w.heap.size + 2 ≠ g := by omega
  have g3 : w.heap.size + 3 ≠ g := by omega
  have g4 : w.heap.size + 4 ≠ g := by omega
  have g5 : w.heap.size + 5 ≠ g := by omega
  go_enter Tryz.func103, Tryz.ntmps103
  go_wp2_with fail
  rw [frame_lit]
  refine region_law (m := 12) (N := 51) (g := g) (K := 2) (dst := fun i => ([16, 17, 18, 19, 20, 21, 22, 23, 13, 14, 0, 0] : List Nat).getD i 0) (kind := fun i => ([0, 0, 0, 1, 0, 0, 0, 1, 2, 2, 3, 3] : List Nat).getD i 0) (pos := fun i => ([0, 0, 0, 0, 0, 0, 0, 1, 0, 0, 0, 0] : List Nat).getD i 0) (mate := fun i => ([0, 0, 0, 0, 0, 0, 0, 0, 10, 11, 8, 9] : List Nat).getD i 0)       (V := fun i => ([.pointer (some ⟨g, 0, none⟩), .agg #[.string n2, .string p2], .agg #[.string n3, .string p3], .agg #[.string S0, .string S1], .pointer (some ⟨g, 0, none⟩), .agg #[.string n4, .string p4], .agg #[.string n5, .string p5], .agg #[.string R0, .string R1], undef, undef, undef, undef] : List Value).getD i undef) (E := fun i => ([e, kp e X1, kp (kp e X1) X2] : List Int).getD i 0) (nt := fun i => ([⟨#[]⟩, ⟨#[]⟩, ⟨#[]⟩, ⟨#[]⟩, ⟨#[]⟩, ⟨#[]⟩, ⟨#[]⟩, ⟨#[]⟩, S0, R0] : List ByteArray).getD i ⟨#[]⟩) (dt := fun i => ([⟨#[]⟩, ⟨#[]⟩, ⟨#[]⟩, ⟨#[]⟩, ⟨#[]⟩, ⟨#[]⟩, ⟨#[]⟩, ⟨#[]⟩, S1, R1] : List ByteArray).getD i ⟨#[]⟩) (by kernel_rfl) ?shape hE ?rest
  case shape =>
    have lo : ∀ s, s ∈ ([6, 8, 9, 10, 11] : List Nat) → ∀ j, j < 12 → ([0, 0, 0, 1, 0, 0, 0, 1, 2, 2, 3, 3] : List Nat).getD j 0 ≠ 3 → ([16, 17, 18, 19, 20, 21, 22, 23, 13, 14, 0, 0] : List Nat).getD j 0 ≠ s := by decide
    refine ⟨rfl, by decide, by decide, by decide, ?_, ?_, ?_, ?_, by decide, by decide, ?_, ?_, fun l hs hr => fin_of (m := 12) (by rfl) ?_ l hs hr⟩
    · intro i hi; obtain rfl | rfl | rfl | rfl | rfl | rfl | rfl | rfl | rfl | rfl | rfl | rfl : i = 0 ∨ i = 1 ∨ i = 2 ∨ i = 3 ∨ i = 4 ∨ i = 5 ∨ i = 6 ∨ i = 7 ∨ i = 8 ∨ i = 9 ∨ i = 10 ∨ i = 11 := by omega
      all_goals exact ⟨_, rfl, rfl, rfl⟩
    · intro i hi hk l T w1 o hr hM hkp ho; obtain rfl | rfl | rfl | rfl | rfl | rfl | rfl | rfl | rfl | rfl | rfl | rfl : i = 0 ∨ i = 1 ∨ i = 2 ∨ i = 3 ∨ i = 4 ∨ i = 5 ∨ i = 6 ∨ i = 7 ∨ i = 8 ∨ i = 9 ∨ i = 10 ∨ i = 11 := by omega
      · obtain rfl := Option.some.inj ho; exact op_load_pt rfl (by rw [frame_eval (by decide), hM.out 6 (lo 6 (by decide))]; rfl) ((PtB.drew sk).kept hkp (nmem_one (by assumption)))
      · obtain rfl := Option.some.inj ho; exact op_load_fr rfl (by rw [frame_eval (by decide), hM.out 8 (lo 8 (by decide))]; rfl) ((FrB.drew s2).kept hkp (nmem_one (by assumption)))
      · obtain rfl := Option.some.inj ho; exact op_load_fr rfl (by rw [frame_eval (by decide), hM.out 9 (lo 9 (by decide))]; rfl) ((FrB.drew s3).kept hkp (nmem_one (by assumption)))
      · exact absurd hk (by decide)
      · obtain rfl := Option.some.inj ho; exact op_load_pt rfl (by rw [frame_eval (by decide), hM.out 6 (lo 6 (by decide))]; rfl) ((PtB.drew sk).kept hkp (nmem_one (by assumption)))
      · obtain rfl := Option.some.inj ho; exact op_load_fr rfl (by rw [frame_eval (by decide), hM.out 10 (lo 10 (by decide))]; rfl) ((FrB.drew s4).kept hkp (nmem_one (by assumption)))
      · obtain rfl := Option.some.inj ho; exact op_load_fr rfl (by rw [frame_eval (by decide), hM.out 11 (lo 11 (by decide))]; rfl) ((FrB.drew s5).kept hkp (nmem_one (by assumption)))
      · exact absurd hk (by decide)
      · exact absurd hk (by decide)
      · exact absurd hk (by decide)
      · exact absurd hk (by decide)
      · exact absurd hk (by decide)
    · intro i hi hk l T w1 o hr hM hkp ho; obtain rfl | rfl | rfl | rfl | rfl | rfl | rfl | rfl | rfl | rfl | rfl | rfl : i = 0 ∨ i = 1 ∨ i = 2 ∨ i = 3 ∨ i = 4 ∨ i = 5 ∨ i = 6 ∨ i = 7 ∨ i = 8 ∨ i = 9 ∨ i = 10 ∨ i = 11 := by omega
      · exact absurd hk (by decide)
      · exact absurd hk (by decide)
      · exact absurd hk (by decide)
      · obtain rfl := Option.some.inj ho
        exact ⟨_, _, op_call_squareOf rfl (by rw [frame_eval (by decide)]; exact hM.val 0 (by decide) (by decide) (dep_of hr rfl (by kernel_rfl))) (by rw [frame_eval (by decide)]; exact hM.val 1 (by decide) (by decide) (dep_of hr rfl (by kernel_rfl))) (by rw [frame_eval (by decide)]; exact hM.val 2 (by decide) (by decide) (dep_of hr rfl (by kernel_rfl))), fun hE => q1.out _ _ hE⟩
      · exact absurd hk (by decide)
      · exact absurd hk (by decide)
      · exact absurd hk (by decide)
      · obtain rfl := Option.some.inj ho
        exact ⟨_, _, op_call_squareOf rfl (by rw [frame_eval (by decide)]; exact hM.val 4 (by decide) (by decide) (dep_of hr rfl (by kernel_rfl))) (by rw [frame_eval (by decide)]; exact hM.val 5 (by decide) (by decide) (dep_of hr rfl (by kernel_rfl))) (by rw [frame_eval (by decide)]; exact hM.val 6 (by decide) (by decide) (dep_of hr rfl (by kernel_rfl))), fun hE => q2.out _ _ hE⟩
      · exact absurd hk (by decide)
      · exact absurd hk (by decide)
      · exact absurd hk (by decide)
      · exact absurd hk (by decide)
    · intro i hi hk; obtain rfl | rfl | rfl | rfl | rfl | rfl | rfl | rfl | rfl | rfl | rfl | rfl : i = 0 ∨ i = 1 ∨ i = 2 ∨ i = 3 ∨ i = 4 ∨ i = 5 ∨ i = 6 ∨ i = 7 ∨ i = 8 ∨ i = 9 ∨ i = 10 ∨ i = 11 := by omega
      · exact absurd hk (by decide)
      · exact absurd hk (by decide)
      · exact absurd hk (by decide)
      · refine ⟨by decide, fun l hr j hj hkj hp => ?_⟩
        obtain rfl | rfl | rfl | rfl | rfl | rfl | rfl | rfl | rfl | rfl | rfl | rfl : j = 0 ∨ j = 1 ∨ j = 2 ∨ j = 3 ∨ j = 4 ∨ j = 5 ∨ j = 6 ∨ j = 7 ∨ j = 8 ∨ j = 9 ∨ j = 10 ∨ j = 11 := by omega
        · exact absurd hkj (by decide)
        · exact absurd hkj (by decide)
        · exact absurd hkj (by decide)
        · exact absurd hp (by decide)
        · exact absurd hkj (by decide)
        · exact absurd hkj (by decide)
        · exact absurd hkj (by decide)
        · exact absurd hp (by decide)
        · exact absurd hkj (by decide)
        · exact absurd hkj (by decide)
        · exact absurd hkj (by decide)
        · exact absurd hkj (by decide)
      · exact absurd hk (by decide)
      · exact absurd hk (by decide)
      · exact absurd hk (by decide)
      · refine ⟨by decide, fun l hr j hj hkj hp => ?_⟩
        obtain rfl | rfl | rfl | rfl | rfl | rfl | rfl | rfl | rfl | rfl | rfl | rfl : j = 0 ∨ j = 1 ∨ j = 2 ∨ j = 3 ∨ j = 4 ∨ j = 5 ∨ j = 6 ∨ j = 7 ∨ j = 8 ∨ j = 9 ∨ j = 10 ∨ j = 11 := by omega
        · exact absurd hkj (by decide)
        · exact absurd hkj (by decide)
        · exact absurd hkj (by decide)
        · exact dep_of hr rfl (by kernel_rfl)
        · exact absurd hkj (by decide)
        · exact absurd hkj (by decide)
        · exact absurd hkj (by decide)
        · exact absurd hp (by decide)
        · exact absurd hkj (by decide)
        · exact absurd hkj (by decide)
        · exact absurd hkj (by decide)
        · exact absurd hkj (by decide)
      · exact absurd hk (by decide)
      · exact absurd hk (by decide)
      · exact absurd hk (by decide)
      · exact absurd hk (by decide)
    · intro i hi hk; obtain rfl | rfl | rfl | rfl | rfl | rfl | rfl | rfl | rfl | rfl | rfl | rfl : i = 0 ∨ i = 1 ∨ i = 2 ∨ i = 3 ∨ i = 4 ∨ i = 5 ∨ i = 6 ∨ i = 7 ∨ i = 8 ∨ i = 9 ∨ i = 10 ∨ i = 11 := by omega
      · exact absurd hk (by decide)
      · exact absurd hk (by decide)
      · exact absurd hk (by decide)
      · exact absurd hk (by decide)
      · exact absurd hk (by decide)
      · exact absurd hk (by decide)
      · exact absurd hk (by decide)
      · exact absurd hk (by decide)
      · exact ⟨fun o ho => by obtain rfl := Option.some.inj ho; rfl, by decide, by decide, by decide⟩
      · exact ⟨fun o ho => by obtain rfl := Option.some.inj ho; rfl, by decide, by decide, by decide⟩
      · exact absurd hk (by decide)
      · exact absurd hk (by decide)
    · intro i hi hk; obtain rfl | rfl | rfl | rfl | rfl | rfl | rfl | rfl | rfl | rfl | rfl | rfl : i = 0 ∨ i = 1 ∨ i = 2 ∨ i = 3 ∨ i = 4 ∨ i = 5 ∨ i = 6 ∨ i = 7 ∨ i = 8 ∨ i = 9 ∨ i = 10 ∨ i = 11 := by omega
      · exact absurd hk (by decide)
      · exact absurd hk (by decide)
      · exact absurd hk (by decide)
      · exact absurd hk (by decide)
      · exact absurd hk (by decide)
      · exact absurd hk (by decide)
      · exact absurd hk (by decide)
      · exact absurd hk (by decide)
      · exact absurd hk (by decide)
      · exact absurd hk (by decide)
      · exact ⟨by decide, by decide, by decide, fun l T o hr hM ho => by
          obtain rfl := Option.some.inj ho
          exact ⟨dep_of hr rfl (by kernel_rfl), _, rfl, by rw [frame_eval (by decide)]; exact hM.val 3 (by decide) (by decide) (dep_of hr rfl (by kernel_rfl))⟩⟩
      · exact ⟨by decide, by decide, by decide, fun l T o hr hM ho => by
          obtain rfl := Option.some.inj ho
          exact ⟨dep_of hr rfl (by kernel_rfl), _, rfl, by rw [frame_eval (by decide)]; exact hM.val 7 (by decide) (by decide) (dep_of hr rfl (by kernel_rfl))⟩⟩
    · intro i hi; obtain rfl | rfl | rfl | rfl | rfl | rfl | rfl | rfl | rfl | rfl | rfl | rfl : i = 0 ∨ i = 1 ∨ i = 2 ∨ i = 3 ∨ i = 4 ∨ i = 5 ∨ i = 6 ∨ i = 7 ∨ i = 8 ∨ i = 9 ∨ i = 10 ∨ i = 11 := by omega
      all_goals exact ⟨_, rfl, by kernel_rfl⟩
  case rest =>
    intro T BB w1 hout hval hal hE1 k1
    have lo1 : ∀ s, s ∈ ([6, 7, 8, 9, 10, 11] : List Nat) → ∀ j, j < 12 → ([0, 0, 0, 1, 0, 0, 0, 1, 2, 2, 3, 3] : List Nat).getD j 0 ≠ 3 → ([16, 17, 18, 19, 20, 21, 22, 23, 13, 14, 0, 0] : List Nat).getD j 0 ≠ s := by decide
    have e6 : T 6 = .pointer (some ⟨w.heap.size, 0, none⟩) := hout 6 (lo1 6 (by decide))
    have e7 : T 7 = .pointer (some ⟨w.heap.size + 1, 0, none⟩) := hout 7 (lo1 7 (by decide))
    have e8 : T 8 = .pointer (some ⟨w.heap.size + 2, 0, none⟩) := hout 8 (lo1 8 (by decide))
    have e9 : T 9 = .pointer (some ⟨w.heap.size + 3, 0, none⟩) := hout 9 (lo1 9 (by decide))
    have e10 : T 10 = .pointer (some ⟨w.heap.size + 4, 0, none⟩) := hout 10 (lo1 10 (by decide))
    have e11 : T 11 = .pointer (some ⟨w.heap.size + 5, 0, none⟩) := hout 11 (lo1 11 (by decide))
    have e13 : T 13 = .pointer (some ⟨BB 8, 0, none⟩) := (hal 8 (by decide) (by decide)).1
    have L13 := (hal 8 (by decide) (by decide)).2.1
    have X13 : FrB w1 (BB 8) S0 S1 := (hal 8 (by decide) (by decide)).2.2
    have e14 : T 14 = .pointer (some ⟨BB 9, 0, none⟩) := (hal 9 (by decide) (by decide)).1
    have L14 := (hal 9 (by decide) (by decide)).2.1
    have X14 : FrB w1 (BB 9) R0 R1 := (hal 9 (by decide) (by decide)).2.2
    have hE1' : KE w1 g (kp (kp e X1) X2) := hE1
    have kk1 := k0.trans k1
    have tk : PtB w1 w.heap.size g := PtB.kept sk k1 (nmem_one g0)
    have u1 : FrB w1 (w.heap.size + 1) n1 p1 := FrB.kept s1 k1 (nmem_one g1)
    have u2 : FrB w1 (w.heap.size + 2) n2 p2 := FrB.kept s2 k1 (nmem_one g2)
    have u3 : FrB w1 (w.heap.size + 3) n3 p3 := FrB.kept s3 k1 (nmem_one g3)
    have u4 : FrB w1 (w.heap.size + 4) n4 p4 := FrB.kept s4 k1 (nmem_one g4)
    have u5 : FrB w1 (w.heap.size + 5) n5 p5 := FrB.kept s5 k1 (nmem_one g5)
    have t13 : FrB w1.drew (BB 8) S0 S1 := FrB.drew X13
    have t14 : FrB w1.drew (BB 9) R0 R1 := FrB.drew X14
    simp only [World.size_alloc] at L13 L14
    have g13 : BB 8 ≠ g := by omega
    have g14 : BB 9 ≠ g := by omega
    clear hout hval hal hE1 lo1 X13 X14 L13 L14 k0 k1 sk s1 s2 s3 s4 s5 hE q1 q2
    generalize BB 8 = v13 at *
    generalize BB 9 = v14 at *
    generalize w.heap.size + 1 = x1 at *
    generalize w.heap.size + 2 = x2 at *
    generalize w.heap.size + 3 = x3 at *
    generalize w.heap.size + 4 = x4 at *
    generalize w.heap.size + 5 = x5 at *
    generalize w.heap.size = x0 at *
    go_wp2_with fail
    replace tk : PtB w1.drew x0 g := PtB.drew tk
    replace u1 : FrB w1.drew x1 n1 p1 := FrB.drew u1
    replace u2 : FrB w1.drew x2 n2 p2 := FrB.drew u2
    replace u3 : FrB w1.drew x3 n3 p3 := FrB.drew u3
    replace u4 : FrB w1.drew x4 n4 p4 := FrB.drew u4
    replace u5 : FrB w1.drew x5 n5 p5 := FrB.drew u5
    refine region_law (m := 21) (N := 51) (g := g) (K := 5) (dst := fun i => ([24, 25, 26, 27, 28, 29, 30, 31, 32, 33, 34, 35, 36, 37, 38, 39, 40, 41, 42, 43, 15] : List Nat).getD i 0) (kind := fun i => ([0, 0, 0, 1, 0, 0, 0, 1, 0, 0, 0, 0, 1, 0, 0, 0, 1, 0, 0, 1, 0] : List Nat).getD i 0) (pos := fun i => ([0, 0, 0, 0, 0, 0, 0, 1, 0, 0, 0, 0, 2, 0, 0, 0, 3, 0, 0, 4, 0] : List Nat).getD i 0) (mate := fun i => ([0, 0, 0, 0, 0, 0, 0, 0, 0, 0, 0, 0, 0, 0, 0, 0, 0, 0, 0, 0, 0] : List Nat).getD i 0)       (V := fun i => ([.pointer (some ⟨g, 0, none⟩), .pointer (some ⟨x2, 0, none⟩), .string n2, .int .i64 I2, .pointer (some ⟨g, 0, none⟩), .pointer (some ⟨x3, 0, none⟩), .string n3, .int .i64 I3, .int .i64 (I2 * I3), .pointer (some ⟨g, 0, none⟩), .pointer (some ⟨x4, 0, none⟩), .string n4, .int .i64 I4, .pointer (some ⟨g, 0, none⟩), .pointer (some ⟨x5, 0, none⟩), .string n5, .int .i64 I5, .int .i64 (I4 * I5), .func (.func 136) #[] #[.pointer (some ⟨x0, 0, none⟩), .pointer (some ⟨v13, 0, none⟩), .pointer (some ⟨v14, 0, none⟩)], .int .i64 RR, .int .i64 RR] : List Value).getD i undef) (E := fun i => ([kp (kp e X1) X2, kp (kp (kp e X1) X2) K2, kp (kp (kp (kp e X1) X2) K2) K3, kp (kp (kp (kp (kp e X1) X2) K2) K3) K4, kp (kp (kp (kp (kp (kp e X1) X2) K2) K3) K4) K5, kp (kp (kp (kp (kp (kp (kp e X1) X2) K2) K3) K4) K5) RT] : List Int).getD i 0) (nt := fun i => S0) (dt := fun i => S1) (by kernel_rfl) ?shape hE1' ?rest
    case shape =>
      have lo : ∀ s, s ∈ ([6, 8, 9, 10, 11, 13, 14] : List Nat) → ∀ j, j < 21 → ([0, 0, 0, 1, 0, 0, 0, 1, 0, 0, 0, 0, 1, 0, 0, 0, 1, 0, 0, 1, 0] : List Nat).getD j 0 ≠ 3 → ([24, 25, 26, 27, 28, 29, 30, 31, 32, 33, 34, 35, 36, 37, 38, 39, 40, 41, 42, 43, 15] : List Nat).getD j 0 ≠ s := by decide
      refine ⟨rfl, by decide, by decide, by decide, ?_, ?_, ?_, ?_, by decide, by decide, ?_, ?_, fun l hs hr => fin_of (m := 21) (by rfl) ?_ l hs hr⟩
      · intro i hi; obtain rfl | rfl | rfl | rfl | rfl | rfl | rfl | rfl | rfl | rfl | rfl | rfl | rfl | rfl | rfl | rfl | rfl | rfl | rfl | rfl | rfl : i = 0 ∨ i = 1 ∨ i = 2 ∨ i = 3 ∨ i = 4 ∨ i = 5 ∨ i = 6 ∨ i = 7 ∨ i = 8 ∨ i = 9 ∨ i = 10 ∨ i = 11 ∨ i = 12 ∨ i = 13 ∨ i = 14 ∨ i = 15 ∨ i = 16 ∨ i = 17 ∨ i = 18 ∨ i = 19 ∨ i = 20 := by omega
        all_goals exact ⟨_, rfl, rfl, rfl⟩
      · intro i hi hk l T w1 o hr hM hkp ho; obtain rfl | rfl | rfl | rfl | rfl | rfl | rfl | rfl | rfl | rfl | rfl | rfl | rfl | rfl | rfl | rfl | rfl | rfl | rfl | rfl | rfl : i = 0 ∨ i = 1 ∨ i = 2 ∨ i = 3 ∨ i = 4 ∨ i = 5 ∨ i = 6 ∨ i = 7 ∨ i = 8 ∨ i = 9 ∨ i = 10 ∨ i = 11 ∨ i = 12 ∨ i = 13 ∨ i = 14 ∨ i = 15 ∨ i = 16 ∨ i = 17 ∨ i = 18 ∨ i = 19 ∨ i = 20 := by omega
        · obtain rfl := Option.some.inj ho; exact op_load_pt rfl (by rw [frame_eval (by decide), hM.out 6 (lo 6 (by decide))]; exact e6) (tk.kept hkp (nmem_one (by assumption)))
        · obtain rfl := Option.some.inj ho; exact op_fa rfl (by rw [frame_eval (by decide), hM.out 8 (lo 8 (by decide))]; exact e8)
        · obtain rfl := Option.some.inj ho; exact op_lds rfl (by rw [frame_eval (by decide)]; exact hM.val 1 (by decide) (by decide) (dep_of hr rfl (by kernel_rfl))) (u2.kept hkp (nmem_one (by assumption)))
        · exact absurd hk (by decide)
        · obtain rfl := Option.some.inj ho; exact op_load_pt rfl (by rw [frame_eval (by decide), hM.out 6 (lo 6 (by decide))]; exact e6) (tk.kept hkp (nmem_one (by assumption)))
        · obtain rfl := Option.some.inj ho; exact op_fa rfl (by rw [frame_eval (by decide), hM.out 9 (lo 9 (by decide))]; exact e9)
        · obtain rfl := Option.some.inj ho; exact op_lds rfl (by rw [frame_eval (by decide)]; exact hM.val 5 (by decide) (by decide) (dep_of hr rfl (by kernel_rfl))) (u3.kept hkp (nmem_one (by assumption)))
        · exact absurd hk (by decide)
        · obtain rfl := Option.some.inj ho; exact op_mul rfl (by rw [frame_eval (by decide)]; exact hM.val 3 (by decide) (by decide) (dep_of hr rfl (by kernel_rfl))) (by rw [frame_eval (by decide)]; exact hM.val 7 (by decide) (by decide) (dep_of hr rfl (by kernel_rfl))) hw1
        · obtain rfl := Option.some.inj ho; exact op_load_pt rfl (by rw [frame_eval (by decide), hM.out 6 (lo 6 (by decide))]; exact e6) (tk.kept hkp (nmem_one (by assumption)))
        · obtain rfl := Option.some.inj ho; exact op_fa rfl (by rw [frame_eval (by decide), hM.out 10 (lo 10 (by decide))]; exact e10)
        · obtain rfl := Option.some.inj ho; exact op_lds rfl (by rw [frame_eval (by decide)]; exact hM.val 10 (by decide) (by decide) (dep_of hr rfl (by kernel_rfl))) (u4.kept hkp (nmem_one (by assumption)))
        · exact absurd hk (by decide)
        · obtain rfl := Option.some.inj ho; exact op_load_pt rfl (by rw [frame_eval (by decide), hM.out 6 (lo 6 (by decide))]; exact e6) (tk.kept hkp (nmem_one (by assumption)))
        · obtain rfl := Option.some.inj ho; exact op_fa rfl (by rw [frame_eval (by decide), hM.out 11 (lo 11 (by decide))]; exact e11)
        · obtain rfl := Option.some.inj ho; exact op_lds rfl (by rw [frame_eval (by decide)]; exact hM.val 14 (by decide) (by decide) (dep_of hr rfl (by kernel_rfl))) (u5.kept hkp (nmem_one (by assumption)))
        · exact absurd hk (by decide)
        · obtain rfl := Option.some.inj ho; exact op_mul rfl (by rw [frame_eval (by decide)]; exact hM.val 12 (by decide) (by decide) (dep_of hr rfl (by kernel_rfl))) (by rw [frame_eval (by decide)]; exact hM.val 16 (by decide) (by decide) (dep_of hr rfl (by kernel_rfl))) hw2
        · obtain rfl := Option.some.inj ho; exact op_mf3 rfl (by rw [frame_eval (by decide), hM.out 6 (lo 6 (by decide))]; exact e6) (by rw [frame_eval (by decide), hM.out 13 (lo 13 (by decide))]; exact e13) (by rw [frame_eval (by decide), hM.out 14 (lo 14 (by decide))]; exact e14)
        · exact absurd hk (by decide)
        · obtain rfl := Option.some.inj ho; exact op_assign rfl (by rw [frame_eval (by decide)]; exact hM.val 19 (by decide) (by decide) (dep_of hr rfl (by kernel_rfl)))
      · intro i hi hk l T w1 o hr hM hkp ho; obtain rfl | rfl | rfl | rfl | rfl | rfl | rfl | rfl | rfl | rfl | rfl | rfl | rfl | rfl | rfl | rfl | rfl | rfl | rfl | rfl | rfl : i = 0 ∨ i = 1 ∨ i = 2 ∨ i = 3 ∨ i = 4 ∨ i = 5 ∨ i = 6 ∨ i = 7 ∨ i = 8 ∨ i = 9 ∨ i = 10 ∨ i = 11 ∨ i = 12 ∨ i = 13 ∨ i = 14 ∨ i = 15 ∨ i = 16 ∨ i = 17 ∨ i = 18 ∨ i = 19 ∨ i = 20 := by omega
        · exact absurd hk (by decide)
        · exact absurd hk (by decide)
        · exact absurd hk (by decide)
        · obtain rfl := Option.some.inj ho
          exact ⟨_, _, op_call_sign rfl (by rw [frame_eval (by decide)]; exact hM.val 0 (by decide) (by decide) (dep_of hr rfl (by kernel_rfl))) (by rw [frame_eval (by decide)]; exact hM.val 2 (by decide) (by decide) (dep_of hr rfl (by kernel_rfl))), fun hE => r2.out _ _ hE⟩
        · exact absurd hk (by decide)
        · exact absurd hk (by decide)
        · exact absurd hk (by decide)
        · obtain rfl := Option.some.inj ho
          exact ⟨_, _, op_call_sign rfl (by rw [frame_eval (by decide)]; exact hM.val 4 (by decide) (by decide) (dep_of hr rfl (by kernel_rfl))) (by rw [frame_eval (by decide)]; exact hM.val 6 (by decide) (by decide) (dep_of hr rfl (by kernel_rfl))), fun hE => r3.out _ _ hE⟩
        · exact absurd hk (by decide)
        · exact absurd hk (by decide)
        · exact absurd hk (by decide)
        · exact absurd hk (by decide)
        · obtain rfl := Option.some.inj ho
          exact ⟨_, _, op_call_sign rfl (by rw [frame_eval (by decide)]; exact hM.val 9 (by decide) (by decide) (dep_of hr rfl (by kernel_rfl))) (by rw [frame_eval (by decide)]; exact hM.val 11 (by decide) (by decide) (dep_of hr rfl (by kernel_rfl))), fun hE => r4.out _ _ hE⟩
        · exact absurd hk (by decide)
        · exact absurd hk (by decide)
        · exact absurd hk (by decide)
        · obtain rfl := Option.some.inj ho
          exact ⟨_, _, op_call_sign rfl (by rw [frame_eval (by decide)]; exact hM.val 13 (by decide) (by decide) (dep_of hr rfl (by kernel_rfl))) (by rw [frame_eval (by decide)]; exact hM.val 15 (by decide) (by decide) (dep_of hr rfl (by kernel_rfl))), fun hE => r5.out _ _ hE⟩
        · exact absurd hk (by decide)
        · exact absurd hk (by decide)
        · obtain rfl := Option.some.inj ho
          exact ⟨_, _, op_call_signOfTwo rfl (by rw [frame_eval (by decide)]; exact hM.val 8 (by decide) (by decide) (dep_of hr rfl (by kernel_rfl))) (by rw [frame_eval (by decide)]; exact hM.val 17 (by decide) (by decide) (dep_of hr rfl (by kernel_rfl))) (by rw [frame_eval (by decide)]; exact hM.val 18 (by decide) (by decide) (dep_of hr rfl (by kernel_rfl))), fun hE => q6.out _ _ _ _ _ hE (tk.kept hkp (nmem_one (by assumption))) (t13.kept hkp (nmem_one (by assumption))) (t14.kept hkp (nmem_one (by assumption)))⟩
        · exact absurd hk (by decide)
      · intro i hi hk; obtain rfl | rfl | rfl | rfl | rfl | rfl | rfl | rfl | rfl | rfl | rfl | rfl | rfl | rfl | rfl | rfl | rfl | rfl | rfl | rfl | rfl : i = 0 ∨ i = 1 ∨ i = 2 ∨ i = 3 ∨ i = 4 ∨ i = 5 ∨ i = 6 ∨ i = 7 ∨ i = 8 ∨ i = 9 ∨ i = 10 ∨ i = 11 ∨ i = 12 ∨ i = 13 ∨ i = 14 ∨ i = 15 ∨ i = 16 ∨ i = 17 ∨ i = 18 ∨ i = 19 ∨ i = 20 := by omega
        · exact absurd hk (by decide)
        · exact absurd hk (by decide)
        · exact absurd hk (by decide)
        · refine ⟨by decide, fun l hr j hj hkj hp => ?_⟩
          obtain rfl | rfl | rfl | rfl | rfl | rfl | rfl | rfl | rfl | rfl | rfl | rfl | rfl | rfl | rfl | rfl | rfl | rfl | rfl | rfl | rfl : j = 0 ∨ j = 1 ∨ j = 2 ∨ j = 3 ∨ j = 4 ∨ j = 5 ∨ j = 6 ∨ j = 7 ∨ j = 8 ∨ j = 9 ∨ j = 10 ∨ j = 11 ∨ j = 12 ∨ j = 13 ∨ j = 14 ∨ j = 15 ∨ j = 16 ∨ j = 17 ∨ j = 18 ∨ j = 19 ∨ j = 20 := by omega
          · exact absurd hkj (by decide)
          · exact absurd hkj (by decide)
          · exact absurd hkj (by decide)
          · exact absurd hp (by decide)
          · exact absurd hkj (by decide)
          · exact absurd hkj (by decide)
          · exact absurd hkj (by decide)
          · exact absurd hp (by decide)
          · exact absurd hkj (by decide)
          · exact absurd hkj (by decide)
          · exact absurd hkj (by decide)
          · exact absurd hkj (by decide)
          · exact absurd hp (by decide)
          · exact absurd hkj (by decide)
          · exact absurd hkj (by decide)
          · exact absurd hkj (by decide)
          · exact absurd hp (by decide)
          · exact absurd hkj (by decide)
          · exact absurd hkj (by decide)
          · exact absurd hp (by decide)
          · exact absurd hkj (by decide)
        · exact absurd hk (by decide)
        · exact absurd hk (by decide)
        · exact absurd hk (by decide)
        · refine ⟨by decide, fun l hr j hj hkj hp => ?_⟩
          obtain rfl | rfl | rfl | rfl | rfl | rfl | rfl | rfl | rfl | rfl | rfl | rfl | rfl | rfl | rfl | rfl | rfl | rfl | rfl | rfl | rfl : j = 0 ∨ j = 1 ∨ j = 2 ∨ j = 3 ∨ j = 4 ∨ j = 5 ∨ j = 6 ∨ j = 7 ∨ j = 8 ∨ j = 9 ∨ j = 10 ∨ j = 11 ∨ j = 12 ∨ j = 13 ∨ j = 14 ∨ j = 15 ∨ j = 16 ∨ j = 17 ∨ j = 18 ∨ j = 19 ∨ j = 20 := by omega
          · exact absurd hkj (by decide)
          · exact absurd hkj (by decide)
          · exact absurd hkj (by decide)
          · exact dep_of hr rfl (by kernel_rfl)
          · exact absurd hkj (by decide)
          · exact absurd hkj (by decide)
          · exact absurd hkj (by decide)
          · exact absurd hp (by decide)
          · exact absurd hkj (by decide)
          · exact absurd hkj (by decide)
          · exact absurd hkj (by decide)
          · exact absurd hkj (by decide)
          · exact absurd hp (by decide)
          · exact absurd hkj (by decide)
          · exact absurd hkj (by decide)
          · exact absurd hkj (by decide)
          · exact absurd hp (by decide)
          · exact absurd hkj (by decide)
          · exact absurd hkj (by decide)
          · exact absurd hp (by decide)
          · exact absurd hkj (by decide)
        · exact absurd hk (by decide)
        · exact absurd hk (by decide)
        · exact absurd hk (by decide)
        · exact absurd hk (by decide)
        · refine ⟨by decide, fun l hr j hj hkj hp => ?_⟩
          obtain rfl | rfl | rfl | rfl | rfl | rfl | rfl | rfl | rfl | rfl | rfl | rfl | rfl | rfl | rfl | rfl | rfl | rfl | rfl | rfl | rfl : j = 0 ∨ j = 1 ∨ j = 2 ∨ j = 3 ∨ j = 4 ∨ j = 5 ∨ j = 6 ∨ j = 7 ∨ j = 8 ∨ j = 9 ∨ j = 10 ∨ j = 11 ∨ j = 12 ∨ j = 13 ∨ j = 14 ∨ j = 15 ∨ j = 16 ∨ j = 17 ∨ j = 18 ∨ j = 19 ∨ j = 20 := by omega
          · exact absurd hkj (by decide)
          · exact absurd hkj (by decide)
          · exact absurd hkj (by decide)
          · exact absurd hp (by decide)
          · exact absurd hkj (by decide)
          · exact absurd hkj (by decide)
          · exact absurd hkj (by decide)
          · exact dep_of hr rfl (by kernel_rfl)
          · exact absurd hkj (by decide)
          · exact absurd hkj (by decide)
          · exact absurd hkj (by decide)
          · exact absurd hkj (by decide)
          · exact absurd hp (by decide)
          · exact absurd hkj (by decide)
          · exact absurd hkj (by decide)
          · exact absurd hkj (by decide)
          · exact absurd hp (by decide)
          · exact absurd hkj (by decide)
          · exact absurd hkj (by decide)
          · exact absurd hp (by decide)
          · exact absurd hkj (by decide)
        · exact absurd hk (by decide)
        · exact absurd hk (by decide)
        · exact absurd hk (by decide)
        · refine ⟨by decide, fun l hr j hj hkj hp => ?_⟩
          obtain rfl | rfl | rfl | rfl | rfl | rfl | rfl | rfl | rfl | rfl | rfl | rfl | rfl | rfl | rfl | rfl | rfl | rfl | rfl | rfl | rfl : j = 0 ∨ j = 1 ∨ j = 2 ∨ j = 3 ∨ j = 4 ∨ j = 5 ∨ j = 6 ∨ j = 7 ∨ j = 8 ∨ j = 9 ∨ j = 10 ∨ j = 11 ∨ j = 12 ∨ j = 13 ∨ j = 14 ∨ j = 15 ∨ j = 16 ∨ j = 17 ∨ j = 18 ∨ j = 19 ∨ j = 20 := by omega
          · exact absurd hkj (by decide)
          · exact absurd hkj (by decide)
          · exact absurd hkj (by decide)
          · exact absurd hp (by decide)
          · exact absurd hkj (by decide)
          · exact absurd hkj (by decide)
          · exact absurd hkj (by decide)
          · exact absurd hp (by decide)
          · exact absurd hkj (by decide)
          · exact absurd hkj (by decide)
          · exact absurd hkj (by decide)
          · exact absurd hkj (by decide)
          · exact dep_of hr rfl (by kernel_rfl)
          · exact absurd hkj (by decide)
          · exact absurd hkj (by decide)
          · exact absurd hkj (by decide)
          · exact absurd hp (by decide)
          · exact absurd hkj (by decide)
          · exact absurd hkj (by decide)
          · exact absurd hp (by decide)
          · exact absurd hkj (by decide)
        · exact absurd hk (by decide)
        · exact absurd hk (by decide)
        · refine ⟨by decide, fun l hr j hj hkj hp => ?_⟩
          obtain rfl | rfl | rfl | rfl | rfl | rfl | rfl | rfl | rfl | rfl | rfl | rfl | rfl | rfl | rfl | rfl | rfl | rfl | rfl | rfl | rfl : j = 0 ∨ j = 1 ∨ j = 2 ∨ j = 3 ∨ j = 4 ∨ j = 5 ∨ j = 6 ∨ j = 7 ∨ j = 8 ∨ j = 9 ∨ j = 10 ∨ j = 11 ∨ j = 12 ∨ j = 13 ∨ j = 14 ∨ j = 15 ∨ j = 16 ∨ j = 17 ∨ j = 18 ∨ j = 19 ∨ j = 20 := by omega
          · exact absurd hkj (by decide)
          · exact absurd hkj (by decide)
          · exact absurd hkj (by decide)
          · exact absurd hp (by decide)
          · exact absurd hkj (by decide)
          · exact absurd hkj (by decide)
          · exact absurd hkj (by decide)
          · exact absurd hp (by decide)
          · exact absurd hkj (by decide)
          · exact absurd hkj (by decide)
          · exact absurd hkj (by decide)
          · exact absurd hkj (by decide)
          · exact absurd hp (by decide)
          · exact absurd hkj (by decide)
          · exact absurd hkj (by decide)
          · exact absurd hkj (by decide)
          · exact dep_of hr rfl (by kernel_rfl)
          · exact absurd hkj (by decide)
          · exact absurd hkj (by decide)
          · exact absurd hp (by decide)
          · exact absurd hkj (by decide)
        · exact absurd hk (by decide)
      · intro i hi hk; obtain rfl | rfl | rfl | rfl | rfl | rfl | rfl | rfl | rfl | rfl | rfl | rfl | rfl | rfl | rfl | rfl | rfl | rfl | rfl | rfl | rfl : i = 0 ∨ i = 1 ∨ i = 2 ∨ i = 3 ∨ i = 4 ∨ i = 5 ∨ i = 6 ∨ i = 7 ∨ i = 8 ∨ i = 9 ∨ i = 10 ∨ i = 11 ∨ i = 12 ∨ i = 13 ∨ i = 14 ∨ i = 15 ∨ i = 16 ∨ i = 17 ∨ i = 18 ∨ i = 19 ∨ i = 20 := by omega
        · exact absurd hk (by decide)
        · exact absurd hk (by decide)
        · exact absurd hk (by decide)
        · exact absurd hk (by decide)
        · exact absurd hk (by decide)
        · exact absurd hk (by decide)
        · exact absurd hk (by decide)
        · exact absurd hk (by decide)
        · exact absurd hk (by decide)
        · exact absurd hk (by decide)
        · exact absurd hk (by decide)
        · exact absurd hk (by decide)
        · exact absurd hk (by decide)
        · exact absurd hk (by decide)
        · exact absurd hk (by decide)
        · exact absurd hk (by decide)
        · exact absurd hk (by decide)
        · exact absurd hk (by decide)
        · exact absurd hk (by decide)
        · exact absurd hk (by decide)
        · exact absurd hk (by decide)
      · intro i hi hk; obtain rfl | rfl | rfl | rfl | rfl | rfl | rfl | rfl | rfl | rfl | rfl | rfl | rfl | rfl | rfl | rfl | rfl | rfl | rfl | rfl | rfl : i = 0 ∨ i = 1 ∨ i = 2 ∨ i = 3 ∨ i = 4 ∨ i = 5 ∨ i = 6 ∨ i = 7 ∨ i = 8 ∨ i = 9 ∨ i = 10 ∨ i = 11 ∨ i = 12 ∨ i = 13 ∨ i = 14 ∨ i = 15 ∨ i = 16 ∨ i = 17 ∨ i = 18 ∨ i = 19 ∨ i = 20 := by omega
        · exact absurd hk (by decide)
        · exact absurd hk (by decide)
        · exact absurd hk (by decide)
        · exact absurd hk (by decide)
        · exact absurd hk (by decide)
        · exact absurd hk (by decide)
        · exact absurd hk (by decide)
        · exact absurd hk (by decide)
        · exact absurd hk (by decide)
        · exact absurd hk (by decide)
        · exact absurd hk (by decide)
        · exact absurd hk (by decide)
        · exact absurd hk (by decide)
        · exact absurd hk (by decide)
        · exact absurd hk (by decide)
        · exact absurd hk (by decide)
        · exact absurd hk (by decide)
        · exact absurd hk (by decide)
        · exact absurd hk (by decide)
        · exact absurd hk (by decide)
        · exact absurd hk (by decide)
      · intro i hi; obtain rfl | rfl | rfl | rfl | rfl | rfl | rfl | rfl | rfl | rfl | rfl | rfl | rfl | rfl | rfl | rfl | rfl | rfl | rfl | rfl | rfl : i = 0 ∨ i = 1 ∨ i = 2 ∨ i = 3 ∨ i = 4 ∨ i = 5 ∨ i = 6 ∨ i = 7 ∨ i = 8 ∨ i = 9 ∨ i = 10 ∨ i = 11 ∨ i = 12 ∨ i = 13 ∨ i = 14 ∨ i = 15 ∨ i = 16 ∨ i = 17 ∨ i = 18 ∨ i = 19 ∨ i = 20 := by omega
        all_goals exact ⟨_, rfl, by kernel_rfl⟩
    case rest =>
      intro T2 B2 w2 hout2 hval2 hal2 hE2 k2
      have lo2 : ∀ s, s ∈ ([6, 7, 8, 9, 10, 11, 13, 14] : List Nat) → ∀ j, j < 21 → ([0, 0, 0, 1, 0, 0, 0, 1, 0, 0, 0, 0, 1, 0, 0, 0, 1, 0, 0, 1, 0] : List Nat).getD j 0 ≠ 3 → ([24, 25, 26, 27, 28, 29, 30, 31, 32, 33, 34, 35, 36, 37, 38, 39, 40, 41, 42, 43, 15] : List Nat).getD j 0 ≠ s := by decide
      have f6 : T2 6 = .pointer (some ⟨x0, 0, none⟩) := (hout2 6 (lo2 6 (by decide))).trans e6
      have f7 : T2 7 = .pointer (some ⟨x1, 0, none⟩) := (hout2 7 (lo2 7 (by decide))).trans e7
      have f8 : T2 8 = .pointer (some ⟨x2, 0, none⟩) := (hout2 8 (lo2 8 (by decide))).trans e8
      have f9 : T2 9 = .pointer (some ⟨x3, 0, none⟩) := (hout2 9 (lo2 9 (by decide))).trans e9
      have f10 : T2 10 = .pointer (some ⟨x4, 0, none⟩) := (hout2 10 (lo2 10 (by decide))).trans e10
      have f11 : T2 11 = .pointer (some ⟨x5, 0, none⟩) := (hout2 11 (lo2 11 (by decide))).trans e11
      have f13 : T2 13 = .pointer (some ⟨v13, 0, none⟩) := (hout2 13 (lo2 13 (by decide))).trans e13
      have f14 : T2 14 = .pointer (some ⟨v14, 0, none⟩) := (hout2 14 (lo2 14 (by decide))).trans e14
      have f15 : T2 15 = .int .i64 RR := hval2 20 (by decide) (by decide)
      have hE2' : KE w2 g (kp (kp (kp (kp (kp (kp (kp e X1) X2) K2) K3) K4) K5) RT) := hE2
      have vk : PtB w2 x0 g := PtB.kept (w := w1) tk k2 (nmem_one g0)
      have v1 : FrB w2 x1 n1 p1 := FrB.kept (w := w1) u1 k2 (nmem_one g1)
      have v2 : FrB w2 x2 n2 p2 := FrB.kept (w := w1) u2 k2 (nmem_one g2)
      have v3 : FrB w2 x3 n3 p3 := FrB.kept (w := w1) u3 k2 (nmem_one g3)
      have v4 : FrB w2 x4 n4 p4 := FrB.kept (w := w1) u4 k2 (nmem_one g4)
      have v5 : FrB w2 x5 n5 p5 := FrB.kept (w := w1) u5 k2 (nmem_one g5)
      have y13 : FrB w2 v13 S0 S1 := FrB.kept (w := w1) t13 k2 (nmem_one g13)
      have y14 : FrB w2 v14 R0 R1 := FrB.kept (w := w1) t14 k2 (nmem_one g14)
      rw [frame_51, f6, f7, f8, f9, f10, f11, f13, f14, f15]
      have ck := vk.c
      have cv := v1.c0
      clear hout2 hval2 hal2 hE2 lo2 e6 e7 e8 e9 e10 e11 e13 e14 f6 f7 f8 f9 f10 f11 f13 f14 f15
      go_wp2_with fail
      with_reducible refine (r1.out _ _ hE2').mono ?_
      rintro x w3 ⟨rfl, hE3, k3⟩
      go_wp2_with fail
      with_reducible refine (q7.out _ _ _ _ _ _ _ _ _ _ hE3 (vk.kept k3 (nmem_one g0)) (v1.kept k3 (nmem_one g1)) (y13.kept k3 (nmem_one g13)) (y14.kept k3 (nmem_one g14)) (v2.kept k3 (nmem_one g2)) (v4.kept k3 (nmem_one g4)) (v3.kept k3 (nmem_one g3)) (v5.kept k3 (nmem_one g5)) g0 g1 g13 g14 g2 g4 g3 g5).mono ?_
      rintro x w4 ⟨rfl, hE4, k4⟩
      have kk := ((kk1.trans k2).trans k3).trans k4
      go_wp2
      go_ret
      exact ⟨rfl, by rw [ee.out]; simpa only [kp_assoc] using hE4, kk⟩
end Go.Proofs.YtminjcknmhgpiaaGreatDoor

/- SignRoots of package ratio, for any texts. -/
namespace Go.Proofs.YtminjcknmhgpiaaGreatDoor
open Go.RowKit
open Go.Lib (nDigits itoa decDigits)

set_option maxRecDepth 100000 in
theorem frame_41 (T : Nat → Value) : frameOf 41 T = ⟨#[T 0, T 1, T 2, T 3, T 4, T 5, T 6, T 7, T 8, T 9, T 10, T 11, T 12, T 13, T 14, T 15, T 16, T 17, T 18, T 19, T 20, T 21, T 22, T 23, T 24, T 25, T 26, T 27, T 28, T 29, T 30, T 31, T 32, T 33, T 34, T 35, T 36, T 37, T 38, T 39, T 40], []⟩ := by
  unfold frameOf
  simp only [Act.mk.injEq, and_true]
  apply Array.ext
  · simp
  · intro i h1 h2
    rw [Array.getElem_ofFn]
    simp only [Array.size_ofFn] at h1
    obtain rfl | rfl | rfl | rfl | rfl | rfl | rfl | rfl | rfl | rfl | rfl | rfl | rfl | rfl | rfl | rfl | rfl | rfl | rfl | rfl | rfl | rfl | rfl | rfl | rfl | rfl | rfl | rfl | rfl | rfl | rfl | rfl | rfl | rfl | rfl | rfl | rfl | rfl | rfl | rfl | rfl : i = 0 ∨ i = 1 ∨ i = 2 ∨ i = 3 ∨ i = 4 ∨ i = 5 ∨ i = 6 ∨ i = 7 ∨ i = 8 ∨ i = 9 ∨ i = 10 ∨ i = 11 ∨ i = 12 ∨ i = 13 ∨ i = 14 ∨ i = 15 ∨ i = 16 ∨ i = 17 ∨ i = 18 ∨ i = 19 ∨ i = 20 ∨ i = 21 ∨ i = 22 ∨ i = 23 ∨ i = 24 ∨ i = 25 ∨ i = 26 ∨ i = 27 ∨ i = 28 ∨ i = 29 ∨ i = 30 ∨ i = 31 ∨ i = 32 ∨ i = 33 ∨ i = 34 ∨ i = 35 ∨ i = 36 ∨ i = 37 ∨ i = 38 ∨ i = 39 ∨ i = 40 := by omega
    all_goals rfl

/-- the errors of SignRoots -/
def qSsE (a b c d f : ByteArray) : Int := kp (spE a) (kp (spE b) (kp (spE c) (kp (spE d) (kp (spE f) (kp (rcE (cN c)) (kp (rcE (cN f)) (rsE (cN a) (cD a) (cN b) (cD b) (cN c) (cD c) (cN d) (cD d) (cN f) (cD f))))))))
def qSsV (a b c d f : ByteArray) : Int := if qSsE a b c d f = 0 then rsV (cN a) (cD a) (cN b) (cD b) (cN c) (cD c) (cN d) (cD d) (cN f) (cD f) else 0

set_option maxRecDepth 100000 in
set_option maxHeartbeats 8000000 in
theorem signRoots_in (g b0 b1 b2 b3 b4 : Nat) (a b c d f : ByteArray) (w : World) (h : KE w g 0) (ha : a.size ≤ 9223372036854775807) (hb : b.size ≤ 9223372036854775807) (hc : c.size ≤ 9223372036854775807) (hd : d.size ≤ 9223372036854775807) (hf : f.size ≤ 9223372036854775807)
    (s0 : StB w b0 a) (s1 : StB w b1 b) (s2 : StB w b2 c) (s3 : StB w b3 d) (s4 : StB w b4 f) (g0 : b0 ≠ g) (g1 : b1 ≠ g) (g2 : b2 ≠ g) (g3 : b3 ≠ g) (g4 : b4 ≠ g) :
    Calls Tryz.prog 102 #[.pointer (some ⟨g, 0, none⟩), .pointer (some ⟨b0, 0, none⟩), .pointer (some ⟨b1, 0, none⟩), .pointer (some ⟨b2, 0, none⟩), .pointer (some ⟨b3, 0, none⟩), .pointer (some ⟨b4, 0, none⟩)] w fun x w' => x = .returned (.int .i64 (rsV (cN a) (cD a) (cN b) (cD b) (cN c) (cD c) (cN d) (cD d) (cN f) (cD f))) ∧ KE w' g (qSsE a b c d f) ∧ Kp [g] w w' := by
  have hl := h.lt
  have sp0 := Lib.hid (fun W E hE => k_split g E a W hE ha)
  have sp1 := Lib.hid (fun W E hE => k_split g E b W hE hb)
  have sp2 := Lib.hid (fun W E hE => k_split g E c W hE hc)
  have sp3 := Lib.hid (fun W E hE => k_split g E d W hE hd)
  have sp4 := Lib.hid (fun W E hE => k_split g E f W hE hf)
  have q1 := Lib.hid (fun W E hE => k_radicand g E (cN c) (cD c) W hE (cN_size hc))
  have q2 := Lib.hid (fun W E hE => k_radicand g E (cN f) (cD f) W hE (cN_size hf))
  have q3 := Lib.hid (fun W E hE => k_signRoots g E (cN a) (cD a) (cN b) (cD b) (cN c) (cD c) (cN d) (cD d) (cN f) (cD f) W hE (cN_size ha) (cD_size ha) (cN_size hb) (cD_size hb) (cN_size hc) (cD_size hc) (cN_size hd) (cD_size hd) (cN_size hf) (cD_size hf))
  have ee : Hid (qSsE a b c d f = kp (spE a) (kp (spE b) (kp (spE c) (kp (spE d) (kp (spE f) (kp (rcE (cN c)) (kp (rcE (cN f)) (rsE (cN a) (cD a) (cN b) (cD b) (cN c) (cD c) (cN d) (cD d) (cN f) (cD f))))))))) := rfl
  generalize rsV (cN a) (cD a) (cN b) (cD b) (cN c) (cD c) (cN d) (cD d) (cN f) (cD f) = V at *
  generalize rsE (cN a) (cD a) (cN b) (cD b) (cN c) (cD c) (cN d) (cD d) (cN f) (cD f) = EE at *
  generalize rcE (cN c) = ER at *
  generalize rcE (cN f) = ER2 at *
  generalize cN a = n1 at *
  generalize cD a = p1 at *
  generalize spE a = E1 at *
  generalize cN b = n2 at *
  generalize cD b = p2 at *
  generalize spE b = E2 at *
  generalize cN c = n3 at *
  generalize cD c = p3 at *
  generalize spE c = E3 at *
  generalize cN d = n4 at *
  generalize cD d = p4 at *
  generalize spE d = E4 at *
  generalize cN f = n5 at *
  generalize cD f = p5 at *
  generalize spE f = E5 at *
  have hI : ∀ T0 : Nat → Value, T0 0 = .pointer (some ⟨g, 0, none⟩) → T0 1 = .pointer (some ⟨b0, 0, none⟩) → T0 2 = .pointer (some ⟨b1, 0, none⟩) → T0 3 = .pointer (some ⟨b2, 0, none⟩) → T0 4 = .pointer (some ⟨b3, 0, none⟩) → T0 5 = .pointer (some ⟨b4, 0, none⟩) →
      SplitIn 5 g w.drew T0 (fun i : Nat => if i = 0 then a else if i = 1 then b else if i = 2 then c else if i = 3 then d else f) (fun i : Nat => if i = 0 then n1 else if i = 1 then n2 else if i = 2 then n3 else if i = 3 then n4 else n5) (fun i : Nat => if i = 0 then p1 else if i = 1 then p2 else if i = 2 then p3 else if i = 3 then p4 else p5) (fun i : Nat => if i = 0 then (0 : Int) else if i = 1 then kp 0 E1 else if i = 2 then kp (kp 0 E1) E2 else if i = 3 then kp (kp (kp 0 E1) E2) E3 else if i = 4 then kp (kp (kp (kp 0 E1) E2) E3) E4 else kp (kp (kp (kp (kp 0 E1) E2) E3) E4) E5) := by
    intro T0 i0 i1 i2 i3 i4 i5
    refine ⟨i0, fun i hi => ?_, h, fun i hi W hE => ?_⟩
    · obtain rfl | rfl | rfl | rfl | rfl : i = 0 ∨ i = 1 ∨ i = 2 ∨ i = 3 ∨ i = 4 := by omega
      · exact ⟨b0, i1, s0, g0⟩
      · exact ⟨b1, i2, s1, g1⟩
      · exact ⟨b2, i3, s2, g2⟩
      · exact ⟨b3, i4, s3, g3⟩
      · exact ⟨b4, i5, s4, g4⟩
    · obtain rfl | rfl | rfl | rfl | rfl : i = 0 ∨ i = 1 ∨ i = 2 ∨ i = 3 ∨ i = 4 := by omega
      · exact sp0.out W _ hE
      · exact sp1.out W _ hE
      · exact sp2.out W _ hE
      · exact sp3.out W _ hE
      · exact sp4.out W _ hE
  go_enter Tryz.func102, Tryz.ntmps102
  go_wp2_with fail
  rw [frame_lit]
  refine splits_region (N := 41) (k := 5) (C := 8) (g := g) (s := (fun i : Nat => if i = 0 then a else if i = 1 then b else if i = 2 then c else if i = 3 then d else f)) (n := (fun i : Nat => if i = 0 then n1 else if i = 1 then n2 else if i = 2 then n3 else if i = 3 then n4 else n5)) (d := (fun i : Nat => if i = 0 then p1 else if i = 1 then p2 else if i = 2 then p3 else if i = 3 then p4 else p5)) (E := (fun i : Nat => if i = 0 then (0 : Int) else if i = 1 then kp 0 E1 else if i = 2 then kp (kp 0 E1) E2 else if i = 3 then kp (kp (kp 0 E1) E2) E3 else if i = 4 then kp (kp (kp (kp 0 E1) E2) E3) E4 else kp (kp (kp (kp (kp 0 E1) E2) E3) E4) E5)) (by kernel_rfl) ?shape (hI _ rfl rfl rfl rfl rfl rfl) (fun _ _ _ h => h) ?rest
  case shape =>
    refine ⟨rfl, by decide, by simp, ?_, ?_, ?_, ?_, ?_, ?_, ?_, ?_, ?_, ?_, ?_, ?_⟩
    · intro i hi; obtain rfl | rfl | rfl | rfl | rfl : i = 0 ∨ i = 1 ∨ i = 2 ∨ i = 3 ∨ i = 4 := by omega
      all_goals exact ⟨_, rfl, rfl, rfl, rfl⟩
    · intro i hi; obtain rfl | rfl | rfl | rfl | rfl : i = 0 ∨ i = 1 ∨ i = 2 ∨ i = 3 ∨ i = 4 := by omega
      all_goals exact ⟨_, rfl, rfl, rfl, rfl⟩
    · intro i hi; obtain rfl | rfl | rfl | rfl | rfl : i = 0 ∨ i = 1 ∨ i = 2 ∨ i = 3 ∨ i = 4 := by omega
      all_goals exact ⟨_, _, rfl, rfl, rfl, rfl⟩
    · intro i hi; obtain rfl | rfl | rfl | rfl | rfl : i = 0 ∨ i = 1 ∨ i = 2 ∨ i = 3 ∨ i = 4 := by omega
      all_goals exact ⟨_, rfl, rfl, rfl, rfl⟩
    · intro i hi; obtain rfl | rfl | rfl | rfl | rfl : i = 0 ∨ i = 1 ∨ i = 2 ∨ i = 3 ∨ i = 4 := by omega
      all_goals exact ⟨_, rfl, rfl, rfl, rfl⟩
    · intro i hi l hr; obtain rfl | rfl | rfl | rfl | rfl : i = 0 ∨ i = 1 ∨ i = 2 ∨ i = 3 ∨ i = 4 := by omega
      · exact ⟨dep_of hr rfl (by kernel_rfl), dep_of hr rfl (by kernel_rfl), fun j hj => by omega⟩
      · refine ⟨dep_of hr rfl (by kernel_rfl), dep_of hr rfl (by kernel_rfl), fun j hj => ?_⟩
        obtain rfl : j = 0 := by omega
        exact dep_of hr rfl (by kernel_rfl)
      · refine ⟨dep_of hr rfl (by kernel_rfl), dep_of hr rfl (by kernel_rfl), fun j hj => ?_⟩
        obtain rfl : j = 1 := by omega
        exact dep_of hr rfl (by kernel_rfl)
      · refine ⟨dep_of hr rfl (by kernel_rfl), dep_of hr rfl (by kernel_rfl), fun j hj => ?_⟩
        obtain rfl : j = 2 := by omega
        exact dep_of hr rfl (by kernel_rfl)
      · refine ⟨dep_of hr rfl (by kernel_rfl), dep_of hr rfl (by kernel_rfl), fun j hj => ?_⟩
        obtain rfl : j = 3 := by omega
        exact dep_of hr rfl (by kernel_rfl)
    · intro i hi l hr; obtain rfl | rfl | rfl | rfl | rfl : i = 0 ∨ i = 1 ∨ i = 2 ∨ i = 3 ∨ i = 4 := by omega
      all_goals exact ⟨dep_of hr rfl (by kernel_rfl), dep_of hr rfl (by kernel_rfl)⟩
    · intro i hi l hu; obtain rfl | rfl | rfl | rfl | rfl : i = 0 ∨ i = 1 ∨ i = 2 ∨ i = 3 ∨ i = 4 := by omega
      all_goals exact ready_of (m := 0) hu rfl (by kernel_rfl) (fun j hj => by omega)
    · intro i hi l hu; obtain rfl | rfl | rfl | rfl | rfl : i = 0 ∨ i = 1 ∨ i = 2 ∨ i = 3 ∨ i = 4 := by omega
      all_goals exact ready_of (m := 0) hu rfl (by kernel_rfl) (fun j hj => by omega)
    · intro i hi l hu hp; obtain rfl | rfl | rfl | rfl | rfl : i = 0 ∨ i = 1 ∨ i = 2 ∨ i = 3 ∨ i = 4 := by omega
      · exact ready_of (m := 2) hu rfl (by kernel_rfl) hp
      · exact ready_of (m := 5) hu rfl (by kernel_rfl) hp
      · exact ready_of (m := 8) hu rfl (by kernel_rfl) hp
      · exact ready_of (m := 11) hu rfl (by kernel_rfl) hp
      · exact ready_of (m := 14) hu rfl (by kernel_rfl) hp
    · intro i hi l hu; obtain rfl | rfl | rfl | rfl | rfl : i = 0 ∨ i = 1 ∨ i = 2 ∨ i = 3 ∨ i = 4 := by omega
      all_goals exact ready_of (m := 0) hu rfl (by kernel_rfl) (fun j hj => by omega)
    · intro i hi l hu hp; obtain rfl | rfl | rfl | rfl | rfl : i = 0 ∨ i = 1 ∨ i = 2 ∨ i = 3 ∨ i = 4 := by omega
      · exact ready_of (m := 20) hu rfl (by kernel_rfl) hp
      · exact ready_of (m := 21) hu rfl (by kernel_rfl) hp
      · exact ready_of (m := 22) hu rfl (by kernel_rfl) hp
      · exact ready_of (m := 23) hu rfl (by kernel_rfl) hp
      · exact ready_of (m := 24) hu rfl (by kernel_rfl) hp
  case rest =>
    intro T bb w1 hout hin hE1 k1
    have e0 : T 0 = .pointer (some ⟨g, 0, none⟩) := hout 0 (by omega)
    have e1 : T 1 = .pointer (some ⟨b0, 0, none⟩) := hout 1 (by omega)
    have e2 : T 2 = .pointer (some ⟨b1, 0, none⟩) := hout 2 (by omega)
    have e3 : T 3 = .pointer (some ⟨b2, 0, none⟩) := hout 3 (by omega)
    have e4 : T 4 = .pointer (some ⟨b3, 0, none⟩) := hout 4 (by omega)
    have e5 : T 5 = .pointer (some ⟨b4, 0, none⟩) := hout 5 (by omega)
    have e6 : T 6 = undef := hout 6 (by omega)
    have e7 : T 7 = .int .i64 0 := hout 7 (by omega)
    have e8 : T 8 = .pointer (some ⟨bb 0, 0, none⟩) := (hin 0 (by omega)).2.2.2.1
    have e9 : T 9 = .pointer (some ⟨bb 1, 0, none⟩) := (hin 1 (by omega)).2.2.2.1
    have e10 : T 10 = .pointer (some ⟨bb 2, 0, none⟩) := (hin 2 (by omega)).2.2.2.1
    have e11 : T 11 = .pointer (some ⟨bb 3, 0, none⟩) := (hin 3 (by omega)).2.2.2.1
    have e12 : T 12 = .pointer (some ⟨bb 4, 0, none⟩) := (hin 4 (by omega)).2.2.2.1
    have e13 : T 13 = .pointer (some ⟨g, 0, none⟩) := (hin 0 (by omega)).1
    have e14 : T 14 = .string a := (hin 0 (by omega)).2.1
    have e15 : T 15 = .agg #[.string n1, .string p1] := (hin 0 (by omega)).2.2.1
    have e16 : T 16 = .pointer (some ⟨g, 0, none⟩) := (hin 1 (by omega)).1
    have e17 : T 17 = .string b := (hin 1 (by omega)).2.1
    have e18 : T 18 = .agg #[.string n2, .string p2] := (hin 1 (by omega)).2.2.1
    have e19 : T 19 = .pointer (some ⟨g, 0, none⟩) := (hin 2 (by omega)).1
    have e20 : T 20 = .string c := (hin 2 (by omega)).2.1
    have e21 : T 21 = .agg #[.string n3, .string p3] := (hin 2 (by omega)).2.2.1
    have e22 : T 22 = .pointer (some ⟨g, 0, none⟩) := (hin 3 (by omega)).1
    have e23 : T 23 = .string d := (hin 3 (by omega)).2.1
    have e24 : T 24 = .agg #[.string n4, .string p4] := (hin 3 (by omega)).2.2.1
    have e25 : T 25 = .pointer (some ⟨g, 0, none⟩) := (hin 4 (by omega)).1
    have e26 : T 26 = .string f := (hin 4 (by omega)).2.1
    have e27 : T 27 = .agg #[.string n5, .string p5] := (hin 4 (by omega)).2.2.1
    have e28 : T 28 = undef := hout 28 (by omega)
    have e29 : T 29 = undef := hout 29 (by omega)
    have e30 : T 30 = undef := hout 30 (by omega)
    have e31 : T 31 = undef := hout 31 (by omega)
    have e32 : T 32 = undef := hout 32 (by omega)
    have e33 : T 33 = undef := hout 33 (by omega)
    have e34 : T 34 = undef := hout 34 (by omega)
    have e35 : T 35 = undef := hout 35 (by omega)
    have e36 : T 36 = undef := hout 36 (by omega)
    have e37 : T 37 = undef := hout 37 (by omega)
    have e38 : T 38 = undef := hout 38 (by omega)
    have e39 : T 39 = undef := hout 39 (by omega)
    have e40 : T 40 = undef := hout 40 (by omega)
    have X0 : FrB w1 (bb 0) n1 p1 := (hin 0 (by omega)).2.2.2.2.2
    have L0 : w.heap.size ≤ bb 0 := (hin 0 (by omega)).2.2.2.2.1
    have X1 : FrB w1 (bb 1) n2 p2 := (hin 1 (by omega)).2.2.2.2.2
    have L1 : w.heap.size ≤ bb 1 := (hin 1 (by omega)).2.2.2.2.1
    have X2 : FrB w1 (bb 2) n3 p3 := (hin 2 (by omega)).2.2.2.2.2
    have L2 : w.heap.size ≤ bb 2 := (hin 2 (by omega)).2.2.2.2.1
    have X3 : FrB w1 (bb 3) n4 p4 := (hin 3 (by omega)).2.2.2.2.2
    have L3 : w.heap.size ≤ bb 3 := (hin 3 (by omega)).2.2.2.2.1
    have X4 : FrB w1 (bb 4) n5 p5 := (hin 4 (by omega)).2.2.2.2.2
    have L4 : w.heap.size ≤ bb 4 := (hin 4 (by omega)).2.2.2.2.1
    have hE1' : KE w1 g (kp (kp (kp (kp (kp 0 E1) E2) E3) E4) E5) := hE1
    generalize bb 0 = x0 at *
    generalize bb 1 = x1 at *
    generalize bb 2 = x2 at *
    generalize bb 3 = x3 at *
    generalize bb 4 = x4 at *
    rw [frame_41, e0, e1, e2, e3, e4, e5, e6, e7, e8, e9, e10, e11, e12, e13, e14, e15, e16, e17, e18, e19, e20, e21, e22, e23, e24, e25, e26, e27, e28, e29, e30, e31, e32, e33, e34, e35, e36, e37, e38, e39, e40]

    clear e0 e1 e2 e3 e4 e5 e6 e7 e8 e9 e10 e11 e12 e13 e14 e15 e16 e17 e18 e19 e20 e21 e22 e23 e24 e25 e26 e27 e28 e29 e30 e31 e32 e33 e34 e35 e36 e37 e38 e39 e40 hout hin hE1
    have c00 := X0.c0
    have c01 := X0.c1
    have c10 := X1.c0
    have c11 := X1.c1
    have c20 := X2.c0
    have c21 := X2.c1
    have c30 := X3.c0
    have c31 := X3.c1
    have c40 := X4.c0
    have c41 := X4.c1
    go_wp2_with fail
    with_reducible refine (q1.out _ _ hE1').mono ?_
    rintro x w2 ⟨rfl, hE2, k2⟩
    have Y0 := X0.kept k2 (nmem_one (by omega))
    have d00 := Y0.c0
    have d01 := Y0.c1
    clear c00 c01
    have Y1 := X1.kept k2 (nmem_one (by omega))
    have d10 := Y1.c0
    have d11 := Y1.c1
    clear c10 c11
    have Y2 := X2.kept k2 (nmem_one (by omega))
    have d20 := Y2.c0
    have d21 := Y2.c1
    clear c20 c21
    have Y3 := X3.kept k2 (nmem_one (by omega))
    have d30 := Y3.c0
    have d31 := Y3.c1
    clear c30 c31
    have Y4 := X4.kept k2 (nmem_one (by omega))
    have d40 := Y4.c0
    have d41 := Y4.c1
    clear c40 c41
    have hs2 := k2.size
    go_wp2_with fail
    with_reducible refine (q2.out _ _ hE2).mono ?_
    rintro x w3 ⟨rfl, hE3, k3⟩
    have Z0 := Y0.kept k3 (nmem_one (by omega))
    have f00 := Z0.c0
    have f01 := Z0.c1
    clear d00 d01
    have Z1 := Y1.kept k3 (nmem_one (by omega))
    have f10 := Z1.c0
    have f11 := Z1.c1
    clear d10 d11
    have Z2 := Y2.kept k3 (nmem_one (by omega))
    have f20 := Z2.c0
    have f21 := Z2.c1
    clear d20 d21
    have Z3 := Y3.kept k3 (nmem_one (by omega))
    have f30 := Z3.c0
    have f31 := Z3.c1
    clear d30 d31
    have Z4 := Y4.kept k3 (nmem_one (by omega))
    have f40 := Z4.c0
    have f41 := Z4.c1
    clear d40 d41
    go_wp2_with fail
    with_reducible refine (q3.out _ _ hE3).mono ?_
    rintro x w4 ⟨rfl, hE4, k4⟩
    have kk := ((k1.trans k2).trans k3).trans k4
    go_wp2
    go_ret
    exact ⟨rfl, by rw [ee.out]; simpa only [kp_assoc, kp_zero] using hE4, kk⟩

set_option maxRecDepth 100000 in
set_option maxHeartbeats 1000000 in
theorem qSignRoots_any (a b c d f : ByteArray) (w : World) (ha : a.size ≤ 9223372036854775807) (hb : b.size ≤ 9223372036854775807) (hc : c.size ≤ 9223372036854775807) (hd : d.size ≤ 9223372036854775807) (hf : f.size ≤ 9223372036854775807) :
    Calls Tryz.prog 47 #[.string a, .string b, .string c, .string d, .string f] w fun x w' => x = .returned (.tuple #[.int .i64 (qSsV a b c d f), .int .i64 (qSsE a b c d f)]) ∧ Kp [] w w' := by
  have s0 := ((((StB.made w a).alloc (.cells #[.string b] 22 (0, 0))).alloc (.cells #[.string c] 22 (0, 0))).alloc (.cells #[.string d] 22 (0, 0))).alloc (.cells #[.string f] 22 (0, 0))
  have s1 := (((StB.made (w.alloc (.cells #[.string a] 22 (0, 0))) b).alloc (.cells #[.string c] 22 (0, 0))).alloc (.cells #[.string d] 22 (0, 0))).alloc (.cells #[.string f] 22 (0, 0))
  have s2 := ((StB.made ((w.alloc (.cells #[.string a] 22 (0, 0))).alloc (.cells #[.string b] 22 (0, 0))) c).alloc (.cells #[.string d] 22 (0, 0))).alloc (.cells #[.string f] 22 (0, 0))
  have s3 := (StB.made (((w.alloc (.cells #[.string a] 22 (0, 0))).alloc (.cells #[.string b] 22 (0, 0))).alloc (.cells #[.string c] 22 (0, 0))) d).alloc (.cells #[.string f] 22 (0, 0))
  have s4 := StB.made ((((w.alloc (.cells #[.string a] 22 (0, 0))).alloc (.cells #[.string b] 22 (0, 0))).alloc (.cells #[.string c] 22 (0, 0))).alloc (.cells #[.string d] 22 (0, 0))) f
  simp only [World.size_alloc] at s1 s2 s3 s4
  have k0 : Kp [] w (((((w.alloc (.cells #[.string a] 22 (0, 0))).alloc (.cells #[.string b] 22 (0, 0))).alloc (.cells #[.string c] 22 (0, 0))).alloc (.cells #[.string d] 22 (0, 0))).alloc (.cells #[.string f] 22 (0, 0))) := (((((Kp.refl _ _).alloc _).alloc _).alloc _).alloc _).alloc _
  have q1 := Lib.hid (decision5 102 w.heap.size (w.heap.size + 1) (w.heap.size + 2) (w.heap.size + 3) (w.heap.size + 4) (rsV (cN a) (cD a) (cN b) (cD b) (cN c) (cD c) (cN d) (cD d) (cN f) (cD f)) (qSsE a b c d f) (((((w.alloc (.cells #[.string a] 22 (0, 0))).alloc (.cells #[.string b] 22 (0, 0))).alloc (.cells #[.string c] 22 (0, 0))).alloc (.cells #[.string d] 22 (0, 0))).alloc (.cells #[.string f] 22 (0, 0))) (enters_of Tryz.func102 (by kernel_rfl) rfl)
    (fun W g hE hg hk => by
      have hg' : w.heap.size + 5 ≤ g := by simpa using hg
      exact signRoots_in g _ _ _ _ _ a b c d f W hE ha hb hc hd hf (s0.kept hk (by simp)) (s1.kept hk (by simp)) (s2.kept hk (by simp)) (s3.kept hk (by simp)) (s4.kept hk (by simp)) (by omega) (by omega) (by omega) (by omega) (by omega)))
  have e0 : Hid (qSsV a b c d f = if qSsE a b c d f = 0 then rsV (cN a) (cD a) (cN b) (cD b) (cN c) (cD c) (cN d) (cD d) (cN f) (cD f) else 0) := rfl
  rw [← e0.out] at q1
  generalize qSsV a b c d f = V at *
  generalize qSsE a b c d f = E at *
  go_enter Tryz.func47, Tryz.ntmps47
  go_wp2_with fail
  with_reducible refine q1.out.mono ?_
  rintro x w1 ⟨rfl, k1⟩
  have kk := k0.trans k1
  go_wp2
  go_ret2
  exact ⟨rfl, kk⟩
end Go.Proofs.YtminjcknmhgpiaaGreatDoor
