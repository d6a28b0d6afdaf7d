/- Texts Vec1, Vec2, Vec3: each says in its own first comment what it proves. -/
import Derived.Test.YtegamkilhgekjaaGreatDoorM46
import Derived.Test.YtegamkilhgekjaaGreatDoorM29
import Derived.Test.YtegamkilhgekjaaGreatDoorM35
/- Points of package vector: Check, result, minus, dot, cross. -/
namespace Go.Proofs.YtegamkilhgekjaaGreatDoor
open Go.RowKit
open Go.Lib (nDigits itoa decDigits)

/-- a block that holds a point -/
def PtB (w : World) (b : Nat) (x y : Int) : Prop := w.heap[b]? = some (.cells #[.int .i64 x, .int .i64 y] 49 (0, 0))
section
variable {w w' : World} {b : Nat} {x y : Int} {L : List Nat}
theorem PtB.lt (h : PtB w b x y) : b < w.heap.size := (Array.getElem?_eq_some_iff.1 h).1
theorem PtB.c0 (h : PtB w b x y) : w.cell? ⟨b, 0, none⟩ = some (.int .i64 x) := by unfold PtB at h; simp [World.cell?, h]
theorem PtB.c1 (h : PtB w b x y) : w.cell? ⟨b, 1, none⟩ = some (.int .i64 y) := by unfold PtB at h; simp [World.cell?, h]
theorem PtB.f (h : PtB w b x y) (i : Nat) : w.frozen? ⟨b, i, none⟩ = false := by unfold PtB at h; simp [World.frozen?, h]
theorem PtB.kept (h : PtB w b x y) (k : Kp L w w') (hb : b ∉ L) : PtB w' b x y := (k.block b h.lt hb).trans h
theorem PtB.alloc (h : PtB w b x y) (o : Obj) : PtB (w.alloc o) b x y := (Below.heap_alloc w o b h.lt).trans h
theorem PtB.made (w : World) (x y : Int) : PtB (w.alloc (.cells #[.int .i64 x, .int .i64 y] 49 (0, 0))) w.heap.size x y := heap_alloc_new w _
theorem PtB.set2 (h : PtB w b x y) (u v : Int) : PtB ((w.setCell ⟨b, 0, none⟩ (.int .i64 u)).setCell ⟨b, 1, none⟩ (.int .i64 v)) b u v := by
  unfold PtB at *; simp [World.setCell, Array.getElem?_modify, h]
end
theorem mul_bd {a b : Int} {M N : Nat} (ha : a.natAbs ≤ M) (hb : b.natAbs ≤ N) : (a * b).natAbs ≤ M * N := by
  rw [Int.natAbs_mul]; exact Nat.mul_le_mul ha hb
/-- a coordinate in its range -/
def inB (z : Int) : Bool := decide (-100000 ≤ z) && decide (z ≤ 100000)
def inP (p : Int × Int) : Bool := inB p.1 && inB p.2
theorem inB_iff (z : Int) : inB z = true ↔ -100000 ≤ z ∧ z ≤ 100000 := by unfold inB; simp
set_option maxRecDepth 100000 in
theorem vright (z : Int) (w : World) : Calls Tryz.prog 71 #[.int .i64 z] w fun e w' => e = .returned (.bool (inB z)) ∧ Kp [] w w' := by
  by_cases h1 : -100000 ≤ z
  · by_cases h2 : z ≤ 100000
    · rw [(inB_iff z).2 ⟨h1, h2⟩]
      go_enter Tryz.func71, Tryz.ntmps71
      go_wp2
      go_ret
      exact ⟨rfl, Kp.refl _ _⟩
    · have e : inB z = false := by unfold inB; rw [decide_eq_false h2, Bool.and_false]
      rw [e]
      go_enter Tryz.func71, Tryz.ntmps71
      go_wp2
      go_ret
      exact ⟨rfl, Kp.refl _ _⟩
  · have e : inB z = false := by unfold inB; rw [decide_eq_false h1, Bool.false_and]
    rw [e]
    go_enter Tryz.func71, Tryz.ntmps71
    go_wp2
    go_ret
    exact ⟨rfl, Kp.refl _ _⟩
set_option maxRecDepth 100000 in
theorem vcheck1 (x y : Int) (w : World) : Calls Tryz.prog 70 #[.agg #[.int .i64 x, .int .i64 y]] w fun e w' => e = .returned (.bool (inP (x, y))) ∧ Kp [] w w' := by
  have s := PtB.made w x y
  have k0 : Kp [] w (w.alloc (.cells #[.int .i64 x, .int .i64 y] 49 (0, 0))) := (Kp.refl _ _).alloc _
  have c0 := s.c0
  have q1 := Lib.hid (vright x)
  have q2 := Lib.hid (vright y)
  have e : inP (x, y) = (inB x && inB y) := rfl
  rw [e]
  cases h1 : inB x with
  | false =>
    rw [h1] at q1
    clear s q2 h1 e
    go_enter Tryz.func70, Tryz.ntmps70
    go_wp2_with fail
    with_reducible refine (q1.out _).mono ?_
    rintro e w1 ⟨rfl, k⟩
    go_wp2
    go_ret
    exact ⟨rfl, k0.trans k⟩
  | true =>
    rw [h1] at q1
    generalize inB y = b at *
    clear h1 e
    go_enter Tryz.func70, Tryz.ntmps70
    go_wp2_with fail
    with_reducible refine (q1.out _).mono ?_
    rintro e w1 ⟨rfl, k⟩
    have c1 := (s.kept k (by simp)).c1
    have kk := k0.trans k
    clear s k c0 k0
    go_wp2_with fail
    with_reducible refine (q2.out _).mono ?_
    rintro e w2 ⟨rfl, k⟩
    go_wp2
    go_ret
    exact ⟨rfl, kk.trans k⟩
/-- points in a slice -/
def Pts (w : World) (g o : Nat) (ps : List (Int × Int)) : Prop := ∀ i (h : i < ps.length), w.cell? ⟨g, o + i * 2, none⟩ = some (.int .i64 ps[i].1) ∧ w.cell? ⟨g, o + i * 2 + 1, none⟩ = some (.int .i64 ps[i].2)
theorem Pts.kp {w W : World} {g o : Nat} {ps : List (Int × Int)} (h : Pts w g o ps) (hg : g < w.heap.size) (k : Kp [] w W) : Pts W g o ps := fun i hi => by
  have e : ∀ n, W.cell? ⟨g, n, none⟩ = w.cell? ⟨g, n, none⟩ := fun n => by
    unfold World.cell?
    simp only [k.block g hg (by simp)]
  rw [e, e]
  exact h i hi
/-- the error of a list of points -/
def ckP (ps : List (Int × Int)) : Int := if 64 < ps.length then 5 else if ps.all inP = true then 0 else 2
set_option maxRecDepth 100000 in
set_option maxHeartbeats 4000000 in
theorem vcheckL (g o c : Nat) (p : Option Addr) (ps : List (Int × Int)) (w : World) (hs : Pts w g o ps) (hp : 0 < ps.length → p = some ⟨g, o, none⟩ ∧ g < w.heap.size) (hn : ps.length ≤ 9223372036854775807) :
    Calls Tryz.prog 69 #[.slice p ps.length c, .func (.func 70) #[] #[]] w fun e w' => e = .returned (.int .i64 (ckP ps)) ∧ Kp [] w w' := by
  have hn1 : (ps.length : Int) ≤ 9223372036854775807 := by omega
  by_cases h64 : 64 < ps.length
  · have h64' : (64 : Int) < (ps.length : Int) := by omega
    have e : ckP ps = 5 := if_pos h64
    rw [e]
    clear hs hp e
    generalize ps.length = n at *
    go_enter Tryz.func69, Tryz.ntmps69
    go_wp2
    go_ret
    exact ⟨rfl, Kp.refl _ _⟩
  have h64' : ¬ (64 : Int) < (ps.length : Int) := by omega
  have hR : ckP ps = if ps.all inP = true then 0 else 2 := if_neg h64
  generalize ckP ps = R at *
  have HR := Lib.hid hR
  have he : ∀ args w, (callFunc 70 args).run Tryz.prog w = .ok (.enter 70 args) w := enters_of Tryz.func70 (by kernel_rfl) rfl
  clear hR
  go_enter Tryz.func69, Tryz.ntmps69
  go_wp2
  go_loopg [12] ps.length (fun gk s12 wr => ∃ k : Nat, s12 = .int .i64 k ∧ k + gk = ps.length ∧ (∀ j (_ : j < k) (h : j < ps.length), inP ps[j] = true) ∧ Kp [] w wr)
  case atStart => exact ⟨0, rfl, by omega, fun j hj => by omega, Kp.refl _ _⟩
  case round =>
    obtain ⟨k, rfl, hk, hb, kk⟩ := hrel
    by_cases hlt : k < ps.length
    · obtain ⟨rfl, hg⟩ := hp (by omega)
      obtain ⟨c0, c1⟩ := hs.kp hg kk k hlt
      have hlt' : (k : Int) < (ps.length : Int) := by omega
      have hz1 : 0 ≤ (k : Int) := by omega
      have Hb := Lib.hid hb
      have Hk := Lib.hid hk
      have HL := Lib.hid hlt
      have s := PtB.made wr ps[k].1 ps[k].2
      have a0 := s.c0
      have a1 := s.c1
      have f0 := s.f 0
      have f1 := s.f 1
      have ka := kk.alloc (.cells #[.int .i64 ps[k].1, .int .i64 ps[k].2] 49 (0, 0))
      cases hc : inP (ps[k].1, ps[k].2) with
      | false =>
        have hq : Hid (∀ W : World, Calls Tryz.prog 70 #[.agg #[.int .i64 ps[k].1, .int .i64 ps[k].2]] W fun e w' => e = .returned (.bool false) ∧ Kp [] W w') := fun W => by
          have := vcheck1 ps[k].1 ps[k].2 W
          rwa [hc] at this
        have hv : R = 2 := by
          rw [HR.out, if_neg]
          intro h
          have := List.all_eq_true.1 h _ (List.getElem_mem hlt)
          rw [show ps[k] = (ps[k].1, ps[k].2) from rfl, hc] at this
          cases this
        have HV := Lib.hid hv
        clear s hs hb hk hp hc hv Hb
        generalize ps[k].1 = x at *
        generalize ps[k].2 = y at *
        clear hlt
        go_wp2_with (go_at_fn 70; refine (hq.out _).mono ?_; rintro e w' ⟨rfl, k2⟩)
        go_wp2
        go_ret
        exact ⟨by rw [HV.out]; rfl, ka.trans k2⟩
      | true =>
        have hq : Hid (∀ W : World, Calls Tryz.prog 70 #[.agg #[.int .i64 ps[k].1, .int .i64 ps[k].2]] W fun e w' => e = .returned (.bool true) ∧ Kp [] W w') := fun W => by
          have := vcheck1 ps[k].1 ps[k].2 W
          rwa [hc] at this
        have HC : Hid (inP (ps[k].1, ps[k].2) = true) := hc
        clear s hs hb hk hp hc
        generalize hx : ps[k].1 = x at *
        generalize hy : ps[k].2 = y at *
        have HX := Lib.hid hx
        have HY := Lib.hid hy
        clear hx hy hlt
        go_wp2_with (go_at_fn 70; refine (hq.out _).mono ?_; rintro e w' ⟨rfl, k2⟩)
        go_wp2
        have hk := Hk.out
        have hlt := HL.out
        go_roundg (gk - 1)
        case measure => omega
        case rel =>
          refine ⟨k + 1, by go_num, by omega, fun j hj h => ?_, ka.trans k2⟩
          by_cases ejk : j = k
          · subst ejk
            have hc := HC.out
            rw [← HX.out, ← HY.out] at hc
            exact hc
          · exact Hb.out j (by omega) h
    · have hlt' : ¬ (k : Int) < (ps.length : Int) := by omega
      have hv : R = 0 := by
        rw [HR.out, if_pos]
        exact List.all_eq_true.2 fun p hm => by obtain ⟨j, hj, rfl⟩ := List.getElem_of_mem hm; exact hb j (by omega) hj
      have HV := Lib.hid hv
      clear hb hk hlt hs hp hv
      go_wp2
      go_ret
      exact ⟨by rw [HV.out]; rfl, kk⟩
set_option maxRecDepth 100000 in
theorem vCheck (g o c : Nat) (p : Option Addr) (ps : List (Int × Int)) (w : World) (hs : Pts w g o ps) (hp : 0 < ps.length → p = some ⟨g, o, none⟩ ∧ g < w.heap.size) (hn : ps.length ≤ 9223372036854775807) :
    Calls Tryz.prog 20 #[.slice p ps.length c] w fun e w' => e = .returned (.int .i64 (ckP ps)) ∧ Kp [] w w' := by
  have q := Lib.hid (vcheckL g o c p ps w hs hp hn)
  clear hs hp hn
  go_enter Tryz.func20, Tryz.ntmps20
  go_wp2_with fail
  with_reducible refine q.out.mono ?_
  rintro e w1 ⟨rfl, k⟩
  go_wp2
  go_ret
  exact ⟨rfl, k⟩
set_option maxRecDepth 100000 in
theorem vresult_0 (c : Nat) (caps : Array Value) (v : Int) (w : World) (he : ∀ args w, (callFunc c args).run Tryz.prog w = .ok (.enter c args) w) (q : Hid (Calls Tryz.prog c caps w fun e w' => e = .returned (.int .i64 v) ∧ Kp [] w w')) :
    Calls Tryz.prog 55 #[.int .i64 0, .func (.func c) #[] caps] w fun e w' => e = .returned (.tuple #[.int .i64 v, .int .i64 0]) ∧ Kp [] w w' := by
  go_enter Tryz.func55, Tryz.ntmps55
  go_wp2_with (go_at_fn c; refine q.out.mono ?_; rintro x w1 ⟨rfl, k⟩)
  go_wp2
  go_ret2
  exact ⟨rfl, k⟩
set_option maxRecDepth 100000 in
theorem vresult_e (f : Value) (e : Int) (w : World) (he : (e != 0) = true) :
    Calls Tryz.prog 55 #[.int .i64 e, f] w fun r w' => r = .returned (.tuple #[.int .i64 0, .int .i64 e]) ∧ Kp [] w w' := by
  have k0 : Kp [] w (w.alloc (.cells #[.int .i64 0] 3 (0, 0))) := (Kp.refl _ _).alloc _
  go_enter Tryz.func55, Tryz.ntmps55
  go_wp2
  go_ret2
  exact ⟨rfl, k0⟩

set_option maxRecDepth 100000 in
set_option maxHeartbeats 4000000 in
theorem vminus (ax ay bx yb : Int) (w : World) (h1 : ax.natAbs ≤ 1000000) (h2 : ay.natAbs ≤ 1000000) (h3 : bx.natAbs ≤ 1000000) (h4 : yb.natAbs ≤ 1000000) :
    Calls Tryz.prog 62 #[.agg #[.int .i64 ax, .int .i64 ay], .agg #[.int .i64 bx, .int .i64 yb]] w fun e w' => e = .returned (.agg #[.int .i64 (ax - bx), .int .i64 (ay - yb)]) ∧ Kp [] w w' := by
  have b1 : -1000000 ≤ ax ∧ ax ≤ 1000000 := by omega
  have b2 : -1000000 ≤ ay ∧ ay ≤ 1000000 := by omega
  have b3 : -1000000 ≤ bx ∧ bx ≤ 1000000 := by omega
  have b4 : -1000000 ≤ yb ∧ yb ≤ 1000000 := by omega
  obtain ⟨b11, b12⟩ := b1
  obtain ⟨b21, b22⟩ := b2
  obtain ⟨b31, b32⟩ := b3
  obtain ⟨b41, b42⟩ := b4
  clear h1 h2 h3 h4
  have s0 := (PtB.made w ax ay).alloc (.cells #[.int .i64 bx, .int .i64 yb] 49 (0, 0))
  have s1 := PtB.made (w.alloc (.cells #[.int .i64 ax, .int .i64 ay] 49 (0, 0))) bx yb
  simp only [World.size_alloc] at s1
  have c0 := (s0.alloc (.cells #[.int .i64 0, .int .i64 0] 49 (0, 0))).c0
  have c1 := (s0.alloc (.cells #[.int .i64 0, .int .i64 0] 49 (0, 0))).c1
  have d0 := (s1.alloc (.cells #[.int .i64 0, .int .i64 0] 49 (0, 0))).c0
  have d1 := (s1.alloc (.cells #[.int .i64 0, .int .i64 0] 49 (0, 0))).c1
  have kk : Kp [] w (((w.alloc (.cells #[.int .i64 ax, .int .i64 ay] 49 (0, 0))).alloc (.cells #[.int .i64 bx, .int .i64 yb] 49 (0, 0))).alloc (.cells #[.int .i64 (ax - bx), .int .i64 (ay - yb)] 49 (0, 0))) := (((Kp.refl [] w).alloc _).alloc _).alloc _
  clear s0 s1
  go_enter Tryz.func62, Tryz.ntmps62
  go_wp2
  refine bodyPost_ret (v := .agg #[.int .i64 (ax - bx), .int .i64 (ay - yb)]) (by simp [results, Tryz.results62, go_sem]) rfl ?_
  exact ⟨rfl, kk⟩

set_option maxRecDepth 100000 in
set_option maxHeartbeats 4000000 in
theorem vdot (ax ay bx yb : Int) (w : World) (h1 : ax.natAbs ≤ 1000000) (h2 : ay.natAbs ≤ 1000000) (h3 : bx.natAbs ≤ 1000000) (h4 : yb.natAbs ≤ 1000000) :
    Calls Tryz.prog 82 #[.agg #[.int .i64 ax, .int .i64 ay], .agg #[.int .i64 bx, .int .i64 yb]] w fun e w' => e = .returned (.int .i64 (ax * bx + ay * yb)) ∧ Kp [] w w' := by
  have m1 := mul_bd h1 h3
  have m2 := mul_bd h2 h4
  have b1 : -1000000000000 ≤ ax * bx ∧ ax * bx ≤ 1000000000000 := by omega
  have b2 : -1000000000000 ≤ ay * yb ∧ ay * yb ≤ 1000000000000 := by omega
  obtain ⟨b11, b12⟩ := b1
  obtain ⟨b21, b22⟩ := b2
  have kk : Kp [] w ((w.alloc (.cells #[.int .i64 ax, .int .i64 ay] 49 (0, 0))).alloc (.cells #[.int .i64 bx, .int .i64 yb] 49 (0, 0))) := ((Kp.refl _ _).alloc _).alloc _
  clear h1 h2 h3 h4 m1 m2
  have s0 := (PtB.made w ax ay).alloc (.cells #[.int .i64 bx, .int .i64 yb] 49 (0, 0))
  have s1 := PtB.made (w.alloc (.cells #[.int .i64 ax, .int .i64 ay] 49 (0, 0))) bx yb
  simp only [World.size_alloc] at s1
  have c0 := s0.c0
  have c1 := s0.c1
  have d0 := s1.c0
  have d1 := s1.c1
  clear s0 s1
  go_enter Tryz.func82, Tryz.ntmps82
  go_wp2
  go_ret
  exact ⟨rfl, kk⟩

set_option maxRecDepth 100000 in
set_option maxHeartbeats 4000000 in
theorem vcross (ax ay bx yb : Int) (w : World) (h1 : ax.natAbs ≤ 1000000) (h2 : ay.natAbs ≤ 1000000) (h3 : bx.natAbs ≤ 1000000) (h4 : yb.natAbs ≤ 1000000) :
    Calls Tryz.prog 58 #[.agg #[.int .i64 ax, .int .i64 ay], .agg #[.int .i64 bx, .int .i64 yb]] w fun e w' => e = .returned (.int .i64 (ax * yb - ay * bx)) ∧ Kp [] w w' := by
  have m1 := mul_bd h1 h4
  have m2 := mul_bd h2 h3
  have b1 : -1000000000000 ≤ ax * yb ∧ ax * yb ≤ 1000000000000 := by omega
  have b2 : -1000000000000 ≤ ay * bx ∧ ay * bx ≤ 1000000000000 := by omega
  obtain ⟨b11, b12⟩ := b1
  obtain ⟨b21, b22⟩ := b2
  have kk : Kp [] w ((w.alloc (.cells #[.int .i64 ax, .int .i64 ay] 49 (0, 0))).alloc (.cells #[.int .i64 bx, .int .i64 yb] 49 (0, 0))) := ((Kp.refl _ _).alloc _).alloc _
  clear h1 h2 h3 h4 m1 m2
  have s0 := (PtB.made w ax ay).alloc (.cells #[.int .i64 bx, .int .i64 yb] 49 (0, 0))
  have s1 := PtB.made (w.alloc (.cells #[.int .i64 ax, .int .i64 ay] 49 (0, 0))) bx yb
  simp only [World.size_alloc] at s1
  have c0 := s0.c0
  have c1 := s0.c1
  have d0 := s1.c0
  have d1 := s1.c1
  clear s0 s1
  go_enter Tryz.func58, Tryz.ntmps58
  go_wp2
  go_ret
  exact ⟨rfl, kk⟩

end Go.Proofs.YtegamkilhgekjaaGreatDoor

/- Closures of Dot, Cross, Square of package vector. -/
namespace Go.Proofs.YtegamkilhgekjaaGreatDoor
open Go.RowKit
open Go.Lib (nDigits itoa decDigits)

theorem new_cell {w : World} {b T : Nat} {cs : Array Value} (h : w.heap[b]? = some (.cells cs T (0, 0))) (n : Nat) : w.cell? ⟨b, n, none⟩ = cs[n]? := by simp [World.cell?, h]
theorem wpList_step {P : Program} {w w' : World} {ops : Array Oper} {rest : List Oper} {o : Oper} {a : Act} {v : Value} {Q : Exit → Act → World → Prop} (hgd : o.guard = none) (hrun : (execOp a.eval o).run P w = .ok (.value v) w')
    (h : wpList P ops Q rest (a.put o.dst v) w') : wpList P ops Q (o :: rest) a w := by
  refine wpList_plain hgd fun K hK => ?_
  unfold Oper.wp
  rw [hrun]
  exact hK _ _ h
theorem wpList_stepN {P : Program} {w w' : World} {ops : Array Oper} {rest : List Oper} {o : Oper} {a a' : Act} {v : Value} {Q : Exit → Act → World → Prop} (hgd : o.guard = none) (hrun : (execOp a.eval o).run P w = .ok (.value v) w') (hput : a.put o.dst v = a')
    (h : wpList P ops Q rest a' w') : wpList P ops Q (o :: rest) a w := wpList_step hgd hrun (hput ▸ h)
theorem op_bsP2 {a : Act} {w : World} {o : Oper} {x y : Operand} {u0 u1 v0 v1 : Int} (h : o.op = .buildSlice 22 2 #[(0, x), (1, y)]) (hx : a.eval x = .agg #[.int .i64 u0, .int .i64 u1]) (hy : a.eval y = .agg #[.int .i64 v0, .int .i64 v1]) :
    (execOp a.eval o).run Tryz.prog w = .ok (.value (.slice (some ⟨w.heap.size, 0, none⟩) 2 2)) (w.alloc (.cells #[.int .i64 u0, .int .i64 u1, .int .i64 v0, .int .i64 v1] 49 (0, 0))) := by
  generalize a.eval = r at *
  simp [execOp, h, hx, hy, go_sem]
theorem op_bsP3 {a : Act} {w : World} {o : Oper} {x y z : Operand} {u0 u1 v0 v1 t0 t1 : Int} (h : o.op = .buildSlice 22 3 #[(0, x), (1, y), (2, z)]) (hx : a.eval x = .agg #[.int .i64 u0, .int .i64 u1]) (hy : a.eval y = .agg #[.int .i64 v0, .int .i64 v1]) (hz : a.eval z = .agg #[.int .i64 t0, .int .i64 t1]) :
    (execOp a.eval o).run Tryz.prog w = .ok (.value (.slice (some ⟨w.heap.size, 0, none⟩) 3 3)) (w.alloc (.cells #[.int .i64 u0, .int .i64 u1, .int .i64 v0, .int .i64 v1, .int .i64 t0, .int .i64 t1] 49 (0, 0))) := by
  generalize a.eval = r at *
  simp [execOp, h, hx, hy, hz, go_sem]

theorem op_ldP {a : Act} {w : World} {o : Oper} {x : Operand} {b : Nat} {u v : Int} (h : o.op = .load 49 x) (hx : a.eval x = .pointer (some ⟨b, 0, none⟩)) (hb : PtB w b u v) :
    (execOp a.eval o).run Tryz.prog w = .ok (.value (.agg #[.int .i64 u, .int .i64 v])) w := by
  have c0 := hb.c0
  have c1 := hb.c1
  generalize a.eval = r at *
  simp [execOp, h, hx, go_sem, c0, c1]

set_option maxRecDepth 100000 in
set_option maxHeartbeats 4000000 in
theorem vsquare_core (ax ay bx yb dx dy v : Int) (w : World) (qm : Hid (∀ W : World, Calls Tryz.prog 62 #[.agg #[.int .i64 bx, .int .i64 yb], .agg #[.int .i64 ax, .int .i64 ay]] W fun e w' => e = .returned (.agg #[.int .i64 dx, .int .i64 dy]) ∧ Kp [] W w')) (qd : Hid (∀ W : World, Calls Tryz.prog 82 #[.agg #[.int .i64 dx, .int .i64 dy], .agg #[.int .i64 dx, .int .i64 dy]] W fun e w' => e = .returned (.int .i64 v) ∧ Kp [] W w')) :
    Calls Tryz.prog 91 #[.agg #[.int .i64 ax, .int .i64 ay], .agg #[.int .i64 bx, .int .i64 yb]] w fun e w' => e = .returned (.int .i64 v) ∧ Kp [] w w' := by
  have s0 := (PtB.made w ax ay).alloc (.cells #[.int .i64 bx, .int .i64 yb] 49 (0, 0))
  have s1 := PtB.made (w.alloc (.cells #[.int .i64 ax, .int .i64 ay] 49 (0, 0))) bx yb
  simp only [World.size_alloc] at s1
  have c0 := s0.c0
  have c1 := s0.c1
  have d0 := s1.c0
  have d1 := s1.c1
  have k0 : Kp [] w ((w.alloc (.cells #[.int .i64 ax, .int .i64 ay] 49 (0, 0))).alloc (.cells #[.int .i64 bx, .int .i64 yb] 49 (0, 0))) := ((Kp.refl _ _).alloc _).alloc _
  clear s0 s1
  go_enter Tryz.func91, Tryz.ntmps91
  go_wp2_with fail
  with_reducible refine (qm.out _).mono ?_
  rintro e w1 ⟨rfl, k⟩
  have kk := k0.trans k
  have s2 := PtB.made w1 dx dy
  have e0 := s2.c0
  have e1 := s2.c1
  have f0 := s2.f 0
  have f1 := s2.f 1
  replace kk := kk.alloc (.cells #[.int .i64 dx, .int .i64 dy] 49 (0, 0))
  clear k s2 c0 c1 d0 d1 k0
  go_wp2_with fail
  with_reducible refine (qd.out _).mono ?_
  rintro e w2 ⟨rfl, k⟩
  go_wp2
  go_ret
  exact ⟨rfl, kk.trans k⟩

set_option maxRecDepth 100000 in
set_option maxHeartbeats 4000000 in
theorem vDot_in (ba bb : Nat) (ax ay bx yb v : Int) (w : World) (ha : PtB w ba ax ay) (hb : PtB w bb bx yb) (q : Hid (∀ W : World, Calls Tryz.prog 82 #[.agg #[.int .i64 ax, .int .i64 ay], .agg #[.int .i64 bx, .int .i64 yb]] W fun e w' => e = .returned (.int .i64 v) ∧ Kp [] W w')) :
    Calls Tryz.prog 81 #[.pointer (some ⟨ba, 0, none⟩), .pointer (some ⟨bb, 0, none⟩)] w fun e w' => e = .returned (.int .i64 v) ∧ Kp [] w w' := by
  have c0 := ha.c0
  have c1 := ha.c1
  have d0 := hb.c0
  have d1 := hb.c1
  clear ha hb
  go_enter Tryz.func81, Tryz.ntmps81
  go_wp2_with fail
  with_reducible refine (q.out _).mono ?_
  rintro e w1 ⟨rfl, k⟩
  go_wp2
  go_ret
  exact ⟨rfl, k⟩

def vcr1_s : RSt := ⟨8, 11, 3, fun i => ([4, 5, 6, 7, 8, 9, 10, 3] : List Nat).getD i 0, fun i => ([0, 0, 1, 0, 0, 1, 1, 0] : List Nat).getD i 0, fun i => ([0, 0, 0, 0, 0, 1, 2, 0] : List Nat).getD i 0, fun i => ([8, 8, 8, 7, 0, 1, 2, 3, 4, 5, 6, 8] : List Nat).getD i 8, fun i => ([2, 5, 6] : List Nat).getD i 0, fun _ => false, fun _ => true, fun _ => 0, fun _ => false⟩
def vcr1_y : RSy := ⟨vcr1_s, fun i => ([.at 3, .at 4, .at 5, .at 6, .at 4, .at 7, .at 8, .at 8] : List SV).getD i .un, [(0, .at 0), (1, .at 1), (2, .at 2)], fun i => ([false, false, true, false, false, true, true, false] : List Bool).getD i false⟩
def vcr1_ca : List (Nat × Nat × List SV) := [(2, 62, [.at 3, .at 4]), (5, 62, [.at 6, .at 4]), (6, 58, [.at 5, .at 7])]
theorem vcr1_ok : reflOk (opsOf 1 Tryz.f85) vcr1_y [0, 1, 3, 4] vcr1_ca [] [] = true := by kernel_rfl

set_option maxRecDepth 100000 in
set_option maxHeartbeats 4000000 in
theorem vCross_in (ba bb bc : Nat) (ax ay bx yb cx yc ux uy vx vy v : Int) (w : World) (ha : PtB w.drew ba ax ay) (hb : PtB w.drew bb bx yb) (hc : PtB w.drew bc cx yc)
    (q1 : Hid (∀ W : World, Calls Tryz.prog 62 #[.agg #[.int .i64 bx, .int .i64 yb], .agg #[.int .i64 ax, .int .i64 ay]] W fun e w' => e = .returned (.agg #[.int .i64 ux, .int .i64 uy]) ∧ Kp [] W w'))
    (q2 : Hid (∀ W : World, Calls Tryz.prog 62 #[.agg #[.int .i64 cx, .int .i64 yc], .agg #[.int .i64 ax, .int .i64 ay]] W fun e w' => e = .returned (.agg #[.int .i64 vx, .int .i64 vy]) ∧ Kp [] W w'))
    (q3 : Hid (∀ W : World, Calls Tryz.prog 58 #[.agg #[.int .i64 ux, .int .i64 uy], .agg #[.int .i64 vx, .int .i64 vy]] W fun e w' => e = .returned (.int .i64 v) ∧ Kp [] W w')) :
    Calls Tryz.prog 85 #[.pointer (some ⟨bb, 0, none⟩), .pointer (some ⟨ba, 0, none⟩), .pointer (some ⟨bc, 0, none⟩)] w fun e w' => e = .returned (.int .i64 v) ∧ Kp [] w w' := by
  go_enter Tryz.func85, Tryz.ntmps85
  go_wp2_with fail
  rw [frame_lit]
  refine reg_refl vcr1_y (fun k => ([.pointer (some ⟨bb, 0, none⟩), .pointer (some ⟨ba, 0, none⟩), .pointer (some ⟨bc, 0, none⟩), .agg #[.int .i64 bx, .int .i64 yb], .agg #[.int .i64 ax, .int .i64 ay], .agg #[.int .i64 ux, .int .i64 uy], .agg #[.int .i64 cx, .int .i64 yc], .agg #[.int .i64 vx, .int .i64 vy], .int .i64 v] : List Value).getD k undef) [] (fun _ _ _ => True) (opsOf 1 Tryz.f85) [0, 1, 3, 4] vcr1_ca [] [] (by kernel_rfl) (by kernel_rfl) vcr1_ok ⟨rfl, rfl, rfl, trivial⟩ ?sp ?ca ?cx (by decide) ?fr (fun _ _ _ _ h _ => h) ?rest
  case sp =>
    refine ⟨?_, ?_, ?_, ?_, trivial⟩
    · intro T wz H o ho; have he : o.op = .load 49 (.tmp 0) := Option.some.inj ((congrArg (fun z => z.map Oper.op) ho).symm.trans (show ((opsOf 1 Tryz.f85)[0]?).map Oper.op = some (.load 49 (.tmp 0)) by kernel_rfl)); exact op_ldP he (H.ev (.tmp 0) (.at 0) (by kernel_rfl)) (PtB.kept (L := []) (w := w.drew) hb H.kp (by simp))
    · intro T wz H o ho; have he : o.op = .load 49 (.tmp 1) := Option.some.inj ((congrArg (fun z => z.map Oper.op) ho).symm.trans (show ((opsOf 1 Tryz.f85)[1]?).map Oper.op = some (.load 49 (.tmp 1)) by kernel_rfl)); exact op_ldP he (H.ev (.tmp 1) (.at 1) (by kernel_rfl)) (PtB.kept (L := []) (w := w.drew) ha H.kp (by simp))
    · intro T wz H o ho; have he : o.op = .load 49 (.tmp 2) := Option.some.inj ((congrArg (fun z => z.map Oper.op) ho).symm.trans (show ((opsOf 1 Tryz.f85)[3]?).map Oper.op = some (.load 49 (.tmp 2)) by kernel_rfl)); exact op_ldP he (H.ev (.tmp 2) (.at 2) (by kernel_rfl)) (PtB.kept (L := []) (w := w.drew) hc H.kp (by simp))
    · intro T wz H o ho; have he : o.op = .load 49 (.tmp 1) := Option.some.inj ((congrArg (fun z => z.map Oper.op) ho).symm.trans (show ((opsOf 1 Tryz.f85)[4]?).map Oper.op = some (.load 49 (.tmp 1)) by kernel_rfl)); exact op_ldP he (H.ev (.tmp 1) (.at 1) (by kernel_rfl)) (PtB.kept (L := []) (w := w.drew) ha H.kp (by simp))
  case ca =>
    refine ⟨?_, ?_, ?_, trivial⟩
    · exact ⟨(enters_of Tryz.func62 (by kernel_rfl) rfl), fun wz hk => (q1.out wz).mono fun x w2 ⟨h1, h2⟩ => ⟨_, h1, h2, fun _ => rfl⟩⟩
    · exact ⟨(enters_of Tryz.func62 (by kernel_rfl) rfl), fun wz hk => (q2.out wz).mono fun x w2 ⟨h1, h2⟩ => ⟨_, h1, h2, fun _ => rfl⟩⟩
    · exact ⟨(enters_of Tryz.func58 (by kernel_rfl) rfl), fun wz hk => (q3.out wz).mono fun x w2 ⟨h1, h2⟩ => ⟨_, h1, h2, fun _ => rfl⟩⟩
  case cx =>
    exact trivial
  case fr =>
    exact trivial
  case rest =>
    intro T w3 hout hval k hF
    rw [show frameOf vcr1_y.st.N T = (⟨#[T 0, T 1, T 2, T 3, T 4, T 5, T 6, T 7, T 8, T 9, T 10], []⟩ : Act) from frame_list 11 T]
    rw [show T 3 = .int .i64 v from hval 7 (by decide : 7 < 8) (.inl rfl)]
    clear hout hval hF ha hb hc q1 q2 q3
    go_wp2
    go_ret
    exact ⟨rfl, k⟩

end Go.Proofs.YtegamkilhgekjaaGreatDoor

/- Dot, Cross, Square of package vector. -/
namespace Go.Proofs.YtegamkilhgekjaaGreatDoor
open Go.RowKit
open Go.Lib (nDigits itoa decDigits)

set_option maxRecDepth 100000 in
set_option maxHeartbeats 4000000 in
theorem vDot (ax ay bx yb v : Int) (w : World) (q : ckP [(ax, ay), (bx, yb)] = 0 → Hid (∀ W : World, Calls Tryz.prog 82 #[.agg #[.int .i64 ax, .int .i64 ay], .agg #[.int .i64 bx, .int .i64 yb]] W fun e w' => e = .returned (.int .i64 v) ∧ Kp [] W w')) :
    Calls Tryz.prog 28 #[.agg #[.int .i64 ax, .int .i64 ay], .agg #[.int .i64 bx, .int .i64 yb]] w fun e w' => e = .returned (.tuple #[.int .i64 (if ckP [(ax, ay), (bx, yb)] = 0 then v else 0), .int .i64 (if ckP [(ax, ay), (bx, yb)] = 0 then 0 else ckP [(ax, ay), (bx, yb)])]) ∧ Kp [] w w' := by
  have sa0 := PtB.made w ax ay
  have sa : PtB ((w.alloc (.cells #[.int .i64 ax, .int .i64 ay] 49 (0, 0))).alloc (.cells #[.int .i64 bx, .int .i64 yb] 49 (0, 0))) (w.heap.size) ax ay := (sa0).alloc (.cells #[.int .i64 bx, .int .i64 yb] 49 (0, 0))
  have sb0 := PtB.made (w.alloc (.cells #[.int .i64 ax, .int .i64 ay] 49 (0, 0))) bx yb
  simp only [World.size_alloc] at sb0
  have sb : PtB ((w.alloc (.cells #[.int .i64 ax, .int .i64 ay] 49 (0, 0))).alloc (.cells #[.int .i64 bx, .int .i64 yb] 49 (0, 0))) (w.heap.size + 1) bx yb := sb0
  have k0 : Kp [] w ((w.alloc (.cells #[.int .i64 ax, .int .i64 ay] 49 (0, 0))).alloc (.cells #[.int .i64 bx, .int .i64 yb] 49 (0, 0))) := ((Kp.refl _ _).alloc _).alloc _
  generalize hW : ((w.alloc (.cells #[.int .i64 ax, .int .i64 ay] 49 (0, 0))).alloc (.cells #[.int .i64 bx, .int .i64 yb] 49 (0, 0))) = W0 at *
  have hsz : w.heap.size + 2 = W0.heap.size := by rw [← hW]; simp
  have xa0 := sa.c0
  have xa1 := sa.c1
  have xb0 := sb.c0
  have xb1 := sb.c1
  have hP : Pts (W0.alloc (.cells #[.int .i64 ax, .int .i64 ay, .int .i64 bx, .int .i64 yb] 49 (0, 0))) W0.heap.size 0 [(ax, ay), (bx, yb)] := by
    have hN := heap_alloc_new W0 (.cells #[.int .i64 ax, .int .i64 ay, .int .i64 bx, .int .i64 yb] 49 (0, 0))
    intro i hi
    rcases i with _ | _ | i
    · exact ⟨(new_cell hN _).trans rfl, (new_cell hN _).trans rfl⟩
    · exact ⟨(new_cell hN _).trans rfl, (new_cell hN _).trans rfl⟩
    · exact absurd hi (by simp)
  have qc := Lib.hid (vCheck W0.heap.size 0 2 (some ⟨W0.heap.size, 0, none⟩) [(ax, ay), (bx, yb)] _ hP (fun _ => ⟨rfl, by simp⟩) (by simp))
  simp only [List.length_cons, List.length_nil, Nat.zero_add, Nat.reduceAdd] at qc
  replace sa := sa.alloc (.cells #[.int .i64 ax, .int .i64 ay, .int .i64 bx, .int .i64 yb] 49 (0, 0))
  replace sb := sb.alloc (.cells #[.int .i64 ax, .int .i64 ay, .int .i64 bx, .int .i64 yb] 49 (0, 0))
  have k1 := k0.alloc (.cells #[.int .i64 ax, .int .i64 ay, .int .i64 bx, .int .i64 yb] 49 (0, 0))
  clear k0 hP sa0 sb0
  by_cases hck : ckP [(ax, ay), (bx, yb)] = 0
  · rw [if_pos hck, if_pos hck]
    rw [hck] at qc
    subst hW
    clear hsz
    simp only [World.size_alloc] at qc
    go_enter Tryz.func28, Tryz.ntmps28
    go_wp2_with (refine wpList_stepN rfl (op_bsP2 rfl rfl rfl) (by simp only [Act.put, World.size_alloc, List.setIfInBounds_toArray, List.set_cons_succ, List.set_cons_zero]; rfl) ?_)
    go_wp2_with fail
    with_reducible refine qc.out.mono ?_
    rintro e w1 ⟨rfl, k⟩
    replace sa := sa.kept k (by simp)
    replace sb := sb.kept k (by simp)
    have kk := k1.trans k
    clear k qc k1 xa0 xa1 xb0 xb1
    have qr := Lib.hid (vresult_0 81 #[.pointer (some ⟨w.heap.size, 0, none⟩), .pointer (some ⟨w.heap.size + 1, 0, none⟩)] _ w1 (enters_of Tryz.func81 (by kernel_rfl) rfl) (vDot_in _ _ _ _ _ _ _ w1 sa sb (q hck)))
    go_wp2_with fail
    with_reducible refine qr.out.mono ?_
    rintro e w2 ⟨rfl, k⟩
    go_wp2
    go_ret2
    exact ⟨rfl, kk.trans k⟩
  · rw [if_neg hck, if_neg hck]
    subst hW
    clear hsz
    simp only [World.size_alloc] at qc
    have hne : (ckP [(ax, ay), (bx, yb)] != 0) = true := bne_iff_ne.2 hck
    generalize ckP [(ax, ay), (bx, yb)] = E at *
    go_enter Tryz.func28, Tryz.ntmps28
    go_wp2_with (refine wpList_stepN rfl (op_bsP2 rfl rfl rfl) (by simp only [Act.put, World.size_alloc, List.setIfInBounds_toArray, List.set_cons_succ, List.set_cons_zero]; rfl) ?_)
    go_wp2_with fail
    with_reducible refine qc.out.mono ?_
    rintro e w1 ⟨rfl, k⟩
    have kk := k1.trans k
    have qr := Lib.hid (vresult_e (.func (.func 81) #[] #[.pointer (some ⟨w.heap.size, 0, none⟩), .pointer (some ⟨w.heap.size + 1, 0, none⟩)]) E w1 hne)
    clear k qc k1 xa0 xa1 sa xb0 xb1 sb
    go_wp2_with fail
    with_reducible refine qr.out.mono ?_
    rintro e w2 ⟨rfl, k⟩
    go_wp2
    go_ret2
    exact ⟨rfl, kk.trans k⟩

set_option maxRecDepth 100000 in
set_option maxHeartbeats 4000000 in
theorem vCross (ax ay bx yb cx yc v : Int) (w : World) (q : ckP [(ax, ay), (bx, yb), (cx, yc)] = 0 → ∀ (ba bb bc : Nat) (W : World), PtB W ba ax ay → PtB W bb bx yb → PtB W bc cx yc → Hid (Calls Tryz.prog 85 #[.pointer (some ⟨bb, 0, none⟩), .pointer (some ⟨ba, 0, none⟩), .pointer (some ⟨bc, 0, none⟩)] W fun e w' => e = .returned (.int .i64 v) ∧ Kp [] W w')) :
    Calls Tryz.prog 30 #[.agg #[.int .i64 ax, .int .i64 ay], .agg #[.int .i64 bx, .int .i64 yb], .agg #[.int .i64 cx, .int .i64 yc]] w fun e w' => e = .returned (.tuple #[.int .i64 (if ckP [(ax, ay), (bx, yb), (cx, yc)] = 0 then v else 0), .int .i64 (if ckP [(ax, ay), (bx, yb), (cx, yc)] = 0 then 0 else ckP [(ax, ay), (bx, yb), (cx, yc)])]) ∧ Kp [] w w' := by
  have sa0 := PtB.made w ax ay
  have sa : PtB (((w.alloc (.cells #[.int .i64 ax, .int .i64 ay] 49 (0, 0))).alloc (.cells #[.int .i64 bx, .int .i64 yb] 49 (0, 0))).alloc (.cells #[.int .i64 cx, .int .i64 yc] 49 (0, 0))) (w.heap.size) ax ay := ((sa0).alloc (.cells #[.int .i64 bx, .int .i64 yb] 49 (0, 0))).alloc (.cells #[.int .i64 cx, .int .i64 yc] 49 (0, 0))
  have sb0 := PtB.made (w.alloc (.cells #[.int .i64 ax, .int .i64 ay] 49 (0, 0))) bx yb
  simp only [World.size_alloc] at sb0
  have sb : PtB (((w.alloc (.cells #[.int .i64 ax, .int .i64 ay] 49 (0, 0))).alloc (.cells #[.int .i64 bx, .int .i64 yb] 49 (0, 0))).alloc (.cells #[.int .i64 cx, .int .i64 yc] 49 (0, 0))) (w.heap.size + 1) bx yb := (sb0).alloc (.cells #[.int .i64 cx, .int .i64 yc] 49 (0, 0))
  have sc0 := PtB.made ((w.alloc (.cells #[.int .i64 ax, .int .i64 ay] 49 (0, 0))).alloc (.cells #[.int .i64 bx, .int .i64 yb] 49 (0, 0))) cx yc
  simp only [World.size_alloc] at sc0
  have sc : PtB (((w.alloc (.cells #[.int .i64 ax, .int .i64 ay] 49 (0, 0))).alloc (.cells #[.int .i64 bx, .int .i64 yb] 49 (0, 0))).alloc (.cells #[.int .i64 cx, .int .i64 yc] 49 (0, 0))) (w.heap.size + 2) cx yc := sc0
  have k0 : Kp [] w (((w.alloc (.cells #[.int .i64 ax, .int .i64 ay] 49 (0, 0))).alloc (.cells #[.int .i64 bx, .int .i64 yb] 49 (0, 0))).alloc (.cells #[.int .i64 cx, .int .i64 yc] 49 (0, 0))) := (((Kp.refl _ _).alloc _).alloc _).alloc _
  generalize hW : (((w.alloc (.cells #[.int .i64 ax, .int .i64 ay] 49 (0, 0))).alloc (.cells #[.int .i64 bx, .int .i64 yb] 49 (0, 0))).alloc (.cells #[.int .i64 cx, .int .i64 yc] 49 (0, 0))) = W0 at *
  have hsz : w.heap.size + 3 = W0.heap.size := by rw [← hW]; simp
  have xa0 := sa.c0
  have xa1 := sa.c1
  have xb0 := sb.c0
  have xb1 := sb.c1
  have xc0 := sc.c0
  have xc1 := sc.c1
  have hP : Pts (W0.alloc (.cells #[.int .i64 ax, .int .i64 ay, .int .i64 bx, .int .i64 yb, .int .i64 cx, .int .i64 yc] 49 (0, 0))) W0.heap.size 0 [(ax, ay), (bx, yb), (cx, yc)] := by
    have hN := heap_alloc_new W0 (.cells #[.int .i64 ax, .int .i64 ay, .int .i64 bx, .int .i64 yb, .int .i64 cx, .int .i64 yc] 49 (0, 0))
    intro i hi
    rcases i with _ | _ | _ | i
    · exact ⟨(new_cell hN _).trans rfl, (new_cell hN _).trans rfl⟩
    · exact ⟨(new_cell hN _).trans rfl, (new_cell hN _).trans rfl⟩
    · exact ⟨(new_cell hN _).trans rfl, (new_cell hN _).trans rfl⟩
    · exact absurd hi (by simp)
  have qc := Lib.hid (vCheck W0.heap.size 0 3 (some ⟨W0.heap.size, 0, none⟩) [(ax, ay), (bx, yb), (cx, yc)] _ hP (fun _ => ⟨rfl, by simp⟩) (by simp))
  simp only [List.length_cons, List.length_nil, Nat.zero_add, Nat.reduceAdd] at qc
  replace sa := sa.alloc (.cells #[.int .i64 ax, .int .i64 ay, .int .i64 bx, .int .i64 yb, .int .i64 cx, .int .i64 yc] 49 (0, 0))
  replace sb := sb.alloc (.cells #[.int .i64 ax, .int .i64 ay, .int .i64 bx, .int .i64 yb, .int .i64 cx, .int .i64 yc] 49 (0, 0))
  replace sc := sc.alloc (.cells #[.int .i64 ax, .int .i64 ay, .int .i64 bx, .int .i64 yb, .int .i64 cx, .int .i64 yc] 49 (0, 0))
  have k1 := k0.alloc (.cells #[.int .i64 ax, .int .i64 ay, .int .i64 bx, .int .i64 yb, .int .i64 cx, .int .i64 yc] 49 (0, 0))
  clear k0 hP sa0 sb0 sc0
  by_cases hck : ckP [(ax, ay), (bx, yb), (cx, yc)] = 0
  · rw [if_pos hck, if_pos hck]
    rw [hck] at qc
    subst hW
    clear hsz
    simp only [World.size_alloc] at qc
    go_enter Tryz.func30, Tryz.ntmps30
    go_wp2_with (refine wpList_stepN rfl (op_bsP3 rfl rfl rfl rfl) (by simp only [Act.put, World.size_alloc, List.setIfInBounds_toArray, List.set_cons_succ, List.set_cons_zero]; rfl) ?_)
    go_wp2_with fail
    with_reducible refine qc.out.mono ?_
    rintro e w1 ⟨rfl, k⟩
    replace sa := sa.kept k (by simp)
    replace sb := sb.kept k (by simp)
    replace sc := sc.kept k (by simp)
    have kk := k1.trans k
    clear k qc k1 xa0 xa1 xb0 xb1 xc0 xc1
    have qr := Lib.hid (vresult_0 85 #[.pointer (some ⟨w.heap.size + 1, 0, none⟩), .pointer (some ⟨w.heap.size, 0, none⟩), .pointer (some ⟨w.heap.size + 2, 0, none⟩)] _ w1 (enters_of Tryz.func85 (by kernel_rfl) rfl) (q hck _ _ _ w1 sa sb sc))
    go_wp2_with fail
    with_reducible refine qr.out.mono ?_
    rintro e w2 ⟨rfl, k⟩
    go_wp2
    go_ret2
    exact ⟨rfl, kk.trans k⟩
  · rw [if_neg hck, if_neg hck]
    subst hW
    clear hsz
    simp only [World.size_alloc] at qc
    have hne : (ckP [(ax, ay), (bx, yb), (cx, yc)] != 0) = true := bne_iff_ne.2 hck
    generalize ckP [(ax, ay), (bx, yb), (cx, yc)] = E at *
    go_enter Tryz.func30, Tryz.ntmps30
    go_wp2_with (refine wpList_stepN rfl (op_bsP3 rfl rfl rfl rfl) (by simp only [Act.put, World.size_alloc, List.setIfInBounds_toArray, List.set_cons_succ, List.set_cons_zero]; rfl) ?_)
    go_wp2_with fail
    with_reducible refine qc.out.mono ?_
    rintro e w1 ⟨rfl, k⟩
    have kk := k1.trans k
    have qr := Lib.hid (vresult_e (.func (.func 85) #[] #[.pointer (some ⟨w.heap.size + 1, 0, none⟩), .pointer (some ⟨w.heap.size, 0, none⟩), .pointer (some ⟨w.heap.size + 2, 0, none⟩)]) E w1 hne)
    clear k qc k1 xa0 xa1 sa xb0 xb1 sb xc0 xc1 sc
    go_wp2_with fail
    with_reducible refine qr.out.mono ?_
    rintro e w2 ⟨rfl, k⟩
    go_wp2
    go_ret2
    exact ⟨rfl, kk.trans k⟩

end Go.Proofs.YtegamkilhgekjaaGreatDoor
