/- Texts Sp1, Sp2: each says in its own first comment what it proves. -/
import Derived.Test.YtegamkilhgekjaaGreatDoorM55
/- Places in space: Check, between, dotSpace, crossSpace. -/
namespace Go.Proofs.YtegamkilhgekjaaGreatDoor
open Go.RowKit
open Go.Lib (nDigits itoa decDigits)

/-- a block that holds three numbers -/
def SpB (T : TypeId) (w : World) (b : Nat) (x y z : Int) : Prop := w.heap[b]? = some (.cells #[.int .i64 x, .int .i64 y, .int .i64 z] T (0, 0))
section
variable {T : TypeId} {w w' : World} {b : Nat} {x y z : Int} {L : List Nat}
theorem SpB.lt (h : SpB T w b x y z) : b < w.heap.size := (Array.getElem?_eq_some_iff.1 h).1
theorem SpB.c0 (h : SpB T w b x y z) : w.cell? ⟨b, 0, none⟩ = some (.int .i64 x) := by unfold SpB at h; simp [World.cell?, h]
theorem SpB.c1 (h : SpB T w b x y z) : w.cell? ⟨b, 1, none⟩ = some (.int .i64 y) := by unfold SpB at h; simp [World.cell?, h]
theorem SpB.c2 (h : SpB T w b x y z) : w.cell? ⟨b, 2, none⟩ = some (.int .i64 z) := by unfold SpB at h; simp [World.cell?, h]
theorem SpB.f (h : SpB T w b x y z) (i : Nat) : w.frozen? ⟨b, i, none⟩ = false := by unfold SpB at h; simp [World.frozen?, h]
theorem SpB.kept (h : SpB T w b x y z) (k : Kp L w w') (hb : b ∉ L) : SpB T w' b x y z := (k.block b h.lt hb).trans h
theorem SpB.alloc (h : SpB T w b x y z) (o : Obj) : SpB T (w.alloc o) b x y z := (Below.heap_alloc w o b h.lt).trans h
theorem SpB.set3 (h : SpB T w b x y z) (u v t : Int) : SpB T (((w.setCell ⟨b, 0, none⟩ (.int .i64 u)).setCell ⟨b, 1, none⟩ (.int .i64 v)).setCell ⟨b, 2, none⟩ (.int .i64 t)) b u v t := by
  unfold SpB at *; simp [World.setCell, Array.getElem?_modify, h]
theorem SpB.made (T : TypeId) (w : World) (x y z : Int) : SpB T (w.alloc (.cells #[.int .i64 x, .int .i64 y, .int .i64 z] T (0, 0))) w.heap.size x y z := heap_alloc_new w _
end
theorem kp_sp3 {w w' : World} {L : List Nat} {b : Nat} (k : Kp L w w') (hb : w.heap.size ≤ b) (x y z : Value) : Kp L w (((w'.setCell ⟨b, 0, none⟩ x).setCell ⟨b, 1, none⟩ y).setCell ⟨b, 2, none⟩ z) :=
  ((k.setCell (p := ⟨b, 0, none⟩) (.inr hb) x).setCell (p := ⟨b, 1, none⟩) (.inr hb) y).setCell (p := ⟨b, 2, none⟩) (.inr hb) z
/-- a place in space -/
structure P3 where
  x : Int
  y : Int
  z : Int
  deriving DecidableEq
def inS (p : P3) : Bool := inB p.x && inB p.y && inB p.z
/-- the error of a list of places -/
def ckS (ps : List P3) : Int := if 64 < ps.length then 5 else if ps.all inS = true then 0 else 2
/-- places in a slice -/
def Sps (w : World) (g o : Nat) (ps : List P3) : Prop := ∀ i (h : i < ps.length), w.cell? ⟨g, o + i * 3, none⟩ = some (.int .i64 ps[i].x) ∧ w.cell? ⟨g, o + i * 3 + 1, none⟩ = some (.int .i64 ps[i].y) ∧ w.cell? ⟨g, o + i * 3 + 2, none⟩ = some (.int .i64 ps[i].z)
theorem Sps.kp {w W : World} {g o : Nat} {ps : List P3} (h : Sps w g o ps) (hg : g < w.heap.size) (k : Kp [] w W) : Sps W g o ps := fun i hi => by
  have e : ∀ n, W.cell? ⟨g, n, none⟩ = w.cell? ⟨g, n, none⟩ := fun n => by
    unfold World.cell?
    simp only [k.block g hg (by simp)]
  rw [e, e, e]
  exact h i hi

set_option maxRecDepth 100000 in
set_option maxHeartbeats 4000000 in
theorem vspot1 (x y z : Int) (w : World) : Calls Tryz.prog 79 #[.agg #[.int .i64 x, .int .i64 y, .int .i64 z]] w fun e w' => e = .returned (.bool (inS ⟨x, y, z⟩)) ∧ Kp [] w w' := by
  have s := SpB.made 56 w x y z
  have k0 : Kp [] w (w.alloc (.cells #[.int .i64 x, .int .i64 y, .int .i64 z] 56 (0, 0))) := (Kp.refl _ _).alloc _
  have c0 := s.c0
  have q1 := Lib.hid (vright x)
  have q2 := Lib.hid (vright y)
  have q3 := Lib.hid (vright z)
  have e : inS ⟨x, y, z⟩ = (inB x && inB y && inB z) := rfl
  rw [e]
  have kk := k0
  clear k0
  cases h1 : inB x with
  | false =>
    rw [h1] at q1
    clear s q2 q3 h1 e
    go_enter Tryz.func79, Tryz.ntmps79
    go_wp2_with fail
    with_reducible refine (q1.out _).mono ?_
    rintro e w1 ⟨rfl, k⟩
    go_wp2
    go_ret
    exact ⟨rfl, kk.trans k⟩
  | true =>
    rw [h1] at q1
    cases h2 : inB y with
    | false =>
      rw [h2] at q2
      clear q3 h1 h2 e
      go_enter Tryz.func79, Tryz.ntmps79
      go_wp2_with fail
      with_reducible refine (q1.out _).mono ?_
      rintro e w1 ⟨rfl, k⟩
      replace s := s.kept k (by simp)
      have c1 := s.c1
      replace kk := kk.trans k
      clear k c0
      clear s
      go_wp2_with fail
      with_reducible refine (q2.out _).mono ?_
      rintro e w2 ⟨rfl, k⟩
      go_wp2
      go_ret
      exact ⟨rfl, kk.trans k⟩
    | true =>
      rw [h2] at q2
      generalize inB z = b at *
      clear h1 h2 e
      go_enter Tryz.func79, Tryz.ntmps79
      go_wp2_with fail
      with_reducible refine (q1.out _).mono ?_
      rintro e w1 ⟨rfl, k⟩
      replace s := s.kept k (by simp)
      have c1 := s.c1
      replace kk := kk.trans k
      clear k c0
      go_wp2_with fail
      with_reducible refine (q2.out _).mono ?_
      rintro e w2 ⟨rfl, k⟩
      replace s := s.kept k (by simp)
      have c2 := s.c2
      replace kk := kk.trans k
      clear k c1
      clear s
      go_wp2_with fail
      with_reducible refine (q3.out _).mono ?_
      rintro e w3 ⟨rfl, k⟩
      go_wp2
      go_ret
      exact ⟨rfl, kk.trans k⟩

set_option maxRecDepth 100000 in
set_option maxHeartbeats 4000000 in
theorem vcheckS (g o c : Nat) (p : Option Addr) (ps : List P3) (w : World) (hs : Sps w g o ps) (hp : 0 < ps.length → p = some ⟨g, o, none⟩ ∧ g < w.heap.size) (hn : ps.length ≤ 9223372036854775807) :
    Calls Tryz.prog 78 #[.slice p ps.length c, .func (.func 79) #[] #[]] w fun e w' => e = .returned (.int .i64 (ckS ps)) ∧ Kp [] w w' := by
  have hn1 : (ps.length : Int) ≤ 9223372036854775807 := by omega
  by_cases h64 : 64 < ps.length
  · have h64' : (64 : Int) < (ps.length : Int) := by omega
    have e : ckS ps = 5 := if_pos h64
    rw [e]
    clear hs hp e
    generalize ps.length = n at *
    go_enter Tryz.func78, Tryz.ntmps78
    go_wp2
    go_ret
    exact ⟨rfl, Kp.refl _ _⟩
  have h64' : ¬ (64 : Int) < (ps.length : Int) := by omega
  have hR : ckS ps = if ps.all inS = true then 0 else 2 := if_neg h64
  generalize ckS ps = R at *
  have HR := Lib.hid hR
  have he : ∀ args w, (callFunc 79 args).run Tryz.prog w = .ok (.enter 79 args) w := enters_of Tryz.func79 (by kernel_rfl) rfl
  clear hR
  go_enter Tryz.func78, Tryz.ntmps78
  go_wp2
  go_loopg [12] ps.length (fun gk s12 wr => ∃ k : Nat, s12 = .int .i64 k ∧ k + gk = ps.length ∧ (∀ j (_ : j < k) (h : j < ps.length), inS ps[j] = true) ∧ Kp [] w wr)
  case atStart => exact ⟨0, rfl, by omega, fun j hj => by omega, Kp.refl _ _⟩
  case round =>
    obtain ⟨k, rfl, hk, hb, kk⟩ := hrel
    by_cases hlt : k < ps.length
    · obtain ⟨rfl, hg⟩ := hp (by omega)
      obtain ⟨c0, c1, c2⟩ := hs.kp hg kk k hlt
      have hlt' : (k : Int) < (ps.length : Int) := by omega
      have hz1 : 0 ≤ (k : Int) := by omega
      have Hb := Lib.hid hb
      have Hk := Lib.hid hk
      have HL := Lib.hid hlt
      have s := SpB.made 56 wr ps[k].x ps[k].y ps[k].z
      have a0 := s.c0
      have a1 := s.c1
      have a2 := s.c2
      have f0 := s.f 0
      have f1 := s.f 1
      have f2 := s.f 2
      have ka := kk.alloc (.cells #[.int .i64 ps[k].x, .int .i64 ps[k].y, .int .i64 ps[k].z] 56 (0, 0))
      cases hc : inS ⟨ps[k].x, ps[k].y, ps[k].z⟩ with
      | false =>
        have hq : Hid (∀ W : World, Calls Tryz.prog 79 #[.agg #[.int .i64 ps[k].x, .int .i64 ps[k].y, .int .i64 ps[k].z]] W fun e w' => e = .returned (.bool false) ∧ Kp [] W w') := fun W => by
          have := vspot1 ps[k].x ps[k].y ps[k].z W
          rwa [hc] at this
        have hv : R = 2 := by
          rw [HR.out, if_neg]
          intro h
          have := List.all_eq_true.1 h _ (List.getElem_mem hlt)
          rw [show ps[k] = (⟨ps[k].x, ps[k].y, ps[k].z⟩ : P3) from rfl, hc] at this
          cases this
        have HV := Lib.hid hv
        clear s hs hb hk hp hc hv Hb
        generalize ps[k].x = x at *
        generalize ps[k].y = y at *
        generalize ps[k].z = z at *
        clear hlt
        go_wp2_with (go_at_fn 79; refine (hq.out _).mono ?_; rintro e w' ⟨rfl, k2⟩)
        go_wp2
        go_ret
        exact ⟨by rw [HV.out]; rfl, ka.trans k2⟩
      | true =>
        have hq : Hid (∀ W : World, Calls Tryz.prog 79 #[.agg #[.int .i64 ps[k].x, .int .i64 ps[k].y, .int .i64 ps[k].z]] W fun e w' => e = .returned (.bool true) ∧ Kp [] W w') := fun W => by
          have := vspot1 ps[k].x ps[k].y ps[k].z W
          rwa [hc] at this
        have HC : Hid (inS ⟨ps[k].x, ps[k].y, ps[k].z⟩ = true) := hc
        clear s hs hb hk hp hc
        generalize hx : ps[k].x = x at *
        generalize hy : ps[k].y = y at *
        generalize hz : ps[k].z = z at *
        have HX := Lib.hid hx
        have HY := Lib.hid hy
        have HZ := Lib.hid hz
        clear hx hy hz hlt
        go_wp2_with (go_at_fn 79; refine (hq.out _).mono ?_; rintro e w' ⟨rfl, k2⟩)
        go_wp2
        have hk := Hk.out
        have hlt := HL.out
        go_roundg (gk - 1)
        case measure => omega
        case rel =>
          refine ⟨k + 1, by go_num, by omega, fun j hj h => ?_, ka.trans k2⟩
          by_cases ejk : j = k
          · subst ejk
            have hc := HC.out
            rw [← HX.out, ← HY.out, ← HZ.out] at hc
            exact hc
          · exact Hb.out j (by omega) h
    · have hlt' : ¬ (k : Int) < (ps.length : Int) := by omega
      have hv : R = 0 := by
        rw [HR.out, if_pos]
        exact List.all_eq_true.2 fun p hm => by obtain ⟨j, hj, rfl⟩ := List.getElem_of_mem hm; exact hb j (by omega) hj
      have HV := Lib.hid hv
      clear hb hk hlt hs hp hv
      go_wp2
      go_ret
      exact ⟨by rw [HV.out]; rfl, kk⟩
set_option maxRecDepth 100000 in
theorem vCheckSpots (g o c : Nat) (p : Option Addr) (ps : List P3) (w : World) (hs : Sps w g o ps) (hp : 0 < ps.length → p = some ⟨g, o, none⟩ ∧ g < w.heap.size) (hn : ps.length ≤ 9223372036854775807) :
    Calls Tryz.prog 26 #[.slice p ps.length c] w fun e w' => e = .returned (.int .i64 (ckS ps)) ∧ Kp [] w w' := by
  have q := Lib.hid (vcheckS g o c p ps w hs hp hn)
  clear hs hp hn
  go_enter Tryz.func26, Tryz.ntmps26
  go_wp2_with fail
  with_reducible refine q.out.mono ?_
  rintro e w1 ⟨rfl, k⟩
  go_wp2
  go_ret
  exact ⟨rfl, k⟩

set_option maxRecDepth 100000 in
theorem vresult3_0 (c : Nat) (caps : Array Value) (x y z : Int) (w : World) (he : ∀ args w, (callFunc c args).run Tryz.prog w = .ok (.enter c args) w) (q : Hid (∀ W : World, Kp [] w W → Calls Tryz.prog c caps W fun e w' => e = .returned (.agg #[.int .i64 x, .int .i64 y, .int .i64 z]) ∧ Kp [] W w')) :
    Calls Tryz.prog 93 #[.int .i64 0, .func (.func c) #[] caps] w fun e w' => e = .returned (.tuple #[.agg #[.int .i64 x, .int .i64 y, .int .i64 z], .int .i64 0]) ∧ Kp [] w w' := by
  have k0 : Kp [] w (w.alloc (.cells #[.int .i64 0, .int .i64 0, .int .i64 0] 58 (0, 0))) := (Kp.refl _ _).alloc _
  have q' := Lib.hid (q.out _ k0)
  go_enter Tryz.func93, Tryz.ntmps93
  go_wp2_with (go_at_fn c; refine q'.out.mono ?_; rintro e w1 ⟨rfl, k⟩; have s := (SpB.made 58 w 0 0 0).kept k (by simp); have f0 := s.f 0; have f1 := s.f 1; have f2 := s.f 2; have c0 := s.c0; have c1 := s.c1; have c2 := s.c2; have s2 := s.set3 x y z; have e0 := s2.c0; have e1 := s2.c1; have e2 := s2.c2; have kk := kp_sp3 (k0.trans k) (b := w.heap.size) (Nat.le_refl _) (.int .i64 x) (.int .i64 y) (.int .i64 z))
  go_wp2
  refine bodyPost_ret (v := .tuple #[.agg #[.int .i64 x, .int .i64 y, .int .i64 z], .int .i64 0]) (by simp [results, Tryz.results93, go_sem, e0, e1, e2]) rfl ?_
  exact ⟨rfl, kk⟩

set_option maxRecDepth 100000 in
set_option maxHeartbeats 4000000 in
theorem vbetween (ax ay az bx yb bz : Int) (w : World) (hax : ax.natAbs ≤ 1000000) (hay : ay.natAbs ≤ 1000000) (haz : az.natAbs ≤ 1000000) (hbx : bx.natAbs ≤ 1000000) (hyb : yb.natAbs ≤ 1000000) (hbz : bz.natAbs ≤ 1000000) :
    Calls Tryz.prog 74 #[.agg #[.int .i64 ax, .int .i64 ay, .int .i64 az], .agg #[.int .i64 bx, .int .i64 yb, .int .i64 bz]] w fun e w' => e = .returned (.agg #[.int .i64 (bx - ax), .int .i64 (yb - ay), .int .i64 (bz - az)]) ∧ Kp [] w w' := by
  have bax : -1000000 ≤ ax ∧ ax ≤ 1000000 := by omega
  have bay : -1000000 ≤ ay ∧ ay ≤ 1000000 := by omega
  have baz : -1000000 ≤ az ∧ az ≤ 1000000 := by omega
  have bbx : -1000000 ≤ bx ∧ bx ≤ 1000000 := by omega
  have byb : -1000000 ≤ yb ∧ yb ≤ 1000000 := by omega
  have bbz : -1000000 ≤ bz ∧ bz ≤ 1000000 := by omega
  obtain ⟨bax1, bax2⟩ := bax
  obtain ⟨bay1, bay2⟩ := bay
  obtain ⟨baz1, baz2⟩ := baz
  obtain ⟨bbx1, bbx2⟩ := bbx
  obtain ⟨byb1, byb2⟩ := byb
  obtain ⟨bbz1, bbz2⟩ := bbz
  clear hax hay haz hbx hyb hbz
  have s0 := (SpB.made 56 w ax ay az).alloc (.cells #[.int .i64 bx, .int .i64 yb, .int .i64 bz] 56 (0, 0))
  have s1 := SpB.made 56 (w.alloc (.cells #[.int .i64 ax, .int .i64 ay, .int .i64 az] 56 (0, 0))) bx yb bz
  simp only [World.size_alloc] at s1
  replace s0 := s0.alloc (.cells #[.int .i64 0, .int .i64 0, .int .i64 0] 58 (0, 0))
  replace s1 := s1.alloc (.cells #[.int .i64 0, .int .i64 0, .int .i64 0] 58 (0, 0))
  have c0 := s0.c0
  have d0 := s1.c0
  have c1 := s0.c1
  have d1 := s1.c1
  have c2 := s0.c2
  have d2 := s1.c2
  clear s0 s1
  have kk : Kp [] w (((w.alloc (.cells #[.int .i64 ax, .int .i64 ay, .int .i64 az] 56 (0, 0))).alloc (.cells #[.int .i64 bx, .int .i64 yb, .int .i64 bz] 56 (0, 0))).alloc (.cells #[.int .i64 (bx - ax), .int .i64 (yb - ay), .int .i64 (bz - az)] 58 (0, 0))) := (((Kp.refl [] w).alloc _).alloc _).alloc _
  go_enter Tryz.func74, Tryz.ntmps74
  go_wp2
  refine bodyPost_ret (v := .agg #[.int .i64 (bx - ax), .int .i64 (yb - ay), .int .i64 (bz - az)]) (by simp [results, Tryz.results74, go_sem]) rfl ?_
  exact ⟨rfl, kk⟩

set_option maxRecDepth 100000 in
set_option maxHeartbeats 4000000 in
theorem vdotSpace (ax ay az bx yb bz : Int) (w : World) (hax : ax.natAbs ≤ 1000000000000) (hay : ay.natAbs ≤ 1000000000000) (haz : az.natAbs ≤ 1000000000000) (hbx : bx.natAbs ≤ 1000000) (hyb : yb.natAbs ≤ 1000000) (hbz : bz.natAbs ≤ 1000000) :
    Calls Tryz.prog 76 #[.agg #[.int .i64 ax, .int .i64 ay, .int .i64 az], .agg #[.int .i64 bx, .int .i64 yb, .int .i64 bz]] w fun e w' => e = .returned (.int .i64 (ax * bx + ay * yb + az * bz)) ∧ Kp [] w w' := by
  have m0 := mul_bd hax hbx
  have m1 := mul_bd hay hyb
  have m2 := mul_bd haz hbz
  have p0 : -1000000000000000000 ≤ ax * bx ∧ ax * bx ≤ 1000000000000000000 := by omega
  have p1 : -1000000000000000000 ≤ ay * yb ∧ ay * yb ≤ 1000000000000000000 := by omega
  have p2 : -1000000000000000000 ≤ az * bz ∧ az * bz ≤ 1000000000000000000 := by omega
  obtain ⟨p01, p02⟩ := p0
  obtain ⟨p11, p12⟩ := p1
  obtain ⟨p21, p22⟩ := p2
  clear hax hay haz hbx hyb hbz m0 m1 m2
  have s0 := (SpB.made 58 w ax ay az).alloc (.cells #[.int .i64 bx, .int .i64 yb, .int .i64 bz] 58 (0, 0))
  have s1 := SpB.made 58 (w.alloc (.cells #[.int .i64 ax, .int .i64 ay, .int .i64 az] 58 (0, 0))) bx yb bz
  simp only [World.size_alloc] at s1
  have c0 := s0.c0
  have d0 := s1.c0
  have c1 := s0.c1
  have d1 := s1.c1
  have c2 := s0.c2
  have d2 := s1.c2
  clear s0 s1
  have kk : Kp [] w ((w.alloc (.cells #[.int .i64 ax, .int .i64 ay, .int .i64 az] 58 (0, 0))).alloc (.cells #[.int .i64 bx, .int .i64 yb, .int .i64 bz] 58 (0, 0))) := ((Kp.refl [] w).alloc _).alloc _
  go_enter Tryz.func76, Tryz.ntmps76
  go_wp2
  go_ret
  exact ⟨rfl, kk⟩

set_option maxRecDepth 100000 in
set_option maxHeartbeats 4000000 in
theorem vcrossSpace (ax ay az bx yb bz : Int) (w : World) (hax : ax.natAbs ≤ 1000000) (hay : ay.natAbs ≤ 1000000) (haz : az.natAbs ≤ 1000000) (hbx : bx.natAbs ≤ 1000000) (hyb : yb.natAbs ≤ 1000000) (hbz : bz.natAbs ≤ 1000000) :
    Calls Tryz.prog 75 #[.agg #[.int .i64 ax, .int .i64 ay, .int .i64 az], .agg #[.int .i64 bx, .int .i64 yb, .int .i64 bz]] w fun e w' => e = .returned (.agg #[.int .i64 (ay * bz - az * yb), .int .i64 (az * bx - ax * bz), .int .i64 (ax * yb - ay * bx)]) ∧ Kp [] w w' := by
  have m0 := mul_bd hay hbz
  have m1 := mul_bd haz hyb
  have m2 := mul_bd haz hbx
  have m3 := mul_bd hax hbz
  have m4 := mul_bd hax hyb
  have m5 := mul_bd hay hbx
  have p0 : -1000000000000 ≤ ay * bz ∧ ay * bz ≤ 1000000000000 := by omega
  have p1 : -1000000000000 ≤ az * yb ∧ az * yb ≤ 1000000000000 := by omega
  have p2 : -1000000000000 ≤ az * bx ∧ az * bx ≤ 1000000000000 := by omega
  have p3 : -1000000000000 ≤ ax * bz ∧ ax * bz ≤ 1000000000000 := by omega
  have p4 : -1000000000000 ≤ ax * yb ∧ ax * yb ≤ 1000000000000 := by omega
  have p5 : -1000000000000 ≤ ay * bx ∧ ay * bx ≤ 1000000000000 := by omega
  obtain ⟨p01, p02⟩ := p0
  obtain ⟨p11, p12⟩ := p1
  obtain ⟨p21, p22⟩ := p2
  obtain ⟨p31, p32⟩ := p3
  obtain ⟨p41, p42⟩ := p4
  obtain ⟨p51, p52⟩ := p5
  clear hax hay haz hbx hyb hbz m0 m1 m2 m3 m4 m5
  have s0 := (SpB.made 58 w ax ay az).alloc (.cells #[.int .i64 bx, .int .i64 yb, .int .i64 bz] 58 (0, 0))
  have s1 := SpB.made 58 (w.alloc (.cells #[.int .i64 ax, .int .i64 ay, .int .i64 az] 58 (0, 0))) bx yb bz
  simp only [World.size_alloc] at s1
  replace s0 := s0.alloc (.cells #[.int .i64 0, .int .i64 0, .int .i64 0] 58 (0, 0))
  replace s1 := s1.alloc (.cells #[.int .i64 0, .int .i64 0, .int .i64 0] 58 (0, 0))
  have c0 := s0.c0
  have d0 := s1.c0
  have c1 := s0.c1
  have d1 := s1.c1
  have c2 := s0.c2
  have d2 := s1.c2
  clear s0 s1
  have kk : Kp [] w (((w.alloc (.cells #[.int .i64 ax, .int .i64 ay, .int .i64 az] 58 (0, 0))).alloc (.cells #[.int .i64 bx, .int .i64 yb, .int .i64 bz] 58 (0, 0))).alloc (.cells #[.int .i64 (ay * bz - az * yb), .int .i64 (az * bx - ax * bz), .int .i64 (ax * yb - ay * bx)] 58 (0, 0))) := (((Kp.refl [] w).alloc _).alloc _).alloc _
  go_enter Tryz.func75, Tryz.ntmps75
  go_wp2
  refine bodyPost_ret (v := .agg #[.int .i64 (ay * bz - az * yb), .int .i64 (az * bx - ax * bz), .int .i64 (ax * yb - ay * bx)]) (by simp [results, Tryz.results75, go_sem]) rfl ?_
  exact ⟨rfl, kk⟩

end Go.Proofs.YtegamkilhgekjaaGreatDoor

/- Volume, SquareSpace of package vector. -/
namespace Go.Proofs.YtegamkilhgekjaaGreatDoor
open Go.RowKit
open Go.Lib (nDigits itoa decDigits)

theorem op_bsS4 {a : Act} {w : World} {o : Oper} {x y z u : Operand} {x0 x1 x2 y0 y1 y2 z0 z1 z2 u0 u1 u2 : Int} (h : o.op = .buildSlice 42 4 #[(0, x), (1, y), (2, z), (3, u)]) (hx : a.eval x = .agg #[.int .i64 x0, .int .i64 x1, .int .i64 x2]) (hy : a.eval y = .agg #[.int .i64 y0, .int .i64 y1, .int .i64 y2]) (hz : a.eval z = .agg #[.int .i64 z0, .int .i64 z1, .int .i64 z2]) (hu : a.eval u = .agg #[.int .i64 u0, .int .i64 u1, .int .i64 u2]) :
    (execOp a.eval o).run Tryz.prog w = .ok (.value (.slice (some ⟨w.heap.size, 0, none⟩) 4 4)) (w.alloc (.cells #[.int .i64 x0, .int .i64 x1, .int .i64 x2, .int .i64 y0, .int .i64 y1, .int .i64 y2, .int .i64 z0, .int .i64 z1, .int .i64 z2, .int .i64 u0, .int .i64 u1, .int .i64 u2] 56 (0, 0))) := by
  generalize a.eval = r at *
  simp [execOp, h, hx, hy, hz, hu, go_sem]
theorem op_bsS3 {a : Act} {w : World} {o : Oper} {x y z : Operand} {x0 x1 x2 y0 y1 y2 z0 z1 z2 : Int} (h : o.op = .buildSlice 42 3 #[(0, x), (1, y), (2, z)]) (hx : a.eval x = .agg #[.int .i64 x0, .int .i64 x1, .int .i64 x2]) (hy : a.eval y = .agg #[.int .i64 y0, .int .i64 y1, .int .i64 y2]) (hz : a.eval z = .agg #[.int .i64 z0, .int .i64 z1, .int .i64 z2]) :
    (execOp a.eval o).run Tryz.prog w = .ok (.value (.slice (some ⟨w.heap.size, 0, none⟩) 3 3)) (w.alloc (.cells #[.int .i64 x0, .int .i64 x1, .int .i64 x2, .int .i64 y0, .int .i64 y1, .int .i64 y2, .int .i64 z0, .int .i64 z1, .int .i64 z2] 56 (0, 0))) := by
  generalize a.eval = r at *
  simp [execOp, h, hx, hy, hz, go_sem]
theorem op_ldSp {a : Act} {w : World} {o : Oper} {x : Operand} {b : Nat} {u v t : Int} (h : o.op = .load 56 x) (hx : a.eval x = .pointer (some ⟨b, 0, none⟩)) (hb : SpB 56 w b u v t) :
    (execOp a.eval o).run Tryz.prog w = .ok (.value (.agg #[.int .i64 u, .int .i64 v, .int .i64 t])) w := by
  have c0 := hb.c0
  have c1 := hb.c1
  have c2 := hb.c2
  generalize a.eval = r at *
  simp [execOp, h, hx, go_sem, c0, c1, c2]

def vvo1_s : RSt := ⟨12, 16, 5, fun i => ([5, 6, 7, 8, 9, 10, 11, 12, 13, 14, 15, 4] : List Nat).getD i 0, fun i => ([0, 0, 1, 0, 0, 1, 1, 0, 0, 1, 1, 0] : List Nat).getD i 0, fun i => ([0, 0, 0, 0, 0, 1, 2, 0, 0, 3, 4, 0] : List Nat).getD i 0, fun i => ([12, 12, 12, 12, 11, 0, 1, 2, 3, 4, 5, 6, 7, 8, 9, 10, 12] : List Nat).getD i 12, fun i => ([2, 5, 6, 9, 10] : List Nat).getD i 0, fun _ => false, fun _ => true, fun _ => 0, fun _ => false⟩
def vvo1_y : RSy := ⟨vvo1_s, fun i => ([.at 4, .at 5, .at 6, .at 4, .at 7, .at 8, .at 9, .at 4, .at 10, .at 11, .at 12, .at 12] : List SV).getD i .un, [(0, .at 0), (1, .at 1), (2, .at 2), (3, .at 3)], fun i => ([false, false, true, false, false, true, true, false, false, true, true, false] : List Bool).getD i false⟩
def vvo1_ca : List (Nat × Nat × List SV) := [(2, 74, [.at 4, .at 5]), (5, 74, [.at 4, .at 7]), (6, 75, [.at 6, .at 8]), (9, 74, [.at 4, .at 10]), (10, 76, [.at 9, .at 11])]
theorem vvo1_ok : reflOk (opsOf 1 Tryz.f96) vvo1_y [0, 1, 3, 4, 7, 8] vvo1_ca [] [] = true := by kernel_rfl

set_option maxRecDepth 100000 in
set_option maxHeartbeats 4000000 in
theorem vVolume_in (ba bb bc bd : Nat) (ax ay az bx yb bz cx cy cz dx dy dz ux uy uz vx vy vz nx ny nz tx ty tz r : Int) (w : World) (ha : SpB 56 w.drew ba ax ay az) (hb : SpB 56 w.drew bb bx yb bz) (hc : SpB 56 w.drew bc cx cy cz) (hd : SpB 56 w.drew bd dx dy dz)
    (q1 : Hid (∀ W : World, Calls Tryz.prog 74 #[.agg #[.int .i64 ax, .int .i64 ay, .int .i64 az], .agg #[.int .i64 bx, .int .i64 yb, .int .i64 bz]] W fun e w' => e = .returned (.agg #[.int .i64 ux, .int .i64 uy, .int .i64 uz]) ∧ Kp [] W w'))
    (q2 : Hid (∀ W : World, Calls Tryz.prog 74 #[.agg #[.int .i64 ax, .int .i64 ay, .int .i64 az], .agg #[.int .i64 cx, .int .i64 cy, .int .i64 cz]] W fun e w' => e = .returned (.agg #[.int .i64 vx, .int .i64 vy, .int .i64 vz]) ∧ Kp [] W w'))
    (q3 : Hid (∀ W : World, Calls Tryz.prog 75 #[.agg #[.int .i64 ux, .int .i64 uy, .int .i64 uz], .agg #[.int .i64 vx, .int .i64 vy, .int .i64 vz]] W fun e w' => e = .returned (.agg #[.int .i64 nx, .int .i64 ny, .int .i64 nz]) ∧ Kp [] W w'))
    (q4 : Hid (∀ W : World, Calls Tryz.prog 74 #[.agg #[.int .i64 ax, .int .i64 ay, .int .i64 az], .agg #[.int .i64 dx, .int .i64 dy, .int .i64 dz]] W fun e w' => e = .returned (.agg #[.int .i64 tx, .int .i64 ty, .int .i64 tz]) ∧ Kp [] W w'))
    (q5 : Hid (∀ W : World, Calls Tryz.prog 76 #[.agg #[.int .i64 nx, .int .i64 ny, .int .i64 nz], .agg #[.int .i64 tx, .int .i64 ty, .int .i64 tz]] W fun e w' => e = .returned (.int .i64 r) ∧ Kp [] W w')) :
    Calls Tryz.prog 96 #[.pointer (some ⟨ba, 0, none⟩), .pointer (some ⟨bb, 0, none⟩), .pointer (some ⟨bc, 0, none⟩), .pointer (some ⟨bd, 0, none⟩)] w fun e w' => e = .returned (.int .i64 r) ∧ Kp [] w w' := by
  go_enter Tryz.func96, Tryz.ntmps96
  go_wp2_with fail
  rw [frame_lit]
  refine reg_refl vvo1_y (fun k => ([.pointer (some ⟨ba, 0, none⟩), .pointer (some ⟨bb, 0, none⟩), .pointer (some ⟨bc, 0, none⟩), .pointer (some ⟨bd, 0, none⟩), .agg #[.int .i64 ax, .int .i64 ay, .int .i64 az], .agg #[.int .i64 bx, .int .i64 yb, .int .i64 bz], .agg #[.int .i64 ux, .int .i64 uy, .int .i64 uz], .agg #[.int .i64 cx, .int .i64 cy, .int .i64 cz], .agg #[.int .i64 vx, .int .i64 vy, .int .i64 vz], .agg #[.int .i64 nx, .int .i64 ny, .int .i64 nz], .agg #[.int .i64 dx, .int .i64 dy, .int .i64 dz], .agg #[.int .i64 tx, .int .i64 ty, .int .i64 tz], .int .i64 r] : List Value).getD k undef) [] (fun _ _ _ => True) (opsOf 1 Tryz.f96) [0, 1, 3, 4, 7, 8] vvo1_ca [] [] (by kernel_rfl) (by kernel_rfl) vvo1_ok ⟨rfl, rfl, rfl, rfl, trivial⟩ ?sp ?ca ?cx (by decide) ?fr (fun _ _ _ _ h _ => h) ?rest
  case sp =>
    refine ⟨?_, ?_, ?_, ?_, ?_, ?_, trivial⟩
    · intro T wz H o ho; have he : o.op = .load 56 (.tmp 0) := Option.some.inj ((congrArg (fun z => z.map Oper.op) ho).symm.trans (show ((opsOf 1 Tryz.f96)[0]?).map Oper.op = some (.load 56 (.tmp 0)) by kernel_rfl)); exact op_ldSp he (H.ev (.tmp 0) (.at 0) (by kernel_rfl)) (SpB.kept (L := []) (w := w.drew) ha H.kp (by simp))
    · intro T wz H o ho; have he : o.op = .load 56 (.tmp 1) := Option.some.inj ((congrArg (fun z => z.map Oper.op) ho).symm.trans (show ((opsOf 1 Tryz.f96)[1]?).map Oper.op = some (.load 56 (.tmp 1)) by kernel_rfl)); exact op_ldSp he (H.ev (.tmp 1) (.at 1) (by kernel_rfl)) (SpB.kept (L := []) (w := w.drew) hb H.kp (by simp))
    · intro T wz H o ho; have he : o.op = .load 56 (.tmp 0) := Option.some.inj ((congrArg (fun z => z.map Oper.op) ho).symm.trans (show ((opsOf 1 Tryz.f96)[3]?).map Oper.op = some (.load 56 (.tmp 0)) by kernel_rfl)); exact op_ldSp he (H.ev (.tmp 0) (.at 0) (by kernel_rfl)) (SpB.kept (L := []) (w := w.drew) ha H.kp (by simp))
    · intro T wz H o ho; have he : o.op = .load 56 (.tmp 2) := Option.some.inj ((congrArg (fun z => z.map Oper.op) ho).symm.trans (show ((opsOf 1 Tryz.f96)[4]?).map Oper.op = some (.load 56 (.tmp 2)) by kernel_rfl)); exact op_ldSp he (H.ev (.tmp 2) (.at 2) (by kernel_rfl)) (SpB.kept (L := []) (w := w.drew) hc H.kp (by simp))
    · intro T wz H o ho; have he : o.op = .load 56 (.tmp 0) := Option.some.inj ((congrArg (fun z => z.map Oper.op) ho).symm.trans (show ((opsOf 1 Tryz.f96)[7]?).map Oper.op = some (.load 56 (.tmp 0)) by kernel_rfl)); exact op_ldSp he (H.ev (.tmp 0) (.at 0) (by kernel_rfl)) (SpB.kept (L := []) (w := w.drew) ha H.kp (by simp))
    · intro T wz H o ho; have he : o.op = .load 56 (.tmp 3) := Option.some.inj ((congrArg (fun z => z.map Oper.op) ho).symm.trans (show ((opsOf 1 Tryz.f96)[8]?).map Oper.op = some (.load 56 (.tmp 3)) by kernel_rfl)); exact op_ldSp he (H.ev (.tmp 3) (.at 3) (by kernel_rfl)) (SpB.kept (L := []) (w := w.drew) hd H.kp (by simp))
  case ca =>
    refine ⟨?_, ?_, ?_, ?_, ?_, trivial⟩
    · exact ⟨(enters_of Tryz.func74 (by kernel_rfl) rfl), fun wz hk => (q1.out wz).mono fun x w2 ⟨h1, h2⟩ => ⟨_, h1, h2, fun _ => rfl⟩⟩
    · exact ⟨(enters_of Tryz.func74 (by kernel_rfl) rfl), fun wz hk => (q2.out wz).mono fun x w2 ⟨h1, h2⟩ => ⟨_, h1, h2, fun _ => rfl⟩⟩
    · exact ⟨(enters_of Tryz.func75 (by kernel_rfl) rfl), fun wz hk => (q3.out wz).mono fun x w2 ⟨h1, h2⟩ => ⟨_, h1, h2, fun _ => rfl⟩⟩
    · exact ⟨(enters_of Tryz.func74 (by kernel_rfl) rfl), fun wz hk => (q4.out wz).mono fun x w2 ⟨h1, h2⟩ => ⟨_, h1, h2, fun _ => rfl⟩⟩
    · exact ⟨(enters_of Tryz.func76 (by kernel_rfl) rfl), fun wz hk => (q5.out wz).mono fun x w2 ⟨h1, h2⟩ => ⟨_, h1, h2, fun _ => rfl⟩⟩
  case cx =>
    exact trivial
  case fr =>
    exact trivial
  case rest =>
    intro T w3 hout hval k hF
    rw [show frameOf vvo1_y.st.N T = (⟨#[T 0, T 1, T 2, T 3, T 4, T 5, T 6, T 7, T 8, T 9, T 10, T 11, T 12, T 13, T 14, T 15], []⟩ : Act) from frame_list 16 T]
    rw [show T 4 = .int .i64 r from hval 11 (by decide : 11 < 12) (.inl rfl)]
    clear hout hval hF ha hb hc hd q1 q2 q3 q4 q5
    go_wp2
    go_ret
    exact ⟨rfl, k⟩

set_option maxRecDepth 100000 in
set_option maxHeartbeats 4000000 in
theorem vVolume (ax ay az bx yb bz cx cy cz dx dy dz v : Int) (w : World) (q : ckS ([⟨ax, ay, az⟩, ⟨bx, yb, bz⟩, ⟨cx, cy, cz⟩, ⟨dx, dy, dz⟩] : List P3) = 0 → ∀ (ba bb bc bd : Nat) (W : World), SpB 56 W ba ax ay az → SpB 56 W bb bx yb bz → SpB 56 W bc cx cy cz → SpB 56 W bd dx dy dz → Hid (Calls Tryz.prog 96 #[.pointer (some ⟨ba, 0, none⟩), .pointer (some ⟨bb, 0, none⟩), .pointer (some ⟨bc, 0, none⟩), .pointer (some ⟨bd, 0, none⟩)] W fun e w' => e = .returned (.int .i64 v) ∧ Kp [] W w')) :
    Calls Tryz.prog 38 #[.agg #[.int .i64 ax, .int .i64 ay, .int .i64 az], .agg #[.int .i64 bx, .int .i64 yb, .int .i64 bz], .agg #[.int .i64 cx, .int .i64 cy, .int .i64 cz], .agg #[.int .i64 dx, .int .i64 dy, .int .i64 dz]] w fun e w' => e = .returned (.tuple #[.int .i64 (if ckS ([⟨ax, ay, az⟩, ⟨bx, yb, bz⟩, ⟨cx, cy, cz⟩, ⟨dx, dy, dz⟩] : List P3) = 0 then v else 0), .int .i64 (if ckS ([⟨ax, ay, az⟩, ⟨bx, yb, bz⟩, ⟨cx, cy, cz⟩, ⟨dx, dy, dz⟩] : List P3) = 0 then 0 else ckS ([⟨ax, ay, az⟩, ⟨bx, yb, bz⟩, ⟨cx, cy, cz⟩, ⟨dx, dy, dz⟩] : List P3))]) ∧ Kp [] w w' := by
  have sa0 := SpB.made 56 w ax ay az
  have sa : SpB 56 ((((w.alloc (.cells #[.int .i64 ax, .int .i64 ay, .int .i64 az] 56 (0, 0))).alloc (.cells #[.int .i64 bx, .int .i64 yb, .int .i64 bz] 56 (0, 0))).alloc (.cells #[.int .i64 cx, .int .i64 cy, .int .i64 cz] 56 (0, 0))).alloc (.cells #[.int .i64 dx, .int .i64 dy, .int .i64 dz] 56 (0, 0))) (w.heap.size) ax ay az := (((sa0).alloc (.cells #[.int .i64 bx, .int .i64 yb, .int .i64 bz] 56 (0, 0))).alloc (.cells #[.int .i64 cx, .int .i64 cy, .int .i64 cz] 56 (0, 0))).alloc (.cells #[.int .i64 dx, .int .i64 dy, .int .i64 dz] 56 (0, 0))
  have sb0 := SpB.made 56 (w.alloc (.cells #[.int .i64 ax, .int .i64 ay, .int .i64 az] 56 (0, 0))) bx yb bz
  simp only [World.size_alloc] at sb0
  have sb : SpB 56 ((((w.alloc (.cells #[.int .i64 ax, .int .i64 ay, .int .i64 az] 56 (0, 0))).alloc (.cells #[.int .i64 bx, .int .i64 yb, .int .i64 bz] 56 (0, 0))).alloc (.cells #[.int .i64 cx, .int .i64 cy, .int .i64 cz] 56 (0, 0))).alloc (.cells #[.int .i64 dx, .int .i64 dy, .int .i64 dz] 56 (0, 0))) (w.heap.size + 1) bx yb bz := ((sb0).alloc (.cells #[.int .i64 cx, .int .i64 cy, .int .i64 cz] 56 (0, 0))).alloc (.cells #[.int .i64 dx, .int .i64 dy, .int .i64 dz] 56 (0, 0))
  have sc0 := SpB.made 56 ((w.alloc (.cells #[.int .i64 ax, .int .i64 ay, .int .i64 az] 56 (0, 0))).alloc (.cells #[.int .i64 bx, .int .i64 yb, .int .i64 bz] 56 (0, 0))) cx cy cz
  simp only [World.size_alloc] at sc0
  have sc : SpB 56 ((((w.alloc (.cells #[.int .i64 ax, .int .i64 ay, .int .i64 az] 56 (0, 0))).alloc (.cells #[.int .i64 bx, .int .i64 yb, .int .i64 bz] 56 (0, 0))).alloc (.cells #[.int .i64 cx, .int .i64 cy, .int .i64 cz] 56 (0, 0))).alloc (.cells #[.int .i64 dx, .int .i64 dy, .int .i64 dz] 56 (0, 0))) (w.heap.size + 2) cx cy cz := (sc0).alloc (.cells #[.int .i64 dx, .int .i64 dy, .int .i64 dz] 56 (0, 0))
  have sd0 := SpB.made 56 (((w.alloc (.cells #[.int .i64 ax, .int .i64 ay, .int .i64 az] 56 (0, 0))).alloc (.cells #[.int .i64 bx, .int .i64 yb, .int .i64 bz] 56 (0, 0))).alloc (.cells #[.int .i64 cx, .int .i64 cy, .int .i64 cz] 56 (0, 0))) dx dy dz
  simp only [World.size_alloc] at sd0
  have sd : SpB 56 ((((w.alloc (.cells #[.int .i64 ax, .int .i64 ay, .int .i64 az] 56 (0, 0))).alloc (.cells #[.int .i64 bx, .int .i64 yb, .int .i64 bz] 56 (0, 0))).alloc (.cells #[.int .i64 cx, .int .i64 cy, .int .i64 cz] 56 (0, 0))).alloc (.cells #[.int .i64 dx, .int .i64 dy, .int .i64 dz] 56 (0, 0))) (w.heap.size + 3) dx dy dz := sd0
  have k0 : Kp [] w ((((w.alloc (.cells #[.int .i64 ax, .int .i64 ay, .int .i64 az] 56 (0, 0))).alloc (.cells #[.int .i64 bx, .int .i64 yb, .int .i64 bz] 56 (0, 0))).alloc (.cells #[.int .i64 cx, .int .i64 cy, .int .i64 cz] 56 (0, 0))).alloc (.cells #[.int .i64 dx, .int .i64 dy, .int .i64 dz] 56 (0, 0))) := ((((Kp.refl _ _).alloc _).alloc _).alloc _).alloc _
  generalize hW : ((((w.alloc (.cells #[.int .i64 ax, .int .i64 ay, .int .i64 az] 56 (0, 0))).alloc (.cells #[.int .i64 bx, .int .i64 yb, .int .i64 bz] 56 (0, 0))).alloc (.cells #[.int .i64 cx, .int .i64 cy, .int .i64 cz] 56 (0, 0))).alloc (.cells #[.int .i64 dx, .int .i64 dy, .int .i64 dz] 56 (0, 0))) = W0 at *
  have hsz : w.heap.size + 4 = W0.heap.size := by rw [← hW]; simp
  have xa0 := sa.c0
  have xa1 := sa.c1
  have xa2 := sa.c2
  have xb0 := sb.c0
  have xb1 := sb.c1
  have xb2 := sb.c2
  have xc0 := sc.c0
  have xc1 := sc.c1
  have xc2 := sc.c2
  have xd0 := sd.c0
  have xd1 := sd.c1
  have xd2 := sd.c2
  have hP : Sps (W0.alloc (.cells #[.int .i64 ax, .int .i64 ay, .int .i64 az, .int .i64 bx, .int .i64 yb, .int .i64 bz, .int .i64 cx, .int .i64 cy, .int .i64 cz, .int .i64 dx, .int .i64 dy, .int .i64 dz] 56 (0, 0))) W0.heap.size 0 ([⟨ax, ay, az⟩, ⟨bx, yb, bz⟩, ⟨cx, cy, cz⟩, ⟨dx, dy, dz⟩] : List P3) := by
    have hN := heap_alloc_new W0 (.cells #[.int .i64 ax, .int .i64 ay, .int .i64 az, .int .i64 bx, .int .i64 yb, .int .i64 bz, .int .i64 cx, .int .i64 cy, .int .i64 cz, .int .i64 dx, .int .i64 dy, .int .i64 dz] 56 (0, 0))
    intro i hi
    rcases i with _ | _ | _ | _ | i
    · exact ⟨(new_cell hN _).trans rfl, (new_cell hN _).trans rfl, (new_cell hN _).trans rfl⟩
    · exact ⟨(new_cell hN _).trans rfl, (new_cell hN _).trans rfl, (new_cell hN _).trans rfl⟩
    · exact ⟨(new_cell hN _).trans rfl, (new_cell hN _).trans rfl, (new_cell hN _).trans rfl⟩
    · exact ⟨(new_cell hN _).trans rfl, (new_cell hN _).trans rfl, (new_cell hN _).trans rfl⟩
    · exact absurd hi (by simp)
  have qc := Lib.hid (vCheckSpots W0.heap.size 0 4 (some ⟨W0.heap.size, 0, none⟩) ([⟨ax, ay, az⟩, ⟨bx, yb, bz⟩, ⟨cx, cy, cz⟩, ⟨dx, dy, dz⟩] : List P3) _ hP (fun _ => ⟨rfl, by simp⟩) (by simp))
  simp only [List.length_cons, List.length_nil, Nat.zero_add, Nat.reduceAdd] at qc
  replace sa := sa.alloc (.cells #[.int .i64 ax, .int .i64 ay, .int .i64 az, .int .i64 bx, .int .i64 yb, .int .i64 bz, .int .i64 cx, .int .i64 cy, .int .i64 cz, .int .i64 dx, .int .i64 dy, .int .i64 dz] 56 (0, 0))
  replace sb := sb.alloc (.cells #[.int .i64 ax, .int .i64 ay, .int .i64 az, .int .i64 bx, .int .i64 yb, .int .i64 bz, .int .i64 cx, .int .i64 cy, .int .i64 cz, .int .i64 dx, .int .i64 dy, .int .i64 dz] 56 (0, 0))
  replace sc := sc.alloc (.cells #[.int .i64 ax, .int .i64 ay, .int .i64 az, .int .i64 bx, .int .i64 yb, .int .i64 bz, .int .i64 cx, .int .i64 cy, .int .i64 cz, .int .i64 dx, .int .i64 dy, .int .i64 dz] 56 (0, 0))
  replace sd := sd.alloc (.cells #[.int .i64 ax, .int .i64 ay, .int .i64 az, .int .i64 bx, .int .i64 yb, .int .i64 bz, .int .i64 cx, .int .i64 cy, .int .i64 cz, .int .i64 dx, .int .i64 dy, .int .i64 dz] 56 (0, 0))
  have k1 := k0.alloc (.cells #[.int .i64 ax, .int .i64 ay, .int .i64 az, .int .i64 bx, .int .i64 yb, .int .i64 bz, .int .i64 cx, .int .i64 cy, .int .i64 cz, .int .i64 dx, .int .i64 dy, .int .i64 dz] 56 (0, 0))
  clear k0 hP sa0 sb0 sc0 sd0
  by_cases hck : ckS ([⟨ax, ay, az⟩, ⟨bx, yb, bz⟩, ⟨cx, cy, cz⟩, ⟨dx, dy, dz⟩] : List P3) = 0
  · rw [if_pos hck, if_pos hck]
    rw [hck] at qc
    subst hW
    clear hsz
    simp only [World.size_alloc] at qc
    go_enter Tryz.func38, Tryz.ntmps38
    go_wp2_with (refine wpList_stepN rfl (op_bsS4 rfl rfl rfl rfl rfl) (by simp only [Act.put, World.size_alloc, List.setIfInBounds_toArray, List.set_cons_succ, List.set_cons_zero]; rfl) ?_)
    go_wp2_with fail
    with_reducible refine qc.out.mono ?_
    rintro e w1 ⟨rfl, k⟩
    replace sa := sa.kept k (by simp)
    replace sb := sb.kept k (by simp)
    replace sc := sc.kept k (by simp)
    replace sd := sd.kept k (by simp)
    have kk := k1.trans k
    clear k qc k1 xa0 xa1 xa2 xb0 xb1 xb2 xc0 xc1 xc2 xd0 xd1 xd2
    have qr := Lib.hid (vresult_0 96 #[.pointer (some ⟨w.heap.size, 0, none⟩), .pointer (some ⟨w.heap.size + 1, 0, none⟩), .pointer (some ⟨w.heap.size + 2, 0, none⟩), .pointer (some ⟨w.heap.size + 3, 0, none⟩)] _ w1 (enters_of Tryz.func96 (by kernel_rfl) rfl) (q hck _ _ _ _ w1 sa sb sc sd))
    go_wp2_with fail
    with_reducible refine qr.out.mono ?_
    rintro e w2 ⟨rfl, k⟩
    go_wp2
    go_ret2
    exact ⟨rfl, kk.trans k⟩
  · rw [if_neg hck, if_neg hck]
    subst hW
    clear hsz
    simp only [World.size_alloc] at qc
    have hne : (ckS ([⟨ax, ay, az⟩, ⟨bx, yb, bz⟩, ⟨cx, cy, cz⟩, ⟨dx, dy, dz⟩] : List P3) != 0) = true := bne_iff_ne.2 hck
    generalize ckS ([⟨ax, ay, az⟩, ⟨bx, yb, bz⟩, ⟨cx, cy, cz⟩, ⟨dx, dy, dz⟩] : List P3) = E at *
    go_enter Tryz.func38, Tryz.ntmps38
    go_wp2_with (refine wpList_stepN rfl (op_bsS4 rfl rfl rfl rfl rfl) (by simp only [Act.put, World.size_alloc, List.setIfInBounds_toArray, List.set_cons_succ, List.set_cons_zero]; rfl) ?_)
    go_wp2_with fail
    with_reducible refine qc.out.mono ?_
    rintro e w1 ⟨rfl, k⟩
    have kk := k1.trans k
    have qr := Lib.hid (vresult_e (.func (.func 96) #[] #[.pointer (some ⟨w.heap.size, 0, none⟩), .pointer (some ⟨w.heap.size + 1, 0, none⟩), .pointer (some ⟨w.heap.size + 2, 0, none⟩), .pointer (some ⟨w.heap.size + 3, 0, none⟩)]) E w1 hne)
    clear k qc k1 xa0 xa1 xa2 sa xb0 xb1 xb2 sb xc0 xc1 xc2 sc xd0 xd1 xd2 sd
    go_wp2_with fail
    with_reducible refine qr.out.mono ?_
    rintro e w2 ⟨rfl, k⟩
    go_wp2
    go_ret2
    exact ⟨rfl, kk.trans k⟩

end Go.Proofs.YtegamkilhgekjaaGreatDoor
