/- The laws' own function right; the law GradesMirrors. -/
import Derived.Test.YthifdgddegpbjaaDoorGl2
import Derived.Test.YthifdgddegpbjaaDoorG9
namespace Go.Proofs.YthifdgddegpbjaaDoor
open Go.RowKit

def rtB (z k g : Int) : Bool := decide (szE z = 0) && decide (clE k g = 0)
set_option maxRecDepth 100000 in
set_option maxHeartbeats 8000000 in
theorem right_no (z k g e : Int) (h : Bool) (he : (e == 0) = false) (q1 : Gq 34 #[.int .i64 z] (.int .i64 e)) (w : World) (hg : Glo w) : Calls Tryd.prog 32 #[.int .i64 z, .agg #[.bool h, .int .i64 k, .int .i64 g]] w fun r w' => r = .returned (.bool false) ∧ Kb w w' := by
  unfold Gq at q1
  have kk := (Kb.refl w).alloc (clsO 23 h k g)
  have cls := Is.made w #[.bool h, .int .i64 k, .int .i64 g] 23
  have hg1 := hg.kb kk
  have c0 := cls.c (i := 0) rfl
  have c1 := cls.c (i := 1) rfl
  have c2 := cls.c (i := 2) rfl
  go_enter Tryd.func32, Tryd.ntmps32
  go_wp2_with fail
  with_reducible refine (q1.out _ hg1).mono ?_
  rintro r w1 ⟨rfl, k1⟩
  have kx := kk.trans k1
  have cls := cls.kb k1
  have hgx := hg1.kb k1
  have c0 := cls.c (i := 0) rfl
  have c1 := cls.c (i := 1) rfl
  have c2 := cls.c (i := 2) rfl
  go_wp2
  go_ret
  exact ⟨rfl, kx⟩
set_option maxRecDepth 100000 in
set_option maxHeartbeats 8000000 in
theorem right_at (z k g e : Int) (h b : Bool) (he : (e == 0) = b) (q1 : Gq 34 #[.int .i64 z] (.int .i64 0)) (q2 : Gq 17 #[.agg #[.bool h, .int .i64 k, .int .i64 g]] (.int .i64 e)) (w : World) (hg : Glo w) : Calls Tryd.prog 32 #[.int .i64 z, .agg #[.bool h, .int .i64 k, .int .i64 g]] w fun r w' => r = .returned (.bool b) ∧ Kb w w' := by
  unfold Gq at q1 q2
  have kk := (Kb.refl w).alloc (clsO 23 h k g)
  have cls := Is.made w #[.bool h, .int .i64 k, .int .i64 g] 23
  have hg1 := hg.kb kk
  have c0 := cls.c (i := 0) rfl
  have c1 := cls.c (i := 1) rfl
  have c2 := cls.c (i := 2) rfl
  go_enter Tryd.func32, Tryd.ntmps32
  go_wp2_with fail
  with_reducible refine (q1.out _ hg1).mono ?_
  rintro r w1 ⟨rfl, k1⟩
  have kx := kk.trans k1
  have cls := cls.kb k1
  have hgx := hg1.kb k1
  have c0 := cls.c (i := 0) rfl
  have c1 := cls.c (i := 1) rfl
  have c2 := cls.c (i := 2) rfl
  go_wp2_with fail
  with_reducible refine (q2.out _ hgx).mono ?_
  rintro r w2 ⟨rfl, k2⟩
  have kx := kx.trans k2
  go_wp2
  go_ret
  exact ⟨rfl, kx⟩
theorem gright (z k g : Int) (h : Bool) : Gq 32 #[.int .i64 z, .agg #[.bool h, .int .i64 k, .int .i64 g]] (.bool (rtB z k g)) := Lib.hid fun w hg => by
  have q1 := rSize z
  have q2 := rCheck h k g
  unfold rtB
  by_cases hz : szE z = 0
  · rw [hz] at q1
    rw [decide_eq_true hz, Bool.true_and]
    exact right_at z k g _ h _ rfl q1 q2 w hg
  · rw [decide_eq_false hz, Bool.false_and]
    exact right_no z k g _ h (show decide (szE z = 0) = false from decide_eq_false hz) q1 w hg
set_option maxRecDepth 100000 in
set_option maxHeartbeats 8000000 in
theorem mirrors_j (z g t : Int) (k : Nat) (hk : k < 10) (d : UInt8) (h : Bool) (u : Int) (u0 : 0 ≤ u) (u1 : u ≤ 400) (hu : t.tdiv 2 = u) (dj : ((d.toNat : Int) == 106) = true) (hd : letB[k]'(show k < 10 from hk) = d) (t0 : 0 ≤ t) (t1 : t ≤ 400)
    (q1 : Gq 32 #[.int .i64 z, .agg #[.bool h, .int .i64 (k : Int), .int .i64 g]] (.bool true)) (q2 : Gq 22 #[.int .i64 z, .agg #[.bool h, .int .i64 (k : Int), .int .i64 g]] (.tuple #[.agg #[.int .i64 (-u), .int .i64 u], .int .i64 0])) (q3 : Gq 22 #[.int .i64 z, .agg #[.bool (!h), .int .i64 (k : Int), .int .i64 g]] (.tuple #[.agg #[.int .i64 (-u), .int .i64 u], .int .i64 0]))
    (q4 : Gq 20 #[.int .i64 z, .int .i64 g] (.tuple #[.int .i64 t, .int .i64 0])) (w : World) (hg : Glo w) : Calls Tryd.prog 8 #[.int .i64 z, .agg #[.bool h, .int .i64 (k : Int), .int .i64 g]] w fun r w' => r = .returned (.bool true) ∧ Kb w w' := by
  have qa := gawake
  unfold Gq at q1 q2 q3 q4 qa
  have i0 : (0 : Int) ≤ (k : Int) := by omega
  have i1 : (k : Int) < 10 := by omega
  have i5 : letB[k]'(show k < 10 from hk) = d := hd
  have kx := (Kb.refl w).alloc (clsO 23 h (k : Int) g)
  have hgx := hg.kb kx
  have cls := Is.made w #[.bool h, .int .i64 (k : Int), .int .i64 g] 23
  have clsc0 := cls.c (i := 0) rfl
  have clsc1 := cls.c (i := 1) rfl
  have clsc2 := cls.c (i := 2) rfl
  go_enter Tryd.func8, Tryd.ntmps8
  go_wp2_with fail
  with_reducible refine (q1.out _ hgx).mono ?_
  rintro r w1 ⟨rfl, k1⟩
  have hgx := hgx.kb k1
  have kx := kx.trans k1
  have cls := cls.kb k1
  have clsc0 := cls.c (i := 0) rfl
  have clsc1 := cls.c (i := 1) rfl
  have clsc2 := cls.c (i := 2) rfl
  have clz := fun o => cell_al clsc0 o
  have hgx := hgx.kb ((Kb.refl _).alloc (.cells #[.bool (!h), .int .i64 (k : Int), .int .i64 g] 23 (0, 0)))
  have kx := kx.alloc (.cells #[.bool (!h), .int .i64 (k : Int), .int .i64 g] 23 (0, 0))
  have cls := cls.alloc (.cells #[.bool (!h), .int .i64 (k : Int), .int .i64 g] 23 (0, 0))
  have oth := Is.made w1 #[.bool (!h), .int .i64 (k : Int), .int .i64 g] 23
  have clsc0 := cls.c (i := 0) rfl
  have clsc1 := cls.c (i := 1) rfl
  have clsc2 := cls.c (i := 2) rfl
  have othc0 := oth.c (i := 0) rfl
  have othc1 := oth.c (i := 1) rfl
  have othc2 := oth.c (i := 2) rfl
  go_wp2_with fail
  with_reducible refine (q2.out _ hgx).mono ?_
  rintro r w2 ⟨rfl, k2⟩
  have hgx := hgx.kb k2
  have kx := kx.trans k2
  have cls := cls.kb k2
  have oth := oth.kb k2
  have clsc0 := cls.c (i := 0) rfl
  have clsc1 := cls.c (i := 1) rfl
  have clsc2 := cls.c (i := 2) rfl
  have othc0 := oth.c (i := 0) rfl
  have othc1 := oth.c (i := 1) rfl
  have othc2 := oth.c (i := 2) rfl
  have hgx := hgx.kb ((Kb.refl _).alloc (.cells #[.int .i64 (-u), .int .i64 u] 46 (0, 0)))
  have kx := kx.alloc (.cells #[.int .i64 (-u), .int .i64 u] 46 (0, 0))
  have cls := cls.alloc (.cells #[.int .i64 (-u), .int .i64 u] 46 (0, 0))
  have oth := oth.alloc (.cells #[.int .i64 (-u), .int .i64 u] 46 (0, 0))
  have la := Is.made w2 #[.int .i64 (-u), .int .i64 u] 46
  have clsc0 := cls.c (i := 0) rfl
  have clsc1 := cls.c (i := 1) rfl
  have clsc2 := cls.c (i := 2) rfl
  have othc0 := oth.c (i := 0) rfl
  have othc1 := oth.c (i := 1) rfl
  have othc2 := oth.c (i := 2) rfl
  have lac0 := la.c (i := 0) rfl
  have lac1 := la.c (i := 1) rfl
  go_wp2_with fail
  with_reducible refine (q3.out _ hgx).mono ?_
  rintro r w3 ⟨rfl, k3⟩
  have hgx := hgx.kb k3
  have kx := kx.trans k3
  have cls := cls.kb k3
  have oth := oth.kb k3
  have la := la.kb k3
  have clsc0 := cls.c (i := 0) rfl
  have clsc1 := cls.c (i := 1) rfl
  have clsc2 := cls.c (i := 2) rfl
  have othc0 := oth.c (i := 0) rfl
  have othc1 := oth.c (i := 1) rfl
  have othc2 := oth.c (i := 2) rfl
  have lac0 := la.c (i := 0) rfl
  have lac1 := la.c (i := 1) rfl
  have hgx := hgx.kb ((Kb.refl _).alloc (.cells #[.int .i64 (-u), .int .i64 u] 46 (0, 0)))
  have kx := kx.alloc (.cells #[.int .i64 (-u), .int .i64 u] 46 (0, 0))
  have cls := cls.alloc (.cells #[.int .i64 (-u), .int .i64 u] 46 (0, 0))
  have oth := oth.alloc (.cells #[.int .i64 (-u), .int .i64 u] 46 (0, 0))
  have la := la.alloc (.cells #[.int .i64 (-u), .int .i64 u] 46 (0, 0))
  have lb := Is.made w3 #[.int .i64 (-u), .int .i64 u] 46
  have clsc0 := cls.c (i := 0) rfl
  have clsc1 := cls.c (i := 1) rfl
  have clsc2 := cls.c (i := 2) rfl
  have othc0 := oth.c (i := 0) rfl
  have othc1 := oth.c (i := 1) rfl
  have othc2 := oth.c (i := 2) rfl
  have lac0 := la.c (i := 0) rfl
  have lac1 := la.c (i := 1) rfl
  have lbc0 := lb.c (i := 0) rfl
  have lbc1 := lb.c (i := 1) rfl
  go_wp2_with fail
  with_reducible refine (q4.out _ hgx).mono ?_
  rintro r w4 ⟨rfl, k4⟩
  have hgx := hgx.kb k4
  have kx := kx.trans k4
  have cls := cls.kb k4
  have oth := oth.kb k4
  have la := la.kb k4
  have lb := lb.kb k4
  have clsc0 := cls.c (i := 0) rfl
  have clsc1 := cls.c (i := 1) rfl
  have clsc2 := cls.c (i := 2) rfl
  have othc0 := oth.c (i := 0) rfl
  have othc1 := oth.c (i := 1) rfl
  have othc2 := oth.c (i := 2) rfl
  have lac0 := la.c (i := 0) rfl
  have lac1 := la.c (i := 1) rfl
  have lbc0 := lb.c (i := 0) rfl
  have lbc1 := lb.c (i := 1) rfl
  go_wp2_with fail
  with_reducible refine (qa.out _ hgx).mono ?_
  rintro r w5 ⟨rfl, k5⟩
  have hgx := hgx.kb k5
  have kx := kx.trans k5
  have cls := cls.kb k5
  have oth := oth.kb k5
  have la := la.kb k5
  have lb := lb.kb k5
  have clsc0 := cls.c (i := 0) rfl
  have clsc1 := cls.c (i := 1) rfl
  have clsc2 := cls.c (i := 2) rfl
  have othc0 := oth.c (i := 0) rfl
  have othc1 := oth.c (i := 1) rfl
  have othc2 := oth.c (i := 2) rfl
  have lac0 := la.c (i := 0) rfl
  have lac1 := la.c (i := 1) rfl
  have lbc0 := lb.c (i := 0) rfl
  have lbc1 := lb.c (i := 1) rfl
  go_wp2
  go_ret
  exact ⟨rfl, kx⟩
set_option maxRecDepth 100000 in
set_option maxHeartbeats 8000000 in
theorem mirrors_x (z g t : Int) (k : Nat) (hk : k < 10) (d : UInt8) (h : Bool) (lo hi : Int) (l0 : -1000 ≤ lo) (l1 : lo ≤ 1000) (m0 : -1000 ≤ hi) (m1 : hi ≤ 1000) (hw : hi - lo = t) (dj : ((d.toNat : Int) == 106) = false) (dh : ((d.toNat : Int) == 104) = false) (hd : letB[k]'(show k < 10 from hk) = d) (t0 : 0 ≤ t) (t1 : t ≤ 400)
    (q1 : Gq 32 #[.int .i64 z, .agg #[.bool h, .int .i64 (k : Int), .int .i64 g]] (.bool true)) (q2 : Gq 22 #[.int .i64 z, .agg #[.bool h, .int .i64 (k : Int), .int .i64 g]] (.tuple #[.agg #[.int .i64 lo, .int .i64 hi], .int .i64 0])) (q3 : Gq 22 #[.int .i64 z, .agg #[.bool (!h), .int .i64 (k : Int), .int .i64 g]] (.tuple #[.agg #[.int .i64 (-hi), .int .i64 (-lo)], .int .i64 0]))
    (q4 : Gq 20 #[.int .i64 z, .int .i64 g] (.tuple #[.int .i64 t, .int .i64 0])) (w : World) (hg : Glo w) : Calls Tryd.prog 8 #[.int .i64 z, .agg #[.bool h, .int .i64 (k : Int), .int .i64 g]] w fun r w' => r = .returned (.bool true) ∧ Kb w w' := by
  have qa := gawake
  unfold Gq at q1 q2 q3 q4 qa
  have i0 : (0 : Int) ≤ (k : Int) := by omega
  have i1 : (k : Int) < 10 := by omega
  have i5 : letB[k]'(show k < 10 from hk) = d := hd
  have kx := (Kb.refl w).alloc (clsO 23 h (k : Int) g)
  have hgx := hg.kb kx
  have cls := Is.made w #[.bool h, .int .i64 (k : Int), .int .i64 g] 23
  have clsc0 := cls.c (i := 0) rfl
  have clsc1 := cls.c (i := 1) rfl
  have clsc2 := cls.c (i := 2) rfl
  go_enter Tryd.func8, Tryd.ntmps8
  go_wp2_with fail
  with_reducible refine (q1.out _ hgx).mono ?_
  rintro r w1 ⟨rfl, k1⟩
  have hgx := hgx.kb k1
  have kx := kx.trans k1
  have cls := cls.kb k1
  have clsc0 := cls.c (i := 0) rfl
  have clsc1 := cls.c (i := 1) rfl
  have clsc2 := cls.c (i := 2) rfl
  have clz := fun o => cell_al clsc0 o
  have hgx := hgx.kb ((Kb.refl _).alloc (.cells #[.bool (!h), .int .i64 (k : Int), .int .i64 g] 23 (0, 0)))
  have kx := kx.alloc (.cells #[.bool (!h), .int .i64 (k : Int), .int .i64 g] 23 (0, 0))
  have cls := cls.alloc (.cells #[.bool (!h), .int .i64 (k : Int), .int .i64 g] 23 (0, 0))
  have oth := Is.made w1 #[.bool (!h), .int .i64 (k : Int), .int .i64 g] 23
  have clsc0 := cls.c (i := 0) rfl
  have clsc1 := cls.c (i := 1) rfl
  have clsc2 := cls.c (i := 2) rfl
  have othc0 := oth.c (i := 0) rfl
  have othc1 := oth.c (i := 1) rfl
  have othc2 := oth.c (i := 2) rfl
  go_wp2_with fail
  with_reducible refine (q2.out _ hgx).mono ?_
  rintro r w2 ⟨rfl, k2⟩
  have hgx := hgx.kb k2
  have kx := kx.trans k2
  have cls := cls.kb k2
  have oth := oth.kb k2
  have clsc0 := cls.c (i := 0) rfl
  have clsc1 := cls.c (i := 1) rfl
  have clsc2 := cls.c (i := 2) rfl
  have othc0 := oth.c (i := 0) rfl
  have othc1 := oth.c (i := 1) rfl
  have othc2 := oth.c (i := 2) rfl
  have hgx := hgx.kb ((Kb.refl _).alloc (.cells #[.int .i64 lo, .int .i64 hi] 46 (0, 0)))
  have kx := kx.alloc (.cells #[.int .i64 lo, .int .i64 hi] 46 (0, 0))
  have cls := cls.alloc (.cells #[.int .i64 lo, .int .i64 hi] 46 (0, 0))
  have oth := oth.alloc (.cells #[.int .i64 lo, .int .i64 hi] 46 (0, 0))
  have la := Is.made w2 #[.int .i64 lo, .int .i64 hi] 46
  have clsc0 := cls.c (i := 0) rfl
  have clsc1 := cls.c (i := 1) rfl
  have clsc2 := cls.c (i := 2) rfl
  have othc0 := oth.c (i := 0) rfl
  have othc1 := oth.c (i := 1) rfl
  have othc2 := oth.c (i := 2) rfl
  have lac0 := la.c (i := 0) rfl
  have lac1 := la.c (i := 1) rfl
  go_wp2_with fail
  with_reducible refine (q3.out _ hgx).mono ?_
  rintro r w3 ⟨rfl, k3⟩
  have hgx := hgx.kb k3
  have kx := kx.trans k3
  have cls := cls.kb k3
  have oth := oth.kb k3
  have la := la.kb k3
  have clsc0 := cls.c (i := 0) rfl
  have clsc1 := cls.c (i := 1) rfl
  have clsc2 := cls.c (i := 2) rfl
  have othc0 := oth.c (i := 0) rfl
  have othc1 := oth.c (i := 1) rfl
  have othc2 := oth.c (i := 2) rfl
  have lac0 := la.c (i := 0) rfl
  have lac1 := la.c (i := 1) rfl
  have hgx := hgx.kb ((Kb.refl _).alloc (.cells #[.int .i64 (-hi), .int .i64 (-lo)] 46 (0, 0)))
  have kx := kx.alloc (.cells #[.int .i64 (-hi), .int .i64 (-lo)] 46 (0, 0))
  have cls := cls.alloc (.cells #[.int .i64 (-hi), .int .i64 (-lo)] 46 (0, 0))
  have oth := oth.alloc (.cells #[.int .i64 (-hi), .int .i64 (-lo)] 46 (0, 0))
  have la := la.alloc (.cells #[.int .i64 (-hi), .int .i64 (-lo)] 46 (0, 0))
  have lb := Is.made w3 #[.int .i64 (-hi), .int .i64 (-lo)] 46
  have clsc0 := cls.c (i := 0) rfl
  have clsc1 := cls.c (i := 1) rfl
  have clsc2 := cls.c (i := 2) rfl
  have othc0 := oth.c (i := 0) rfl
  have othc1 := oth.c (i := 1) rfl
  have othc2 := oth.c (i := 2) rfl
  have lac0 := la.c (i := 0) rfl
  have lac1 := la.c (i := 1) rfl
  have lbc0 := lb.c (i := 0) rfl
  have lbc1 := lb.c (i := 1) rfl
  go_wp2_with fail
  with_reducible refine (q4.out _ hgx).mono ?_
  rintro r w4 ⟨rfl, k4⟩
  have hgx := hgx.kb k4
  have kx := kx.trans k4
  have cls := cls.kb k4
  have oth := oth.kb k4
  have la := la.kb k4
  have lb := lb.kb k4
  have clsc0 := cls.c (i := 0) rfl
  have clsc1 := cls.c (i := 1) rfl
  have clsc2 := cls.c (i := 2) rfl
  have othc0 := oth.c (i := 0) rfl
  have othc1 := oth.c (i := 1) rfl
  have othc2 := oth.c (i := 2) rfl
  have lac0 := la.c (i := 0) rfl
  have lac1 := la.c (i := 1) rfl
  have lbc0 := lb.c (i := 0) rfl
  have lbc1 := lb.c (i := 1) rfl
  go_wp2_with fail
  with_reducible refine (qa.out _ hgx).mono ?_
  rintro r w5 ⟨rfl, k5⟩
  have hgx := hgx.kb k5
  have kx := kx.trans k5
  have cls := cls.kb k5
  have oth := oth.kb k5
  have la := la.kb k5
  have lb := lb.kb k5
  have clsc0 := cls.c (i := 0) rfl
  have clsc1 := cls.c (i := 1) rfl
  have clsc2 := cls.c (i := 2) rfl
  have othc0 := oth.c (i := 0) rfl
  have othc1 := oth.c (i := 1) rfl
  have othc2 := oth.c (i := 2) rfl
  have lac0 := la.c (i := 0) rfl
  have lac1 := la.c (i := 1) rfl
  have lbc0 := lb.c (i := 0) rfl
  have lbc1 := lb.c (i := 1) rfl
  go_wp2
  go_ret
  exact ⟨rfl, kx⟩
set_option maxRecDepth 100000 in
set_option maxHeartbeats 8000000 in
theorem mirrors_h1 (z g t : Int) (k : Nat) (hk : k < 10) (d : UInt8) (dj : ((d.toNat : Int) == 106) = false) (dh : ((d.toNat : Int) == 104) = true) (hd : letB[k]'(show k < 10 from hk) = d) (t0 : 0 ≤ t) (t1 : t ≤ 400)
    (q1 : Gq 32 #[.int .i64 z, .agg #[.bool true, .int .i64 (k : Int), .int .i64 g]] (.bool true)) (q2 : Gq 22 #[.int .i64 z, .agg #[.bool true, .int .i64 (k : Int), .int .i64 g]] (.tuple #[.agg #[.int .i64 0, .int .i64 t], .int .i64 0])) (q3 : Gq 22 #[.int .i64 z, .agg #[.bool false, .int .i64 (k : Int), .int .i64 g]] (.tuple #[.agg #[.int .i64 (-t), .int .i64 0], .int .i64 0]))
    (q4 : Gq 20 #[.int .i64 z, .int .i64 g] (.tuple #[.int .i64 t, .int .i64 0])) (w : World) (hg : Glo w) : Calls Tryd.prog 8 #[.int .i64 z, .agg #[.bool true, .int .i64 (k : Int), .int .i64 g]] w fun r w' => r = .returned (.bool true) ∧ Kb w w' := by
  have qa := gawake
  unfold Gq at q1 q2 q3 q4 qa
  have i0 : (0 : Int) ≤ (k : Int) := by omega
  have i1 : (k : Int) < 10 := by omega
  have i5 : letB[k]'(show k < 10 from hk) = d := hd
  have kx := (Kb.refl w).alloc (clsO 23 true (k : Int) g)
  have hgx := hg.kb kx
  have cls := Is.made w #[.bool true, .int .i64 (k : Int), .int .i64 g] 23
  have clsc0 := cls.c (i := 0) rfl
  have clsc1 := cls.c (i := 1) rfl
  have clsc2 := cls.c (i := 2) rfl
  go_enter Tryd.func8, Tryd.ntmps8
  go_wp2_with fail
  with_reducible refine (q1.out _ hgx).mono ?_
  rintro r w1 ⟨rfl, k1⟩
  have hgx := hgx.kb k1
  have kx := kx.trans k1
  have cls := cls.kb k1
  have clsc0 := cls.c (i := 0) rfl
  have clsc1 := cls.c (i := 1) rfl
  have clsc2 := cls.c (i := 2) rfl
  have clz := fun o => cell_al clsc0 o
  have hgx := hgx.kb ((Kb.refl _).alloc (.cells #[.bool false, .int .i64 (k : Int), .int .i64 g] 23 (0, 0)))
  have kx := kx.alloc (.cells #[.bool false, .int .i64 (k : Int), .int .i64 g] 23 (0, 0))
  have cls := cls.alloc (.cells #[.bool false, .int .i64 (k : Int), .int .i64 g] 23 (0, 0))
  have oth := Is.made w1 #[.bool false, .int .i64 (k : Int), .int .i64 g] 23
  have clsc0 := cls.c (i := 0) rfl
  have clsc1 := cls.c (i := 1) rfl
  have clsc2 := cls.c (i := 2) rfl
  have othc0 := oth.c (i := 0) rfl
  have othc1 := oth.c (i := 1) rfl
  have othc2 := oth.c (i := 2) rfl
  go_wp2_with fail
  with_reducible refine (q2.out _ hgx).mono ?_
  rintro r w2 ⟨rfl, k2⟩
  have hgx := hgx.kb k2
  have kx := kx.trans k2
  have cls := cls.kb k2
  have oth := oth.kb k2
  have clsc0 := cls.c (i := 0) rfl
  have clsc1 := cls.c (i := 1) rfl
  have clsc2 := cls.c (i := 2) rfl
  have othc0 := oth.c (i := 0) rfl
  have othc1 := oth.c (i := 1) rfl
  have othc2 := oth.c (i := 2) rfl
  have hgx := hgx.kb ((Kb.refl _).alloc (.cells #[.int .i64 0, .int .i64 t] 46 (0, 0)))
  have kx := kx.alloc (.cells #[.int .i64 0, .int .i64 t] 46 (0, 0))
  have cls := cls.alloc (.cells #[.int .i64 0, .int .i64 t] 46 (0, 0))
  have oth := oth.alloc (.cells #[.int .i64 0, .int .i64 t] 46 (0, 0))
  have la := Is.made w2 #[.int .i64 0, .int .i64 t] 46
  have clsc0 := cls.c (i := 0) rfl
  have clsc1 := cls.c (i := 1) rfl
  have clsc2 := cls.c (i := 2) rfl
  have othc0 := oth.c (i := 0) rfl
  have othc1 := oth.c (i := 1) rfl
  have othc2 := oth.c (i := 2) rfl
  have lac0 := la.c (i := 0) rfl
  have lac1 := la.c (i := 1) rfl
  go_wp2_with fail
  with_reducible refine (q3.out _ hgx).mono ?_
  rintro r w3 ⟨rfl, k3⟩
  have hgx := hgx.kb k3
  have kx := kx.trans k3
  have cls := cls.kb k3
  have oth := oth.kb k3
  have la := la.kb k3
  have clsc0 := cls.c (i := 0) rfl
  have clsc1 := cls.c (i := 1) rfl
  have clsc2 := cls.c (i := 2) rfl
  have othc0 := oth.c (i := 0) rfl
  have othc1 := oth.c (i := 1) rfl
  have othc2 := oth.c (i := 2) rfl
  have lac0 := la.c (i := 0) rfl
  have lac1 := la.c (i := 1) rfl
  have hgx := hgx.kb ((Kb.refl _).alloc (.cells #[.int .i64 (-t), .int .i64 0] 46 (0, 0)))
  have kx := kx.alloc (.cells #[.int .i64 (-t), .int .i64 0] 46 (0, 0))
  have cls := cls.alloc (.cells #[.int .i64 (-t), .int .i64 0] 46 (0, 0))
  have oth := oth.alloc (.cells #[.int .i64 (-t), .int .i64 0] 46 (0, 0))
  have la := la.alloc (.cells #[.int .i64 (-t), .int .i64 0] 46 (0, 0))
  have lb := Is.made w3 #[.int .i64 (-t), .int .i64 0] 46
  have clsc0 := cls.c (i := 0) rfl
  have clsc1 := cls.c (i := 1) rfl
  have clsc2 := cls.c (i := 2) rfl
  have othc0 := oth.c (i := 0) rfl
  have othc1 := oth.c (i := 1) rfl
  have othc2 := oth.c (i := 2) rfl
  have lac0 := la.c (i := 0) rfl
  have lac1 := la.c (i := 1) rfl
  have lbc0 := lb.c (i := 0) rfl
  have lbc1 := lb.c (i := 1) rfl
  go_wp2_with fail
  with_reducible refine (q4.out _ hgx).mono ?_
  rintro r w4 ⟨rfl, k4⟩
  have hgx := hgx.kb k4
  have kx := kx.trans k4
  have cls := cls.kb k4
  have oth := oth.kb k4
  have la := la.kb k4
  have lb := lb.kb k4
  have clsc0 := cls.c (i := 0) rfl
  have clsc1 := cls.c (i := 1) rfl
  have clsc2 := cls.c (i := 2) rfl
  have othc0 := oth.c (i := 0) rfl
  have othc1 := oth.c (i := 1) rfl
  have othc2 := oth.c (i := 2) rfl
  have lac0 := la.c (i := 0) rfl
  have lac1 := la.c (i := 1) rfl
  have lbc0 := lb.c (i := 0) rfl
  have lbc1 := lb.c (i := 1) rfl
  go_wp2_with fail
  with_reducible refine (qa.out _ hgx).mono ?_
  rintro r w5 ⟨rfl, k5⟩
  have hgx := hgx.kb k5
  have kx := kx.trans k5
  have cls := cls.kb k5
  have oth := oth.kb k5
  have la := la.kb k5
  have lb := lb.kb k5
  have clsc0 := cls.c (i := 0) rfl
  have clsc1 := cls.c (i := 1) rfl
  have clsc2 := cls.c (i := 2) rfl
  have othc0 := oth.c (i := 0) rfl
  have othc1 := oth.c (i := 1) rfl
  have othc2 := oth.c (i := 2) rfl
  have lac0 := la.c (i := 0) rfl
  have lac1 := la.c (i := 1) rfl
  have lbc0 := lb.c (i := 0) rfl
  have lbc1 := lb.c (i := 1) rfl
  go_wp2
  go_ret
  exact ⟨rfl, kx⟩
set_option maxRecDepth 100000 in
set_option maxHeartbeats 8000000 in
theorem mirrors_h0 (z g t : Int) (k : Nat) (hk : k < 10) (d : UInt8) (dj : ((d.toNat : Int) == 106) = false) (dh : ((d.toNat : Int) == 104) = true) (hd : letB[k]'(show k < 10 from hk) = d) (t0 : 0 ≤ t) (t1 : t ≤ 400)
    (q1 : Gq 32 #[.int .i64 z, .agg #[.bool false, .int .i64 (k : Int), .int .i64 g]] (.bool true)) (q2 : Gq 22 #[.int .i64 z, .agg #[.bool false, .int .i64 (k : Int), .int .i64 g]] (.tuple #[.agg #[.int .i64 (-t), .int .i64 0], .int .i64 0])) (q3 : Gq 22 #[.int .i64 z, .agg #[.bool true, .int .i64 (k : Int), .int .i64 g]] (.tuple #[.agg #[.int .i64 0, .int .i64 t], .int .i64 0]))
    (q4 : Gq 20 #[.int .i64 z, .int .i64 g] (.tuple #[.int .i64 t, .int .i64 0])) (w : World) (hg : Glo w) : Calls Tryd.prog 8 #[.int .i64 z, .agg #[.bool false, .int .i64 (k : Int), .int .i64 g]] w fun r w' => r = .returned (.bool true) ∧ Kb w w' := by
  have qa := gawake
  unfold Gq at q1 q2 q3 q4 qa
  have i0 : (0 : Int) ≤ (k : Int) := by omega
  have i1 : (k : Int) < 10 := by omega
  have i5 : letB[k]'(show k < 10 from hk) = d := hd
  have kx := (Kb.refl w).alloc (clsO 23 false (k : Int) g)
  have hgx := hg.kb kx
  have cls := Is.made w #[.bool false, .int .i64 (k : Int), .int .i64 g] 23
  have clsc0 := cls.c (i := 0) rfl
  have clsc1 := cls.c (i := 1) rfl
  have clsc2 := cls.c (i := 2) rfl
  go_enter Tryd.func8, Tryd.ntmps8
  go_wp2_with fail
  with_reducible refine (q1.out _ hgx).mono ?_
  rintro r w1 ⟨rfl, k1⟩
  have hgx := hgx.kb k1
  have kx := kx.trans k1
  have cls := cls.kb k1
  have clsc0 := cls.c (i := 0) rfl
  have clsc1 := cls.c (i := 1) rfl
  have clsc2 := cls.c (i := 2) rfl
  have clz := fun o => cell_al clsc0 o
  have hgx := hgx.kb ((Kb.refl _).alloc (.cells #[.bool true, .int .i64 (k : Int), .int .i64 g] 23 (0, 0)))
  have kx := kx.alloc (.cells #[.bool true, .int .i64 (k : Int), .int .i64 g] 23 (0, 0))
  have cls := cls.alloc (.cells #[.bool true, .int .i64 (k : Int), .int .i64 g] 23 (0, 0))
  have oth := Is.made w1 #[.bool true, .int .i64 (k : Int), .int .i64 g] 23
  have clsc0 := cls.c (i := 0) rfl
  have clsc1 := cls.c (i := 1) rfl
  have clsc2 := cls.c (i := 2) rfl
  have othc0 := oth.c (i := 0) rfl
  have othc1 := oth.c (i := 1) rfl
  have othc2 := oth.c (i := 2) rfl
  go_wp2_with fail
  with_reducible refine (q2.out _ hgx).mono ?_
  rintro r w2 ⟨rfl, k2⟩
  have hgx := hgx.kb k2
  have kx := kx.trans k2
  have cls := cls.kb k2
  have oth := oth.kb k2
  have clsc0 := cls.c (i := 0) rfl
  have clsc1 := cls.c (i := 1) rfl
  have clsc2 := cls.c (i := 2) rfl
  have othc0 := oth.c (i := 0) rfl
  have othc1 := oth.c (i := 1) rfl
  have othc2 := oth.c (i := 2) rfl
  have hgx := hgx.kb ((Kb.refl _).alloc (.cells #[.int .i64 (-t), .int .i64 0] 46 (0, 0)))
  have kx := kx.alloc (.cells #[.int .i64 (-t), .int .i64 0] 46 (0, 0))
  have cls := cls.alloc (.cells #[.int .i64 (-t), .int .i64 0] 46 (0, 0))
  have oth := oth.alloc (.cells #[.int .i64 (-t), .int .i64 0] 46 (0, 0))
  have la := Is.made w2 #[.int .i64 (-t), .int .i64 0] 46
  have clsc0 := cls.c (i := 0) rfl
  have clsc1 := cls.c (i := 1) rfl
  have clsc2 := cls.c (i := 2) rfl
  have othc0 := oth.c (i := 0) rfl
  have othc1 := oth.c (i := 1) rfl
  have othc2 := oth.c (i := 2) rfl
  have lac0 := la.c (i := 0) rfl
  have lac1 := la.c (i := 1) rfl
  go_wp2_with fail
  with_reducible refine (q3.out _ hgx).mono ?_
  rintro r w3 ⟨rfl, k3⟩
  have hgx := hgx.kb k3
  have kx := kx.trans k3
  have cls := cls.kb k3
  have oth := oth.kb k3
  have la := la.kb k3
  have clsc0 := cls.c (i := 0) rfl
  have clsc1 := cls.c (i := 1) rfl
  have clsc2 := cls.c (i := 2) rfl
  have othc0 := oth.c (i := 0) rfl
  have othc1 := oth.c (i := 1) rfl
  have othc2 := oth.c (i := 2) rfl
  have lac0 := la.c (i := 0) rfl
  have lac1 := la.c (i := 1) rfl
  have hgx := hgx.kb ((Kb.refl _).alloc (.cells #[.int .i64 0, .int .i64 t] 46 (0, 0)))
  have kx := kx.alloc (.cells #[.int .i64 0, .int .i64 t] 46 (0, 0))
  have cls := cls.alloc (.cells #[.int .i64 0, .int .i64 t] 46 (0, 0))
  have oth := oth.alloc (.cells #[.int .i64 0, .int .i64 t] 46 (0, 0))
  have la := la.alloc (.cells #[.int .i64 0, .int .i64 t] 46 (0, 0))
  have lb := Is.made w3 #[.int .i64 0, .int .i64 t] 46
  have clsc0 := cls.c (i := 0) rfl
  have clsc1 := cls.c (i := 1) rfl
  have clsc2 := cls.c (i := 2) rfl
  have othc0 := oth.c (i := 0) rfl
  have othc1 := oth.c (i := 1) rfl
  have othc2 := oth.c (i := 2) rfl
  have lac0 := la.c (i := 0) rfl
  have lac1 := la.c (i := 1) rfl
  have lbc0 := lb.c (i := 0) rfl
  have lbc1 := lb.c (i := 1) rfl
  go_wp2_with fail
  with_reducible refine (q4.out _ hgx).mono ?_
  rintro r w4 ⟨rfl, k4⟩
  have hgx := hgx.kb k4
  have kx := kx.trans k4
  have cls := cls.kb k4
  have oth := oth.kb k4
  have la := la.kb k4
  have lb := lb.kb k4
  have clsc0 := cls.c (i := 0) rfl
  have clsc1 := cls.c (i := 1) rfl
  have clsc2 := cls.c (i := 2) rfl
  have othc0 := oth.c (i := 0) rfl
  have othc1 := oth.c (i := 1) rfl
  have othc2 := oth.c (i := 2) rfl
  have lac0 := la.c (i := 0) rfl
  have lac1 := la.c (i := 1) rfl
  have lbc0 := lb.c (i := 0) rfl
  have lbc1 := lb.c (i := 1) rfl
  go_wp2_with fail
  with_reducible refine (qa.out _ hgx).mono ?_
  rintro r w5 ⟨rfl, k5⟩
  have hgx := hgx.kb k5
  have kx := kx.trans k5
  have cls := cls.kb k5
  have oth := oth.kb k5
  have la := la.kb k5
  have lb := lb.kb k5
  have clsc0 := cls.c (i := 0) rfl
  have clsc1 := cls.c (i := 1) rfl
  have clsc2 := cls.c (i := 2) rfl
  have othc0 := oth.c (i := 0) rfl
  have othc1 := oth.c (i := 1) rfl
  have othc2 := oth.c (i := 2) rfl
  have lac0 := la.c (i := 0) rfl
  have lac1 := la.c (i := 1) rfl
  have lbc0 := lb.c (i := 0) rfl
  have lbc1 := lb.c (i := 1) rfl
  go_wp2
  go_ret
  exact ⟨rfl, kx⟩
set_option maxRecDepth 100000 in
set_option maxHeartbeats 8000000 in
theorem mirrors_out (z k g : Int) (h : Bool) (q1 : Gq 32 #[.int .i64 z, .agg #[.bool h, .int .i64 k, .int .i64 g]] (.bool false)) (w : World) (hg : Glo w) : Calls Tryd.prog 8 #[.int .i64 z, .agg #[.bool h, .int .i64 k, .int .i64 g]] w fun r w' => r = .returned (.bool true) ∧ Kb w w' := by
  have qa := gawake
  unfold Gq at q1 qa
  have kx := (Kb.refl w).alloc (clsO 23 h k g)
  have hgx := hg.kb kx
  have cls := Is.made w #[.bool h, .int .i64 k, .int .i64 g] 23
  have clsc0 := cls.c (i := 0) rfl
  have clsc1 := cls.c (i := 1) rfl
  have clsc2 := cls.c (i := 2) rfl
  go_enter Tryd.func8, Tryd.ntmps8
  go_wp2_with fail
  with_reducible refine (q1.out _ hgx).mono ?_
  rintro r w1 ⟨rfl, k1⟩
  have hgx := hgx.kb k1
  have kx := kx.trans k1
  have cls := cls.kb k1
  have clsc0 := cls.c (i := 0) rfl
  have clsc1 := cls.c (i := 1) rfl
  have clsc2 := cls.c (i := 2) rfl
  go_wp2_with fail
  with_reducible refine (qa.out _ hgx).mono ?_
  rintro r w2 ⟨rfl, k2⟩
  have hgx := hgx.kb k2
  have kx := kx.trans k2
  have cls := cls.kb k2
  have clsc0 := cls.c (i := 0) rfl
  have clsc1 := cls.c (i := 1) rfl
  have clsc2 := cls.c (i := 2) rfl
  go_wp2
  go_ret
  exact ⟨rfl, kx⟩
theorem low_j (k : Nat) (hk : k < 10) : (((lowU k).toNat : Int) == 106) = decide (k = 5) ∧ (((lowU k).toNat : Int) == 104) = decide (k = 4) := by
  rcases lt10 hk with rfl | rfl | rfl | rfl | rfl | rfl | rfl | rfl | rfl | rfl <;> exact ⟨by decide, by decide⟩
theorem mirrors_true (z k g : Int) (h : Bool) (w : World) (hg : Glo w) : Calls Tryd.prog 8 #[.int .i64 z, .agg #[.bool h, .int .i64 k, .int .i64 g]] w fun r w' => r = .returned (.bool true) ∧ Kb w w' := by
  have q1 := gright z k g h
  cases hr : rtB z k g with
  | false => rw [hr] at q1; exact mirrors_out z k g h q1 w hg
  | true =>
    rw [hr] at q1
    unfold rtB at hr
    simp only [Bool.and_eq_true, decide_eq_true_eq] at hr
    obtain ⟨hz0, hc⟩ := hr
    have hz : 1 ≤ z ∧ z ≤ 100000 := by
      by_cases hz : 1 ≤ z ∧ z ≤ 100000
      · exact hz
      · have : szE z = 2 := if_neg hz
        omega
    obtain ⟨h1, h2⟩ := clE_ok hc
    obtain ⟨j, rfl⟩ : ∃ j : Nat, k = (j : Int) := ⟨k.toNat, by omega⟩
    have hj : j < 10 := by omega
    have q2 := gDeviations z j g h
    have q3 := gDeviations z j g (!h)
    have q4 := gTolerance z g
    rw [(tolV_ok hz h2).1, (tolV_ok hz h2).2] at q4
    have e0 : dvE z j g = 0 := (if_pos hz).trans hc
    have f1 : ∀ b, dvL z b j g = devLo z b j g := fun b => if_pos e0
    have f2 : ∀ b, dvH z b j g = devHi z b j g := fun b => if_pos e0
    rw [e0, f1, f2] at q2 q3
    obtain ⟨b1, b2, b3, b4⟩ := dev_bd z h j g
    have ht := tolI_bd z g
    have s1 : devLo z (!h) j g = -devHi z h j g := by unfold devLo devHi; cases h <;> simp
    have s2 : devHi z (!h) j g = -devLo z h j g := by unfold devLo devHi; cases h <;> simp
    obtain ⟨l1, l2⟩ := low_j j hj
    have hd := (let_facts j hj).1
    by_cases h5 : j = 5
    · subst h5
      have u1 : devLo z h 5 g = -(tolI z g / 2) := by unfold devLo dvLo dvHi; cases h <;> simp
      have u2 : devHi z h 5 g = tolI z g / 2 := by unfold devHi dvLo dvHi; cases h <;> simp
      rw [s1, s2, u1, u2, Int.neg_neg] at q3
      rw [u1, u2] at q2
      exact mirrors_j z g _ 5 hj _ h (tolI z g / 2) (by omega) (by omega) (Int.tdiv_eq_ediv_of_nonneg (by omega)) (l1.trans rfl) hd (by omega) (by omega) q1 q2 q3 q4 w hg
    · by_cases h4 : j = 4
      · subst h4
        have sh : shiI z 4 = 0 := by unfold shiI shiP shfI; simp
        have d1 : dvLo 4 (shiI z 4) (tolI z g) = -tolI z g := by rw [sh]; unfold dvLo; simp
        have d2 : dvHi 4 (shiI z 4) (tolI z g) = 0 := by rw [sh]; unfold dvHi; simp
        cases h with
        | true =>
          have u1 : devLo z true 4 g = 0 := by unfold devLo; rw [d2]; rfl
          have u2 : devHi z true 4 g = tolI z g := by unfold devHi; rw [d1]; simp
          rw [s1, s2, u1, u2] at q3
          rw [u1, u2] at q2
          exact mirrors_h1 z g _ 4 hj _ (l1.trans rfl) (l2.trans rfl) hd (by omega) (by omega) q1 q2 q3 q4 w hg
        | false =>
          have u1 : devLo z false 4 g = -tolI z g := by unfold devLo; rw [d1]; rfl
          have u2 : devHi z false 4 g = 0 := by unfold devHi; rw [d2]; rfl
          rw [s1, s2, u1, u2, Int.neg_neg] at q3
          rw [u1, u2] at q2
          exact mirrors_h0 z g _ 4 hj _ (l1.trans rfl) (l2.trans rfl) hd (by omega) (by omega) q1 q2 q3 q4 w hg
      · rw [s1, s2] at q3
        have hw : devHi z h j g - devLo z h j g = tolI z g := by
          unfold devHi devLo dvHi dvLo
          rw [if_neg h5, if_neg h5]
          cases h <;> simp <;> split <;> omega
        exact mirrors_x z g _ j hj _ h _ _ (by omega) (by omega) (by omega) (by omega) hw (l1.trans (decide_eq_false h5)) (l2.trans (decide_eq_false h4)) hd (by omega) (by omega) q1 q2 q3 q4 w hg
end Go.Proofs.YthifdgddegpbjaaDoor
