/- The laws GradesMeasures, GradesDeviates. -/
import Derived.Test.YthifdgddegpbjaaDoorG11
import Derived.Test.YthifdgddegpbjaaDoorG9
namespace Go.Proofs.YthifdgddegpbjaaDoor
open Go.RowKit

set_option maxRecDepth 100000 in
set_option maxHeartbeats 8000000 in
theorem measures_true (z g : Int) (w : World) (hg : Glo w) : Calls Tryd.prog 4 #[.int .i64 z, .int .i64 g] w fun r w' => r = .returned (.bool true) ∧ Kb w w' := by
  have q1 := gStep z
  have q2 := rStep z
  have q3 := gTolerance z g
  have q4 := rTolerance z g
  have qa := gawake
  unfold Gq at q1 q2 q3 q4 qa
  generalize stepV z = a at *
  generalize szE z = e at *
  generalize tolV z g = b at *
  generalize tolE z g = f at *
  go_enter Tryd.func4, Tryd.ntmps4
  have hgx := hg
  have kx := Kb.refl w
  go_wp2_with fail
  with_reducible refine (q1.out _ hgx).mono ?_
  rintro r w1 ⟨rfl, k1⟩
  have hgx := hgx.kb k1
  have kx := kx.trans k1
  go_wp2_with fail
  with_reducible refine (q2.out _ hgx).mono ?_
  rintro r w2 ⟨rfl, k2⟩
  have hgx := hgx.kb k2
  have kx := kx.trans k2
  go_wp2_with fail
  with_reducible refine (q3.out _ hgx).mono ?_
  rintro r w3 ⟨rfl, k3⟩
  have hgx := hgx.kb k3
  have kx := kx.trans k3
  go_wp2_with fail
  with_reducible refine (q4.out _ hgx).mono ?_
  rintro r w4 ⟨rfl, k4⟩
  have hgx := hgx.kb k4
  have kx := kx.trans k4
  go_wp2_with fail
  with_reducible refine (qa.out _ hgx).mono ?_
  rintro r w5 ⟨rfl, k5⟩
  have hgx := hgx.kb k5
  have kx := kx.trans k5
  go_wp2
  go_ret
  exact ⟨rfl, kx⟩
set_option maxRecDepth 100000 in
set_option maxHeartbeats 8000000 in
theorem deviates_true (z k g : Int) (h : Bool) (w : World) (hg : Glo w) : Calls Tryd.prog 5 #[.int .i64 z, .agg #[.bool h, .int .i64 k, .int .i64 g]] w fun r w' => r = .returned (.bool true) ∧ Kb w w' := by
  have q1 := gDeviations z k g h
  have q2 := rDeviations z k g h
  have q3 := gLimits z k g h
  have q4 := rLimits z k g h
  have qa := gawake
  unfold Gq at q1 q2 q3 q4 qa
  generalize dvL z h k g = a at *
  generalize dvH z h k g = b at *
  generalize dvE z k g = e at *
  generalize lmL z h k g = c at *
  generalize lmH z h k g = d at *
  generalize lmE z h k g = f at *
  have hg := hg.kb ((Kb.refl w).alloc (clsO 23 h k g))
  have cls := Is.made w #[.bool h, .int .i64 k, .int .i64 g] 23
  have clsc0 := cls.c (i := 0) rfl
  have clsc1 := cls.c (i := 1) rfl
  have clsc2 := cls.c (i := 2) rfl
  go_enter Tryd.func5, Tryd.ntmps5
  have hgx := hg
  have kx := (Kb.refl w).alloc (clsO 23 h k g)
  go_wp2_with fail
  with_reducible refine (q1.out _ hgx).mono ?_
  rintro r w1 ⟨rfl, k1⟩
  have hgx := hgx.kb k1
  have kx := kx.trans k1
  have cls := cls.kb k1
  have clsc0 := cls.c (i := 0) rfl
  have clsc1 := cls.c (i := 1) rfl
  have clsc2 := cls.c (i := 2) rfl
  have hgx := hgx.kb ((Kb.refl _).alloc (.cells #[.int .i64 a, .int .i64 b] 46 (0, 0)))
  have kx := kx.alloc (.cells #[.int .i64 a, .int .i64 b] 46 (0, 0))
  have cls := cls.alloc (.cells #[.int .i64 a, .int .i64 b] 46 (0, 0))
  have l0 := Is.made w1 #[.int .i64 a, .int .i64 b] 46
  have clsc0 := cls.c (i := 0) rfl
  have clsc1 := cls.c (i := 1) rfl
  have clsc2 := cls.c (i := 2) rfl
  have l0c0 := l0.c (i := 0) rfl
  have l0c1 := l0.c (i := 1) rfl
  go_wp2_with fail
  with_reducible refine (q2.out _ hgx).mono ?_
  rintro r w2 ⟨rfl, k2⟩
  have hgx := hgx.kb k2
  have kx := kx.trans k2
  have cls := cls.kb k2
  have l0 := l0.kb k2
  have clsc0 := cls.c (i := 0) rfl
  have clsc1 := cls.c (i := 1) rfl
  have clsc2 := cls.c (i := 2) rfl
  have l0c0 := l0.c (i := 0) rfl
  have l0c1 := l0.c (i := 1) rfl
  have hgx := hgx.kb ((Kb.refl _).alloc (.cells #[.int .i64 a, .int .i64 b] 46 (0, 0)))
  have kx := kx.alloc (.cells #[.int .i64 a, .int .i64 b] 46 (0, 0))
  have cls := cls.alloc (.cells #[.int .i64 a, .int .i64 b] 46 (0, 0))
  have l0 := l0.alloc (.cells #[.int .i64 a, .int .i64 b] 46 (0, 0))
  have l1 := Is.made w2 #[.int .i64 a, .int .i64 b] 46
  have clsc0 := cls.c (i := 0) rfl
  have clsc1 := cls.c (i := 1) rfl
  have clsc2 := cls.c (i := 2) rfl
  have l0c0 := l0.c (i := 0) rfl
  have l0c1 := l0.c (i := 1) rfl
  have l1c0 := l1.c (i := 0) rfl
  have l1c1 := l1.c (i := 1) rfl
  go_wp2_with fail
  with_reducible refine (q3.out _ hgx).mono ?_
  rintro r w3 ⟨rfl, k3⟩
  have hgx := hgx.kb k3
  have kx := kx.trans k3
  have cls := cls.kb k3
  have l0 := l0.kb k3
  have l1 := l1.kb k3
  have clsc0 := cls.c (i := 0) rfl
  have clsc1 := cls.c (i := 1) rfl
  have clsc2 := cls.c (i := 2) rfl
  have l0c0 := l0.c (i := 0) rfl
  have l0c1 := l0.c (i := 1) rfl
  have l1c0 := l1.c (i := 0) rfl
  have l1c1 := l1.c (i := 1) rfl
  have hgx := hgx.kb ((Kb.refl _).alloc (.cells #[.int .i64 c, .int .i64 d] 46 (0, 0)))
  have kx := kx.alloc (.cells #[.int .i64 c, .int .i64 d] 46 (0, 0))
  have cls := cls.alloc (.cells #[.int .i64 c, .int .i64 d] 46 (0, 0))
  have l0 := l0.alloc (.cells #[.int .i64 c, .int .i64 d] 46 (0, 0))
  have l1 := l1.alloc (.cells #[.int .i64 c, .int .i64 d] 46 (0, 0))
  have l2 := Is.made w3 #[.int .i64 c, .int .i64 d] 46
  have clsc0 := cls.c (i := 0) rfl
  have clsc1 := cls.c (i := 1) rfl
  have clsc2 := cls.c (i := 2) rfl
  have l0c0 := l0.c (i := 0) rfl
  have l0c1 := l0.c (i := 1) rfl
  have l1c0 := l1.c (i := 0) rfl
  have l1c1 := l1.c (i := 1) rfl
  have l2c0 := l2.c (i := 0) rfl
  have l2c1 := l2.c (i := 1) rfl
  go_wp2_with fail
  with_reducible refine (q4.out _ hgx).mono ?_
  rintro r w4 ⟨rfl, k4⟩
  have hgx := hgx.kb k4
  have kx := kx.trans k4
  have cls := cls.kb k4
  have l0 := l0.kb k4
  have l1 := l1.kb k4
  have l2 := l2.kb k4
  have clsc0 := cls.c (i := 0) rfl
  have clsc1 := cls.c (i := 1) rfl
  have clsc2 := cls.c (i := 2) rfl
  have l0c0 := l0.c (i := 0) rfl
  have l0c1 := l0.c (i := 1) rfl
  have l1c0 := l1.c (i := 0) rfl
  have l1c1 := l1.c (i := 1) rfl
  have l2c0 := l2.c (i := 0) rfl
  have l2c1 := l2.c (i := 1) rfl
  have hgx := hgx.kb ((Kb.refl _).alloc (.cells #[.int .i64 c, .int .i64 d] 46 (0, 0)))
  have kx := kx.alloc (.cells #[.int .i64 c, .int .i64 d] 46 (0, 0))
  have cls := cls.alloc (.cells #[.int .i64 c, .int .i64 d] 46 (0, 0))
  have l0 := l0.alloc (.cells #[.int .i64 c, .int .i64 d] 46 (0, 0))
  have l1 := l1.alloc (.cells #[.int .i64 c, .int .i64 d] 46 (0, 0))
  have l2 := l2.alloc (.cells #[.int .i64 c, .int .i64 d] 46 (0, 0))
  have l3 := Is.made w4 #[.int .i64 c, .int .i64 d] 46
  have clsc0 := cls.c (i := 0) rfl
  have clsc1 := cls.c (i := 1) rfl
  have clsc2 := cls.c (i := 2) rfl
  have l0c0 := l0.c (i := 0) rfl
  have l0c1 := l0.c (i := 1) rfl
  have l1c0 := l1.c (i := 0) rfl
  have l1c1 := l1.c (i := 1) rfl
  have l2c0 := l2.c (i := 0) rfl
  have l2c1 := l2.c (i := 1) rfl
  have l3c0 := l3.c (i := 0) rfl
  have l3c1 := l3.c (i := 1) rfl
  go_wp2_with fail
  with_reducible refine (qa.out _ hgx).mono ?_
  rintro r w5 ⟨rfl, k5⟩
  have hgx := hgx.kb k5
  have kx := kx.trans k5
  have cls := cls.kb k5
  have l0 := l0.kb k5
  have l1 := l1.kb k5
  have l2 := l2.kb k5
  have l3 := l3.kb k5
  have clsc0 := cls.c (i := 0) rfl
  have clsc1 := cls.c (i := 1) rfl
  have clsc2 := cls.c (i := 2) rfl
  have l0c0 := l0.c (i := 0) rfl
  have l0c1 := l0.c (i := 1) rfl
  have l1c0 := l1.c (i := 0) rfl
  have l1c1 := l1.c (i := 1) rfl
  have l2c0 := l2.c (i := 0) rfl
  have l2c1 := l2.c (i := 1) rfl
  have l3c0 := l3.c (i := 0) rfl
  have l3c1 := l3.c (i := 1) rfl
  go_wp2
  go_ret
  exact ⟨rfl, kx⟩
end Go.Proofs.YthifdgddegpbjaaDoor
