/- The law DimensionTurns: short lists, and paths that are none. -/
import Derived.Test.YtendjeefggigbaaOm5
namespace Go.Proofs.Ytendjeefggigbaa
open Go.RowKit
attribute [local go_sem] Oper.semAt_some
set_option maxRecDepth 100000 in
set_option maxHeartbeats 4000000 in
theorem turns_short1 (sp : Option Addr) (N cap : Nat) (z : Int) (w : World) (qf : Hid (∀ V : World, Kb w V → Calls Try.prog 28 #[.slice sp N cap] V fun r W' => r = .returned (.bool true) ∧ Kb V W')) (hd : decide ((N : Int) < 2) = true) (qa : Ca 11 #[] (.bool true)) :
    Calls Try.prog 10 #[.slice sp N cap, .int .u8 z] w fun e W => TurnsOk w e W := by
  refine (callsIn_wide (n := 5)).1 ?_
  refine callsIn_of_wp_marks Try.func10 rfl trivial ?_ rfl
  simp only [Try.ntmps10, List.size_toArray, List.length_cons, List.length_nil, Nat.reduceAdd, Nat.reduceSub, Array.replicate_succ, Array.replicate_zero, List.push_toArray, List.append_toArray, List.nil_append, List.cons_append]
  refine wpIn_wide.2 ?_
  unfold Ca at *
  have kx := (Kb.refl w).alloc (.cells #[.bool false] 4 (0, 0))
  have i4 := Is.made w #[.bool false] 4
  go_wp2_with fail
  (with_reducible refine (qf.out _ kx).mono ?_)
  rintro r w1 ⟨rfl, k1⟩
  replace kx := kx.trans k1
  replace i4 := i4.kb k1
  go_wp2_with fail
  (with_reducible refine (qa.out _).mono ?_)
  rintro r w2 ⟨rfl, k2⟩
  replace kx := kx.trans k2
  replace i4 := i4.kb k2
  have c4 := i4.c (i := 0) rfl
  have f4 := i4.f 0
  have Z := Lib.hid (And.intro (i4.set 0 (.bool true)) (kx.setCell (p := ⟨w.heap.size, 0, none⟩) (Nat.le_refl _) (.bool true)))
  clear i4 kx k1 k2
  go_wp2
  exact ⟨_, turns_res _ _ _ _ rfl Z.out.1, rfl, Z.out.2⟩
set_option maxRecDepth 100000 in
set_option maxHeartbeats 4000000 in
theorem turns_short2 (sp : Option Addr) (N cap : Nat) (z : Int) (w : World) (qf : Hid (∀ V : World, Kb w V → Calls Try.prog 28 #[.slice sp N cap] V fun r W' => r = .returned (.bool true) ∧ Kb V W')) (hd : decide ((N : Int) < 2) = false) (hd2 : decide ((10 : Int) < (N : Int)) = true) (qa : Ca 11 #[] (.bool true)) :
    Calls Try.prog 10 #[.slice sp N cap, .int .u8 z] w fun e W => TurnsOk w e W := by
  refine (callsIn_wide (n := 5)).1 ?_
  refine callsIn_of_wp_marks Try.func10 rfl trivial ?_ rfl
  simp only [Try.ntmps10, List.size_toArray, List.length_cons, List.length_nil, Nat.reduceAdd, Nat.reduceSub, Array.replicate_succ, Array.replicate_zero, List.push_toArray, List.append_toArray, List.nil_append, List.cons_append]
  refine wpIn_wide.2 ?_
  unfold Ca at *
  have kx := (Kb.refl w).alloc (.cells #[.bool false] 4 (0, 0))
  have i4 := Is.made w #[.bool false] 4
  go_wp2_with fail
  (with_reducible refine (qf.out _ kx).mono ?_)
  rintro r w1 ⟨rfl, k1⟩
  replace kx := kx.trans k1
  replace i4 := i4.kb k1
  go_wp2_with fail
  (with_reducible refine (qa.out _).mono ?_)
  rintro r w2 ⟨rfl, k2⟩
  replace kx := kx.trans k2
  replace i4 := i4.kb k2
  have c4 := i4.c (i := 0) rfl
  have f4 := i4.f 0
  have Z := Lib.hid (And.intro (i4.set 0 (.bool true)) (kx.setCell (p := ⟨w.heap.size, 0, none⟩) (Nat.le_refl _) (.bool true)))
  clear i4 kx k1 k2
  go_wp2
  exact ⟨_, turns_res _ _ _ _ rfl Z.out.1, rfl, Z.out.2⟩
set_option maxRecDepth 100000 in
set_option maxHeartbeats 4000000 in
theorem turns_err (sp : Option Addr) (N cap : Nat) (z : Int) (w : World) (qf : Hid (∀ V : World, Kb w V → Calls Try.prog 28 #[.slice sp N cap] V fun r W' => r = .returned (.bool true) ∧ Kb V W')) (hd : decide ((N : Int) < 2) = false) (hd2 : decide ((10 : Int) < (N : Int)) = false) (s : DS) (he : s.2 ≠ 0) (qp : Hid (∀ V : World, Kb w V → Calls Try.prog 35 #[.slice sp N cap] V fun r W' => r = .returned (.tuple (encS s)) ∧ Kb V W')) (qa : Ca 11 #[] (.bool true)) :
    Calls Try.prog 10 #[.slice sp N cap, .int .u8 z] w fun e W => TurnsOk w e W := by
  obtain ⟨⟨x0, x1, x2, x3, x4⟩, e⟩ := s
  have hne : (e != 0) = true := by simpa using he
  clear he
  refine (callsIn_wide (n := 5)).1 ?_
  refine callsIn_of_wp_marks Try.func10 rfl trivial ?_ rfl
  simp only [Try.ntmps10, List.size_toArray, List.length_cons, List.length_nil, Nat.reduceAdd, Nat.reduceSub, Array.replicate_succ, Array.replicate_zero, List.push_toArray, List.append_toArray, List.nil_append, List.cons_append]
  refine wpIn_wide.2 ?_
  unfold Ca at *
  have kx := (Kb.refl w).alloc (.cells #[.bool false] 4 (0, 0))
  have i4 := Is.made w #[.bool false] 4
  go_wp2_with fail
  (with_reducible refine (qf.out _ kx).mono ?_)
  rintro r w1 ⟨rfl, k1⟩
  replace kx := kx.trans k1
  replace i4 := i4.kb k1
  go_wp2_with fail
  refine (qp.out _ kx).mono ?_
  rintro r w9 ⟨rfl, k9⟩
  replace kx := (kx.trans k9).alloc (.cells #[.string x0, .string x1, .int .i64 x2, .int .i64 x3, .int .i64 x4] 49 (0, 0))
  replace i4 := (i4.kb k9).alloc (.cells #[.string x0, .string x1, .int .i64 x2, .int .i64 x3, .int .i64 x4] 49 (0, 0))
  dsimp only [encS, valDim]
  go_wp2_with fail
  (with_reducible refine (qa.out _).mono ?_)
  rintro r w2 ⟨rfl, k2⟩
  replace kx := kx.trans k2
  replace i4 := i4.kb k2
  have c4 := i4.c (i := 0) rfl
  have f4 := i4.f 0
  have Z := Lib.hid (And.intro (i4.set 0 (.bool true)) (kx.setCell (p := ⟨w.heap.size, 0, none⟩) (Nat.le_refl _) (.bool true)))
  clear i4 kx k1 k2 k9
  go_wp2
  exact ⟨_, turns_res _ _ _ _ rfl Z.out.1, rfl, Z.out.2⟩
end Go.Proofs.Ytendjeefggigbaa
