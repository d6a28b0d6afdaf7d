/- Features: equal features. -/
import Derived.Test.YtgclljgdoonnmaaDoorQj2
namespace Go.Proofs.YtgclljgdoonnmaaDoor
open Go.RowKit

def plB (n : ByteArray) (k a x y z lo hi : Int) (n2 : ByteArray) (k2 a2 x2 y2 z2 lo2 hi2 : Int) : Bool := n.toList == n2.toList && k == k2 && a == a2 && x == x2 && y == y2 && z == z2 && lo == lo2 && hi == hi2
set_option maxRecDepth 100000 in
set_option maxHeartbeats 1000000 in
theorem fS3_1 (nu : ByteArray) (ku : Int) (au : Int) (xu : Int) (yu : Int) (zu : Int) (lou : Int) (hiu : Int) (fpu : Option Addr) (flu : Nat) (fcu : Nat) (w : World)  : Calls Tryd.prog 66 #[.agg #[.string nu, .int .i64 ku, .int .i64 au, .int .i64 xu, .int .i64 yu, .int .i64 zu, .int .i64 lou, .int .i64 hiu, .slice fpu flu fcu]] w fun r W' => r = .returned (.tuple #[.agg #[.string nu, .int .i64 ku, .int .i64 au, .int .i64 xu, .int .i64 yu, .int .i64 zu, .int .i64 lou, .int .i64 hiu], .slice fpu flu fcu]) ∧ Kb w W' := by
  have kx := Kb.refl w
  go_enter Tryd.func66, Tryd.ntmps66
  go_wp2_with fail
  have b1 := Is.made w #[.string nu, .int .i64 ku, .int .i64 au, .int .i64 xu, .int .i64 yu, .int .i64 zu, .int .i64 lou, .int .i64 hiu, .slice fpu flu fcu] 28
  replace b1 := (b1.alloc (.cells #[.string ⟨#[]⟩, .int .i64 0, .int .i64 0, .int .i64 0, .int .i64 0, .int .i64 0, .int .i64 0, .int .i64 0] 98 (0, 0)))
  have b2 := Is.made (w.alloc (.cells #[.string nu, .int .i64 ku, .int .i64 au, .int .i64 xu, .int .i64 yu, .int .i64 zu, .int .i64 lou, .int .i64 hiu, .slice fpu flu fcu] 28 (0, 0))) #[.string ⟨#[]⟩, .int .i64 0, .int .i64 0, .int .i64 0, .int .i64 0, .int .i64 0, .int .i64 0, .int .i64 0] 98
  simp only [World.size_alloc] at b2
  replace kx := kx.alloc (.cells #[.string nu, .int .i64 ku, .int .i64 au, .int .i64 xu, .int .i64 yu, .int .i64 zu, .int .i64 lou, .int .i64 hiu, .slice fpu flu fcu] 28 (0, 0))
  replace kx := kx.alloc (.cells #[.string ⟨#[]⟩, .int .i64 0, .int .i64 0, .int .i64 0, .int .i64 0, .int .i64 0, .int .i64 0, .int .i64 0] 98 (0, 0))
  replace b1 := b1.drew
  replace b2 := b2.drew
  rw [oF_lit]
  refine o_law (⟨17, [some 4, some 5, some 6, some 7, some 8, some 9, some 10, some 11, some 12, some 13, some 14, some 15, some 16, none, some 3], [4, 5, 6, 7, 8, 9, 10, 11, 12, 13, 14, 15, 16, 2, 3], [[], [0], [], [2], [], [4], [], [6], [], [8], [1, 3, 5, 7, 9], [], [11], [10], [12]], [[1], [], [1], [], [1], [], [1], [], [1], [], [], [1], [], [2], []]⟩ : OT) (Gz (w.heap.size + 1) #[.string ⟨#[]⟩, .int .i64 0, .int .i64 0, .int .i64 0, .int .i64 0, .int .i64 0, .int .i64 0, .int .i64 0] #[.string nu, .int .i64 ku, .int .i64 au, .int .i64 xu, .int .i64 yu, .int .i64 zu, .int .i64 lou, .int .i64 hiu] 98) (RL [fun vv _ => vv = .pointer (some ⟨w.heap.size, 0, none⟩), fun vv _ => vv = .string nu, fun vv _ => vv = .pointer (some ⟨w.heap.size, 1, none⟩), fun vv _ => vv = .int .i64 ku, fun vv _ => vv = .pointer (some ⟨w.heap.size, 2, none⟩), fun vv _ => vv = .int .i64 au, fun vv _ => vv = .pointer (some ⟨w.heap.size, 3, none⟩), fun vv _ => vv = .agg #[.int .i64 xu, .int .i64 yu, .int .i64 zu], fun vv _ => vv = .pointer (some ⟨w.heap.size, 6, none⟩), fun vv _ => vv = .agg #[.int .i64 lou, .int .i64 hiu], fun vv _ => vv = .agg #[.string nu, .int .i64 ku, .int .i64 au, .int .i64 xu, .int .i64 yu, .int .i64 zu, .int .i64 lou, .int .i64 hiu], fun vv _ => vv = .pointer (some ⟨w.heap.size, 8, none⟩), fun vv _ => vv = .slice fpu flu fcu, fun _ ww => Is ww (w.heap.size + 1) #[.string nu, .int .i64 ku, .int .i64 au, .int .i64 xu, .int .i64 yu, .int .i64 zu, .int .i64 lou, .int .i64 hiu] 98, fun vv _ => vv = .slice fpu flu fcu]) (by kernel_rfl) ?hk ?hR ?fin
  case hk => kernel_rfl
  case hR =>
    refine ⟨fun _ => (Gz.refl _ _ _ _ _), fun _ _ _ => Gz.trans, rl_stab ⟨fun _ _ _ _ h => h, fun _ _ _ _ h => h, fun _ _ _ _ h => h, fun _ _ _ _ h => h, fun _ _ _ _ h => h, fun _ _ _ _ h => h, fun _ _ _ _ h => h, fun _ _ _ _ h => h, fun _ _ _ _ h => h, fun _ _ _ _ h => h, fun _ _ _ _ h => h, fun _ _ _ _ h => h, fun _ _ _ _ h => h, (fun v w w' k h => k.2.1 h), fun _ _ _ _ h => h, trivial⟩, ?_⟩
    refine allO_cons ?_ (allO_cons ?_ (allO_cons ?_ (allO_cons ?_ (allO_cons ?_ (allO_cons ?_ (allO_cons ?_ (allO_cons ?_ (allO_cons ?_ (allO_cons ?_ (allO_cons ?_ (allO_cons ?_ (allO_cons ?_ (allO_cons ?_ (allO_cons ?_ (allO_nil)))))))))))))))
    · intro T w9 hG hD hO Q
      have q0 := hO.1
      have e0 : (oF 17 T).eval (.tmp 1) = .pointer (some ⟨w.heap.size, 0, none⟩) := (oF_eval (by decide)).trans (show T 1 = _ from q0)
      refine og_none rfl ?_
      exact o_val (v := .pointer (some ⟨w.heap.size, 0, none⟩)) (w' := w9) (by generalize (oF 17 T).eval = rr at *; simp [execOp, go_sem, e0]) rfl rfl (Gz.refl _ _ _ _ _)
    · intro T w9 hG hD hO Q
      have d0 := hD.1
      have e0 : (oF 17 T).eval (.tmp 4) = .pointer (some ⟨w.heap.size, 0, none⟩) := (oF_eval (by decide)).trans (show T 4 = _ from d0)
      refine og_none rfl ?_
      have im := b1.kx hG.1 (by simp only [List.mem_singleton]; omega)
      have m0 := im.c (i := 0) rfl
      clear im
      exact o_val (v := .string nu) (w' := w9) (by generalize (oF 17 T).eval = rr at *; simp [execOp, go_sem, e0, m0]) rfl rfl (Gz.refl _ _ _ _ _)
    · intro T w9 hG hD hO Q
      have q0 := hO.1
      have e0 : (oF 17 T).eval (.tmp 1) = .pointer (some ⟨w.heap.size, 0, none⟩) := (oF_eval (by decide)).trans (show T 1 = _ from q0)
      refine og_none rfl ?_
      exact o_val (v := .pointer (some ⟨w.heap.size, 1, none⟩)) (w' := w9) (by generalize (oF 17 T).eval = rr at *; simp [execOp, go_sem, e0]) rfl rfl (Gz.refl _ _ _ _ _)
    · intro T w9 hG hD hO Q
      have d0 := hD.1
      have e0 : (oF 17 T).eval (.tmp 6) = .pointer (some ⟨w.heap.size, 1, none⟩) := (oF_eval (by decide)).trans (show T 6 = _ from d0)
      refine og_none rfl ?_
      have im := b1.kx hG.1 (by simp only [List.mem_singleton]; omega)
      have m0 := im.c (i := 1) rfl
      clear im
      exact o_val (v := .int .i64 ku) (w' := w9) (by generalize (oF 17 T).eval = rr at *; simp [execOp, go_sem, e0, m0]) rfl rfl (Gz.refl _ _ _ _ _)
    · intro T w9 hG hD hO Q
      have q0 := hO.1
      have e0 : (oF 17 T).eval (.tmp 1) = .pointer (some ⟨w.heap.size, 0, none⟩) := (oF_eval (by decide)).trans (show T 1 = _ from q0)
      refine og_none rfl ?_
      exact o_val (v := .pointer (some ⟨w.heap.size, 2, none⟩)) (w' := w9) (by generalize (oF 17 T).eval = rr at *; simp [execOp, go_sem, e0]) rfl rfl (Gz.refl _ _ _ _ _)
    · intro T w9 hG hD hO Q
      have d0 := hD.1
      have e0 : (oF 17 T).eval (.tmp 8) = .pointer (some ⟨w.heap.size, 2, none⟩) := (oF_eval (by decide)).trans (show T 8 = _ from d0)
      refine og_none rfl ?_
      have im := b1.kx hG.1 (by simp only [List.mem_singleton]; omega)
      have m0 := im.c (i := 2) rfl
      clear im
      exact o_val (v := .int .i64 au) (w' := w9) (by generalize (oF 17 T).eval = rr at *; simp [execOp, go_sem, e0, m0]) rfl rfl (Gz.refl _ _ _ _ _)
    · intro T w9 hG hD hO Q
      have q0 := hO.1
      have e0 : (oF 17 T).eval (.tmp 1) = .pointer (some ⟨w.heap.size, 0, none⟩) := (oF_eval (by decide)).trans (show T 1 = _ from q0)
      refine og_none rfl ?_
      exact o_val (v := .pointer (some ⟨w.heap.size, 3, none⟩)) (w' := w9) (by generalize (oF 17 T).eval = rr at *; simp [execOp, go_sem, e0]) rfl rfl (Gz.refl _ _ _ _ _)
    · intro T w9 hG hD hO Q
      have d0 := hD.1
      have e0 : (oF 17 T).eval (.tmp 10) = .pointer (some ⟨w.heap.size, 3, none⟩) := (oF_eval (by decide)).trans (show T 10 = _ from d0)
      refine og_none rfl ?_
      have im := b1.kx hG.1 (by simp only [List.mem_singleton]; omega)
      have m0 := im.c (i := 3) rfl
      have m1 := im.c (i := 4) rfl
      have m2 := im.c (i := 5) rfl
      clear im
      exact o_val (v := .agg #[.int .i64 xu, .int .i64 yu, .int .i64 zu]) (w' := w9) (by generalize (oF 17 T).eval = rr at *; simp [execOp, go_sem, e0, m0, m1, m2]) rfl rfl (Gz.refl _ _ _ _ _)
    · intro T w9 hG hD hO Q
      have q0 := hO.1
      have e0 : (oF 17 T).eval (.tmp 1) = .pointer (some ⟨w.heap.size, 0, none⟩) := (oF_eval (by decide)).trans (show T 1 = _ from q0)
      refine og_none rfl ?_
      exact o_val (v := .pointer (some ⟨w.heap.size, 6, none⟩)) (w' := w9) (by generalize (oF 17 T).eval = rr at *; simp [execOp, go_sem, e0]) rfl rfl (Gz.refl _ _ _ _ _)
    · intro T w9 hG hD hO Q
      have d0 := hD.1
      have e0 : (oF 17 T).eval (.tmp 12) = .pointer (some ⟨w.heap.size, 6, none⟩) := (oF_eval (by decide)).trans (show T 12 = _ from d0)
      refine og_none rfl ?_
      have im := b1.kx hG.1 (by simp only [List.mem_singleton]; omega)
      have m0 := im.c (i := 6) rfl
      have m1 := im.c (i := 7) rfl
      clear im
      exact o_val (v := .agg #[.int .i64 lou, .int .i64 hiu]) (w' := w9) (by generalize (oF 17 T).eval = rr at *; simp [execOp, go_sem, e0, m0, m1]) rfl rfl (Gz.refl _ _ _ _ _)
    · intro T w9 hG hD hO Q
      have d0 := hD.1
      have d1 := hD.2.1
      have d2 := hD.2.2.1
      have d3 := hD.2.2.2.1
      have d4 := hD.2.2.2.2.1
      have e0 : (oF 17 T).eval (.tmp 5) = .string nu := (oF_eval (by decide)).trans (show T 5 = _ from d0)
      have e1 : (oF 17 T).eval (.tmp 7) = .int .i64 ku := (oF_eval (by decide)).trans (show T 7 = _ from d1)
      have e2 : (oF 17 T).eval (.tmp 9) = .int .i64 au := (oF_eval (by decide)).trans (show T 9 = _ from d2)
      have e3 : (oF 17 T).eval (.tmp 11) = .agg #[.int .i64 xu, .int .i64 yu, .int .i64 zu] := (oF_eval (by decide)).trans (show T 11 = _ from d3)
      have e4 : (oF 17 T).eval (.tmp 13) = .agg #[.int .i64 lou, .int .i64 hiu] := (oF_eval (by decide)).trans (show T 13 = _ from d4)
      refine og_none rfl ?_
      exact o_val (v := .agg #[.string nu, .int .i64 ku, .int .i64 au, .int .i64 xu, .int .i64 yu, .int .i64 zu, .int .i64 lou, .int .i64 hiu]) (w' := w9) (by generalize (oF 17 T).eval = rr at *; simp [execOp, go_sem, e0, e1, e2, e3, e4]) rfl rfl (Gz.refl _ _ _ _ _)
    · intro T w9 hG hD hO Q
      have q0 := hO.1
      have e0 : (oF 17 T).eval (.tmp 1) = .pointer (some ⟨w.heap.size, 0, none⟩) := (oF_eval (by decide)).trans (show T 1 = _ from q0)
      refine og_none rfl ?_
      exact o_val (v := .pointer (some ⟨w.heap.size, 8, none⟩)) (w' := w9) (by generalize (oF 17 T).eval = rr at *; simp [execOp, go_sem, e0]) rfl rfl (Gz.refl _ _ _ _ _)
    · intro T w9 hG hD hO Q
      have d0 := hD.1
      have e0 : (oF 17 T).eval (.tmp 15) = .pointer (some ⟨w.heap.size, 8, none⟩) := (oF_eval (by decide)).trans (show T 15 = _ from d0)
      refine og_none rfl ?_
      have im := b1.kx hG.1 (by simp only [List.mem_singleton]; omega)
      have m0 := im.c (i := 8) rfl
      clear im
      exact o_val (v := .slice fpu flu fcu) (w' := w9) (by generalize (oF 17 T).eval = rr at *; simp [execOp, go_sem, e0, m0]) rfl rfl (Gz.refl _ _ _ _ _)
    · intro T w9 hG hD hO Q
      have d0 := hD.1
      have q0 := hO.1
      have e0 : (oF 17 T).eval (.tmp 2) = .pointer (some ⟨w.heap.size + 1, 0, none⟩) := (oF_eval (by decide)).trans (show T 2 = _ from q0)
      have e1 : (oF 17 T).eval (.tmp 14) = .agg #[.string nu, .int .i64 ku, .int .i64 au, .int .i64 xu, .int .i64 yu, .int .i64 zu, .int .i64 lou, .int .i64 hiu] := (oF_eval (by decide)).trans (show T 14 = _ from d0)
      refine og_none rfl ?_
      have io : Is w9 (w.heap.size + 1) #[.string ⟨#[]⟩, .int .i64 0, .int .i64 0, .int .i64 0, .int .i64 0, .int .i64 0, .int .i64 0, .int .i64 0] 98 ∨ Is w9 (w.heap.size + 1) #[.string nu, .int .i64 ku, .int .i64 au, .int .i64 xu, .int .i64 yu, .int .i64 zu, .int .i64 lou, .int .i64 hiu] 98 := hG.2.2 (.inl b2)
      rcases io with io | io
      · have zn := io
        replace zn : Is (w9.setCell ⟨w.heap.size + 1, 0, none⟩ (.string nu)) (w.heap.size + 1) #[.string nu, .int .i64 0, .int .i64 0, .int .i64 0, .int .i64 0, .int .i64 0, .int .i64 0, .int .i64 0] 98 := zn.set 0 _
        replace zn : Is ((w9.setCell ⟨w.heap.size + 1, 0, none⟩ (.string nu)).setCell ⟨w.heap.size + 1, 1, none⟩ (.int .i64 ku)) (w.heap.size + 1) #[.string nu, .int .i64 ku, .int .i64 0, .int .i64 0, .int .i64 0, .int .i64 0, .int .i64 0, .int .i64 0] 98 := zn.set 1 _
        replace zn : Is (((w9.setCell ⟨w.heap.size + 1, 0, none⟩ (.string nu)).setCell ⟨w.heap.size + 1, 1, none⟩ (.int .i64 ku)).setCell ⟨w.heap.size + 1, 2, none⟩ (.int .i64 au)) (w.heap.size + 1) #[.string nu, .int .i64 ku, .int .i64 au, .int .i64 0, .int .i64 0, .int .i64 0, .int .i64 0, .int .i64 0] 98 := zn.set 2 _
        replace zn : Is ((((w9.setCell ⟨w.heap.size + 1, 0, none⟩ (.string nu)).setCell ⟨w.heap.size + 1, 1, none⟩ (.int .i64 ku)).setCell ⟨w.heap.size + 1, 2, none⟩ (.int .i64 au)).setCell ⟨w.heap.size + 1, 3, none⟩ (.int .i64 xu)) (w.heap.size + 1) #[.string nu, .int .i64 ku, .int .i64 au, .int .i64 xu, .int .i64 0, .int .i64 0, .int .i64 0, .int .i64 0] 98 := zn.set 3 _
        replace zn : Is (((((w9.setCell ⟨w.heap.size + 1, 0, none⟩ (.string nu)).setCell ⟨w.heap.size + 1, 1, none⟩ (.int .i64 ku)).setCell ⟨w.heap.size + 1, 2, none⟩ (.int .i64 au)).setCell ⟨w.heap.size + 1, 3, none⟩ (.int .i64 xu)).setCell ⟨w.heap.size + 1, 4, none⟩ (.int .i64 yu)) (w.heap.size + 1) #[.string nu, .int .i64 ku, .int .i64 au, .int .i64 xu, .int .i64 yu, .int .i64 0, .int .i64 0, .int .i64 0] 98 := zn.set 4 _
        replace zn : Is ((((((w9.setCell ⟨w.heap.size + 1, 0, none⟩ (.string nu)).setCell ⟨w.heap.size + 1, 1, none⟩ (.int .i64 ku)).setCell ⟨w.heap.size + 1, 2, none⟩ (.int .i64 au)).setCell ⟨w.heap.size + 1, 3, none⟩ (.int .i64 xu)).setCell ⟨w.heap.size + 1, 4, none⟩ (.int .i64 yu)).setCell ⟨w.heap.size + 1, 5, none⟩ (.int .i64 zu)) (w.heap.size + 1) #[.string nu, .int .i64 ku, .int .i64 au, .int .i64 xu, .int .i64 yu, .int .i64 zu, .int .i64 0, .int .i64 0] 98 := zn.set 5 _
        replace zn : Is (((((((w9.setCell ⟨w.heap.size + 1, 0, none⟩ (.string nu)).setCell ⟨w.heap.size + 1, 1, none⟩ (.int .i64 ku)).setCell ⟨w.heap.size + 1, 2, none⟩ (.int .i64 au)).setCell ⟨w.heap.size + 1, 3, none⟩ (.int .i64 xu)).setCell ⟨w.heap.size + 1, 4, none⟩ (.int .i64 yu)).setCell ⟨w.heap.size + 1, 5, none⟩ (.int .i64 zu)).setCell ⟨w.heap.size + 1, 6, none⟩ (.int .i64 lou)) (w.heap.size + 1) #[.string nu, .int .i64 ku, .int .i64 au, .int .i64 xu, .int .i64 yu, .int .i64 zu, .int .i64 lou, .int .i64 0] 98 := zn.set 6 _
        replace zn : Is ((((((((w9.setCell ⟨w.heap.size + 1, 0, none⟩ (.string nu)).setCell ⟨w.heap.size + 1, 1, none⟩ (.int .i64 ku)).setCell ⟨w.heap.size + 1, 2, none⟩ (.int .i64 au)).setCell ⟨w.heap.size + 1, 3, none⟩ (.int .i64 xu)).setCell ⟨w.heap.size + 1, 4, none⟩ (.int .i64 yu)).setCell ⟨w.heap.size + 1, 5, none⟩ (.int .i64 zu)).setCell ⟨w.heap.size + 1, 6, none⟩ (.int .i64 lou)).setCell ⟨w.heap.size + 1, 7, none⟩ (.int .i64 hiu)) (w.heap.size + 1) #[.string nu, .int .i64 ku, .int .i64 au, .int .i64 xu, .int .i64 yu, .int .i64 zu, .int .i64 lou, .int .i64 hiu] 98 := zn.set 7 _
        have pt := (((((((((Pt.refl (w.heap.size + 1) w9).set 0 (.string nu)).set 1 (.int .i64 ku)).set 2 (.int .i64 au)).set 3 (.int .i64 xu)).set 4 (.int .i64 yu)).set 5 (.int .i64 zu)).set 6 (.int .i64 lou)).set 7 (.int .i64 hiu))
        have m0 := io.c (i := 0) rfl
        have f0 := io.f 0
        have m1 := io.c (i := 1) rfl
        have f1 := io.f 1
        have m2 := io.c (i := 2) rfl
        have f2 := io.f 2
        have m3 := io.c (i := 3) rfl
        have f3 := io.f 3
        have m4 := io.c (i := 4) rfl
        have f4 := io.f 4
        have m5 := io.c (i := 5) rfl
        have f5 := io.f 5
        have m6 := io.c (i := 6) rfl
        have f6 := io.f 6
        have m7 := io.c (i := 7) rfl
        have f7 := io.f 7
        clear io
        exact o_skip (w' := ((((((((w9.setCell ⟨w.heap.size + 1, 0, none⟩ (.string nu)).setCell ⟨w.heap.size + 1, 1, none⟩ (.int .i64 ku)).setCell ⟨w.heap.size + 1, 2, none⟩ (.int .i64 au)).setCell ⟨w.heap.size + 1, 3, none⟩ (.int .i64 xu)).setCell ⟨w.heap.size + 1, 4, none⟩ (.int .i64 yu)).setCell ⟨w.heap.size + 1, 5, none⟩ (.int .i64 zu)).setCell ⟨w.heap.size + 1, 6, none⟩ (.int .i64 lou)).setCell ⟨w.heap.size + 1, 7, none⟩ (.int .i64 hiu))) (by generalize (oF 17 T).eval = rr at *; simp [execOp, go_sem, e0, e1, m0, f0, m1, f1, m2, f2, m3, f3, m4, f4, m5, f5, m6, f6, m7, f7]) rfl zn (pt.gz zn)
      · have zn := io
        replace zn : Is (w9.setCell ⟨w.heap.size + 1, 0, none⟩ (.string nu)) (w.heap.size + 1) #[.string nu, .int .i64 ku, .int .i64 au, .int .i64 xu, .int .i64 yu, .int .i64 zu, .int .i64 lou, .int .i64 hiu] 98 := zn.set 0 _
        replace zn : Is ((w9.setCell ⟨w.heap.size + 1, 0, none⟩ (.string nu)).setCell ⟨w.heap.size + 1, 1, none⟩ (.int .i64 ku)) (w.heap.size + 1) #[.string nu, .int .i64 ku, .int .i64 au, .int .i64 xu, .int .i64 yu, .int .i64 zu, .int .i64 lou, .int .i64 hiu] 98 := zn.set 1 _
        replace zn : Is (((w9.setCell ⟨w.heap.size + 1, 0, none⟩ (.string nu)).setCell ⟨w.heap.size + 1, 1, none⟩ (.int .i64 ku)).setCell ⟨w.heap.size + 1, 2, none⟩ (.int .i64 au)) (w.heap.size + 1) #[.string nu, .int .i64 ku, .int .i64 au, .int .i64 xu, .int .i64 yu, .int .i64 zu, .int .i64 lou, .int .i64 hiu] 98 := zn.set 2 _
        replace zn : Is ((((w9.setCell ⟨w.heap.size + 1, 0, none⟩ (.string nu)).setCell ⟨w.heap.size + 1, 1, none⟩ (.int .i64 ku)).setCell ⟨w.heap.size + 1, 2, none⟩ (.int .i64 au)).setCell ⟨w.heap.size + 1, 3, none⟩ (.int .i64 xu)) (w.heap.size + 1) #[.string nu, .int .i64 ku, .int .i64 au, .int .i64 xu, .int .i64 yu, .int .i64 zu, .int .i64 lou, .int .i64 hiu] 98 := zn.set 3 _
        replace zn : Is (((((w9.setCell ⟨w.heap.size + 1, 0, none⟩ (.string nu)).setCell ⟨w.heap.size + 1, 1, none⟩ (.int .i64 ku)).setCell ⟨w.heap.size + 1, 2, none⟩ (.int .i64 au)).setCell ⟨w.heap.size + 1, 3, none⟩ (.int .i64 xu)).setCell ⟨w.heap.size + 1, 4, none⟩ (.int .i64 yu)) (w.heap.size + 1) #[.string nu, .int .i64 ku, .int .i64 au, .int .i64 xu, .int .i64 yu, .int .i64 zu, .int .i64 lou, .int .i64 hiu] 98 := zn.set 4 _
        replace zn : Is ((((((w9.setCell ⟨w.heap.size + 1, 0, none⟩ (.string nu)).setCell ⟨w.heap.size + 1, 1, none⟩ (.int .i64 ku)).setCell ⟨w.heap.size + 1, 2, none⟩ (.int .i64 au)).setCell ⟨w.heap.size + 1, 3, none⟩ (.int .i64 xu)).setCell ⟨w.heap.size + 1, 4, none⟩ (.int .i64 yu)).setCell ⟨w.heap.size + 1, 5, none⟩ (.int .i64 zu)) (w.heap.size + 1) #[.string nu, .int .i64 ku, .int .i64 au, .int .i64 xu, .int .i64 yu, .int .i64 zu, .int .i64 lou, .int .i64 hiu] 98 := zn.set 5 _
        replace zn : Is (((((((w9.setCell ⟨w.heap.size + 1, 0, none⟩ (.string nu)).setCell ⟨w.heap.size + 1, 1, none⟩ (.int .i64 ku)).setCell ⟨w.heap.size + 1, 2, none⟩ (.int .i64 au)).setCell ⟨w.heap.size + 1, 3, none⟩ (.int .i64 xu)).setCell ⟨w.heap.size + 1, 4, none⟩ (.int .i64 yu)).setCell ⟨w.heap.size + 1, 5, none⟩ (.int .i64 zu)).setCell ⟨w.heap.size + 1, 6, none⟩ (.int .i64 lou)) (w.heap.size + 1) #[.string nu, .int .i64 ku, .int .i64 au, .int .i64 xu, .int .i64 yu, .int .i64 zu, .int .i64 lou, .int .i64 hiu] 98 := zn.set 6 _
        replace zn : Is ((((((((w9.setCell ⟨w.heap.size + 1, 0, none⟩ (.string nu)).setCell ⟨w.heap.size + 1, 1, none⟩ (.int .i64 ku)).setCell ⟨w.heap.size + 1, 2, none⟩ (.int .i64 au)).setCell ⟨w.heap.size + 1, 3, none⟩ (.int .i64 xu)).setCell ⟨w.heap.size + 1, 4, none⟩ (.int .i64 yu)).setCell ⟨w.heap.size + 1, 5, none⟩ (.int .i64 zu)).setCell ⟨w.heap.size + 1, 6, none⟩ (.int .i64 lou)).setCell ⟨w.heap.size + 1, 7, none⟩ (.int .i64 hiu)) (w.heap.size + 1) #[.string nu, .int .i64 ku, .int .i64 au, .int .i64 xu, .int .i64 yu, .int .i64 zu, .int .i64 lou, .int .i64 hiu] 98 := zn.set 7 _
        have pt := (((((((((Pt.refl (w.heap.size + 1) w9).set 0 (.string nu)).set 1 (.int .i64 ku)).set 2 (.int .i64 au)).set 3 (.int .i64 xu)).set 4 (.int .i64 yu)).set 5 (.int .i64 zu)).set 6 (.int .i64 lou)).set 7 (.int .i64 hiu))
        have m0 := io.c (i := 0) rfl
        have f0 := io.f 0
        have m1 := io.c (i := 1) rfl
        have f1 := io.f 1
        have m2 := io.c (i := 2) rfl
        have f2 := io.f 2
        have m3 := io.c (i := 3) rfl
        have f3 := io.f 3
        have m4 := io.c (i := 4) rfl
        have f4 := io.f 4
        have m5 := io.c (i := 5) rfl
        have f5 := io.f 5
        have m6 := io.c (i := 6) rfl
        have f6 := io.f 6
        have m7 := io.c (i := 7) rfl
        have f7 := io.f 7
        clear io
        exact o_skip (w' := ((((((((w9.setCell ⟨w.heap.size + 1, 0, none⟩ (.string nu)).setCell ⟨w.heap.size + 1, 1, none⟩ (.int .i64 ku)).setCell ⟨w.heap.size + 1, 2, none⟩ (.int .i64 au)).setCell ⟨w.heap.size + 1, 3, none⟩ (.int .i64 xu)).setCell ⟨w.heap.size + 1, 4, none⟩ (.int .i64 yu)).setCell ⟨w.heap.size + 1, 5, none⟩ (.int .i64 zu)).setCell ⟨w.heap.size + 1, 6, none⟩ (.int .i64 lou)).setCell ⟨w.heap.size + 1, 7, none⟩ (.int .i64 hiu))) (by generalize (oF 17 T).eval = rr at *; simp [execOp, go_sem, e0, e1, m0, f0, m1, f1, m2, f2, m3, f3, m4, f4, m5, f5, m6, f6, m7, f7]) rfl zn (pt.gz zn)
    · intro T w9 hG hD hO Q
      have d0 := hD.1
      have e0 : (oF 17 T).eval (.tmp 16) = .slice fpu flu fcu := (oF_eval (by decide)).trans (show T 16 = _ from d0)
      refine og_none rfl ?_
      exact o_val (v := .slice fpu flu fcu) (w' := w9) (by generalize (oF 17 T).eval = rr at *; simp [execOp, go_sem, e0]) rfl rfl (Gz.refl _ _ _ _ _)
  case fin =>
    intro T w1 hout hval hG
    have s1 := hG.1.2.2.2.1
    simp only [World.size_drew, World.size_alloc] at s1
    rw [show oF 17 T = (⟨#[T 0, T 1, T 2, T 3, T 4, T 5, T 6, T 7, T 8, T 9, T 10, T 11, T 12, T 13, T 14, T 15, T 16], []⟩ : Act) from oF_list 17 T]
    rw [show T 0 = .agg #[.string nu, .int .i64 ku, .int .i64 au, .int .i64 xu, .int .i64 yu, .int .i64 zu, .int .i64 lou, .int .i64 hiu, .slice fpu flu fcu] from hout 0 rfl]
    rw [show T 2 = .pointer (some ⟨w.heap.size + 1, 0, none⟩) from hout 2 rfl]
    rw [show T 3 = .slice fpu flu fcu from hval 14 (by decide : 14 < 15)]
    replace b1 := b1.kx hG.1 (by simp only [List.mem_singleton]; omega)
    replace b2 := hval 13 (by decide)
    replace b2 : Is _ (w.heap.size + 1) #[.string nu, .int .i64 ku, .int .i64 au, .int .i64 xu, .int .i64 yu, .int .i64 zu, .int .i64 lou, .int .i64 hiu] 98 := b2
    replace kx := hG.1.old kx.drew (by intro x hx; simp only [List.mem_singleton] at hx; subst hx; omega)
    clear hout hval hG
    go_wp2
    refine ret_row2 Tryd.results66 rfl rfl rfl b2 Tryd.underlying98 rfl (by kernel_rfl) ?_
    exact ⟨rfl, kx⟩
set_option maxRecDepth 100000 in
theorem fS3_any (nu : ByteArray) (ku : Int) (au : Int) (xu : Int) (yu : Int) (zu : Int) (lou : Int) (hiu : Int) (fpu : Option Addr) (flu : Nat) (fcu : Nat)    : Ca 66 #[.agg #[.string nu, .int .i64 ku, .int .i64 au, .int .i64 xu, .int .i64 yu, .int .i64 zu, .int .i64 lou, .int .i64 hiu, .slice fpu flu fcu]] (.tuple #[.agg #[.string nu, .int .i64 ku, .int .i64 au, .int .i64 xu, .int .i64 yu, .int .i64 zu, .int .i64 lou, .int .i64 hiu], .slice fpu flu fcu]) := Lib.hid fun w => by
  exact fS3_1 nu ku au xu yu zu lou hiu fpu flu fcu w
set_option maxRecDepth 100000 in
set_option maxHeartbeats 2000000 in
theorem fSameGF_1 (nu : ByteArray) (ku : Int) (au : Int) (xu : Int) (yu : Int) (zu : Int) (lou : Int) (hiu : Int) (fpu : Option Addr) (flu : Nat) (fcu : Nat) (nv : ByteArray) (kv : Int) (av : Int) (xv : Int) (yv : Int) (zv : Int) (lov : Int) (hiv : Int) (fpv : Option Addr) (flv : Nat) (fcv : Nat) (us : List FrT) (vs : List FrT) (hbd : flu ≤ 1000000) (hall : Hid (∀ f ∈ us, f.ds.length ≤ 1000000))    (q1 : Ca 66 #[.agg #[.string nu, .int .i64 ku, .int .i64 au, .int .i64 xu, .int .i64 yu, .int .i64 zu, .int .i64 lou, .int .i64 hiu, .slice fpu flu fcu]] (.tuple #[.agg #[.string nu, .int .i64 ku, .int .i64 au, .int .i64 xu, .int .i64 yu, .int .i64 zu, .int .i64 lou, .int .i64 hiu], .slice fpu flu fcu])) (q2 : Ca 66 #[.agg #[.string nv, .int .i64 kv, .int .i64 av, .int .i64 xv, .int .i64 yv, .int .i64 zv, .int .i64 lov, .int .i64 hiv, .slice fpv flv fcv]] (.tuple #[.agg #[.string nv, .int .i64 kv, .int .i64 av, .int .i64 xv, .int .i64 yv, .int .i64 zv, .int .i64 lov, .int .i64 hiv], .slice fpv flv fcv]))  (h1 : (nu.toList == nv.toList) = true) (h2 : (ku == kv) = true) (h3 : (au == av) = true) (h4 : (xu == xv) = true) (h5 : (yu == yv) = true) (h6 : (zu == zv) = true) (h7 : (lou == lov) = true) (h8 : (hiu == hiv) = true) (w : World) (da : FrS w (.slice fpu flu fcu) us) (db : FrS w (.slice fpv flv fcv) vs)  : Calls Tryd.prog 65 #[.agg #[.string nu, .int .i64 ku, .int .i64 au, .int .i64 xu, .int .i64 yu, .int .i64 zu, .int .i64 lou, .int .i64 hiu, .slice fpu flu fcu], .agg #[.string nv, .int .i64 kv, .int .i64 av, .int .i64 xv, .int .i64 yv, .int .i64 zv, .int .i64 lov, .int .i64 hiv, .slice fpv flv fcv], .func (.func 66) #[] #[], .func (.func 67) #[] #[]] w fun r W' => r = .returned (.bool (plB nu ku au xu yu zu lou hiu nv kv av xv yv zv lov hiv && eqL frB us vs)) ∧ Kb w W' := by
  have kx := Kb.refl w
  unfold Ca at q1 q2
  have en1 := (enters_of Tryd.func66 (by kernel_rfl) rfl : ∀ args W, (callFunc 66 args).run Tryd.prog W = .ok (.enter 66 args) W)
  have f1 := ((Is.made w #[.string nu, .int .i64 ku, .int .i64 au, .int .i64 xu, .int .i64 yu, .int .i64 zu, .int .i64 lou, .int .i64 hiu, .slice fpu flu fcu] 28).alloc (.cells #[.string nv, .int .i64 kv, .int .i64 av, .int .i64 xv, .int .i64 yv, .int .i64 zv, .int .i64 lov, .int .i64 hiv, .slice fpv flv fcv] 28 (0, 0))).c (i := 0) rfl
  have f2 := ((Is.made w #[.string nu, .int .i64 ku, .int .i64 au, .int .i64 xu, .int .i64 yu, .int .i64 zu, .int .i64 lou, .int .i64 hiu, .slice fpu flu fcu] 28).alloc (.cells #[.string nv, .int .i64 kv, .int .i64 av, .int .i64 xv, .int .i64 yv, .int .i64 zv, .int .i64 lov, .int .i64 hiv, .slice fpv flv fcv] 28 (0, 0))).c (i := 1) rfl
  have f3 := ((Is.made w #[.string nu, .int .i64 ku, .int .i64 au, .int .i64 xu, .int .i64 yu, .int .i64 zu, .int .i64 lou, .int .i64 hiu, .slice fpu flu fcu] 28).alloc (.cells #[.string nv, .int .i64 kv, .int .i64 av, .int .i64 xv, .int .i64 yv, .int .i64 zv, .int .i64 lov, .int .i64 hiv, .slice fpv flv fcv] 28 (0, 0))).c (i := 2) rfl
  have f4 := ((Is.made w #[.string nu, .int .i64 ku, .int .i64 au, .int .i64 xu, .int .i64 yu, .int .i64 zu, .int .i64 lou, .int .i64 hiu, .slice fpu flu fcu] 28).alloc (.cells #[.string nv, .int .i64 kv, .int .i64 av, .int .i64 xv, .int .i64 yv, .int .i64 zv, .int .i64 lov, .int .i64 hiv, .slice fpv flv fcv] 28 (0, 0))).c (i := 3) rfl
  have f5 := ((Is.made w #[.string nu, .int .i64 ku, .int .i64 au, .int .i64 xu, .int .i64 yu, .int .i64 zu, .int .i64 lou, .int .i64 hiu, .slice fpu flu fcu] 28).alloc (.cells #[.string nv, .int .i64 kv, .int .i64 av, .int .i64 xv, .int .i64 yv, .int .i64 zv, .int .i64 lov, .int .i64 hiv, .slice fpv flv fcv] 28 (0, 0))).c (i := 4) rfl
  have f6 := ((Is.made w #[.string nu, .int .i64 ku, .int .i64 au, .int .i64 xu, .int .i64 yu, .int .i64 zu, .int .i64 lou, .int .i64 hiu, .slice fpu flu fcu] 28).alloc (.cells #[.string nv, .int .i64 kv, .int .i64 av, .int .i64 xv, .int .i64 yv, .int .i64 zv, .int .i64 lov, .int .i64 hiv, .slice fpv flv fcv] 28 (0, 0))).c (i := 5) rfl
  have f7 := ((Is.made w #[.string nu, .int .i64 ku, .int .i64 au, .int .i64 xu, .int .i64 yu, .int .i64 zu, .int .i64 lou, .int .i64 hiu, .slice fpu flu fcu] 28).alloc (.cells #[.string nv, .int .i64 kv, .int .i64 av, .int .i64 xv, .int .i64 yv, .int .i64 zv, .int .i64 lov, .int .i64 hiv, .slice fpv flv fcv] 28 (0, 0))).c (i := 6) rfl
  have f8 := ((Is.made w #[.string nu, .int .i64 ku, .int .i64 au, .int .i64 xu, .int .i64 yu, .int .i64 zu, .int .i64 lou, .int .i64 hiu, .slice fpu flu fcu] 28).alloc (.cells #[.string nv, .int .i64 kv, .int .i64 av, .int .i64 xv, .int .i64 yv, .int .i64 zv, .int .i64 lov, .int .i64 hiv, .slice fpv flv fcv] 28 (0, 0))).c (i := 7) rfl
  have f9 := ((Is.made w #[.string nu, .int .i64 ku, .int .i64 au, .int .i64 xu, .int .i64 yu, .int .i64 zu, .int .i64 lou, .int .i64 hiu, .slice fpu flu fcu] 28).alloc (.cells #[.string nv, .int .i64 kv, .int .i64 av, .int .i64 xv, .int .i64 yv, .int .i64 zv, .int .i64 lov, .int .i64 hiv, .slice fpv flv fcv] 28 (0, 0))).c (i := 8) rfl
  go_enter Tryd.func65, Tryd.ntmps65
  go_wp2_with fail
  clear f1 f2 f3 f4 f5 f6 f7 f8 f9
  replace da := ((da.alloc (.cells #[.string nu, .int .i64 ku, .int .i64 au, .int .i64 xu, .int .i64 yu, .int .i64 zu, .int .i64 lou, .int .i64 hiu, .slice fpu flu fcu] 28 (0, 0))).alloc (.cells #[.string nv, .int .i64 kv, .int .i64 av, .int .i64 xv, .int .i64 yv, .int .i64 zv, .int .i64 lov, .int .i64 hiv, .slice fpv flv fcv] 28 (0, 0)))
  replace db := ((db.alloc (.cells #[.string nu, .int .i64 ku, .int .i64 au, .int .i64 xu, .int .i64 yu, .int .i64 zu, .int .i64 lou, .int .i64 hiu, .slice fpu flu fcu] 28 (0, 0))).alloc (.cells #[.string nv, .int .i64 kv, .int .i64 av, .int .i64 xv, .int .i64 yv, .int .i64 zv, .int .i64 lov, .int .i64 hiv, .slice fpv flv fcv] 28 (0, 0)))
  have b1 := Is.made w #[.string nu, .int .i64 ku, .int .i64 au, .int .i64 xu, .int .i64 yu, .int .i64 zu, .int .i64 lou, .int .i64 hiu, .slice fpu flu fcu] 28
  replace b1 := (b1.alloc (.cells #[.string nv, .int .i64 kv, .int .i64 av, .int .i64 xv, .int .i64 yv, .int .i64 zv, .int .i64 lov, .int .i64 hiv, .slice fpv flv fcv] 28 (0, 0)))
  have b2 := Is.made (w.alloc (.cells #[.string nu, .int .i64 ku, .int .i64 au, .int .i64 xu, .int .i64 yu, .int .i64 zu, .int .i64 lou, .int .i64 hiu, .slice fpu flu fcu] 28 (0, 0))) #[.string nv, .int .i64 kv, .int .i64 av, .int .i64 xv, .int .i64 yv, .int .i64 zv, .int .i64 lov, .int .i64 hiv, .slice fpv flv fcv] 28
  simp only [World.size_alloc] at b2
  replace kx := kx.alloc (.cells #[.string nu, .int .i64 ku, .int .i64 au, .int .i64 xu, .int .i64 yu, .int .i64 zu, .int .i64 lou, .int .i64 hiu, .slice fpu flu fcu] 28 (0, 0))
  replace kx := kx.alloc (.cells #[.string nv, .int .i64 kv, .int .i64 av, .int .i64 xv, .int .i64 yv, .int .i64 zv, .int .i64 lov, .int .i64 hiv, .slice fpv flv fcv] 28 (0, 0))
  (with_reducible refine (((q1).out _)).mono ?_)
  rintro r w1 ⟨rfl, k1⟩
  replace da := da.kb k1
  replace db := db.kb k1
  replace b1 := b1.kb k1
  replace b2 := b2.kb k1
  replace kx := kx.trans k1
  have s1 := k1.size
  simp only [World.size_alloc] at s1
  clear k1
  have en2 := (enters_of Tryd.func66 (by kernel_rfl) rfl : ∀ args W, (callFunc 66 args).run Tryd.prog W = .ok (.enter 66 args) W)
  have f10 := (b2.alloc (.cells #[.string nu, .int .i64 ku, .int .i64 au, .int .i64 xu, .int .i64 yu, .int .i64 zu, .int .i64 lou, .int .i64 hiu] 98 (0, 0))).c (i := 0) rfl
  have f11 := (b2.alloc (.cells #[.string nu, .int .i64 ku, .int .i64 au, .int .i64 xu, .int .i64 yu, .int .i64 zu, .int .i64 lou, .int .i64 hiu] 98 (0, 0))).c (i := 1) rfl
  have f12 := (b2.alloc (.cells #[.string nu, .int .i64 ku, .int .i64 au, .int .i64 xu, .int .i64 yu, .int .i64 zu, .int .i64 lou, .int .i64 hiu] 98 (0, 0))).c (i := 2) rfl
  have f13 := (b2.alloc (.cells #[.string nu, .int .i64 ku, .int .i64 au, .int .i64 xu, .int .i64 yu, .int .i64 zu, .int .i64 lou, .int .i64 hiu] 98 (0, 0))).c (i := 3) rfl
  have f14 := (b2.alloc (.cells #[.string nu, .int .i64 ku, .int .i64 au, .int .i64 xu, .int .i64 yu, .int .i64 zu, .int .i64 lou, .int .i64 hiu] 98 (0, 0))).c (i := 4) rfl
  have f15 := (b2.alloc (.cells #[.string nu, .int .i64 ku, .int .i64 au, .int .i64 xu, .int .i64 yu, .int .i64 zu, .int .i64 lou, .int .i64 hiu] 98 (0, 0))).c (i := 5) rfl
  have f16 := (b2.alloc (.cells #[.string nu, .int .i64 ku, .int .i64 au, .int .i64 xu, .int .i64 yu, .int .i64 zu, .int .i64 lou, .int .i64 hiu] 98 (0, 0))).c (i := 6) rfl
  have f17 := (b2.alloc (.cells #[.string nu, .int .i64 ku, .int .i64 au, .int .i64 xu, .int .i64 yu, .int .i64 zu, .int .i64 lou, .int .i64 hiu] 98 (0, 0))).c (i := 7) rfl
  have f18 := (b2.alloc (.cells #[.string nu, .int .i64 ku, .int .i64 au, .int .i64 xu, .int .i64 yu, .int .i64 zu, .int .i64 lou, .int .i64 hiu] 98 (0, 0))).c (i := 8) rfl
  go_wp2_with fail
  clear f10 f11 f12 f13 f14 f15 f16 f17 f18
  replace da := (da.alloc (.cells #[.string nu, .int .i64 ku, .int .i64 au, .int .i64 xu, .int .i64 yu, .int .i64 zu, .int .i64 lou, .int .i64 hiu] 98 (0, 0)))
  replace db := (db.alloc (.cells #[.string nu, .int .i64 ku, .int .i64 au, .int .i64 xu, .int .i64 yu, .int .i64 zu, .int .i64 lou, .int .i64 hiu] 98 (0, 0)))
  replace b1 := (b1.alloc (.cells #[.string nu, .int .i64 ku, .int .i64 au, .int .i64 xu, .int .i64 yu, .int .i64 zu, .int .i64 lou, .int .i64 hiu] 98 (0, 0)))
  replace b2 := (b2.alloc (.cells #[.string nu, .int .i64 ku, .int .i64 au, .int .i64 xu, .int .i64 yu, .int .i64 zu, .int .i64 lou, .int .i64 hiu] 98 (0, 0)))
  have b3 := Is.made w1 #[.string nu, .int .i64 ku, .int .i64 au, .int .i64 xu, .int .i64 yu, .int .i64 zu, .int .i64 lou, .int .i64 hiu] 98
  replace kx := kx.alloc (.cells #[.string nu, .int .i64 ku, .int .i64 au, .int .i64 xu, .int .i64 yu, .int .i64 zu, .int .i64 lou, .int .i64 hiu] 98 (0, 0))
  (with_reducible refine (((q2).out _)).mono ?_)
  rintro r w2 ⟨rfl, k2⟩
  replace da := da.kb k2
  replace db := db.kb k2
  replace b1 := b1.kb k2
  replace b2 := b2.kb k2
  replace b3 := b3.kb k2
  replace kx := kx.trans k2
  have s2 := k2.size
  simp only [World.size_alloc] at s2
  clear k2
  have f19 := (b3.alloc (.cells #[.string nv, .int .i64 kv, .int .i64 av, .int .i64 xv, .int .i64 yv, .int .i64 zv, .int .i64 lov, .int .i64 hiv] 98 (0, 0))).c (i := 0) rfl
  have f20 := (b3.alloc (.cells #[.string nv, .int .i64 kv, .int .i64 av, .int .i64 xv, .int .i64 yv, .int .i64 zv, .int .i64 lov, .int .i64 hiv] 98 (0, 0))).c (i := 1) rfl
  have f21 := (b3.alloc (.cells #[.string nv, .int .i64 kv, .int .i64 av, .int .i64 xv, .int .i64 yv, .int .i64 zv, .int .i64 lov, .int .i64 hiv] 98 (0, 0))).c (i := 2) rfl
  have f22 := (b3.alloc (.cells #[.string nv, .int .i64 kv, .int .i64 av, .int .i64 xv, .int .i64 yv, .int .i64 zv, .int .i64 lov, .int .i64 hiv] 98 (0, 0))).c (i := 3) rfl
  have f23 := (b3.alloc (.cells #[.string nv, .int .i64 kv, .int .i64 av, .int .i64 xv, .int .i64 yv, .int .i64 zv, .int .i64 lov, .int .i64 hiv] 98 (0, 0))).c (i := 4) rfl
  have f24 := (b3.alloc (.cells #[.string nv, .int .i64 kv, .int .i64 av, .int .i64 xv, .int .i64 yv, .int .i64 zv, .int .i64 lov, .int .i64 hiv] 98 (0, 0))).c (i := 5) rfl
  have f25 := (b3.alloc (.cells #[.string nv, .int .i64 kv, .int .i64 av, .int .i64 xv, .int .i64 yv, .int .i64 zv, .int .i64 lov, .int .i64 hiv] 98 (0, 0))).c (i := 6) rfl
  have f26 := (b3.alloc (.cells #[.string nv, .int .i64 kv, .int .i64 av, .int .i64 xv, .int .i64 yv, .int .i64 zv, .int .i64 lov, .int .i64 hiv] 98 (0, 0))).c (i := 7) rfl
  have f27 := (Is.made w2 #[.string nv, .int .i64 kv, .int .i64 av, .int .i64 xv, .int .i64 yv, .int .i64 zv, .int .i64 lov, .int .i64 hiv] 98).c (i := 0) rfl
  have f28 := (Is.made w2 #[.string nv, .int .i64 kv, .int .i64 av, .int .i64 xv, .int .i64 yv, .int .i64 zv, .int .i64 lov, .int .i64 hiv] 98).c (i := 1) rfl
  have f29 := (Is.made w2 #[.string nv, .int .i64 kv, .int .i64 av, .int .i64 xv, .int .i64 yv, .int .i64 zv, .int .i64 lov, .int .i64 hiv] 98).c (i := 2) rfl
  have f30 := (Is.made w2 #[.string nv, .int .i64 kv, .int .i64 av, .int .i64 xv, .int .i64 yv, .int .i64 zv, .int .i64 lov, .int .i64 hiv] 98).c (i := 3) rfl
  have f31 := (Is.made w2 #[.string nv, .int .i64 kv, .int .i64 av, .int .i64 xv, .int .i64 yv, .int .i64 zv, .int .i64 lov, .int .i64 hiv] 98).c (i := 4) rfl
  have f32 := (Is.made w2 #[.string nv, .int .i64 kv, .int .i64 av, .int .i64 xv, .int .i64 yv, .int .i64 zv, .int .i64 lov, .int .i64 hiv] 98).c (i := 5) rfl
  have f33 := (Is.made w2 #[.string nv, .int .i64 kv, .int .i64 av, .int .i64 xv, .int .i64 yv, .int .i64 zv, .int .i64 lov, .int .i64 hiv] 98).c (i := 6) rfl
  have f34 := (Is.made w2 #[.string nv, .int .i64 kv, .int .i64 av, .int .i64 xv, .int .i64 yv, .int .i64 zv, .int .i64 lov, .int .i64 hiv] 98).c (i := 7) rfl
  go_wp2_with fail
  clear f19 f20 f21 f22 f23 f24 f25 f26 f27 f28 f29 f30 f31 f32 f33 f34
  replace da := (da.alloc (.cells #[.string nv, .int .i64 kv, .int .i64 av, .int .i64 xv, .int .i64 yv, .int .i64 zv, .int .i64 lov, .int .i64 hiv] 98 (0, 0)))
  replace db := (db.alloc (.cells #[.string nv, .int .i64 kv, .int .i64 av, .int .i64 xv, .int .i64 yv, .int .i64 zv, .int .i64 lov, .int .i64 hiv] 98 (0, 0)))
  replace b1 := (b1.alloc (.cells #[.string nv, .int .i64 kv, .int .i64 av, .int .i64 xv, .int .i64 yv, .int .i64 zv, .int .i64 lov, .int .i64 hiv] 98 (0, 0)))
  replace b2 := (b2.alloc (.cells #[.string nv, .int .i64 kv, .int .i64 av, .int .i64 xv, .int .i64 yv, .int .i64 zv, .int .i64 lov, .int .i64 hiv] 98 (0, 0)))
  replace b3 := (b3.alloc (.cells #[.string nv, .int .i64 kv, .int .i64 av, .int .i64 xv, .int .i64 yv, .int .i64 zv, .int .i64 lov, .int .i64 hiv] 98 (0, 0)))
  have b4 := Is.made w2 #[.string nv, .int .i64 kv, .int .i64 av, .int .i64 xv, .int .i64 yv, .int .i64 zv, .int .i64 lov, .int .i64 hiv] 98
  replace kx := kx.alloc (.cells #[.string nv, .int .i64 kv, .int .i64 av, .int .i64 xv, .int .i64 yv, .int .i64 zv, .int .i64 lov, .int .i64 hiv] 98 (0, 0))
  (with_reducible refine (cEqFr _ _ _ _ _ _ us vs _ da db hbd hall).mono ?_)
  rintro r w3 ⟨rfl, k3⟩
  replace da := da.kb k3
  replace db := db.kb k3
  replace b1 := b1.kb k3
  replace b2 := b2.kb k3
  replace b3 := b3.kb k3
  replace b4 := b4.kb k3
  replace kx := kx.trans k3
  have s3 := k3.size
  simp only [World.size_alloc] at s3
  clear k3
  go_wp2
  go_ret
  exact ⟨show Ending.returned (.bool (eqL frB us vs)) = Ending.returned (.bool ((plB nu ku au xu yu zu lou hiu nv kv av xv yv zv lov hiv && eqL frB us vs))) by unfold plB; rw [h1, h2, h3, h4, h5, h6, h7, h8]; rfl, kx⟩
set_option maxRecDepth 100000 in
set_option maxHeartbeats 2000000 in
theorem fSameGF_2 (nu : ByteArray) (ku : Int) (au : Int) (xu : Int) (yu : Int) (zu : Int) (lou : Int) (hiu : Int) (fpu : Option Addr) (flu : Nat) (fcu : Nat) (nv : ByteArray) (kv : Int) (av : Int) (xv : Int) (yv : Int) (zv : Int) (lov : Int) (hiv : Int) (fpv : Option Addr) (flv : Nat) (fcv : Nat) (us : List FrT) (vs : List FrT) (hbd : flu ≤ 1000000) (hall : Hid (∀ f ∈ us, f.ds.length ≤ 1000000))    (q1 : Ca 66 #[.agg #[.string nu, .int .i64 ku, .int .i64 au, .int .i64 xu, .int .i64 yu, .int .i64 zu, .int .i64 lou, .int .i64 hiu, .slice fpu flu fcu]] (.tuple #[.agg #[.string nu, .int .i64 ku, .int .i64 au, .int .i64 xu, .int .i64 yu, .int .i64 zu, .int .i64 lou, .int .i64 hiu], .slice fpu flu fcu])) (q2 : Ca 66 #[.agg #[.string nv, .int .i64 kv, .int .i64 av, .int .i64 xv, .int .i64 yv, .int .i64 zv, .int .i64 lov, .int .i64 hiv, .slice fpv flv fcv]] (.tuple #[.agg #[.string nv, .int .i64 kv, .int .i64 av, .int .i64 xv, .int .i64 yv, .int .i64 zv, .int .i64 lov, .int .i64 hiv], .slice fpv flv fcv]))  (h1 : (nu.toList == nv.toList) = true) (h2 : (ku == kv) = true) (h3 : (au == av) = true) (h4 : (xu == xv) = true) (h5 : (yu == yv) = true) (h6 : (zu == zv) = true) (h7 : (lou == lov) = true) (h8 : (hiu == hiv) = false) (w : World) (da : FrS w (.slice fpu flu fcu) us) (db : FrS w (.slice fpv flv fcv) vs)  : Calls Tryd.prog 65 #[.agg #[.string nu, .int .i64 ku, .int .i64 au, .int .i64 xu, .int .i64 yu, .int .i64 zu, .int .i64 lou, .int .i64 hiu, .slice fpu flu fcu], .agg #[.string nv, .int .i64 kv, .int .i64 av, .int .i64 xv, .int .i64 yv, .int .i64 zv, .int .i64 lov, .int .i64 hiv, .slice fpv flv fcv], .func (.func 66) #[] #[], .func (.func 67) #[] #[]] w fun r W' => r = .returned (.bool (plB nu ku au xu yu zu lou hiu nv kv av xv yv zv lov hiv && eqL frB us vs)) ∧ Kb w W' := by
  have kx := Kb.refl w
  unfold Ca at q1 q2
  have en1 := (enters_of Tryd.func66 (by kernel_rfl) rfl : ∀ args W, (callFunc 66 args).run Tryd.prog W = .ok (.enter 66 args) W)
  have f1 := ((Is.made w #[.string nu, .int .i64 ku, .int .i64 au, .int .i64 xu, .int .i64 yu, .int .i64 zu, .int .i64 lou, .int .i64 hiu, .slice fpu flu fcu] 28).alloc (.cells #[.string nv, .int .i64 kv, .int .i64 av, .int .i64 xv, .int .i64 yv, .int .i64 zv, .int .i64 lov, .int .i64 hiv, .slice fpv flv fcv] 28 (0, 0))).c (i := 0) rfl
  have f2 := ((Is.made w #[.string nu, .int .i64 ku, .int .i64 au, .int .i64 xu, .int .i64 yu, .int .i64 zu, .int .i64 lou, .int .i64 hiu, .slice fpu flu fcu] 28).alloc (.cells #[.string nv, .int .i64 kv, .int .i64 av, .int .i64 xv, .int .i64 yv, .int .i64 zv, .int .i64 lov, .int .i64 hiv, .slice fpv flv fcv] 28 (0, 0))).c (i := 1) rfl
  have f3 := ((Is.made w #[.string nu, .int .i64 ku, .int .i64 au, .int .i64 xu, .int .i64 yu, .int .i64 zu, .int .i64 lou, .int .i64 hiu, .slice fpu flu fcu] 28).alloc (.cells #[.string nv, .int .i64 kv, .int .i64 av, .int .i64 xv, .int .i64 yv, .int .i64 zv, .int .i64 lov, .int .i64 hiv, .slice fpv flv fcv] 28 (0, 0))).c (i := 2) rfl
  have f4 := ((Is.made w #[.string nu, .int .i64 ku, .int .i64 au, .int .i64 xu, .int .i64 yu, .int .i64 zu, .int .i64 lou, .int .i64 hiu, .slice fpu flu fcu] 28).alloc (.cells #[.string nv, .int .i64 kv, .int .i64 av, .int .i64 xv, .int .i64 yv, .int .i64 zv, .int .i64 lov, .int .i64 hiv, .slice fpv flv fcv] 28 (0, 0))).c (i := 3) rfl
  have f5 := ((Is.made w #[.string nu, .int .i64 ku, .int .i64 au, .int .i64 xu, .int .i64 yu, .int .i64 zu, .int .i64 lou, .int .i64 hiu, .slice fpu flu fcu] 28).alloc (.cells #[.string nv, .int .i64 kv, .int .i64 av, .int .i64 xv, .int .i64 yv, .int .i64 zv, .int .i64 lov, .int .i64 hiv, .slice fpv flv fcv] 28 (0, 0))).c (i := 4) rfl
  have f6 := ((Is.made w #[.string nu, .int .i64 ku, .int .i64 au, .int .i64 xu, .int .i64 yu, .int .i64 zu, .int .i64 lou, .int .i64 hiu, .slice fpu flu fcu] 28).alloc (.cells #[.string nv, .int .i64 kv, .int .i64 av, .int .i64 xv, .int .i64 yv, .int .i64 zv, .int .i64 lov, .int .i64 hiv, .slice fpv flv fcv] 28 (0, 0))).c (i := 5) rfl
  have f7 := ((Is.made w #[.string nu, .int .i64 ku, .int .i64 au, .int .i64 xu, .int .i64 yu, .int .i64 zu, .int .i64 lou, .int .i64 hiu, .slice fpu flu fcu] 28).alloc (.cells #[.string nv, .int .i64 kv, .int .i64 av, .int .i64 xv, .int .i64 yv, .int .i64 zv, .int .i64 lov, .int .i64 hiv, .slice fpv flv fcv] 28 (0, 0))).c (i := 6) rfl
  have f8 := ((Is.made w #[.string nu, .int .i64 ku, .int .i64 au, .int .i64 xu, .int .i64 yu, .int .i64 zu, .int .i64 lou, .int .i64 hiu, .slice fpu flu fcu] 28).alloc (.cells #[.string nv, .int .i64 kv, .int .i64 av, .int .i64 xv, .int .i64 yv, .int .i64 zv, .int .i64 lov, .int .i64 hiv, .slice fpv flv fcv] 28 (0, 0))).c (i := 7) rfl
  have f9 := ((Is.made w #[.string nu, .int .i64 ku, .int .i64 au, .int .i64 xu, .int .i64 yu, .int .i64 zu, .int .i64 lou, .int .i64 hiu, .slice fpu flu fcu] 28).alloc (.cells #[.string nv, .int .i64 kv, .int .i64 av, .int .i64 xv, .int .i64 yv, .int .i64 zv, .int .i64 lov, .int .i64 hiv, .slice fpv flv fcv] 28 (0, 0))).c (i := 8) rfl
  go_enter Tryd.func65, Tryd.ntmps65
  go_wp2_with fail
  clear f1 f2 f3 f4 f5 f6 f7 f8 f9
  replace da := ((da.alloc (.cells #[.string nu, .int .i64 ku, .int .i64 au, .int .i64 xu, .int .i64 yu, .int .i64 zu, .int .i64 lou, .int .i64 hiu, .slice fpu flu fcu] 28 (0, 0))).alloc (.cells #[.string nv, .int .i64 kv, .int .i64 av, .int .i64 xv, .int .i64 yv, .int .i64 zv, .int .i64 lov, .int .i64 hiv, .slice fpv flv fcv] 28 (0, 0)))
  replace db := ((db.alloc (.cells #[.string nu, .int .i64 ku, .int .i64 au, .int .i64 xu, .int .i64 yu, .int .i64 zu, .int .i64 lou, .int .i64 hiu, .slice fpu flu fcu] 28 (0, 0))).alloc (.cells #[.string nv, .int .i64 kv, .int .i64 av, .int .i64 xv, .int .i64 yv, .int .i64 zv, .int .i64 lov, .int .i64 hiv, .slice fpv flv fcv] 28 (0, 0)))
  have b1 := Is.made w #[.string nu, .int .i64 ku, .int .i64 au, .int .i64 xu, .int .i64 yu, .int .i64 zu, .int .i64 lou, .int .i64 hiu, .slice fpu flu fcu] 28
  replace b1 := (b1.alloc (.cells #[.string nv, .int .i64 kv, .int .i64 av, .int .i64 xv, .int .i64 yv, .int .i64 zv, .int .i64 lov, .int .i64 hiv, .slice fpv flv fcv] 28 (0, 0)))
  have b2 := Is.made (w.alloc (.cells #[.string nu, .int .i64 ku, .int .i64 au, .int .i64 xu, .int .i64 yu, .int .i64 zu, .int .i64 lou, .int .i64 hiu, .slice fpu flu fcu] 28 (0, 0))) #[.string nv, .int .i64 kv, .int .i64 av, .int .i64 xv, .int .i64 yv, .int .i64 zv, .int .i64 lov, .int .i64 hiv, .slice fpv flv fcv] 28
  simp only [World.size_alloc] at b2
  replace kx := kx.alloc (.cells #[.string nu, .int .i64 ku, .int .i64 au, .int .i64 xu, .int .i64 yu, .int .i64 zu, .int .i64 lou, .int .i64 hiu, .slice fpu flu fcu] 28 (0, 0))
  replace kx := kx.alloc (.cells #[.string nv, .int .i64 kv, .int .i64 av, .int .i64 xv, .int .i64 yv, .int .i64 zv, .int .i64 lov, .int .i64 hiv, .slice fpv flv fcv] 28 (0, 0))
  (with_reducible refine (((q1).out _)).mono ?_)
  rintro r w1 ⟨rfl, k1⟩
  replace da := da.kb k1
  replace db := db.kb k1
  replace b1 := b1.kb k1
  replace b2 := b2.kb k1
  replace kx := kx.trans k1
  have s1 := k1.size
  simp only [World.size_alloc] at s1
  clear k1
  have en2 := (enters_of Tryd.func66 (by kernel_rfl) rfl : ∀ args W, (callFunc 66 args).run Tryd.prog W = .ok (.enter 66 args) W)
  have f10 := (b2.alloc (.cells #[.string nu, .int .i64 ku, .int .i64 au, .int .i64 xu, .int .i64 yu, .int .i64 zu, .int .i64 lou, .int .i64 hiu] 98 (0, 0))).c (i := 0) rfl
  have f11 := (b2.alloc (.cells #[.string nu, .int .i64 ku, .int .i64 au, .int .i64 xu, .int .i64 yu, .int .i64 zu, .int .i64 lou, .int .i64 hiu] 98 (0, 0))).c (i := 1) rfl
  have f12 := (b2.alloc (.cells #[.string nu, .int .i64 ku, .int .i64 au, .int .i64 xu, .int .i64 yu, .int .i64 zu, .int .i64 lou, .int .i64 hiu] 98 (0, 0))).c (i := 2) rfl
  have f13 := (b2.alloc (.cells #[.string nu, .int .i64 ku, .int .i64 au, .int .i64 xu, .int .i64 yu, .int .i64 zu, .int .i64 lou, .int .i64 hiu] 98 (0, 0))).c (i := 3) rfl
  have f14 := (b2.alloc (.cells #[.string nu, .int .i64 ku, .int .i64 au, .int .i64 xu, .int .i64 yu, .int .i64 zu, .int .i64 lou, .int .i64 hiu] 98 (0, 0))).c (i := 4) rfl
  have f15 := (b2.alloc (.cells #[.string nu, .int .i64 ku, .int .i64 au, .int .i64 xu, .int .i64 yu, .int .i64 zu, .int .i64 lou, .int .i64 hiu] 98 (0, 0))).c (i := 5) rfl
  have f16 := (b2.alloc (.cells #[.string nu, .int .i64 ku, .int .i64 au, .int .i64 xu, .int .i64 yu, .int .i64 zu, .int .i64 lou, .int .i64 hiu] 98 (0, 0))).c (i := 6) rfl
  have f17 := (b2.alloc (.cells #[.string nu, .int .i64 ku, .int .i64 au, .int .i64 xu, .int .i64 yu, .int .i64 zu, .int .i64 lou, .int .i64 hiu] 98 (0, 0))).c (i := 7) rfl
  have f18 := (b2.alloc (.cells #[.string nu, .int .i64 ku, .int .i64 au, .int .i64 xu, .int .i64 yu, .int .i64 zu, .int .i64 lou, .int .i64 hiu] 98 (0, 0))).c (i := 8) rfl
  go_wp2_with fail
  clear f10 f11 f12 f13 f14 f15 f16 f17 f18
  replace da := (da.alloc (.cells #[.string nu, .int .i64 ku, .int .i64 au, .int .i64 xu, .int .i64 yu, .int .i64 zu, .int .i64 lou, .int .i64 hiu] 98 (0, 0)))
  replace db := (db.alloc (.cells #[.string nu, .int .i64 ku, .int .i64 au, .int .i64 xu, .int .i64 yu, .int .i64 zu, .int .i64 lou, .int .i64 hiu] 98 (0, 0)))
  replace b1 := (b1.alloc (.cells #[.string nu, .int .i64 ku, .int .i64 au, .int .i64 xu, .int .i64 yu, .int .i64 zu, .int .i64 lou, .int .i64 hiu] 98 (0, 0)))
  replace b2 := (b2.alloc (.cells #[.string nu, .int .i64 ku, .int .i64 au, .int .i64 xu, .int .i64 yu, .int .i64 zu, .int .i64 lou, .int .i64 hiu] 98 (0, 0)))
  have b3 := Is.made w1 #[.string nu, .int .i64 ku, .int .i64 au, .int .i64 xu, .int .i64 yu, .int .i64 zu, .int .i64 lou, .int .i64 hiu] 98
  replace kx := kx.alloc (.cells #[.string nu, .int .i64 ku, .int .i64 au, .int .i64 xu, .int .i64 yu, .int .i64 zu, .int .i64 lou, .int .i64 hiu] 98 (0, 0))
  (with_reducible refine (((q2).out _)).mono ?_)
  rintro r w2 ⟨rfl, k2⟩
  replace da := da.kb k2
  replace db := db.kb k2
  replace b1 := b1.kb k2
  replace b2 := b2.kb k2
  replace b3 := b3.kb k2
  replace kx := kx.trans k2
  have s2 := k2.size
  simp only [World.size_alloc] at s2
  clear k2
  have f19 := (b3.alloc (.cells #[.string nv, .int .i64 kv, .int .i64 av, .int .i64 xv, .int .i64 yv, .int .i64 zv, .int .i64 lov, .int .i64 hiv] 98 (0, 0))).c (i := 0) rfl
  have f20 := (b3.alloc (.cells #[.string nv, .int .i64 kv, .int .i64 av, .int .i64 xv, .int .i64 yv, .int .i64 zv, .int .i64 lov, .int .i64 hiv] 98 (0, 0))).c (i := 1) rfl
  have f21 := (b3.alloc (.cells #[.string nv, .int .i64 kv, .int .i64 av, .int .i64 xv, .int .i64 yv, .int .i64 zv, .int .i64 lov, .int .i64 hiv] 98 (0, 0))).c (i := 2) rfl
  have f22 := (b3.alloc (.cells #[.string nv, .int .i64 kv, .int .i64 av, .int .i64 xv, .int .i64 yv, .int .i64 zv, .int .i64 lov, .int .i64 hiv] 98 (0, 0))).c (i := 3) rfl
  have f23 := (b3.alloc (.cells #[.string nv, .int .i64 kv, .int .i64 av, .int .i64 xv, .int .i64 yv, .int .i64 zv, .int .i64 lov, .int .i64 hiv] 98 (0, 0))).c (i := 4) rfl
  have f24 := (b3.alloc (.cells #[.string nv, .int .i64 kv, .int .i64 av, .int .i64 xv, .int .i64 yv, .int .i64 zv, .int .i64 lov, .int .i64 hiv] 98 (0, 0))).c (i := 5) rfl
  have f25 := (b3.alloc (.cells #[.string nv, .int .i64 kv, .int .i64 av, .int .i64 xv, .int .i64 yv, .int .i64 zv, .int .i64 lov, .int .i64 hiv] 98 (0, 0))).c (i := 6) rfl
  have f26 := (b3.alloc (.cells #[.string nv, .int .i64 kv, .int .i64 av, .int .i64 xv, .int .i64 yv, .int .i64 zv, .int .i64 lov, .int .i64 hiv] 98 (0, 0))).c (i := 7) rfl
  have f27 := (Is.made w2 #[.string nv, .int .i64 kv, .int .i64 av, .int .i64 xv, .int .i64 yv, .int .i64 zv, .int .i64 lov, .int .i64 hiv] 98).c (i := 0) rfl
  have f28 := (Is.made w2 #[.string nv, .int .i64 kv, .int .i64 av, .int .i64 xv, .int .i64 yv, .int .i64 zv, .int .i64 lov, .int .i64 hiv] 98).c (i := 1) rfl
  have f29 := (Is.made w2 #[.string nv, .int .i64 kv, .int .i64 av, .int .i64 xv, .int .i64 yv, .int .i64 zv, .int .i64 lov, .int .i64 hiv] 98).c (i := 2) rfl
  have f30 := (Is.made w2 #[.string nv, .int .i64 kv, .int .i64 av, .int .i64 xv, .int .i64 yv, .int .i64 zv, .int .i64 lov, .int .i64 hiv] 98).c (i := 3) rfl
  have f31 := (Is.made w2 #[.string nv, .int .i64 kv, .int .i64 av, .int .i64 xv, .int .i64 yv, .int .i64 zv, .int .i64 lov, .int .i64 hiv] 98).c (i := 4) rfl
  have f32 := (Is.made w2 #[.string nv, .int .i64 kv, .int .i64 av, .int .i64 xv, .int .i64 yv, .int .i64 zv, .int .i64 lov, .int .i64 hiv] 98).c (i := 5) rfl
  have f33 := (Is.made w2 #[.string nv, .int .i64 kv, .int .i64 av, .int .i64 xv, .int .i64 yv, .int .i64 zv, .int .i64 lov, .int .i64 hiv] 98).c (i := 6) rfl
  have f34 := (Is.made w2 #[.string nv, .int .i64 kv, .int .i64 av, .int .i64 xv, .int .i64 yv, .int .i64 zv, .int .i64 lov, .int .i64 hiv] 98).c (i := 7) rfl
  go_wp2
  go_ret
  clear f19 f20 f21 f22 f23 f24 f25 f26 f27 f28 f29 f30 f31 f32 f33 f34
  replace kx := kx.alloc (.cells #[.string nv, .int .i64 kv, .int .i64 av, .int .i64 xv, .int .i64 yv, .int .i64 zv, .int .i64 lov, .int .i64 hiv] 98 (0, 0))
  exact ⟨show Ending.returned (.bool false) = Ending.returned (.bool ((plB nu ku au xu yu zu lou hiu nv kv av xv yv zv lov hiv && eqL frB us vs))) by unfold plB; rw [h1, h2, h3, h4, h5, h6, h7, h8]; rfl, kx⟩
set_option maxRecDepth 100000 in
set_option maxHeartbeats 2000000 in
theorem fSameGF_3 (nu : ByteArray) (ku : Int) (au : Int) (xu : Int) (yu : Int) (zu : Int) (lou : Int) (hiu : Int) (fpu : Option Addr) (flu : Nat) (fcu : Nat) (nv : ByteArray) (kv : Int) (av : Int) (xv : Int) (yv : Int) (zv : Int) (lov : Int) (hiv : Int) (fpv : Option Addr) (flv : Nat) (fcv : Nat) (us : List FrT) (vs : List FrT) (hbd : flu ≤ 1000000) (hall : Hid (∀ f ∈ us, f.ds.length ≤ 1000000))    (q1 : Ca 66 #[.agg #[.string nu, .int .i64 ku, .int .i64 au, .int .i64 xu, .int .i64 yu, .int .i64 zu, .int .i64 lou, .int .i64 hiu, .slice fpu flu fcu]] (.tuple #[.agg #[.string nu, .int .i64 ku, .int .i64 au, .int .i64 xu, .int .i64 yu, .int .i64 zu, .int .i64 lou, .int .i64 hiu], .slice fpu flu fcu])) (q2 : Ca 66 #[.agg #[.string nv, .int .i64 kv, .int .i64 av, .int .i64 xv, .int .i64 yv, .int .i64 zv, .int .i64 lov, .int .i64 hiv, .slice fpv flv fcv]] (.tuple #[.agg #[.string nv, .int .i64 kv, .int .i64 av, .int .i64 xv, .int .i64 yv, .int .i64 zv, .int .i64 lov, .int .i64 hiv], .slice fpv flv fcv]))  (h1 : (nu.toList == nv.toList) = true) (h2 : (ku == kv) = true) (h3 : (au == av) = true) (h4 : (xu == xv) = true) (h5 : (yu == yv) = true) (h6 : (zu == zv) = true) (h7 : (lou == lov) = false) (w : World) (da : FrS w (.slice fpu flu fcu) us) (db : FrS w (.slice fpv flv fcv) vs)  : Calls Tryd.prog 65 #[.agg #[.string nu, .int .i64 ku, .int .i64 au, .int .i64 xu, .int .i64 yu, .int .i64 zu, .int .i64 lou, .int .i64 hiu, .slice fpu flu fcu], .agg #[.string nv, .int .i64 kv, .int .i64 av, .int .i64 xv, .int .i64 yv, .int .i64 zv, .int .i64 lov, .int .i64 hiv, .slice fpv flv fcv], .func (.func 66) #[] #[], .func (.func 67) #[] #[]] w fun r W' => r = .returned (.bool (plB nu ku au xu yu zu lou hiu nv kv av xv yv zv lov hiv && eqL frB us vs)) ∧ Kb w W' := by
  have kx := Kb.refl w
  unfold Ca at q1 q2
  have en1 := (enters_of Tryd.func66 (by kernel_rfl) rfl : ∀ args W, (callFunc 66 args).run Tryd.prog W = .ok (.enter 66 args) W)
  have f1 := ((Is.made w #[.string nu, .int .i64 ku, .int .i64 au, .int .i64 xu, .int .i64 yu, .int .i64 zu, .int .i64 lou, .int .i64 hiu, .slice fpu flu fcu] 28).alloc (.cells #[.string nv, .int .i64 kv, .int .i64 av, .int .i64 xv, .int .i64 yv, .int .i64 zv, .int .i64 lov, .int .i64 hiv, .slice fpv flv fcv] 28 (0, 0))).c (i := 0) rfl
  have f2 := ((Is.made w #[.string nu, .int .i64 ku, .int .i64 au, .int .i64 xu, .int .i64 yu, .int .i64 zu, .int .i64 lou, .int .i64 hiu, .slice fpu flu fcu] 28).alloc (.cells #[.string nv, .int .i64 kv, .int .i64 av, .int .i64 xv, .int .i64 yv, .int .i64 zv, .int .i64 lov, .int .i64 hiv, .slice fpv flv fcv] 28 (0, 0))).c (i := 1) rfl
  have f3 := ((Is.made w #[.string nu, .int .i64 ku, .int .i64 au, .int .i64 xu, .int .i64 yu, .int .i64 zu, .int .i64 lou, .int .i64 hiu, .slice fpu flu fcu] 28).alloc (.cells #[.string nv, .int .i64 kv, .int .i64 av, .int .i64 xv, .int .i64 yv, .int .i64 zv, .int .i64 lov, .int .i64 hiv, .slice fpv flv fcv] 28 (0, 0))).c (i := 2) rfl
  have f4 := ((Is.made w #[.string nu, .int .i64 ku, .int .i64 au, .int .i64 xu, .int .i64 yu, .int .i64 zu, .int .i64 lou, .int .i64 hiu, .slice fpu flu fcu] 28).alloc (.cells #[.string nv, .int .i64 kv, .int .i64 av, .int .i64 xv, .int .i64 yv, .int .i64 zv, .int .i64 lov, .int .i64 hiv, .slice fpv flv fcv] 28 (0, 0))).c (i := 3) rfl
  have f5 := ((Is.made w #[.string nu, .int .i64 ku, .int .i64 au, .int .i64 xu, .int .i64 yu, .int .i64 zu, .int .i64 lou, .int .i64 hiu, .slice fpu flu fcu] 28).alloc (.cells #[.string nv, .int .i64 kv, .int .i64 av, .int .i64 xv, .int .i64 yv, .int .i64 zv, .int .i64 lov, .int .i64 hiv, .slice fpv flv fcv] 28 (0, 0))).c (i := 4) rfl
  have f6 := ((Is.made w #[.string nu, .int .i64 ku, .int .i64 au, .int .i64 xu, .int .i64 yu, .int .i64 zu, .int .i64 lou, .int .i64 hiu, .slice fpu flu fcu] 28).alloc (.cells #[.string nv, .int .i64 kv, .int .i64 av, .int .i64 xv, .int .i64 yv, .int .i64 zv, .int .i64 lov, .int .i64 hiv, .slice fpv flv fcv] 28 (0, 0))).c (i := 5) rfl
  have f7 := ((Is.made w #[.string nu, .int .i64 ku, .int .i64 au, .int .i64 xu, .int .i64 yu, .int .i64 zu, .int .i64 lou, .int .i64 hiu, .slice fpu flu fcu] 28).alloc (.cells #[.string nv, .int .i64 kv, .int .i64 av, .int .i64 xv, .int .i64 yv, .int .i64 zv, .int .i64 lov, .int .i64 hiv, .slice fpv flv fcv] 28 (0, 0))).c (i := 6) rfl
  have f8 := ((Is.made w #[.string nu, .int .i64 ku, .int .i64 au, .int .i64 xu, .int .i64 yu, .int .i64 zu, .int .i64 lou, .int .i64 hiu, .slice fpu flu fcu] 28).alloc (.cells #[.string nv, .int .i64 kv, .int .i64 av, .int .i64 xv, .int .i64 yv, .int .i64 zv, .int .i64 lov, .int .i64 hiv, .slice fpv flv fcv] 28 (0, 0))).c (i := 7) rfl
  have f9 := ((Is.made w #[.string nu, .int .i64 ku, .int .i64 au, .int .i64 xu, .int .i64 yu, .int .i64 zu, .int .i64 lou, .int .i64 hiu, .slice fpu flu fcu] 28).alloc (.cells #[.string nv, .int .i64 kv, .int .i64 av, .int .i64 xv, .int .i64 yv, .int .i64 zv, .int .i64 lov, .int .i64 hiv, .slice fpv flv fcv] 28 (0, 0))).c (i := 8) rfl
  go_enter Tryd.func65, Tryd.ntmps65
  go_wp2_with fail
  clear f1 f2 f3 f4 f5 f6 f7 f8 f9
  replace da := ((da.alloc (.cells #[.string nu, .int .i64 ku, .int .i64 au, .int .i64 xu, .int .i64 yu, .int .i64 zu, .int .i64 lou, .int .i64 hiu, .slice fpu flu fcu] 28 (0, 0))).alloc (.cells #[.string nv, .int .i64 kv, .int .i64 av, .int .i64 xv, .int .i64 yv, .int .i64 zv, .int .i64 lov, .int .i64 hiv, .slice fpv flv fcv] 28 (0, 0)))
  replace db := ((db.alloc (.cells #[.string nu, .int .i64 ku, .int .i64 au, .int .i64 xu, .int .i64 yu, .int .i64 zu, .int .i64 lou, .int .i64 hiu, .slice fpu flu fcu] 28 (0, 0))).alloc (.cells #[.string nv, .int .i64 kv, .int .i64 av, .int .i64 xv, .int .i64 yv, .int .i64 zv, .int .i64 lov, .int .i64 hiv, .slice fpv flv fcv] 28 (0, 0)))
  have b1 := Is.made w #[.string nu, .int .i64 ku, .int .i64 au, .int .i64 xu, .int .i64 yu, .int .i64 zu, .int .i64 lou, .int .i64 hiu, .slice fpu flu fcu] 28
  replace b1 := (b1.alloc (.cells #[.string nv, .int .i64 kv, .int .i64 av, .int .i64 xv, .int .i64 yv, .int .i64 zv, .int .i64 lov, .int .i64 hiv, .slice fpv flv fcv] 28 (0, 0)))
  have b2 := Is.made (w.alloc (.cells #[.string nu, .int .i64 ku, .int .i64 au, .int .i64 xu, .int .i64 yu, .int .i64 zu, .int .i64 lou, .int .i64 hiu, .slice fpu flu fcu] 28 (0, 0))) #[.string nv, .int .i64 kv, .int .i64 av, .int .i64 xv, .int .i64 yv, .int .i64 zv, .int .i64 lov, .int .i64 hiv, .slice fpv flv fcv] 28
  simp only [World.size_alloc] at b2
  replace kx := kx.alloc (.cells #[.string nu, .int .i64 ku, .int .i64 au, .int .i64 xu, .int .i64 yu, .int .i64 zu, .int .i64 lou, .int .i64 hiu, .slice fpu flu fcu] 28 (0, 0))
  replace kx := kx.alloc (.cells #[.string nv, .int .i64 kv, .int .i64 av, .int .i64 xv, .int .i64 yv, .int .i64 zv, .int .i64 lov, .int .i64 hiv, .slice fpv flv fcv] 28 (0, 0))
  (with_reducible refine (((q1).out _)).mono ?_)
  rintro r w1 ⟨rfl, k1⟩
  replace da := da.kb k1
  replace db := db.kb k1
  replace b1 := b1.kb k1
  replace b2 := b2.kb k1
  replace kx := kx.trans k1
  have s1 := k1.size
  simp only [World.size_alloc] at s1
  clear k1
  have en2 := (enters_of Tryd.func66 (by kernel_rfl) rfl : ∀ args W, (callFunc 66 args).run Tryd.prog W = .ok (.enter 66 args) W)
  have f10 := (b2.alloc (.cells #[.string nu, .int .i64 ku, .int .i64 au, .int .i64 xu, .int .i64 yu, .int .i64 zu, .int .i64 lou, .int .i64 hiu] 98 (0, 0))).c (i := 0) rfl
  have f11 := (b2.alloc (.cells #[.string nu, .int .i64 ku, .int .i64 au, .int .i64 xu, .int .i64 yu, .int .i64 zu, .int .i64 lou, .int .i64 hiu] 98 (0, 0))).c (i := 1) rfl
  have f12 := (b2.alloc (.cells #[.string nu, .int .i64 ku, .int .i64 au, .int .i64 xu, .int .i64 yu, .int .i64 zu, .int .i64 lou, .int .i64 hiu] 98 (0, 0))).c (i := 2) rfl
  have f13 := (b2.alloc (.cells #[.string nu, .int .i64 ku, .int .i64 au, .int .i64 xu, .int .i64 yu, .int .i64 zu, .int .i64 lou, .int .i64 hiu] 98 (0, 0))).c (i := 3) rfl
  have f14 := (b2.alloc (.cells #[.string nu, .int .i64 ku, .int .i64 au, .int .i64 xu, .int .i64 yu, .int .i64 zu, .int .i64 lou, .int .i64 hiu] 98 (0, 0))).c (i := 4) rfl
  have f15 := (b2.alloc (.cells #[.string nu, .int .i64 ku, .int .i64 au, .int .i64 xu, .int .i64 yu, .int .i64 zu, .int .i64 lou, .int .i64 hiu] 98 (0, 0))).c (i := 5) rfl
  have f16 := (b2.alloc (.cells #[.string nu, .int .i64 ku, .int .i64 au, .int .i64 xu, .int .i64 yu, .int .i64 zu, .int .i64 lou, .int .i64 hiu] 98 (0, 0))).c (i := 6) rfl
  have f17 := (b2.alloc (.cells #[.string nu, .int .i64 ku, .int .i64 au, .int .i64 xu, .int .i64 yu, .int .i64 zu, .int .i64 lou, .int .i64 hiu] 98 (0, 0))).c (i := 7) rfl
  have f18 := (b2.alloc (.cells #[.string nu, .int .i64 ku, .int .i64 au, .int .i64 xu, .int .i64 yu, .int .i64 zu, .int .i64 lou, .int .i64 hiu] 98 (0, 0))).c (i := 8) rfl
  go_wp2_with fail
  clear f10 f11 f12 f13 f14 f15 f16 f17 f18
  replace da := (da.alloc (.cells #[.string nu, .int .i64 ku, .int .i64 au, .int .i64 xu, .int .i64 yu, .int .i64 zu, .int .i64 lou, .int .i64 hiu] 98 (0, 0)))
  replace db := (db.alloc (.cells #[.string nu, .int .i64 ku, .int .i64 au, .int .i64 xu, .int .i64 yu, .int .i64 zu, .int .i64 lou, .int .i64 hiu] 98 (0, 0)))
  replace b1 := (b1.alloc (.cells #[.string nu, .int .i64 ku, .int .i64 au, .int .i64 xu, .int .i64 yu, .int .i64 zu, .int .i64 lou, .int .i64 hiu] 98 (0, 0)))
  replace b2 := (b2.alloc (.cells #[.string nu, .int .i64 ku, .int .i64 au, .int .i64 xu, .int .i64 yu, .int .i64 zu, .int .i64 lou, .int .i64 hiu] 98 (0, 0)))
  have b3 := Is.made w1 #[.string nu, .int .i64 ku, .int .i64 au, .int .i64 xu, .int .i64 yu, .int .i64 zu, .int .i64 lou, .int .i64 hiu] 98
  replace kx := kx.alloc (.cells #[.string nu, .int .i64 ku, .int .i64 au, .int .i64 xu, .int .i64 yu, .int .i64 zu, .int .i64 lou, .int .i64 hiu] 98 (0, 0))
  (with_reducible refine (((q2).out _)).mono ?_)
  rintro r w2 ⟨rfl, k2⟩
  replace da := da.kb k2
  replace db := db.kb k2
  replace b1 := b1.kb k2
  replace b2 := b2.kb k2
  replace b3 := b3.kb k2
  replace kx := kx.trans k2
  have s2 := k2.size
  simp only [World.size_alloc] at s2
  clear k2
  have f19 := (b3.alloc (.cells #[.string nv, .int .i64 kv, .int .i64 av, .int .i64 xv, .int .i64 yv, .int .i64 zv, .int .i64 lov, .int .i64 hiv] 98 (0, 0))).c (i := 0) rfl
  have f20 := (b3.alloc (.cells #[.string nv, .int .i64 kv, .int .i64 av, .int .i64 xv, .int .i64 yv, .int .i64 zv, .int .i64 lov, .int .i64 hiv] 98 (0, 0))).c (i := 1) rfl
  have f21 := (b3.alloc (.cells #[.string nv, .int .i64 kv, .int .i64 av, .int .i64 xv, .int .i64 yv, .int .i64 zv, .int .i64 lov, .int .i64 hiv] 98 (0, 0))).c (i := 2) rfl
  have f22 := (b3.alloc (.cells #[.string nv, .int .i64 kv, .int .i64 av, .int .i64 xv, .int .i64 yv, .int .i64 zv, .int .i64 lov, .int .i64 hiv] 98 (0, 0))).c (i := 3) rfl
  have f23 := (b3.alloc (.cells #[.string nv, .int .i64 kv, .int .i64 av, .int .i64 xv, .int .i64 yv, .int .i64 zv, .int .i64 lov, .int .i64 hiv] 98 (0, 0))).c (i := 4) rfl
  have f24 := (b3.alloc (.cells #[.string nv, .int .i64 kv, .int .i64 av, .int .i64 xv, .int .i64 yv, .int .i64 zv, .int .i64 lov, .int .i64 hiv] 98 (0, 0))).c (i := 5) rfl
  have f25 := (b3.alloc (.cells #[.string nv, .int .i64 kv, .int .i64 av, .int .i64 xv, .int .i64 yv, .int .i64 zv, .int .i64 lov, .int .i64 hiv] 98 (0, 0))).c (i := 6) rfl
  have f26 := (b3.alloc (.cells #[.string nv, .int .i64 kv, .int .i64 av, .int .i64 xv, .int .i64 yv, .int .i64 zv, .int .i64 lov, .int .i64 hiv] 98 (0, 0))).c (i := 7) rfl
  have f27 := (Is.made w2 #[.string nv, .int .i64 kv, .int .i64 av, .int .i64 xv, .int .i64 yv, .int .i64 zv, .int .i64 lov, .int .i64 hiv] 98).c (i := 0) rfl
  have f28 := (Is.made w2 #[.string nv, .int .i64 kv, .int .i64 av, .int .i64 xv, .int .i64 yv, .int .i64 zv, .int .i64 lov, .int .i64 hiv] 98).c (i := 1) rfl
  have f29 := (Is.made w2 #[.string nv, .int .i64 kv, .int .i64 av, .int .i64 xv, .int .i64 yv, .int .i64 zv, .int .i64 lov, .int .i64 hiv] 98).c (i := 2) rfl
  have f30 := (Is.made w2 #[.string nv, .int .i64 kv, .int .i64 av, .int .i64 xv, .int .i64 yv, .int .i64 zv, .int .i64 lov, .int .i64 hiv] 98).c (i := 3) rfl
  have f31 := (Is.made w2 #[.string nv, .int .i64 kv, .int .i64 av, .int .i64 xv, .int .i64 yv, .int .i64 zv, .int .i64 lov, .int .i64 hiv] 98).c (i := 4) rfl
  have f32 := (Is.made w2 #[.string nv, .int .i64 kv, .int .i64 av, .int .i64 xv, .int .i64 yv, .int .i64 zv, .int .i64 lov, .int .i64 hiv] 98).c (i := 5) rfl
  have f33 := (Is.made w2 #[.string nv, .int .i64 kv, .int .i64 av, .int .i64 xv, .int .i64 yv, .int .i64 zv, .int .i64 lov, .int .i64 hiv] 98).c (i := 6) rfl
  have f34 := (Is.made w2 #[.string nv, .int .i64 kv, .int .i64 av, .int .i64 xv, .int .i64 yv, .int .i64 zv, .int .i64 lov, .int .i64 hiv] 98).c (i := 7) rfl
  go_wp2
  go_ret
  clear f19 f20 f21 f22 f23 f24 f25 f26 f27 f28 f29 f30 f31 f32 f33 f34
  replace kx := kx.alloc (.cells #[.string nv, .int .i64 kv, .int .i64 av, .int .i64 xv, .int .i64 yv, .int .i64 zv, .int .i64 lov, .int .i64 hiv] 98 (0, 0))
  exact ⟨show Ending.returned (.bool false) = Ending.returned (.bool ((plB nu ku au xu yu zu lou hiu nv kv av xv yv zv lov hiv && eqL frB us vs))) by unfold plB; rw [h1, h2, h3, h4, h5, h6, h7]; rfl, kx⟩
set_option maxRecDepth 100000 in
set_option maxHeartbeats 2000000 in
theorem fSameGF_4 (nu : ByteArray) (ku : Int) (au : Int) (xu : Int) (yu : Int) (zu : Int) (lou : Int) (hiu : Int) (fpu : Option Addr) (flu : Nat) (fcu : Nat) (nv : ByteArray) (kv : Int) (av : Int) (xv : Int) (yv : Int) (zv : Int) (lov : Int) (hiv : Int) (fpv : Option Addr) (flv : Nat) (fcv : Nat) (us : List FrT) (vs : List FrT) (hbd : flu ≤ 1000000) (hall : Hid (∀ f ∈ us, f.ds.length ≤ 1000000))    (q1 : Ca 66 #[.agg #[.string nu, .int .i64 ku, .int .i64 au, .int .i64 xu, .int .i64 yu, .int .i64 zu, .int .i64 lou, .int .i64 hiu, .slice fpu flu fcu]] (.tuple #[.agg #[.string nu, .int .i64 ku, .int .i64 au, .int .i64 xu, .int .i64 yu, .int .i64 zu, .int .i64 lou, .int .i64 hiu], .slice fpu flu fcu])) (q2 : Ca 66 #[.agg #[.string nv, .int .i64 kv, .int .i64 av, .int .i64 xv, .int .i64 yv, .int .i64 zv, .int .i64 lov, .int .i64 hiv, .slice fpv flv fcv]] (.tuple #[.agg #[.string nv, .int .i64 kv, .int .i64 av, .int .i64 xv, .int .i64 yv, .int .i64 zv, .int .i64 lov, .int .i64 hiv], .slice fpv flv fcv]))  (h1 : (nu.toList == nv.toList) = true) (h2 : (ku == kv) = true) (h3 : (au == av) = true) (h4 : (xu == xv) = true) (h5 : (yu == yv) = true) (h6 : (zu == zv) = false) (w : World) (da : FrS w (.slice fpu flu fcu) us) (db : FrS w (.slice fpv flv fcv) vs)  : Calls Tryd.prog 65 #[.agg #[.string nu, .int .i64 ku, .int .i64 au, .int .i64 xu, .int .i64 yu, .int .i64 zu, .int .i64 lou, .int .i64 hiu, .slice fpu flu fcu], .agg #[.string nv, .int .i64 kv, .int .i64 av, .int .i64 xv, .int .i64 yv, .int .i64 zv, .int .i64 lov, .int .i64 hiv, .slice fpv flv fcv], .func (.func 66) #[] #[], .func (.func 67) #[] #[]] w fun r W' => r = .returned (.bool (plB nu ku au xu yu zu lou hiu nv kv av xv yv zv lov hiv && eqL frB us vs)) ∧ Kb w W' := by
  have kx := Kb.refl w
  unfold Ca at q1 q2
  have en1 := (enters_of Tryd.func66 (by kernel_rfl) rfl : ∀ args W, (callFunc 66 args).run Tryd.prog W = .ok (.enter 66 args) W)
  have f1 := ((Is.made w #[.string nu, .int .i64 ku, .int .i64 au, .int .i64 xu, .int .i64 yu, .int .i64 zu, .int .i64 lou, .int .i64 hiu, .slice fpu flu fcu] 28).alloc (.cells #[.string nv, .int .i64 kv, .int .i64 av, .int .i64 xv, .int .i64 yv, .int .i64 zv, .int .i64 lov, .int .i64 hiv, .slice fpv flv fcv] 28 (0, 0))).c (i := 0) rfl
  have f2 := ((Is.made w #[.string nu, .int .i64 ku, .int .i64 au, .int .i64 xu, .int .i64 yu, .int .i64 zu, .int .i64 lou, .int .i64 hiu, .slice fpu flu fcu] 28).alloc (.cells #[.string nv, .int .i64 kv, .int .i64 av, .int .i64 xv, .int .i64 yv, .int .i64 zv, .int .i64 lov, .int .i64 hiv, .slice fpv flv fcv] 28 (0, 0))).c (i := 1) rfl
  have f3 := ((Is.made w #[.string nu, .int .i64 ku, .int .i64 au, .int .i64 xu, .int .i64 yu, .int .i64 zu, .int .i64 lou, .int .i64 hiu, .slice fpu flu fcu] 28).alloc (.cells #[.string nv, .int .i64 kv, .int .i64 av, .int .i64 xv, .int .i64 yv, .int .i64 zv, .int .i64 lov, .int .i64 hiv, .slice fpv flv fcv] 28 (0, 0))).c (i := 2) rfl
  have f4 := ((Is.made w #[.string nu, .int .i64 ku, .int .i64 au, .int .i64 xu, .int .i64 yu, .int .i64 zu, .int .i64 lou, .int .i64 hiu, .slice fpu flu fcu] 28).alloc (.cells #[.string nv, .int .i64 kv, .int .i64 av, .int .i64 xv, .int .i64 yv, .int .i64 zv, .int .i64 lov, .int .i64 hiv, .slice fpv flv fcv] 28 (0, 0))).c (i := 3) rfl
  have f5 := ((Is.made w #[.string nu, .int .i64 ku, .int .i64 au, .int .i64 xu, .int .i64 yu, .int .i64 zu, .int .i64 lou, .int .i64 hiu, .slice fpu flu fcu] 28).alloc (.cells #[.string nv, .int .i64 kv, .int .i64 av, .int .i64 xv, .int .i64 yv, .int .i64 zv, .int .i64 lov, .int .i64 hiv, .slice fpv flv fcv] 28 (0, 0))).c (i := 4) rfl
  have f6 := ((Is.made w #[.string nu, .int .i64 ku, .int .i64 au, .int .i64 xu, .int .i64 yu, .int .i64 zu, .int .i64 lou, .int .i64 hiu, .slice fpu flu fcu] 28).alloc (.cells #[.string nv, .int .i64 kv, .int .i64 av, .int .i64 xv, .int .i64 yv, .int .i64 zv, .int .i64 lov, .int .i64 hiv, .slice fpv flv fcv] 28 (0, 0))).c (i := 5) rfl
  have f7 := ((Is.made w #[.string nu, .int .i64 ku, .int .i64 au, .int .i64 xu, .int .i64 yu, .int .i64 zu, .int .i64 lou, .int .i64 hiu, .slice fpu flu fcu] 28).alloc (.cells #[.string nv, .int .i64 kv, .int .i64 av, .int .i64 xv, .int .i64 yv, .int .i64 zv, .int .i64 lov, .int .i64 hiv, .slice fpv flv fcv] 28 (0, 0))).c (i := 6) rfl
  have f8 := ((Is.made w #[.string nu, .int .i64 ku, .int .i64 au, .int .i64 xu, .int .i64 yu, .int .i64 zu, .int .i64 lou, .int .i64 hiu, .slice fpu flu fcu] 28).alloc (.cells #[.string nv, .int .i64 kv, .int .i64 av, .int .i64 xv, .int .i64 yv, .int .i64 zv, .int .i64 lov, .int .i64 hiv, .slice fpv flv fcv] 28 (0, 0))).c (i := 7) rfl
  have f9 := ((Is.made w #[.string nu, .int .i64 ku, .int .i64 au, .int .i64 xu, .int .i64 yu, .int .i64 zu, .int .i64 lou, .int .i64 hiu, .slice fpu flu fcu] 28).alloc (.cells #[.string nv, .int .i64 kv, .int .i64 av, .int .i64 xv, .int .i64 yv, .int .i64 zv, .int .i64 lov, .int .i64 hiv, .slice fpv flv fcv] 28 (0, 0))).c (i := 8) rfl
  go_enter Tryd.func65, Tryd.ntmps65
  go_wp2_with fail
  clear f1 f2 f3 f4 f5 f6 f7 f8 f9
  replace da := ((da.alloc (.cells #[.string nu, .int .i64 ku, .int .i64 au, .int .i64 xu, .int .i64 yu, .int .i64 zu, .int .i64 lou, .int .i64 hiu, .slice fpu flu fcu] 28 (0, 0))).alloc (.cells #[.string nv, .int .i64 kv, .int .i64 av, .int .i64 xv, .int .i64 yv, .int .i64 zv, .int .i64 lov, .int .i64 hiv, .slice fpv flv fcv] 28 (0, 0)))
  replace db := ((db.alloc (.cells #[.string nu, .int .i64 ku, .int .i64 au, .int .i64 xu, .int .i64 yu, .int .i64 zu, .int .i64 lou, .int .i64 hiu, .slice fpu flu fcu] 28 (0, 0))).alloc (.cells #[.string nv, .int .i64 kv, .int .i64 av, .int .i64 xv, .int .i64 yv, .int .i64 zv, .int .i64 lov, .int .i64 hiv, .slice fpv flv fcv] 28 (0, 0)))
  have b1 := Is.made w #[.string nu, .int .i64 ku, .int .i64 au, .int .i64 xu, .int .i64 yu, .int .i64 zu, .int .i64 lou, .int .i64 hiu, .slice fpu flu fcu] 28
  replace b1 := (b1.alloc (.cells #[.string nv, .int .i64 kv, .int .i64 av, .int .i64 xv, .int .i64 yv, .int .i64 zv, .int .i64 lov, .int .i64 hiv, .slice fpv flv fcv] 28 (0, 0)))
  have b2 := Is.made (w.alloc (.cells #[.string nu, .int .i64 ku, .int .i64 au, .int .i64 xu, .int .i64 yu, .int .i64 zu, .int .i64 lou, .int .i64 hiu, .slice fpu flu fcu] 28 (0, 0))) #[.string nv, .int .i64 kv, .int .i64 av, .int .i64 xv, .int .i64 yv, .int .i64 zv, .int .i64 lov, .int .i64 hiv, .slice fpv flv fcv] 28
  simp only [World.size_alloc] at b2
  replace kx := kx.alloc (.cells #[.string nu, .int .i64 ku, .int .i64 au, .int .i64 xu, .int .i64 yu, .int .i64 zu, .int .i64 lou, .int .i64 hiu, .slice fpu flu fcu] 28 (0, 0))
  replace kx := kx.alloc (.cells #[.string nv, .int .i64 kv, .int .i64 av, .int .i64 xv, .int .i64 yv, .int .i64 zv, .int .i64 lov, .int .i64 hiv, .slice fpv flv fcv] 28 (0, 0))
  (with_reducible refine (((q1).out _)).mono ?_)
  rintro r w1 ⟨rfl, k1⟩
  replace da := da.kb k1
  replace db := db.kb k1
  replace b1 := b1.kb k1
  replace b2 := b2.kb k1
  replace kx := kx.trans k1
  have s1 := k1.size
  simp only [World.size_alloc] at s1
  clear k1
  have en2 := (enters_of Tryd.func66 (by kernel_rfl) rfl : ∀ args W, (callFunc 66 args).run Tryd.prog W = .ok (.enter 66 args) W)
  have f10 := (b2.alloc (.cells #[.string nu, .int .i64 ku, .int .i64 au, .int .i64 xu, .int .i64 yu, .int .i64 zu, .int .i64 lou, .int .i64 hiu] 98 (0, 0))).c (i := 0) rfl
  have f11 := (b2.alloc (.cells #[.string nu, .int .i64 ku, .int .i64 au, .int .i64 xu, .int .i64 yu, .int .i64 zu, .int .i64 lou, .int .i64 hiu] 98 (0, 0))).c (i := 1) rfl
  have f12 := (b2.alloc (.cells #[.string nu, .int .i64 ku, .int .i64 au, .int .i64 xu, .int .i64 yu, .int .i64 zu, .int .i64 lou, .int .i64 hiu] 98 (0, 0))).c (i := 2) rfl
  have f13 := (b2.alloc (.cells #[.string nu, .int .i64 ku, .int .i64 au, .int .i64 xu, .int .i64 yu, .int .i64 zu, .int .i64 lou, .int .i64 hiu] 98 (0, 0))).c (i := 3) rfl
  have f14 := (b2.alloc (.cells #[.string nu, .int .i64 ku, .int .i64 au, .int .i64 xu, .int .i64 yu, .int .i64 zu, .int .i64 lou, .int .i64 hiu] 98 (0, 0))).c (i := 4) rfl
  have f15 := (b2.alloc (.cells #[.string nu, .int .i64 ku, .int .i64 au, .int .i64 xu, .int .i64 yu, .int .i64 zu, .int .i64 lou, .int .i64 hiu] 98 (0, 0))).c (i := 5) rfl
  have f16 := (b2.alloc (.cells #[.string nu, .int .i64 ku, .int .i64 au, .int .i64 xu, .int .i64 yu, .int .i64 zu, .int .i64 lou, .int .i64 hiu] 98 (0, 0))).c (i := 6) rfl
  have f17 := (b2.alloc (.cells #[.string nu, .int .i64 ku, .int .i64 au, .int .i64 xu, .int .i64 yu, .int .i64 zu, .int .i64 lou, .int .i64 hiu] 98 (0, 0))).c (i := 7) rfl
  have f18 := (b2.alloc (.cells #[.string nu, .int .i64 ku, .int .i64 au, .int .i64 xu, .int .i64 yu, .int .i64 zu, .int .i64 lou, .int .i64 hiu] 98 (0, 0))).c (i := 8) rfl
  go_wp2_with fail
  clear f10 f11 f12 f13 f14 f15 f16 f17 f18
  replace da := (da.alloc (.cells #[.string nu, .int .i64 ku, .int .i64 au, .int .i64 xu, .int .i64 yu, .int .i64 zu, .int .i64 lou, .int .i64 hiu] 98 (0, 0)))
  replace db := (db.alloc (.cells #[.string nu, .int .i64 ku, .int .i64 au, .int .i64 xu, .int .i64 yu, .int .i64 zu, .int .i64 lou, .int .i64 hiu] 98 (0, 0)))
  replace b1 := (b1.alloc (.cells #[.string nu, .int .i64 ku, .int .i64 au, .int .i64 xu, .int .i64 yu, .int .i64 zu, .int .i64 lou, .int .i64 hiu] 98 (0, 0)))
  replace b2 := (b2.alloc (.cells #[.string nu, .int .i64 ku, .int .i64 au, .int .i64 xu, .int .i64 yu, .int .i64 zu, .int .i64 lou, .int .i64 hiu] 98 (0, 0)))
  have b3 := Is.made w1 #[.string nu, .int .i64 ku, .int .i64 au, .int .i64 xu, .int .i64 yu, .int .i64 zu, .int .i64 lou, .int .i64 hiu] 98
  replace kx := kx.alloc (.cells #[.string nu, .int .i64 ku, .int .i64 au, .int .i64 xu, .int .i64 yu, .int .i64 zu, .int .i64 lou, .int .i64 hiu] 98 (0, 0))
  (with_reducible refine (((q2).out _)).mono ?_)
  rintro r w2 ⟨rfl, k2⟩
  replace da := da.kb k2
  replace db := db.kb k2
  replace b1 := b1.kb k2
  replace b2 := b2.kb k2
  replace b3 := b3.kb k2
  replace kx := kx.trans k2
  have s2 := k2.size
  simp only [World.size_alloc] at s2
  clear k2
  have f19 := (b3.alloc (.cells #[.string nv, .int .i64 kv, .int .i64 av, .int .i64 xv, .int .i64 yv, .int .i64 zv, .int .i64 lov, .int .i64 hiv] 98 (0, 0))).c (i := 0) rfl
  have f20 := (b3.alloc (.cells #[.string nv, .int .i64 kv, .int .i64 av, .int .i64 xv, .int .i64 yv, .int .i64 zv, .int .i64 lov, .int .i64 hiv] 98 (0, 0))).c (i := 1) rfl
  have f21 := (b3.alloc (.cells #[.string nv, .int .i64 kv, .int .i64 av, .int .i64 xv, .int .i64 yv, .int .i64 zv, .int .i64 lov, .int .i64 hiv] 98 (0, 0))).c (i := 2) rfl
  have f22 := (b3.alloc (.cells #[.string nv, .int .i64 kv, .int .i64 av, .int .i64 xv, .int .i64 yv, .int .i64 zv, .int .i64 lov, .int .i64 hiv] 98 (0, 0))).c (i := 3) rfl
  have f23 := (b3.alloc (.cells #[.string nv, .int .i64 kv, .int .i64 av, .int .i64 xv, .int .i64 yv, .int .i64 zv, .int .i64 lov, .int .i64 hiv] 98 (0, 0))).c (i := 4) rfl
  have f24 := (b3.alloc (.cells #[.string nv, .int .i64 kv, .int .i64 av, .int .i64 xv, .int .i64 yv, .int .i64 zv, .int .i64 lov, .int .i64 hiv] 98 (0, 0))).c (i := 5) rfl
  have f25 := (b3.alloc (.cells #[.string nv, .int .i64 kv, .int .i64 av, .int .i64 xv, .int .i64 yv, .int .i64 zv, .int .i64 lov, .int .i64 hiv] 98 (0, 0))).c (i := 6) rfl
  have f26 := (b3.alloc (.cells #[.string nv, .int .i64 kv, .int .i64 av, .int .i64 xv, .int .i64 yv, .int .i64 zv, .int .i64 lov, .int .i64 hiv] 98 (0, 0))).c (i := 7) rfl
  have f27 := (Is.made w2 #[.string nv, .int .i64 kv, .int .i64 av, .int .i64 xv, .int .i64 yv, .int .i64 zv, .int .i64 lov, .int .i64 hiv] 98).c (i := 0) rfl
  have f28 := (Is.made w2 #[.string nv, .int .i64 kv, .int .i64 av, .int .i64 xv, .int .i64 yv, .int .i64 zv, .int .i64 lov, .int .i64 hiv] 98).c (i := 1) rfl
  have f29 := (Is.made w2 #[.string nv, .int .i64 kv, .int .i64 av, .int .i64 xv, .int .i64 yv, .int .i64 zv, .int .i64 lov, .int .i64 hiv] 98).c (i := 2) rfl
  have f30 := (Is.made w2 #[.string nv, .int .i64 kv, .int .i64 av, .int .i64 xv, .int .i64 yv, .int .i64 zv, .int .i64 lov, .int .i64 hiv] 98).c (i := 3) rfl
  have f31 := (Is.made w2 #[.string nv, .int .i64 kv, .int .i64 av, .int .i64 xv, .int .i64 yv, .int .i64 zv, .int .i64 lov, .int .i64 hiv] 98).c (i := 4) rfl
  have f32 := (Is.made w2 #[.string nv, .int .i64 kv, .int .i64 av, .int .i64 xv, .int .i64 yv, .int .i64 zv, .int .i64 lov, .int .i64 hiv] 98).c (i := 5) rfl
  have f33 := (Is.made w2 #[.string nv, .int .i64 kv, .int .i64 av, .int .i64 xv, .int .i64 yv, .int .i64 zv, .int .i64 lov, .int .i64 hiv] 98).c (i := 6) rfl
  have f34 := (Is.made w2 #[.string nv, .int .i64 kv, .int .i64 av, .int .i64 xv, .int .i64 yv, .int .i64 zv, .int .i64 lov, .int .i64 hiv] 98).c (i := 7) rfl
  go_wp2
  go_ret
  clear f19 f20 f21 f22 f23 f24 f25 f26 f27 f28 f29 f30 f31 f32 f33 f34
  replace kx := kx.alloc (.cells #[.string nv, .int .i64 kv, .int .i64 av, .int .i64 xv, .int .i64 yv, .int .i64 zv, .int .i64 lov, .int .i64 hiv] 98 (0, 0))
  exact ⟨show Ending.returned (.bool false) = Ending.returned (.bool ((plB nu ku au xu yu zu lou hiu nv kv av xv yv zv lov hiv && eqL frB us vs))) by unfold plB; rw [h1, h2, h3, h4, h5, h6]; rfl, kx⟩
set_option maxRecDepth 100000 in
set_option maxHeartbeats 2000000 in
theorem fSameGF_5 (nu : ByteArray) (ku : Int) (au : Int) (xu : Int) (yu : Int) (zu : Int) (lou : Int) (hiu : Int) (fpu : Option Addr) (flu : Nat) (fcu : Nat) (nv : ByteArray) (kv : Int) (av : Int) (xv : Int) (yv : Int) (zv : Int) (lov : Int) (hiv : Int) (fpv : Option Addr) (flv : Nat) (fcv : Nat) (us : List FrT) (vs : List FrT) (hbd : flu ≤ 1000000) (hall : Hid (∀ f ∈ us, f.ds.length ≤ 1000000))    (q1 : Ca 66 #[.agg #[.string nu, .int .i64 ku, .int .i64 au, .int .i64 xu, .int .i64 yu, .int .i64 zu, .int .i64 lou, .int .i64 hiu, .slice fpu flu fcu]] (.tuple #[.agg #[.string nu, .int .i64 ku, .int .i64 au, .int .i64 xu, .int .i64 yu, .int .i64 zu, .int .i64 lou, .int .i64 hiu], .slice fpu flu fcu])) (q2 : Ca 66 #[.agg #[.string nv, .int .i64 kv, .int .i64 av, .int .i64 xv, .int .i64 yv, .int .i64 zv, .int .i64 lov, .int .i64 hiv, .slice fpv flv fcv]] (.tuple #[.agg #[.string nv, .int .i64 kv, .int .i64 av, .int .i64 xv, .int .i64 yv, .int .i64 zv, .int .i64 lov, .int .i64 hiv], .slice fpv flv fcv]))  (h1 : (nu.toList == nv.toList) = true) (h2 : (ku == kv) = true) (h3 : (au == av) = true) (h4 : (xu == xv) = true) (h5 : (yu == yv) = false) (w : World) (da : FrS w (.slice fpu flu fcu) us) (db : FrS w (.slice fpv flv fcv) vs)  : Calls Tryd.prog 65 #[.agg #[.string nu, .int .i64 ku, .int .i64 au, .int .i64 xu, .int .i64 yu, .int .i64 zu, .int .i64 lou, .int .i64 hiu, .slice fpu flu fcu], .agg #[.string nv, .int .i64 kv, .int .i64 av, .int .i64 xv, .int .i64 yv, .int .i64 zv, .int .i64 lov, .int .i64 hiv, .slice fpv flv fcv], .func (.func 66) #[] #[], .func (.func 67) #[] #[]] w fun r W' => r = .returned (.bool (plB nu ku au xu yu zu lou hiu nv kv av xv yv zv lov hiv && eqL frB us vs)) ∧ Kb w W' := by
  have kx := Kb.refl w
  unfold Ca at q1 q2
  have en1 := (enters_of Tryd.func66 (by kernel_rfl) rfl : ∀ args W, (callFunc 66 args).run Tryd.prog W = .ok (.enter 66 args) W)
  have f1 := ((Is.made w #[.string nu, .int .i64 ku, .int .i64 au, .int .i64 xu, .int .i64 yu, .int .i64 zu, .int .i64 lou, .int .i64 hiu, .slice fpu flu fcu] 28).alloc (.cells #[.string nv, .int .i64 kv, .int .i64 av, .int .i64 xv, .int .i64 yv, .int .i64 zv, .int .i64 lov, .int .i64 hiv, .slice fpv flv fcv] 28 (0, 0))).c (i := 0) rfl
  have f2 := ((Is.made w #[.string nu, .int .i64 ku, .int .i64 au, .int .i64 xu, .int .i64 yu, .int .i64 zu, .int .i64 lou, .int .i64 hiu, .slice fpu flu fcu] 28).alloc (.cells #[.string nv, .int .i64 kv, .int .i64 av, .int .i64 xv, .int .i64 yv, .int .i64 zv, .int .i64 lov, .int .i64 hiv, .slice fpv flv fcv] 28 (0, 0))).c (i := 1) rfl
  have f3 := ((Is.made w #[.string nu, .int .i64 ku, .int .i64 au, .int .i64 xu, .int .i64 yu, .int .i64 zu, .int .i64 lou, .int .i64 hiu, .slice fpu flu fcu] 28).alloc (.cells #[.string nv, .int .i64 kv, .int .i64 av, .int .i64 xv, .int .i64 yv, .int .i64 zv, .int .i64 lov, .int .i64 hiv, .slice fpv flv fcv] 28 (0, 0))).c (i := 2) rfl
  have f4 := ((Is.made w #[.string nu, .int .i64 ku, .int .i64 au, .int .i64 xu, .int .i64 yu, .int .i64 zu, .int .i64 lou, .int .i64 hiu, .slice fpu flu fcu] 28).alloc (.cells #[.string nv, .int .i64 kv, .int .i64 av, .int .i64 xv, .int .i64 yv, .int .i64 zv, .int .i64 lov, .int .i64 hiv, .slice fpv flv fcv] 28 (0, 0))).c (i := 3) rfl
  have f5 := ((Is.made w #[.string nu, .int .i64 ku, .int .i64 au, .int .i64 xu, .int .i64 yu, .int .i64 zu, .int .i64 lou, .int .i64 hiu, .slice fpu flu fcu] 28).alloc (.cells #[.string nv, .int .i64 kv, .int .i64 av, .int .i64 xv, .int .i64 yv, .int .i64 zv, .int .i64 lov, .int .i64 hiv, .slice fpv flv fcv] 28 (0, 0))).c (i := 4) rfl
  have f6 := ((Is.made w #[.string nu, .int .i64 ku, .int .i64 au, .int .i64 xu, .int .i64 yu, .int .i64 zu, .int .i64 lou, .int .i64 hiu, .slice fpu flu fcu] 28).alloc (.cells #[.string nv, .int .i64 kv, .int .i64 av, .int .i64 xv, .int .i64 yv, .int .i64 zv, .int .i64 lov, .int .i64 hiv, .slice fpv flv fcv] 28 (0, 0))).c (i := 5) rfl
  have f7 := ((Is.made w #[.string nu, .int .i64 ku, .int .i64 au, .int .i64 xu, .int .i64 yu, .int .i64 zu, .int .i64 lou, .int .i64 hiu, .slice fpu flu fcu] 28).alloc (.cells #[.string nv, .int .i64 kv, .int .i64 av, .int .i64 xv, .int .i64 yv, .int .i64 zv, .int .i64 lov, .int .i64 hiv, .slice fpv flv fcv] 28 (0, 0))).c (i := 6) rfl
  have f8 := ((Is.made w #[.string nu, .int .i64 ku, .int .i64 au, .int .i64 xu, .int .i64 yu, .int .i64 zu, .int .i64 lou, .int .i64 hiu, .slice fpu flu fcu] 28).alloc (.cells #[.string nv, .int .i64 kv, .int .i64 av, .int .i64 xv, .int .i64 yv, .int .i64 zv, .int .i64 lov, .int .i64 hiv, .slice fpv flv fcv] 28 (0, 0))).c (i := 7) rfl
  have f9 := ((Is.made w #[.string nu, .int .i64 ku, .int .i64 au, .int .i64 xu, .int .i64 yu, .int .i64 zu, .int .i64 lou, .int .i64 hiu, .slice fpu flu fcu] 28).alloc (.cells #[.string nv, .int .i64 kv, .int .i64 av, .int .i64 xv, .int .i64 yv, .int .i64 zv, .int .i64 lov, .int .i64 hiv, .slice fpv flv fcv] 28 (0, 0))).c (i := 8) rfl
  go_enter Tryd.func65, Tryd.ntmps65
  go_wp2_with fail
  clear f1 f2 f3 f4 f5 f6 f7 f8 f9
  replace da := ((da.alloc (.cells #[.string nu, .int .i64 ku, .int .i64 au, .int .i64 xu, .int .i64 yu, .int .i64 zu, .int .i64 lou, .int .i64 hiu, .slice fpu flu fcu] 28 (0, 0))).alloc (.cells #[.string nv, .int .i64 kv, .int .i64 av, .int .i64 xv, .int .i64 yv, .int .i64 zv, .int .i64 lov, .int .i64 hiv, .slice fpv flv fcv] 28 (0, 0)))
  replace db := ((db.alloc (.cells #[.string nu, .int .i64 ku, .int .i64 au, .int .i64 xu, .int .i64 yu, .int .i64 zu, .int .i64 lou, .int .i64 hiu, .slice fpu flu fcu] 28 (0, 0))).alloc (.cells #[.string nv, .int .i64 kv, .int .i64 av, .int .i64 xv, .int .i64 yv, .int .i64 zv, .int .i64 lov, .int .i64 hiv, .slice fpv flv fcv] 28 (0, 0)))
  have b1 := Is.made w #[.string nu, .int .i64 ku, .int .i64 au, .int .i64 xu, .int .i64 yu, .int .i64 zu, .int .i64 lou, .int .i64 hiu, .slice fpu flu fcu] 28
  replace b1 := (b1.alloc (.cells #[.string nv, .int .i64 kv, .int .i64 av, .int .i64 xv, .int .i64 yv, .int .i64 zv, .int .i64 lov, .int .i64 hiv, .slice fpv flv fcv] 28 (0, 0)))
  have b2 := Is.made (w.alloc (.cells #[.string nu, .int .i64 ku, .int .i64 au, .int .i64 xu, .int .i64 yu, .int .i64 zu, .int .i64 lou, .int .i64 hiu, .slice fpu flu fcu] 28 (0, 0))) #[.string nv, .int .i64 kv, .int .i64 av, .int .i64 xv, .int .i64 yv, .int .i64 zv, .int .i64 lov, .int .i64 hiv, .slice fpv flv fcv] 28
  simp only [World.size_alloc] at b2
  replace kx := kx.alloc (.cells #[.string nu, .int .i64 ku, .int .i64 au, .int .i64 xu, .int .i64 yu, .int .i64 zu, .int .i64 lou, .int .i64 hiu, .slice fpu flu fcu] 28 (0, 0))
  replace kx := kx.alloc (.cells #[.string nv, .int .i64 kv, .int .i64 av, .int .i64 xv, .int .i64 yv, .int .i64 zv, .int .i64 lov, .int .i64 hiv, .slice fpv flv fcv] 28 (0, 0))
  (with_reducible refine (((q1).out _)).mono ?_)
  rintro r w1 ⟨rfl, k1⟩
  replace da := da.kb k1
  replace db := db.kb k1
  replace b1 := b1.kb k1
  replace b2 := b2.kb k1
  replace kx := kx.trans k1
  have s1 := k1.size
  simp only [World.size_alloc] at s1
  clear k1
  have en2 := (enters_of Tryd.func66 (by kernel_rfl) rfl : ∀ args W, (callFunc 66 args).run Tryd.prog W = .ok (.enter 66 args) W)
  have f10 := (b2.alloc (.cells #[.string nu, .int .i64 ku, .int .i64 au, .int .i64 xu, .int .i64 yu, .int .i64 zu, .int .i64 lou, .int .i64 hiu] 98 (0, 0))).c (i := 0) rfl
  have f11 := (b2.alloc (.cells #[.string nu, .int .i64 ku, .int .i64 au, .int .i64 xu, .int .i64 yu, .int .i64 zu, .int .i64 lou, .int .i64 hiu] 98 (0, 0))).c (i := 1) rfl
  have f12 := (b2.alloc (.cells #[.string nu, .int .i64 ku, .int .i64 au, .int .i64 xu, .int .i64 yu, .int .i64 zu, .int .i64 lou, .int .i64 hiu] 98 (0, 0))).c (i := 2) rfl
  have f13 := (b2.alloc (.cells #[.string nu, .int .i64 ku, .int .i64 au, .int .i64 xu, .int .i64 yu, .int .i64 zu, .int .i64 lou, .int .i64 hiu] 98 (0, 0))).c (i := 3) rfl
  have f14 := (b2.alloc (.cells #[.string nu, .int .i64 ku, .int .i64 au, .int .i64 xu, .int .i64 yu, .int .i64 zu, .int .i64 lou, .int .i64 hiu] 98 (0, 0))).c (i := 4) rfl
  have f15 := (b2.alloc (.cells #[.string nu, .int .i64 ku, .int .i64 au, .int .i64 xu, .int .i64 yu, .int .i64 zu, .int .i64 lou, .int .i64 hiu] 98 (0, 0))).c (i := 5) rfl
  have f16 := (b2.alloc (.cells #[.string nu, .int .i64 ku, .int .i64 au, .int .i64 xu, .int .i64 yu, .int .i64 zu, .int .i64 lou, .int .i64 hiu] 98 (0, 0))).c (i := 6) rfl
  have f17 := (b2.alloc (.cells #[.string nu, .int .i64 ku, .int .i64 au, .int .i64 xu, .int .i64 yu, .int .i64 zu, .int .i64 lou, .int .i64 hiu] 98 (0, 0))).c (i := 7) rfl
  have f18 := (b2.alloc (.cells #[.string nu, .int .i64 ku, .int .i64 au, .int .i64 xu, .int .i64 yu, .int .i64 zu, .int .i64 lou, .int .i64 hiu] 98 (0, 0))).c (i := 8) rfl
  go_wp2_with fail
  clear f10 f11 f12 f13 f14 f15 f16 f17 f18
  replace da := (da.alloc (.cells #[.string nu, .int .i64 ku, .int .i64 au, .int .i64 xu, .int .i64 yu, .int .i64 zu, .int .i64 lou, .int .i64 hiu] 98 (0, 0)))
  replace db := (db.alloc (.cells #[.string nu, .int .i64 ku, .int .i64 au, .int .i64 xu, .int .i64 yu, .int .i64 zu, .int .i64 lou, .int .i64 hiu] 98 (0, 0)))
  replace b1 := (b1.alloc (.cells #[.string nu, .int .i64 ku, .int .i64 au, .int .i64 xu, .int .i64 yu, .int .i64 zu, .int .i64 lou, .int .i64 hiu] 98 (0, 0)))
  replace b2 := (b2.alloc (.cells #[.string nu, .int .i64 ku, .int .i64 au, .int .i64 xu, .int .i64 yu, .int .i64 zu, .int .i64 lou, .int .i64 hiu] 98 (0, 0)))
  have b3 := Is.made w1 #[.string nu, .int .i64 ku, .int .i64 au, .int .i64 xu, .int .i64 yu, .int .i64 zu, .int .i64 lou, .int .i64 hiu] 98
  replace kx := kx.alloc (.cells #[.string nu, .int .i64 ku, .int .i64 au, .int .i64 xu, .int .i64 yu, .int .i64 zu, .int .i64 lou, .int .i64 hiu] 98 (0, 0))
  (with_reducible refine (((q2).out _)).mono ?_)
  rintro r w2 ⟨rfl, k2⟩
  replace da := da.kb k2
  replace db := db.kb k2
  replace b1 := b1.kb k2
  replace b2 := b2.kb k2
  replace b3 := b3.kb k2
  replace kx := kx.trans k2
  have s2 := k2.size
  simp only [World.size_alloc] at s2
  clear k2
  have f19 := (b3.alloc (.cells #[.string nv, .int .i64 kv, .int .i64 av, .int .i64 xv, .int .i64 yv, .int .i64 zv, .int .i64 lov, .int .i64 hiv] 98 (0, 0))).c (i := 0) rfl
  have f20 := (b3.alloc (.cells #[.string nv, .int .i64 kv, .int .i64 av, .int .i64 xv, .int .i64 yv, .int .i64 zv, .int .i64 lov, .int .i64 hiv] 98 (0, 0))).c (i := 1) rfl
  have f21 := (b3.alloc (.cells #[.string nv, .int .i64 kv, .int .i64 av, .int .i64 xv, .int .i64 yv, .int .i64 zv, .int .i64 lov, .int .i64 hiv] 98 (0, 0))).c (i := 2) rfl
  have f22 := (b3.alloc (.cells #[.string nv, .int .i64 kv, .int .i64 av, .int .i64 xv, .int .i64 yv, .int .i64 zv, .int .i64 lov, .int .i64 hiv] 98 (0, 0))).c (i := 3) rfl
  have f23 := (b3.alloc (.cells #[.string nv, .int .i64 kv, .int .i64 av, .int .i64 xv, .int .i64 yv, .int .i64 zv, .int .i64 lov, .int .i64 hiv] 98 (0, 0))).c (i := 4) rfl
  have f24 := (b3.alloc (.cells #[.string nv, .int .i64 kv, .int .i64 av, .int .i64 xv, .int .i64 yv, .int .i64 zv, .int .i64 lov, .int .i64 hiv] 98 (0, 0))).c (i := 5) rfl
  have f25 := (b3.alloc (.cells #[.string nv, .int .i64 kv, .int .i64 av, .int .i64 xv, .int .i64 yv, .int .i64 zv, .int .i64 lov, .int .i64 hiv] 98 (0, 0))).c (i := 6) rfl
  have f26 := (b3.alloc (.cells #[.string nv, .int .i64 kv, .int .i64 av, .int .i64 xv, .int .i64 yv, .int .i64 zv, .int .i64 lov, .int .i64 hiv] 98 (0, 0))).c (i := 7) rfl
  have f27 := (Is.made w2 #[.string nv, .int .i64 kv, .int .i64 av, .int .i64 xv, .int .i64 yv, .int .i64 zv, .int .i64 lov, .int .i64 hiv] 98).c (i := 0) rfl
  have f28 := (Is.made w2 #[.string nv, .int .i64 kv, .int .i64 av, .int .i64 xv, .int .i64 yv, .int .i64 zv, .int .i64 lov, .int .i64 hiv] 98).c (i := 1) rfl
  have f29 := (Is.made w2 #[.string nv, .int .i64 kv, .int .i64 av, .int .i64 xv, .int .i64 yv, .int .i64 zv, .int .i64 lov, .int .i64 hiv] 98).c (i := 2) rfl
  have f30 := (Is.made w2 #[.string nv, .int .i64 kv, .int .i64 av, .int .i64 xv, .int .i64 yv, .int .i64 zv, .int .i64 lov, .int .i64 hiv] 98).c (i := 3) rfl
  have f31 := (Is.made w2 #[.string nv, .int .i64 kv, .int .i64 av, .int .i64 xv, .int .i64 yv, .int .i64 zv, .int .i64 lov, .int .i64 hiv] 98).c (i := 4) rfl
  have f32 := (Is.made w2 #[.string nv, .int .i64 kv, .int .i64 av, .int .i64 xv, .int .i64 yv, .int .i64 zv, .int .i64 lov, .int .i64 hiv] 98).c (i := 5) rfl
  have f33 := (Is.made w2 #[.string nv, .int .i64 kv, .int .i64 av, .int .i64 xv, .int .i64 yv, .int .i64 zv, .int .i64 lov, .int .i64 hiv] 98).c (i := 6) rfl
  have f34 := (Is.made w2 #[.string nv, .int .i64 kv, .int .i64 av, .int .i64 xv, .int .i64 yv, .int .i64 zv, .int .i64 lov, .int .i64 hiv] 98).c (i := 7) rfl
  go_wp2
  go_ret
  clear f19 f20 f21 f22 f23 f24 f25 f26 f27 f28 f29 f30 f31 f32 f33 f34
  replace kx := kx.alloc (.cells #[.string nv, .int .i64 kv, .int .i64 av, .int .i64 xv, .int .i64 yv, .int .i64 zv, .int .i64 lov, .int .i64 hiv] 98 (0, 0))
  exact ⟨show Ending.returned (.bool false) = Ending.returned (.bool ((plB nu ku au xu yu zu lou hiu nv kv av xv yv zv lov hiv && eqL frB us vs))) by unfold plB; rw [h1, h2, h3, h4, h5]; rfl, kx⟩
set_option maxRecDepth 100000 in
set_option maxHeartbeats 2000000 in
theorem fSameGF_6 (nu : ByteArray) (ku : Int) (au : Int) (xu : Int) (yu : Int) (zu : Int) (lou : Int) (hiu : Int) (fpu : Option Addr) (flu : Nat) (fcu : Nat) (nv : ByteArray) (kv : Int) (av : Int) (xv : Int) (yv : Int) (zv : Int) (lov : Int) (hiv : Int) (fpv : Option Addr) (flv : Nat) (fcv : Nat) (us : List FrT) (vs : List FrT) (hbd : flu ≤ 1000000) (hall : Hid (∀ f ∈ us, f.ds.length ≤ 1000000))    (q1 : Ca 66 #[.agg #[.string nu, .int .i64 ku, .int .i64 au, .int .i64 xu, .int .i64 yu, .int .i64 zu, .int .i64 lou, .int .i64 hiu, .slice fpu flu fcu]] (.tuple #[.agg #[.string nu, .int .i64 ku, .int .i64 au, .int .i64 xu, .int .i64 yu, .int .i64 zu, .int .i64 lou, .int .i64 hiu], .slice fpu flu fcu])) (q2 : Ca 66 #[.agg #[.string nv, .int .i64 kv, .int .i64 av, .int .i64 xv, .int .i64 yv, .int .i64 zv, .int .i64 lov, .int .i64 hiv, .slice fpv flv fcv]] (.tuple #[.agg #[.string nv, .int .i64 kv, .int .i64 av, .int .i64 xv, .int .i64 yv, .int .i64 zv, .int .i64 lov, .int .i64 hiv], .slice fpv flv fcv]))  (h1 : (nu.toList == nv.toList) = true) (h2 : (ku == kv) = true) (h3 : (au == av) = true) (h4 : (xu == xv) = false) (w : World) (da : FrS w (.slice fpu flu fcu) us) (db : FrS w (.slice fpv flv fcv) vs)  : Calls Tryd.prog 65 #[.agg #[.string nu, .int .i64 ku, .int .i64 au, .int .i64 xu, .int .i64 yu, .int .i64 zu, .int .i64 lou, .int .i64 hiu, .slice fpu flu fcu], .agg #[.string nv, .int .i64 kv, .int .i64 av, .int .i64 xv, .int .i64 yv, .int .i64 zv, .int .i64 lov, .int .i64 hiv, .slice fpv flv fcv], .func (.func 66) #[] #[], .func (.func 67) #[] #[]] w fun r W' => r = .returned (.bool (plB nu ku au xu yu zu lou hiu nv kv av xv yv zv lov hiv && eqL frB us vs)) ∧ Kb w W' := by
  have kx := Kb.refl w
  unfold Ca at q1 q2
  have en1 := (enters_of Tryd.func66 (by kernel_rfl) rfl : ∀ args W, (callFunc 66 args).run Tryd.prog W = .ok (.enter 66 args) W)
  have f1 := ((Is.made w #[.string nu, .int .i64 ku, .int .i64 au, .int .i64 xu, .int .i64 yu, .int .i64 zu, .int .i64 lou, .int .i64 hiu, .slice fpu flu fcu] 28).alloc (.cells #[.string nv, .int .i64 kv, .int .i64 av, .int .i64 xv, .int .i64 yv, .int .i64 zv, .int .i64 lov, .int .i64 hiv, .slice fpv flv fcv] 28 (0, 0))).c (i := 0) rfl
  have f2 := ((Is.made w #[.string nu, .int .i64 ku, .int .i64 au, .int .i64 xu, .int .i64 yu, .int .i64 zu, .int .i64 lou, .int .i64 hiu, .slice fpu flu fcu] 28).alloc (.cells #[.string nv, .int .i64 kv, .int .i64 av, .int .i64 xv, .int .i64 yv, .int .i64 zv, .int .i64 lov, .int .i64 hiv, .slice fpv flv fcv] 28 (0, 0))).c (i := 1) rfl
  have f3 := ((Is.made w #[.string nu, .int .i64 ku, .int .i64 au, .int .i64 xu, .int .i64 yu, .int .i64 zu, .int .i64 lou, .int .i64 hiu, .slice fpu flu fcu] 28).alloc (.cells #[.string nv, .int .i64 kv, .int .i64 av, .int .i64 xv, .int .i64 yv, .int .i64 zv, .int .i64 lov, .int .i64 hiv, .slice fpv flv fcv] 28 (0, 0))).c (i := 2) rfl
  have f4 := ((Is.made w #[.string nu, .int .i64 ku, .int .i64 au, .int .i64 xu, .int .i64 yu, .int .i64 zu, .int .i64 lou, .int .i64 hiu, .slice fpu flu fcu] 28).alloc (.cells #[.string nv, .int .i64 kv, .int .i64 av, .int .i64 xv, .int .i64 yv, .int .i64 zv, .int .i64 lov, .int .i64 hiv, .slice fpv flv fcv] 28 (0, 0))).c (i := 3) rfl
  have f5 := ((Is.made w #[.string nu, .int .i64 ku, .int .i64 au, .int .i64 xu, .int .i64 yu, .int .i64 zu, .int .i64 lou, .int .i64 hiu, .slice fpu flu fcu] 28).alloc (.cells #[.string nv, .int .i64 kv, .int .i64 av, .int .i64 xv, .int .i64 yv, .int .i64 zv, .int .i64 lov, .int .i64 hiv, .slice fpv flv fcv] 28 (0, 0))).c (i := 4) rfl
  have f6 := ((Is.made w #[.string nu, .int .i64 ku, .int .i64 au, .int .i64 xu, .int .i64 yu, .int .i64 zu, .int .i64 lou, .int .i64 hiu, .slice fpu flu fcu] 28).alloc (.cells #[.string nv, .int .i64 kv, .int .i64 av, .int .i64 xv, .int .i64 yv, .int .i64 zv, .int .i64 lov, .int .i64 hiv, .slice fpv flv fcv] 28 (0, 0))).c (i := 5) rfl
  have f7 := ((Is.made w #[.string nu, .int .i64 ku, .int .i64 au, .int .i64 xu, .int .i64 yu, .int .i64 zu, .int .i64 lou, .int .i64 hiu, .slice fpu flu fcu] 28).alloc (.cells #[.string nv, .int .i64 kv, .int .i64 av, .int .i64 xv, .int .i64 yv, .int .i64 zv, .int .i64 lov, .int .i64 hiv, .slice fpv flv fcv] 28 (0, 0))).c (i := 6) rfl
  have f8 := ((Is.made w #[.string nu, .int .i64 ku, .int .i64 au, .int .i64 xu, .int .i64 yu, .int .i64 zu, .int .i64 lou, .int .i64 hiu, .slice fpu flu fcu] 28).alloc (.cells #[.string nv, .int .i64 kv, .int .i64 av, .int .i64 xv, .int .i64 yv, .int .i64 zv, .int .i64 lov, .int .i64 hiv, .slice fpv flv fcv] 28 (0, 0))).c (i := 7) rfl
  have f9 := ((Is.made w #[.string nu, .int .i64 ku, .int .i64 au, .int .i64 xu, .int .i64 yu, .int .i64 zu, .int .i64 lou, .int .i64 hiu, .slice fpu flu fcu] 28).alloc (.cells #[.string nv, .int .i64 kv, .int .i64 av, .int .i64 xv, .int .i64 yv, .int .i64 zv, .int .i64 lov, .int .i64 hiv, .slice fpv flv fcv] 28 (0, 0))).c (i := 8) rfl
  go_enter Tryd.func65, Tryd.ntmps65
  go_wp2_with fail
  clear f1 f2 f3 f4 f5 f6 f7 f8 f9
  replace da := ((da.alloc (.cells #[.string nu, .int .i64 ku, .int .i64 au, .int .i64 xu, .int .i64 yu, .int .i64 zu, .int .i64 lou, .int .i64 hiu, .slice fpu flu fcu] 28 (0, 0))).alloc (.cells #[.string nv, .int .i64 kv, .int .i64 av, .int .i64 xv, .int .i64 yv, .int .i64 zv, .int .i64 lov, .int .i64 hiv, .slice fpv flv fcv] 28 (0, 0)))
  replace db := ((db.alloc (.cells #[.string nu, .int .i64 ku, .int .i64 au, .int .i64 xu, .int .i64 yu, .int .i64 zu, .int .i64 lou, .int .i64 hiu, .slice fpu flu fcu] 28 (0, 0))).alloc (.cells #[.string nv, .int .i64 kv, .int .i64 av, .int .i64 xv, .int .i64 yv, .int .i64 zv, .int .i64 lov, .int .i64 hiv, .slice fpv flv fcv] 28 (0, 0)))
  have b1 := Is.made w #[.string nu, .int .i64 ku, .int .i64 au, .int .i64 xu, .int .i64 yu, .int .i64 zu, .int .i64 lou, .int .i64 hiu, .slice fpu flu fcu] 28
  replace b1 := (b1.alloc (.cells #[.string nv, .int .i64 kv, .int .i64 av, .int .i64 xv, .int .i64 yv, .int .i64 zv, .int .i64 lov, .int .i64 hiv, .slice fpv flv fcv] 28 (0, 0)))
  have b2 := Is.made (w.alloc (.cells #[.string nu, .int .i64 ku, .int .i64 au, .int .i64 xu, .int .i64 yu, .int .i64 zu, .int .i64 lou, .int .i64 hiu, .slice fpu flu fcu] 28 (0, 0))) #[.string nv, .int .i64 kv, .int .i64 av, .int .i64 xv, .int .i64 yv, .int .i64 zv, .int .i64 lov, .int .i64 hiv, .slice fpv flv fcv] 28
  simp only [World.size_alloc] at b2
  replace kx := kx.alloc (.cells #[.string nu, .int .i64 ku, .int .i64 au, .int .i64 xu, .int .i64 yu, .int .i64 zu, .int .i64 lou, .int .i64 hiu, .slice fpu flu fcu] 28 (0, 0))
  replace kx := kx.alloc (.cells #[.string nv, .int .i64 kv, .int .i64 av, .int .i64 xv, .int .i64 yv, .int .i64 zv, .int .i64 lov, .int .i64 hiv, .slice fpv flv fcv] 28 (0, 0))
  (with_reducible refine (((q1).out _)).mono ?_)
  rintro r w1 ⟨rfl, k1⟩
  replace da := da.kb k1
  replace db := db.kb k1
  replace b1 := b1.kb k1
  replace b2 := b2.kb k1
  replace kx := kx.trans k1
  have s1 := k1.size
  simp only [World.size_alloc] at s1
  clear k1
  have en2 := (enters_of Tryd.func66 (by kernel_rfl) rfl : ∀ args W, (callFunc 66 args).run Tryd.prog W = .ok (.enter 66 args) W)
  have f10 := (b2.alloc (.cells #[.string nu, .int .i64 ku, .int .i64 au, .int .i64 xu, .int .i64 yu, .int .i64 zu, .int .i64 lou, .int .i64 hiu] 98 (0, 0))).c (i := 0) rfl
  have f11 := (b2.alloc (.cells #[.string nu, .int .i64 ku, .int .i64 au, .int .i64 xu, .int .i64 yu, .int .i64 zu, .int .i64 lou, .int .i64 hiu] 98 (0, 0))).c (i := 1) rfl
  have f12 := (b2.alloc (.cells #[.string nu, .int .i64 ku, .int .i64 au, .int .i64 xu, .int .i64 yu, .int .i64 zu, .int .i64 lou, .int .i64 hiu] 98 (0, 0))).c (i := 2) rfl
  have f13 := (b2.alloc (.cells #[.string nu, .int .i64 ku, .int .i64 au, .int .i64 xu, .int .i64 yu, .int .i64 zu, .int .i64 lou, .int .i64 hiu] 98 (0, 0))).c (i := 3) rfl
  have f14 := (b2.alloc (.cells #[.string nu, .int .i64 ku, .int .i64 au, .int .i64 xu, .int .i64 yu, .int .i64 zu, .int .i64 lou, .int .i64 hiu] 98 (0, 0))).c (i := 4) rfl
  have f15 := (b2.alloc (.cells #[.string nu, .int .i64 ku, .int .i64 au, .int .i64 xu, .int .i64 yu, .int .i64 zu, .int .i64 lou, .int .i64 hiu] 98 (0, 0))).c (i := 5) rfl
  have f16 := (b2.alloc (.cells #[.string nu, .int .i64 ku, .int .i64 au, .int .i64 xu, .int .i64 yu, .int .i64 zu, .int .i64 lou, .int .i64 hiu] 98 (0, 0))).c (i := 6) rfl
  have f17 := (b2.alloc (.cells #[.string nu, .int .i64 ku, .int .i64 au, .int .i64 xu, .int .i64 yu, .int .i64 zu, .int .i64 lou, .int .i64 hiu] 98 (0, 0))).c (i := 7) rfl
  have f18 := (b2.alloc (.cells #[.string nu, .int .i64 ku, .int .i64 au, .int .i64 xu, .int .i64 yu, .int .i64 zu, .int .i64 lou, .int .i64 hiu] 98 (0, 0))).c (i := 8) rfl
  go_wp2_with fail
  clear f10 f11 f12 f13 f14 f15 f16 f17 f18
  replace da := (da.alloc (.cells #[.string nu, .int .i64 ku, .int .i64 au, .int .i64 xu, .int .i64 yu, .int .i64 zu, .int .i64 lou, .int .i64 hiu] 98 (0, 0)))
  replace db := (db.alloc (.cells #[.string nu, .int .i64 ku, .int .i64 au, .int .i64 xu, .int .i64 yu, .int .i64 zu, .int .i64 lou, .int .i64 hiu] 98 (0, 0)))
  replace b1 := (b1.alloc (.cells #[.string nu, .int .i64 ku, .int .i64 au, .int .i64 xu, .int .i64 yu, .int .i64 zu, .int .i64 lou, .int .i64 hiu] 98 (0, 0)))
  replace b2 := (b2.alloc (.cells #[.string nu, .int .i64 ku, .int .i64 au, .int .i64 xu, .int .i64 yu, .int .i64 zu, .int .i64 lou, .int .i64 hiu] 98 (0, 0)))
  have b3 := Is.made w1 #[.string nu, .int .i64 ku, .int .i64 au, .int .i64 xu, .int .i64 yu, .int .i64 zu, .int .i64 lou, .int .i64 hiu] 98
  replace kx := kx.alloc (.cells #[.string nu, .int .i64 ku, .int .i64 au, .int .i64 xu, .int .i64 yu, .int .i64 zu, .int .i64 lou, .int .i64 hiu] 98 (0, 0))
  (with_reducible refine (((q2).out _)).mono ?_)
  rintro r w2 ⟨rfl, k2⟩
  replace da := da.kb k2
  replace db := db.kb k2
  replace b1 := b1.kb k2
  replace b2 := b2.kb k2
  replace b3 := b3.kb k2
  replace kx := kx.trans k2
  have s2 := k2.size
  simp only [World.size_alloc] at s2
  clear k2
  have f19 := (b3.alloc (.cells #[.string nv, .int .i64 kv, .int .i64 av, .int .i64 xv, .int .i64 yv, .int .i64 zv, .int .i64 lov, .int .i64 hiv] 98 (0, 0))).c (i := 0) rfl
  have f20 := (b3.alloc (.cells #[.string nv, .int .i64 kv, .int .i64 av, .int .i64 xv, .int .i64 yv, .int .i64 zv, .int .i64 lov, .int .i64 hiv] 98 (0, 0))).c (i := 1) rfl
  have f21 := (b3.alloc (.cells #[.string nv, .int .i64 kv, .int .i64 av, .int .i64 xv, .int .i64 yv, .int .i64 zv, .int .i64 lov, .int .i64 hiv] 98 (0, 0))).c (i := 2) rfl
  have f22 := (b3.alloc (.cells #[.string nv, .int .i64 kv, .int .i64 av, .int .i64 xv, .int .i64 yv, .int .i64 zv, .int .i64 lov, .int .i64 hiv] 98 (0, 0))).c (i := 3) rfl
  have f23 := (b3.alloc (.cells #[.string nv, .int .i64 kv, .int .i64 av, .int .i64 xv, .int .i64 yv, .int .i64 zv, .int .i64 lov, .int .i64 hiv] 98 (0, 0))).c (i := 4) rfl
  have f24 := (b3.alloc (.cells #[.string nv, .int .i64 kv, .int .i64 av, .int .i64 xv, .int .i64 yv, .int .i64 zv, .int .i64 lov, .int .i64 hiv] 98 (0, 0))).c (i := 5) rfl
  have f25 := (b3.alloc (.cells #[.string nv, .int .i64 kv, .int .i64 av, .int .i64 xv, .int .i64 yv, .int .i64 zv, .int .i64 lov, .int .i64 hiv] 98 (0, 0))).c (i := 6) rfl
  have f26 := (b3.alloc (.cells #[.string nv, .int .i64 kv, .int .i64 av, .int .i64 xv, .int .i64 yv, .int .i64 zv, .int .i64 lov, .int .i64 hiv] 98 (0, 0))).c (i := 7) rfl
  have f27 := (Is.made w2 #[.string nv, .int .i64 kv, .int .i64 av, .int .i64 xv, .int .i64 yv, .int .i64 zv, .int .i64 lov, .int .i64 hiv] 98).c (i := 0) rfl
  have f28 := (Is.made w2 #[.string nv, .int .i64 kv, .int .i64 av, .int .i64 xv, .int .i64 yv, .int .i64 zv, .int .i64 lov, .int .i64 hiv] 98).c (i := 1) rfl
  have f29 := (Is.made w2 #[.string nv, .int .i64 kv, .int .i64 av, .int .i64 xv, .int .i64 yv, .int .i64 zv, .int .i64 lov, .int .i64 hiv] 98).c (i := 2) rfl
  have f30 := (Is.made w2 #[.string nv, .int .i64 kv, .int .i64 av, .int .i64 xv, .int .i64 yv, .int .i64 zv, .int .i64 lov, .int .i64 hiv] 98).c (i := 3) rfl
  have f31 := (Is.made w2 #[.string nv, .int .i64 kv, .int .i64 av, .int .i64 xv, .int .i64 yv, .int .i64 zv, .int .i64 lov, .int .i64 hiv] 98).c (i := 4) rfl
  have f32 := (Is.made w2 #[.string nv, .int .i64 kv, .int .i64 av, .int .i64 xv, .int .i64 yv, .int .i64 zv, .int .i64 lov, .int .i64 hiv] 98).c (i := 5) rfl
  have f33 := (Is.made w2 #[.string nv, .int .i64 kv, .int .i64 av, .int .i64 xv, .int .i64 yv, .int .i64 zv, .int .i64 lov, .int .i64 hiv] 98).c (i := 6) rfl
  have f34 := (Is.made w2 #[.string nv, .int .i64 kv, .int .i64 av, .int .i64 xv, .int .i64 yv, .int .i64 zv, .int .i64 lov, .int .i64 hiv] 98).c (i := 7) rfl
  go_wp2
  go_ret
  clear f19 f20 f21 f22 f23 f24 f25 f26 f27 f28 f29 f30 f31 f32 f33 f34
  replace kx := kx.alloc (.cells #[.string nv, .int .i64 kv, .int .i64 av, .int .i64 xv, .int .i64 yv, .int .i64 zv, .int .i64 lov, .int .i64 hiv] 98 (0, 0))
  exact ⟨show Ending.returned (.bool false) = Ending.returned (.bool ((plB nu ku au xu yu zu lou hiu nv kv av xv yv zv lov hiv && eqL frB us vs))) by unfold plB; rw [h1, h2, h3, h4]; rfl, kx⟩
set_option maxRecDepth 100000 in
set_option maxHeartbeats 2000000 in
theorem fSameGF_7 (nu : ByteArray) (ku : Int) (au : Int) (xu : Int) (yu : Int) (zu : Int) (lou : Int) (hiu : Int) (fpu : Option Addr) (flu : Nat) (fcu : Nat) (nv : ByteArray) (kv : Int) (av : Int) (xv : Int) (yv : Int) (zv : Int) (lov : Int) (hiv : Int) (fpv : Option Addr) (flv : Nat) (fcv : Nat) (us : List FrT) (vs : List FrT) (hbd : flu ≤ 1000000) (hall : Hid (∀ f ∈ us, f.ds.length ≤ 1000000))    (q1 : Ca 66 #[.agg #[.string nu, .int .i64 ku, .int .i64 au, .int .i64 xu, .int .i64 yu, .int .i64 zu, .int .i64 lou, .int .i64 hiu, .slice fpu flu fcu]] (.tuple #[.agg #[.string nu, .int .i64 ku, .int .i64 au, .int .i64 xu, .int .i64 yu, .int .i64 zu, .int .i64 lou, .int .i64 hiu], .slice fpu flu fcu])) (q2 : Ca 66 #[.agg #[.string nv, .int .i64 kv, .int .i64 av, .int .i64 xv, .int .i64 yv, .int .i64 zv, .int .i64 lov, .int .i64 hiv, .slice fpv flv fcv]] (.tuple #[.agg #[.string nv, .int .i64 kv, .int .i64 av, .int .i64 xv, .int .i64 yv, .int .i64 zv, .int .i64 lov, .int .i64 hiv], .slice fpv flv fcv]))  (h1 : (nu.toList == nv.toList) = true) (h2 : (ku == kv) = true) (h3 : (au == av) = false) (w : World) (da : FrS w (.slice fpu flu fcu) us) (db : FrS w (.slice fpv flv fcv) vs)  : Calls Tryd.prog 65 #[.agg #[.string nu, .int .i64 ku, .int .i64 au, .int .i64 xu, .int .i64 yu, .int .i64 zu, .int .i64 lou, .int .i64 hiu, .slice fpu flu fcu], .agg #[.string nv, .int .i64 kv, .int .i64 av, .int .i64 xv, .int .i64 yv, .int .i64 zv, .int .i64 lov, .int .i64 hiv, .slice fpv flv fcv], .func (.func 66) #[] #[], .func (.func 67) #[] #[]] w fun r W' => r = .returned (.bool (plB nu ku au xu yu zu lou hiu nv kv av xv yv zv lov hiv && eqL frB us vs)) ∧ Kb w W' := by
  have kx := Kb.refl w
  unfold Ca at q1 q2
  have en1 := (enters_of Tryd.func66 (by kernel_rfl) rfl : ∀ args W, (callFunc 66 args).run Tryd.prog W = .ok (.enter 66 args) W)
  have f1 := ((Is.made w #[.string nu, .int .i64 ku, .int .i64 au, .int .i64 xu, .int .i64 yu, .int .i64 zu, .int .i64 lou, .int .i64 hiu, .slice fpu flu fcu] 28).alloc (.cells #[.string nv, .int .i64 kv, .int .i64 av, .int .i64 xv, .int .i64 yv, .int .i64 zv, .int .i64 lov, .int .i64 hiv, .slice fpv flv fcv] 28 (0, 0))).c (i := 0) rfl
  have f2 := ((Is.made w #[.string nu, .int .i64 ku, .int .i64 au, .int .i64 xu, .int .i64 yu, .int .i64 zu, .int .i64 lou, .int .i64 hiu, .slice fpu flu fcu] 28).alloc (.cells #[.string nv, .int .i64 kv, .int .i64 av, .int .i64 xv, .int .i64 yv, .int .i64 zv, .int .i64 lov, .int .i64 hiv, .slice fpv flv fcv] 28 (0, 0))).c (i := 1) rfl
  have f3 := ((Is.made w #[.string nu, .int .i64 ku, .int .i64 au, .int .i64 xu, .int .i64 yu, .int .i64 zu, .int .i64 lou, .int .i64 hiu, .slice fpu flu fcu] 28).alloc (.cells #[.string nv, .int .i64 kv, .int .i64 av, .int .i64 xv, .int .i64 yv, .int .i64 zv, .int .i64 lov, .int .i64 hiv, .slice fpv flv fcv] 28 (0, 0))).c (i := 2) rfl
  have f4 := ((Is.made w #[.string nu, .int .i64 ku, .int .i64 au, .int .i64 xu, .int .i64 yu, .int .i64 zu, .int .i64 lou, .int .i64 hiu, .slice fpu flu fcu] 28).alloc (.cells #[.string nv, .int .i64 kv, .int .i64 av, .int .i64 xv, .int .i64 yv, .int .i64 zv, .int .i64 lov, .int .i64 hiv, .slice fpv flv fcv] 28 (0, 0))).c (i := 3) rfl
  have f5 := ((Is.made w #[.string nu, .int .i64 ku, .int .i64 au, .int .i64 xu, .int .i64 yu, .int .i64 zu, .int .i64 lou, .int .i64 hiu, .slice fpu flu fcu] 28).alloc (.cells #[.string nv, .int .i64 kv, .int .i64 av, .int .i64 xv, .int .i64 yv, .int .i64 zv, .int .i64 lov, .int .i64 hiv, .slice fpv flv fcv] 28 (0, 0))).c (i := 4) rfl
  have f6 := ((Is.made w #[.string nu, .int .i64 ku, .int .i64 au, .int .i64 xu, .int .i64 yu, .int .i64 zu, .int .i64 lou, .int .i64 hiu, .slice fpu flu fcu] 28).alloc (.cells #[.string nv, .int .i64 kv, .int .i64 av, .int .i64 xv, .int .i64 yv, .int .i64 zv, .int .i64 lov, .int .i64 hiv, .slice fpv flv fcv] 28 (0, 0))).c (i := 5) rfl
  have f7 := ((Is.made w #[.string nu, .int .i64 ku, .int .i64 au, .int .i64 xu, .int .i64 yu, .int .i64 zu, .int .i64 lou, .int .i64 hiu, .slice fpu flu fcu] 28).alloc (.cells #[.string nv, .int .i64 kv, .int .i64 av, .int .i64 xv, .int .i64 yv, .int .i64 zv, .int .i64 lov, .int .i64 hiv, .slice fpv flv fcv] 28 (0, 0))).c (i := 6) rfl
  have f8 := ((Is.made w #[.string nu, .int .i64 ku, .int .i64 au, .int .i64 xu, .int .i64 yu, .int .i64 zu, .int .i64 lou, .int .i64 hiu, .slice fpu flu fcu] 28).alloc (.cells #[.string nv, .int .i64 kv, .int .i64 av, .int .i64 xv, .int .i64 yv, .int .i64 zv, .int .i64 lov, .int .i64 hiv, .slice fpv flv fcv] 28 (0, 0))).c (i := 7) rfl
  have f9 := ((Is.made w #[.string nu, .int .i64 ku, .int .i64 au, .int .i64 xu, .int .i64 yu, .int .i64 zu, .int .i64 lou, .int .i64 hiu, .slice fpu flu fcu] 28).alloc (.cells #[.string nv, .int .i64 kv, .int .i64 av, .int .i64 xv, .int .i64 yv, .int .i64 zv, .int .i64 lov, .int .i64 hiv, .slice fpv flv fcv] 28 (0, 0))).c (i := 8) rfl
  go_enter Tryd.func65, Tryd.ntmps65
  go_wp2_with fail
  clear f1 f2 f3 f4 f5 f6 f7 f8 f9
  replace da := ((da.alloc (.cells #[.string nu, .int .i64 ku, .int .i64 au, .int .i64 xu, .int .i64 yu, .int .i64 zu, .int .i64 lou, .int .i64 hiu, .slice fpu flu fcu] 28 (0, 0))).alloc (.cells #[.string nv, .int .i64 kv, .int .i64 av, .int .i64 xv, .int .i64 yv, .int .i64 zv, .int .i64 lov, .int .i64 hiv, .slice fpv flv fcv] 28 (0, 0)))
  replace db := ((db.alloc (.cells #[.string nu, .int .i64 ku, .int .i64 au, .int .i64 xu, .int .i64 yu, .int .i64 zu, .int .i64 lou, .int .i64 hiu, .slice fpu flu fcu] 28 (0, 0))).alloc (.cells #[.string nv, .int .i64 kv, .int .i64 av, .int .i64 xv, .int .i64 yv, .int .i64 zv, .int .i64 lov, .int .i64 hiv, .slice fpv flv fcv] 28 (0, 0)))
  have b1 := Is.made w #[.string nu, .int .i64 ku, .int .i64 au, .int .i64 xu, .int .i64 yu, .int .i64 zu, .int .i64 lou, .int .i64 hiu, .slice fpu flu fcu] 28
  replace b1 := (b1.alloc (.cells #[.string nv, .int .i64 kv, .int .i64 av, .int .i64 xv, .int .i64 yv, .int .i64 zv, .int .i64 lov, .int .i64 hiv, .slice fpv flv fcv] 28 (0, 0)))
  have b2 := Is.made (w.alloc (.cells #[.string nu, .int .i64 ku, .int .i64 au, .int .i64 xu, .int .i64 yu, .int .i64 zu, .int .i64 lou, .int .i64 hiu, .slice fpu flu fcu] 28 (0, 0))) #[.string nv, .int .i64 kv, .int .i64 av, .int .i64 xv, .int .i64 yv, .int .i64 zv, .int .i64 lov, .int .i64 hiv, .slice fpv flv fcv] 28
  simp only [World.size_alloc] at b2
  replace kx := kx.alloc (.cells #[.string nu, .int .i64 ku, .int .i64 au, .int .i64 xu, .int .i64 yu, .int .i64 zu, .int .i64 lou, .int .i64 hiu, .slice fpu flu fcu] 28 (0, 0))
  replace kx := kx.alloc (.cells #[.string nv, .int .i64 kv, .int .i64 av, .int .i64 xv, .int .i64 yv, .int .i64 zv, .int .i64 lov, .int .i64 hiv, .slice fpv flv fcv] 28 (0, 0))
  (with_reducible refine (((q1).out _)).mono ?_)
  rintro r w1 ⟨rfl, k1⟩
  replace da := da.kb k1
  replace db := db.kb k1
  replace b1 := b1.kb k1
  replace b2 := b2.kb k1
  replace kx := kx.trans k1
  have s1 := k1.size
  simp only [World.size_alloc] at s1
  clear k1
  have en2 := (enters_of Tryd.func66 (by kernel_rfl) rfl : ∀ args W, (callFunc 66 args).run Tryd.prog W = .ok (.enter 66 args) W)
  have f10 := (b2.alloc (.cells #[.string nu, .int .i64 ku, .int .i64 au, .int .i64 xu, .int .i64 yu, .int .i64 zu, .int .i64 lou, .int .i64 hiu] 98 (0, 0))).c (i := 0) rfl
  have f11 := (b2.alloc (.cells #[.string nu, .int .i64 ku, .int .i64 au, .int .i64 xu, .int .i64 yu, .int .i64 zu, .int .i64 lou, .int .i64 hiu] 98 (0, 0))).c (i := 1) rfl
  have f12 := (b2.alloc (.cells #[.string nu, .int .i64 ku, .int .i64 au, .int .i64 xu, .int .i64 yu, .int .i64 zu, .int .i64 lou, .int .i64 hiu] 98 (0, 0))).c (i := 2) rfl
  have f13 := (b2.alloc (.cells #[.string nu, .int .i64 ku, .int .i64 au, .int .i64 xu, .int .i64 yu, .int .i64 zu, .int .i64 lou, .int .i64 hiu] 98 (0, 0))).c (i := 3) rfl
  have f14 := (b2.alloc (.cells #[.string nu, .int .i64 ku, .int .i64 au, .int .i64 xu, .int .i64 yu, .int .i64 zu, .int .i64 lou, .int .i64 hiu] 98 (0, 0))).c (i := 4) rfl
  have f15 := (b2.alloc (.cells #[.string nu, .int .i64 ku, .int .i64 au, .int .i64 xu, .int .i64 yu, .int .i64 zu, .int .i64 lou, .int .i64 hiu] 98 (0, 0))).c (i := 5) rfl
  have f16 := (b2.alloc (.cells #[.string nu, .int .i64 ku, .int .i64 au, .int .i64 xu, .int .i64 yu, .int .i64 zu, .int .i64 lou, .int .i64 hiu] 98 (0, 0))).c (i := 6) rfl
  have f17 := (b2.alloc (.cells #[.string nu, .int .i64 ku, .int .i64 au, .int .i64 xu, .int .i64 yu, .int .i64 zu, .int .i64 lou, .int .i64 hiu] 98 (0, 0))).c (i := 7) rfl
  have f18 := (b2.alloc (.cells #[.string nu, .int .i64 ku, .int .i64 au, .int .i64 xu, .int .i64 yu, .int .i64 zu, .int .i64 lou, .int .i64 hiu] 98 (0, 0))).c (i := 8) rfl
  go_wp2_with fail
  clear f10 f11 f12 f13 f14 f15 f16 f17 f18
  replace da := (da.alloc (.cells #[.string nu, .int .i64 ku, .int .i64 au, .int .i64 xu, .int .i64 yu, .int .i64 zu, .int .i64 lou, .int .i64 hiu] 98 (0, 0)))
  replace db := (db.alloc (.cells #[.string nu, .int .i64 ku, .int .i64 au, .int .i64 xu, .int .i64 yu, .int .i64 zu, .int .i64 lou, .int .i64 hiu] 98 (0, 0)))
  replace b1 := (b1.alloc (.cells #[.string nu, .int .i64 ku, .int .i64 au, .int .i64 xu, .int .i64 yu, .int .i64 zu, .int .i64 lou, .int .i64 hiu] 98 (0, 0)))
  replace b2 := (b2.alloc (.cells #[.string nu, .int .i64 ku, .int .i64 au, .int .i64 xu, .int .i64 yu, .int .i64 zu, .int .i64 lou, .int .i64 hiu] 98 (0, 0)))
  have b3 := Is.made w1 #[.string nu, .int .i64 ku, .int .i64 au, .int .i64 xu, .int .i64 yu, .int .i64 zu, .int .i64 lou, .int .i64 hiu] 98
  replace kx := kx.alloc (.cells #[.string nu, .int .i64 ku, .int .i64 au, .int .i64 xu, .int .i64 yu, .int .i64 zu, .int .i64 lou, .int .i64 hiu] 98 (0, 0))
  (with_reducible refine (((q2).out _)).mono ?_)
  rintro r w2 ⟨rfl, k2⟩
  replace da := da.kb k2
  replace db := db.kb k2
  replace b1 := b1.kb k2
  replace b2 := b2.kb k2
  replace b3 := b3.kb k2
  replace kx := kx.trans k2
  have s2 := k2.size
  simp only [World.size_alloc] at s2
  clear k2
  have f19 := (b3.alloc (.cells #[.string nv, .int .i64 kv, .int .i64 av, .int .i64 xv, .int .i64 yv, .int .i64 zv, .int .i64 lov, .int .i64 hiv] 98 (0, 0))).c (i := 0) rfl
  have f20 := (b3.alloc (.cells #[.string nv, .int .i64 kv, .int .i64 av, .int .i64 xv, .int .i64 yv, .int .i64 zv, .int .i64 lov, .int .i64 hiv] 98 (0, 0))).c (i := 1) rfl
  have f21 := (b3.alloc (.cells #[.string nv, .int .i64 kv, .int .i64 av, .int .i64 xv, .int .i64 yv, .int .i64 zv, .int .i64 lov, .int .i64 hiv] 98 (0, 0))).c (i := 2) rfl
  have f22 := (b3.alloc (.cells #[.string nv, .int .i64 kv, .int .i64 av, .int .i64 xv, .int .i64 yv, .int .i64 zv, .int .i64 lov, .int .i64 hiv] 98 (0, 0))).c (i := 3) rfl
  have f23 := (b3.alloc (.cells #[.string nv, .int .i64 kv, .int .i64 av, .int .i64 xv, .int .i64 yv, .int .i64 zv, .int .i64 lov, .int .i64 hiv] 98 (0, 0))).c (i := 4) rfl
  have f24 := (b3.alloc (.cells #[.string nv, .int .i64 kv, .int .i64 av, .int .i64 xv, .int .i64 yv, .int .i64 zv, .int .i64 lov, .int .i64 hiv] 98 (0, 0))).c (i := 5) rfl
  have f25 := (b3.alloc (.cells #[.string nv, .int .i64 kv, .int .i64 av, .int .i64 xv, .int .i64 yv, .int .i64 zv, .int .i64 lov, .int .i64 hiv] 98 (0, 0))).c (i := 6) rfl
  have f26 := (b3.alloc (.cells #[.string nv, .int .i64 kv, .int .i64 av, .int .i64 xv, .int .i64 yv, .int .i64 zv, .int .i64 lov, .int .i64 hiv] 98 (0, 0))).c (i := 7) rfl
  have f27 := (Is.made w2 #[.string nv, .int .i64 kv, .int .i64 av, .int .i64 xv, .int .i64 yv, .int .i64 zv, .int .i64 lov, .int .i64 hiv] 98).c (i := 0) rfl
  have f28 := (Is.made w2 #[.string nv, .int .i64 kv, .int .i64 av, .int .i64 xv, .int .i64 yv, .int .i64 zv, .int .i64 lov, .int .i64 hiv] 98).c (i := 1) rfl
  have f29 := (Is.made w2 #[.string nv, .int .i64 kv, .int .i64 av, .int .i64 xv, .int .i64 yv, .int .i64 zv, .int .i64 lov, .int .i64 hiv] 98).c (i := 2) rfl
  have f30 := (Is.made w2 #[.string nv, .int .i64 kv, .int .i64 av, .int .i64 xv, .int .i64 yv, .int .i64 zv, .int .i64 lov, .int .i64 hiv] 98).c (i := 3) rfl
  have f31 := (Is.made w2 #[.string nv, .int .i64 kv, .int .i64 av, .int .i64 xv, .int .i64 yv, .int .i64 zv, .int .i64 lov, .int .i64 hiv] 98).c (i := 4) rfl
  have f32 := (Is.made w2 #[.string nv, .int .i64 kv, .int .i64 av, .int .i64 xv, .int .i64 yv, .int .i64 zv, .int .i64 lov, .int .i64 hiv] 98).c (i := 5) rfl
  have f33 := (Is.made w2 #[.string nv, .int .i64 kv, .int .i64 av, .int .i64 xv, .int .i64 yv, .int .i64 zv, .int .i64 lov, .int .i64 hiv] 98).c (i := 6) rfl
  have f34 := (Is.made w2 #[.string nv, .int .i64 kv, .int .i64 av, .int .i64 xv, .int .i64 yv, .int .i64 zv, .int .i64 lov, .int .i64 hiv] 98).c (i := 7) rfl
  go_wp2
  go_ret
  clear f19 f20 f21 f22 f23 f24 f25 f26 f27 f28 f29 f30 f31 f32 f33 f34
  replace kx := kx.alloc (.cells #[.string nv, .int .i64 kv, .int .i64 av, .int .i64 xv, .int .i64 yv, .int .i64 zv, .int .i64 lov, .int .i64 hiv] 98 (0, 0))
  exact ⟨show Ending.returned (.bool false) = Ending.returned (.bool ((plB nu ku au xu yu zu lou hiu nv kv av xv yv zv lov hiv && eqL frB us vs))) by unfold plB; rw [h1, h2, h3]; rfl, kx⟩
set_option maxRecDepth 100000 in
set_option maxHeartbeats 2000000 in
theorem fSameGF_8 (nu : ByteArray) (ku : Int) (au : Int) (xu : Int) (yu : Int) (zu : Int) (lou : Int) (hiu : Int) (fpu : Option Addr) (flu : Nat) (fcu : Nat) (nv : ByteArray) (kv : Int) (av : Int) (xv : Int) (yv : Int) (zv : Int) (lov : Int) (hiv : Int) (fpv : Option Addr) (flv : Nat) (fcv : Nat) (us : List FrT) (vs : List FrT) (hbd : flu ≤ 1000000) (hall : Hid (∀ f ∈ us, f.ds.length ≤ 1000000))    (q1 : Ca 66 #[.agg #[.string nu, .int .i64 ku, .int .i64 au, .int .i64 xu, .int .i64 yu, .int .i64 zu, .int .i64 lou, .int .i64 hiu, .slice fpu flu fcu]] (.tuple #[.agg #[.string nu, .int .i64 ku, .int .i64 au, .int .i64 xu, .int .i64 yu, .int .i64 zu, .int .i64 lou, .int .i64 hiu], .slice fpu flu fcu])) (q2 : Ca 66 #[.agg #[.string nv, .int .i64 kv, .int .i64 av, .int .i64 xv, .int .i64 yv, .int .i64 zv, .int .i64 lov, .int .i64 hiv, .slice fpv flv fcv]] (.tuple #[.agg #[.string nv, .int .i64 kv, .int .i64 av, .int .i64 xv, .int .i64 yv, .int .i64 zv, .int .i64 lov, .int .i64 hiv], .slice fpv flv fcv]))  (h1 : (nu.toList == nv.toList) = true) (h2 : (ku == kv) = false) (w : World) (da : FrS w (.slice fpu flu fcu) us) (db : FrS w (.slice fpv flv fcv) vs)  : Calls Tryd.prog 65 #[.agg #[.string nu, .int .i64 ku, .int .i64 au, .int .i64 xu, .int .i64 yu, .int .i64 zu, .int .i64 lou, .int .i64 hiu, .slice fpu flu fcu], .agg #[.string nv, .int .i64 kv, .int .i64 av, .int .i64 xv, .int .i64 yv, .int .i64 zv, .int .i64 lov, .int .i64 hiv, .slice fpv flv fcv], .func (.func 66) #[] #[], .func (.func 67) #[] #[]] w fun r W' => r = .returned (.bool (plB nu ku au xu yu zu lou hiu nv kv av xv yv zv lov hiv && eqL frB us vs)) ∧ Kb w W' := by
  have kx := Kb.refl w
  unfold Ca at q1 q2
  have en1 := (enters_of Tryd.func66 (by kernel_rfl) rfl : ∀ args W, (callFunc 66 args).run Tryd.prog W = .ok (.enter 66 args) W)
  have f1 := ((Is.made w #[.string nu, .int .i64 ku, .int .i64 au, .int .i64 xu, .int .i64 yu, .int .i64 zu, .int .i64 lou, .int .i64 hiu, .slice fpu flu fcu] 28).alloc (.cells #[.string nv, .int .i64 kv, .int .i64 av, .int .i64 xv, .int .i64 yv, .int .i64 zv, .int .i64 lov, .int .i64 hiv, .slice fpv flv fcv] 28 (0, 0))).c (i := 0) rfl
  have f2 := ((Is.made w #[.string nu, .int .i64 ku, .int .i64 au, .int .i64 xu, .int .i64 yu, .int .i64 zu, .int .i64 lou, .int .i64 hiu, .slice fpu flu fcu] 28).alloc (.cells #[.string nv, .int .i64 kv, .int .i64 av, .int .i64 xv, .int .i64 yv, .int .i64 zv, .int .i64 lov, .int .i64 hiv, .slice fpv flv fcv] 28 (0, 0))).c (i := 1) rfl
  have f3 := ((Is.made w #[.string nu, .int .i64 ku, .int .i64 au, .int .i64 xu, .int .i64 yu, .int .i64 zu, .int .i64 lou, .int .i64 hiu, .slice fpu flu fcu] 28).alloc (.cells #[.string nv, .int .i64 kv, .int .i64 av, .int .i64 xv, .int .i64 yv, .int .i64 zv, .int .i64 lov, .int .i64 hiv, .slice fpv flv fcv] 28 (0, 0))).c (i := 2) rfl
  have f4 := ((Is.made w #[.string nu, .int .i64 ku, .int .i64 au, .int .i64 xu, .int .i64 yu, .int .i64 zu, .int .i64 lou, .int .i64 hiu, .slice fpu flu fcu] 28).alloc (.cells #[.string nv, .int .i64 kv, .int .i64 av, .int .i64 xv, .int .i64 yv, .int .i64 zv, .int .i64 lov, .int .i64 hiv, .slice fpv flv fcv] 28 (0, 0))).c (i := 3) rfl
  have f5 := ((Is.made w #[.string nu, .int .i64 ku, .int .i64 au, .int .i64 xu, .int .i64 yu, .int .i64 zu, .int .i64 lou, .int .i64 hiu, .slice fpu flu fcu] 28).alloc (.cells #[.string nv, .int .i64 kv, .int .i64 av, .int .i64 xv, .int .i64 yv, .int .i64 zv, .int .i64 lov, .int .i64 hiv, .slice fpv flv fcv] 28 (0, 0))).c (i := 4) rfl
  have f6 := ((Is.made w #[.string nu, .int .i64 ku, .int .i64 au, .int .i64 xu, .int .i64 yu, .int .i64 zu, .int .i64 lou, .int .i64 hiu, .slice fpu flu fcu] 28).alloc (.cells #[.string nv, .int .i64 kv, .int .i64 av, .int .i64 xv, .int .i64 yv, .int .i64 zv, .int .i64 lov, .int .i64 hiv, .slice fpv flv fcv] 28 (0, 0))).c (i := 5) rfl
  have f7 := ((Is.made w #[.string nu, .int .i64 ku, .int .i64 au, .int .i64 xu, .int .i64 yu, .int .i64 zu, .int .i64 lou, .int .i64 hiu, .slice fpu flu fcu] 28).alloc (.cells #[.string nv, .int .i64 kv, .int .i64 av, .int .i64 xv, .int .i64 yv, .int .i64 zv, .int .i64 lov, .int .i64 hiv, .slice fpv flv fcv] 28 (0, 0))).c (i := 6) rfl
  have f8 := ((Is.made w #[.string nu, .int .i64 ku, .int .i64 au, .int .i64 xu, .int .i64 yu, .int .i64 zu, .int .i64 lou, .int .i64 hiu, .slice fpu flu fcu] 28).alloc (.cells #[.string nv, .int .i64 kv, .int .i64 av, .int .i64 xv, .int .i64 yv, .int .i64 zv, .int .i64 lov, .int .i64 hiv, .slice fpv flv fcv] 28 (0, 0))).c (i := 7) rfl
  have f9 := ((Is.made w #[.string nu, .int .i64 ku, .int .i64 au, .int .i64 xu, .int .i64 yu, .int .i64 zu, .int .i64 lou, .int .i64 hiu, .slice fpu flu fcu] 28).alloc (.cells #[.string nv, .int .i64 kv, .int .i64 av, .int .i64 xv, .int .i64 yv, .int .i64 zv, .int .i64 lov, .int .i64 hiv, .slice fpv flv fcv] 28 (0, 0))).c (i := 8) rfl
  go_enter Tryd.func65, Tryd.ntmps65
  go_wp2_with fail
  clear f1 f2 f3 f4 f5 f6 f7 f8 f9
  replace da := ((da.alloc (.cells #[.string nu, .int .i64 ku, .int .i64 au, .int .i64 xu, .int .i64 yu, .int .i64 zu, .int .i64 lou, .int .i64 hiu, .slice fpu flu fcu] 28 (0, 0))).alloc (.cells #[.string nv, .int .i64 kv, .int .i64 av, .int .i64 xv, .int .i64 yv, .int .i64 zv, .int .i64 lov, .int .i64 hiv, .slice fpv flv fcv] 28 (0, 0)))
  replace db := ((db.alloc (.cells #[.string nu, .int .i64 ku, .int .i64 au, .int .i64 xu, .int .i64 yu, .int .i64 zu, .int .i64 lou, .int .i64 hiu, .slice fpu flu fcu] 28 (0, 0))).alloc (.cells #[.string nv, .int .i64 kv, .int .i64 av, .int .i64 xv, .int .i64 yv, .int .i64 zv, .int .i64 lov, .int .i64 hiv, .slice fpv flv fcv] 28 (0, 0)))
  have b1 := Is.made w #[.string nu, .int .i64 ku, .int .i64 au, .int .i64 xu, .int .i64 yu, .int .i64 zu, .int .i64 lou, .int .i64 hiu, .slice fpu flu fcu] 28
  replace b1 := (b1.alloc (.cells #[.string nv, .int .i64 kv, .int .i64 av, .int .i64 xv, .int .i64 yv, .int .i64 zv, .int .i64 lov, .int .i64 hiv, .slice fpv flv fcv] 28 (0, 0)))
  have b2 := Is.made (w.alloc (.cells #[.string nu, .int .i64 ku, .int .i64 au, .int .i64 xu, .int .i64 yu, .int .i64 zu, .int .i64 lou, .int .i64 hiu, .slice fpu flu fcu] 28 (0, 0))) #[.string nv, .int .i64 kv, .int .i64 av, .int .i64 xv, .int .i64 yv, .int .i64 zv, .int .i64 lov, .int .i64 hiv, .slice fpv flv fcv] 28
  simp only [World.size_alloc] at b2
  replace kx := kx.alloc (.cells #[.string nu, .int .i64 ku, .int .i64 au, .int .i64 xu, .int .i64 yu, .int .i64 zu, .int .i64 lou, .int .i64 hiu, .slice fpu flu fcu] 28 (0, 0))
  replace kx := kx.alloc (.cells #[.string nv, .int .i64 kv, .int .i64 av, .int .i64 xv, .int .i64 yv, .int .i64 zv, .int .i64 lov, .int .i64 hiv, .slice fpv flv fcv] 28 (0, 0))
  (with_reducible refine (((q1).out _)).mono ?_)
  rintro r w1 ⟨rfl, k1⟩
  replace da := da.kb k1
  replace db := db.kb k1
  replace b1 := b1.kb k1
  replace b2 := b2.kb k1
  replace kx := kx.trans k1
  have s1 := k1.size
  simp only [World.size_alloc] at s1
  clear k1
  have en2 := (enters_of Tryd.func66 (by kernel_rfl) rfl : ∀ args W, (callFunc 66 args).run Tryd.prog W = .ok (.enter 66 args) W)
  have f10 := (b2.alloc (.cells #[.string nu, .int .i64 ku, .int .i64 au, .int .i64 xu, .int .i64 yu, .int .i64 zu, .int .i64 lou, .int .i64 hiu] 98 (0, 0))).c (i := 0) rfl
  have f11 := (b2.alloc (.cells #[.string nu, .int .i64 ku, .int .i64 au, .int .i64 xu, .int .i64 yu, .int .i64 zu, .int .i64 lou, .int .i64 hiu] 98 (0, 0))).c (i := 1) rfl
  have f12 := (b2.alloc (.cells #[.string nu, .int .i64 ku, .int .i64 au, .int .i64 xu, .int .i64 yu, .int .i64 zu, .int .i64 lou, .int .i64 hiu] 98 (0, 0))).c (i := 2) rfl
  have f13 := (b2.alloc (.cells #[.string nu, .int .i64 ku, .int .i64 au, .int .i64 xu, .int .i64 yu, .int .i64 zu, .int .i64 lou, .int .i64 hiu] 98 (0, 0))).c (i := 3) rfl
  have f14 := (b2.alloc (.cells #[.string nu, .int .i64 ku, .int .i64 au, .int .i64 xu, .int .i64 yu, .int .i64 zu, .int .i64 lou, .int .i64 hiu] 98 (0, 0))).c (i := 4) rfl
  have f15 := (b2.alloc (.cells #[.string nu, .int .i64 ku, .int .i64 au, .int .i64 xu, .int .i64 yu, .int .i64 zu, .int .i64 lou, .int .i64 hiu] 98 (0, 0))).c (i := 5) rfl
  have f16 := (b2.alloc (.cells #[.string nu, .int .i64 ku, .int .i64 au, .int .i64 xu, .int .i64 yu, .int .i64 zu, .int .i64 lou, .int .i64 hiu] 98 (0, 0))).c (i := 6) rfl
  have f17 := (b2.alloc (.cells #[.string nu, .int .i64 ku, .int .i64 au, .int .i64 xu, .int .i64 yu, .int .i64 zu, .int .i64 lou, .int .i64 hiu] 98 (0, 0))).c (i := 7) rfl
  have f18 := (b2.alloc (.cells #[.string nu, .int .i64 ku, .int .i64 au, .int .i64 xu, .int .i64 yu, .int .i64 zu, .int .i64 lou, .int .i64 hiu] 98 (0, 0))).c (i := 8) rfl
  go_wp2_with fail
  clear f10 f11 f12 f13 f14 f15 f16 f17 f18
  replace da := (da.alloc (.cells #[.string nu, .int .i64 ku, .int .i64 au, .int .i64 xu, .int .i64 yu, .int .i64 zu, .int .i64 lou, .int .i64 hiu] 98 (0, 0)))
  replace db := (db.alloc (.cells #[.string nu, .int .i64 ku, .int .i64 au, .int .i64 xu, .int .i64 yu, .int .i64 zu, .int .i64 lou, .int .i64 hiu] 98 (0, 0)))
  replace b1 := (b1.alloc (.cells #[.string nu, .int .i64 ku, .int .i64 au, .int .i64 xu, .int .i64 yu, .int .i64 zu, .int .i64 lou, .int .i64 hiu] 98 (0, 0)))
  replace b2 := (b2.alloc (.cells #[.string nu, .int .i64 ku, .int .i64 au, .int .i64 xu, .int .i64 yu, .int .i64 zu, .int .i64 lou, .int .i64 hiu] 98 (0, 0)))
  have b3 := Is.made w1 #[.string nu, .int .i64 ku, .int .i64 au, .int .i64 xu, .int .i64 yu, .int .i64 zu, .int .i64 lou, .int .i64 hiu] 98
  replace kx := kx.alloc (.cells #[.string nu, .int .i64 ku, .int .i64 au, .int .i64 xu, .int .i64 yu, .int .i64 zu, .int .i64 lou, .int .i64 hiu] 98 (0, 0))
  (with_reducible refine (((q2).out _)).mono ?_)
  rintro r w2 ⟨rfl, k2⟩
  replace da := da.kb k2
  replace db := db.kb k2
  replace b1 := b1.kb k2
  replace b2 := b2.kb k2
  replace b3 := b3.kb k2
  replace kx := kx.trans k2
  have s2 := k2.size
  simp only [World.size_alloc] at s2
  clear k2
  have f19 := (b3.alloc (.cells #[.string nv, .int .i64 kv, .int .i64 av, .int .i64 xv, .int .i64 yv, .int .i64 zv, .int .i64 lov, .int .i64 hiv] 98 (0, 0))).c (i := 0) rfl
  have f20 := (b3.alloc (.cells #[.string nv, .int .i64 kv, .int .i64 av, .int .i64 xv, .int .i64 yv, .int .i64 zv, .int .i64 lov, .int .i64 hiv] 98 (0, 0))).c (i := 1) rfl
  have f21 := (b3.alloc (.cells #[.string nv, .int .i64 kv, .int .i64 av, .int .i64 xv, .int .i64 yv, .int .i64 zv, .int .i64 lov, .int .i64 hiv] 98 (0, 0))).c (i := 2) rfl
  have f22 := (b3.alloc (.cells #[.string nv, .int .i64 kv, .int .i64 av, .int .i64 xv, .int .i64 yv, .int .i64 zv, .int .i64 lov, .int .i64 hiv] 98 (0, 0))).c (i := 3) rfl
  have f23 := (b3.alloc (.cells #[.string nv, .int .i64 kv, .int .i64 av, .int .i64 xv, .int .i64 yv, .int .i64 zv, .int .i64 lov, .int .i64 hiv] 98 (0, 0))).c (i := 4) rfl
  have f24 := (b3.alloc (.cells #[.string nv, .int .i64 kv, .int .i64 av, .int .i64 xv, .int .i64 yv, .int .i64 zv, .int .i64 lov, .int .i64 hiv] 98 (0, 0))).c (i := 5) rfl
  have f25 := (b3.alloc (.cells #[.string nv, .int .i64 kv, .int .i64 av, .int .i64 xv, .int .i64 yv, .int .i64 zv, .int .i64 lov, .int .i64 hiv] 98 (0, 0))).c (i := 6) rfl
  have f26 := (b3.alloc (.cells #[.string nv, .int .i64 kv, .int .i64 av, .int .i64 xv, .int .i64 yv, .int .i64 zv, .int .i64 lov, .int .i64 hiv] 98 (0, 0))).c (i := 7) rfl
  have f27 := (Is.made w2 #[.string nv, .int .i64 kv, .int .i64 av, .int .i64 xv, .int .i64 yv, .int .i64 zv, .int .i64 lov, .int .i64 hiv] 98).c (i := 0) rfl
  have f28 := (Is.made w2 #[.string nv, .int .i64 kv, .int .i64 av, .int .i64 xv, .int .i64 yv, .int .i64 zv, .int .i64 lov, .int .i64 hiv] 98).c (i := 1) rfl
  have f29 := (Is.made w2 #[.string nv, .int .i64 kv, .int .i64 av, .int .i64 xv, .int .i64 yv, .int .i64 zv, .int .i64 lov, .int .i64 hiv] 98).c (i := 2) rfl
  have f30 := (Is.made w2 #[.string nv, .int .i64 kv, .int .i64 av, .int .i64 xv, .int .i64 yv, .int .i64 zv, .int .i64 lov, .int .i64 hiv] 98).c (i := 3) rfl
  have f31 := (Is.made w2 #[.string nv, .int .i64 kv, .int .i64 av, .int .i64 xv, .int .i64 yv, .int .i64 zv, .int .i64 lov, .int .i64 hiv] 98).c (i := 4) rfl
  have f32 := (Is.made w2 #[.string nv, .int .i64 kv, .int .i64 av, .int .i64 xv, .int .i64 yv, .int .i64 zv, .int .i64 lov, .int .i64 hiv] 98).c (i := 5) rfl
  have f33 := (Is.made w2 #[.string nv, .int .i64 kv, .int .i64 av, .int .i64 xv, .int .i64 yv, .int .i64 zv, .int .i64 lov, .int .i64 hiv] 98).c (i := 6) rfl
  have f34 := (Is.made w2 #[.string nv, .int .i64 kv, .int .i64 av, .int .i64 xv, .int .i64 yv, .int .i64 zv, .int .i64 lov, .int .i64 hiv] 98).c (i := 7) rfl
  go_wp2
  go_ret
  clear f19 f20 f21 f22 f23 f24 f25 f26 f27 f28 f29 f30 f31 f32 f33 f34
  replace kx := kx.alloc (.cells #[.string nv, .int .i64 kv, .int .i64 av, .int .i64 xv, .int .i64 yv, .int .i64 zv, .int .i64 lov, .int .i64 hiv] 98 (0, 0))
  exact ⟨show Ending.returned (.bool false) = Ending.returned (.bool ((plB nu ku au xu yu zu lou hiu nv kv av xv yv zv lov hiv && eqL frB us vs))) by unfold plB; rw [h1, h2]; rfl, kx⟩
set_option maxRecDepth 100000 in
set_option maxHeartbeats 2000000 in
theorem fSameGF_9 (nu : ByteArray) (ku : Int) (au : Int) (xu : Int) (yu : Int) (zu : Int) (lou : Int) (hiu : Int) (fpu : Option Addr) (flu : Nat) (fcu : Nat) (nv : ByteArray) (kv : Int) (av : Int) (xv : Int) (yv : Int) (zv : Int) (lov : Int) (hiv : Int) (fpv : Option Addr) (flv : Nat) (fcv : Nat) (us : List FrT) (vs : List FrT) (hbd : flu ≤ 1000000) (hall : Hid (∀ f ∈ us, f.ds.length ≤ 1000000))    (q1 : Ca 66 #[.agg #[.string nu, .int .i64 ku, .int .i64 au, .int .i64 xu, .int .i64 yu, .int .i64 zu, .int .i64 lou, .int .i64 hiu, .slice fpu flu fcu]] (.tuple #[.agg #[.string nu, .int .i64 ku, .int .i64 au, .int .i64 xu, .int .i64 yu, .int .i64 zu, .int .i64 lou, .int .i64 hiu], .slice fpu flu fcu])) (q2 : Ca 66 #[.agg #[.string nv, .int .i64 kv, .int .i64 av, .int .i64 xv, .int .i64 yv, .int .i64 zv, .int .i64 lov, .int .i64 hiv, .slice fpv flv fcv]] (.tuple #[.agg #[.string nv, .int .i64 kv, .int .i64 av, .int .i64 xv, .int .i64 yv, .int .i64 zv, .int .i64 lov, .int .i64 hiv], .slice fpv flv fcv]))  (h1 : (nu.toList == nv.toList) = false) (w : World) (da : FrS w (.slice fpu flu fcu) us) (db : FrS w (.slice fpv flv fcv) vs)  : Calls Tryd.prog 65 #[.agg #[.string nu, .int .i64 ku, .int .i64 au, .int .i64 xu, .int .i64 yu, .int .i64 zu, .int .i64 lou, .int .i64 hiu, .slice fpu flu fcu], .agg #[.string nv, .int .i64 kv, .int .i64 av, .int .i64 xv, .int .i64 yv, .int .i64 zv, .int .i64 lov, .int .i64 hiv, .slice fpv flv fcv], .func (.func 66) #[] #[], .func (.func 67) #[] #[]] w fun r W' => r = .returned (.bool (plB nu ku au xu yu zu lou hiu nv kv av xv yv zv lov hiv && eqL frB us vs)) ∧ Kb w W' := by
  have kx := Kb.refl w
  unfold Ca at q1 q2
  have en1 := (enters_of Tryd.func66 (by kernel_rfl) rfl : ∀ args W, (callFunc 66 args).run Tryd.prog W = .ok (.enter 66 args) W)
  have f1 := ((Is.made w #[.string nu, .int .i64 ku, .int .i64 au, .int .i64 xu, .int .i64 yu, .int .i64 zu, .int .i64 lou, .int .i64 hiu, .slice fpu flu fcu] 28).alloc (.cells #[.string nv, .int .i64 kv, .int .i64 av, .int .i64 xv, .int .i64 yv, .int .i64 zv, .int .i64 lov, .int .i64 hiv, .slice fpv flv fcv] 28 (0, 0))).c (i := 0) rfl
  have f2 := ((Is.made w #[.string nu, .int .i64 ku, .int .i64 au, .int .i64 xu, .int .i64 yu, .int .i64 zu, .int .i64 lou, .int .i64 hiu, .slice fpu flu fcu] 28).alloc (.cells #[.string nv, .int .i64 kv, .int .i64 av, .int .i64 xv, .int .i64 yv, .int .i64 zv, .int .i64 lov, .int .i64 hiv, .slice fpv flv fcv] 28 (0, 0))).c (i := 1) rfl
  have f3 := ((Is.made w #[.string nu, .int .i64 ku, .int .i64 au, .int .i64 xu, .int .i64 yu, .int .i64 zu, .int .i64 lou, .int .i64 hiu, .slice fpu flu fcu] 28).alloc (.cells #[.string nv, .int .i64 kv, .int .i64 av, .int .i64 xv, .int .i64 yv, .int .i64 zv, .int .i64 lov, .int .i64 hiv, .slice fpv flv fcv] 28 (0, 0))).c (i := 2) rfl
  have f4 := ((Is.made w #[.string nu, .int .i64 ku, .int .i64 au, .int .i64 xu, .int .i64 yu, .int .i64 zu, .int .i64 lou, .int .i64 hiu, .slice fpu flu fcu] 28).alloc (.cells #[.string nv, .int .i64 kv, .int .i64 av, .int .i64 xv, .int .i64 yv, .int .i64 zv, .int .i64 lov, .int .i64 hiv, .slice fpv flv fcv] 28 (0, 0))).c (i := 3) rfl
  have f5 := ((Is.made w #[.string nu, .int .i64 ku, .int .i64 au, .int .i64 xu, .int .i64 yu, .int .i64 zu, .int .i64 lou, .int .i64 hiu, .slice fpu flu fcu] 28).alloc (.cells #[.string nv, .int .i64 kv, .int .i64 av, .int .i64 xv, .int .i64 yv, .int .i64 zv, .int .i64 lov, .int .i64 hiv, .slice fpv flv fcv] 28 (0, 0))).c (i := 4) rfl
  have f6 := ((Is.made w #[.string nu, .int .i64 ku, .int .i64 au, .int .i64 xu, .int .i64 yu, .int .i64 zu, .int .i64 lou, .int .i64 hiu, .slice fpu flu fcu] 28).alloc (.cells #[.string nv, .int .i64 kv, .int .i64 av, .int .i64 xv, .int .i64 yv, .int .i64 zv, .int .i64 lov, .int .i64 hiv, .slice fpv flv fcv] 28 (0, 0))).c (i := 5) rfl
  have f7 := ((Is.made w #[.string nu, .int .i64 ku, .int .i64 au, .int .i64 xu, .int .i64 yu, .int .i64 zu, .int .i64 lou, .int .i64 hiu, .slice fpu flu fcu] 28).alloc (.cells #[.string nv, .int .i64 kv, .int .i64 av, .int .i64 xv, .int .i64 yv, .int .i64 zv, .int .i64 lov, .int .i64 hiv, .slice fpv flv fcv] 28 (0, 0))).c (i := 6) rfl
  have f8 := ((Is.made w #[.string nu, .int .i64 ku, .int .i64 au, .int .i64 xu, .int .i64 yu, .int .i64 zu, .int .i64 lou, .int .i64 hiu, .slice fpu flu fcu] 28).alloc (.cells #[.string nv, .int .i64 kv, .int .i64 av, .int .i64 xv, .int .i64 yv, .int .i64 zv, .int .i64 lov, .int .i64 hiv, .slice fpv flv fcv] 28 (0, 0))).c (i := 7) rfl
  have f9 := ((Is.made w #[.string nu, .int .i64 ku, .int .i64 au, .int .i64 xu, .int .i64 yu, .int .i64 zu, .int .i64 lou, .int .i64 hiu, .slice fpu flu fcu] 28).alloc (.cells #[.string nv, .int .i64 kv, .int .i64 av, .int .i64 xv, .int .i64 yv, .int .i64 zv, .int .i64 lov, .int .i64 hiv, .slice fpv flv fcv] 28 (0, 0))).c (i := 8) rfl
  go_enter Tryd.func65, Tryd.ntmps65
  go_wp2_with fail
  clear f1 f2 f3 f4 f5 f6 f7 f8 f9
  replace da := ((da.alloc (.cells #[.string nu, .int .i64 ku, .int .i64 au, .int .i64 xu, .int .i64 yu, .int .i64 zu, .int .i64 lou, .int .i64 hiu, .slice fpu flu fcu] 28 (0, 0))).alloc (.cells #[.string nv, .int .i64 kv, .int .i64 av, .int .i64 xv, .int .i64 yv, .int .i64 zv, .int .i64 lov, .int .i64 hiv, .slice fpv flv fcv] 28 (0, 0)))
  replace db := ((db.alloc (.cells #[.string nu, .int .i64 ku, .int .i64 au, .int .i64 xu, .int .i64 yu, .int .i64 zu, .int .i64 lou, .int .i64 hiu, .slice fpu flu fcu] 28 (0, 0))).alloc (.cells #[.string nv, .int .i64 kv, .int .i64 av, .int .i64 xv, .int .i64 yv, .int .i64 zv, .int .i64 lov, .int .i64 hiv, .slice fpv flv fcv] 28 (0, 0)))
  have b1 := Is.made w #[.string nu, .int .i64 ku, .int .i64 au, .int .i64 xu, .int .i64 yu, .int .i64 zu, .int .i64 lou, .int .i64 hiu, .slice fpu flu fcu] 28
  replace b1 := (b1.alloc (.cells #[.string nv, .int .i64 kv, .int .i64 av, .int .i64 xv, .int .i64 yv, .int .i64 zv, .int .i64 lov, .int .i64 hiv, .slice fpv flv fcv] 28 (0, 0)))
  have b2 := Is.made (w.alloc (.cells #[.string nu, .int .i64 ku, .int .i64 au, .int .i64 xu, .int .i64 yu, .int .i64 zu, .int .i64 lou, .int .i64 hiu, .slice fpu flu fcu] 28 (0, 0))) #[.string nv, .int .i64 kv, .int .i64 av, .int .i64 xv, .int .i64 yv, .int .i64 zv, .int .i64 lov, .int .i64 hiv, .slice fpv flv fcv] 28
  simp only [World.size_alloc] at b2
  replace kx := kx.alloc (.cells #[.string nu, .int .i64 ku, .int .i64 au, .int .i64 xu, .int .i64 yu, .int .i64 zu, .int .i64 lou, .int .i64 hiu, .slice fpu flu fcu] 28 (0, 0))
  replace kx := kx.alloc (.cells #[.string nv, .int .i64 kv, .int .i64 av, .int .i64 xv, .int .i64 yv, .int .i64 zv, .int .i64 lov, .int .i64 hiv, .slice fpv flv fcv] 28 (0, 0))
  (with_reducible refine (((q1).out _)).mono ?_)
  rintro r w1 ⟨rfl, k1⟩
  replace da := da.kb k1
  replace db := db.kb k1
  replace b1 := b1.kb k1
  replace b2 := b2.kb k1
  replace kx := kx.trans k1
  have s1 := k1.size
  simp only [World.size_alloc] at s1
  clear k1
  have en2 := (enters_of Tryd.func66 (by kernel_rfl) rfl : ∀ args W, (callFunc 66 args).run Tryd.prog W = .ok (.enter 66 args) W)
  have f10 := (b2.alloc (.cells #[.string nu, .int .i64 ku, .int .i64 au, .int .i64 xu, .int .i64 yu, .int .i64 zu, .int .i64 lou, .int .i64 hiu] 98 (0, 0))).c (i := 0) rfl
  have f11 := (b2.alloc (.cells #[.string nu, .int .i64 ku, .int .i64 au, .int .i64 xu, .int .i64 yu, .int .i64 zu, .int .i64 lou, .int .i64 hiu] 98 (0, 0))).c (i := 1) rfl
  have f12 := (b2.alloc (.cells #[.string nu, .int .i64 ku, .int .i64 au, .int .i64 xu, .int .i64 yu, .int .i64 zu, .int .i64 lou, .int .i64 hiu] 98 (0, 0))).c (i := 2) rfl
  have f13 := (b2.alloc (.cells #[.string nu, .int .i64 ku, .int .i64 au, .int .i64 xu, .int .i64 yu, .int .i64 zu, .int .i64 lou, .int .i64 hiu] 98 (0, 0))).c (i := 3) rfl
  have f14 := (b2.alloc (.cells #[.string nu, .int .i64 ku, .int .i64 au, .int .i64 xu, .int .i64 yu, .int .i64 zu, .int .i64 lou, .int .i64 hiu] 98 (0, 0))).c (i := 4) rfl
  have f15 := (b2.alloc (.cells #[.string nu, .int .i64 ku, .int .i64 au, .int .i64 xu, .int .i64 yu, .int .i64 zu, .int .i64 lou, .int .i64 hiu] 98 (0, 0))).c (i := 5) rfl
  have f16 := (b2.alloc (.cells #[.string nu, .int .i64 ku, .int .i64 au, .int .i64 xu, .int .i64 yu, .int .i64 zu, .int .i64 lou, .int .i64 hiu] 98 (0, 0))).c (i := 6) rfl
  have f17 := (b2.alloc (.cells #[.string nu, .int .i64 ku, .int .i64 au, .int .i64 xu, .int .i64 yu, .int .i64 zu, .int .i64 lou, .int .i64 hiu] 98 (0, 0))).c (i := 7) rfl
  have f18 := (b2.alloc (.cells #[.string nu, .int .i64 ku, .int .i64 au, .int .i64 xu, .int .i64 yu, .int .i64 zu, .int .i64 lou, .int .i64 hiu] 98 (0, 0))).c (i := 8) rfl
  go_wp2_with fail
  clear f10 f11 f12 f13 f14 f15 f16 f17 f18
  replace da := (da.alloc (.cells #[.string nu, .int .i64 ku, .int .i64 au, .int .i64 xu, .int .i64 yu, .int .i64 zu, .int .i64 lou, .int .i64 hiu] 98 (0, 0)))
  replace db := (db.alloc (.cells #[.string nu, .int .i64 ku, .int .i64 au, .int .i64 xu, .int .i64 yu, .int .i64 zu, .int .i64 lou, .int .i64 hiu] 98 (0, 0)))
  replace b1 := (b1.alloc (.cells #[.string nu, .int .i64 ku, .int .i64 au, .int .i64 xu, .int .i64 yu, .int .i64 zu, .int .i64 lou, .int .i64 hiu] 98 (0, 0)))
  replace b2 := (b2.alloc (.cells #[.string nu, .int .i64 ku, .int .i64 au, .int .i64 xu, .int .i64 yu, .int .i64 zu, .int .i64 lou, .int .i64 hiu] 98 (0, 0)))
  have b3 := Is.made w1 #[.string nu, .int .i64 ku, .int .i64 au, .int .i64 xu, .int .i64 yu, .int .i64 zu, .int .i64 lou, .int .i64 hiu] 98
  replace kx := kx.alloc (.cells #[.string nu, .int .i64 ku, .int .i64 au, .int .i64 xu, .int .i64 yu, .int .i64 zu, .int .i64 lou, .int .i64 hiu] 98 (0, 0))
  (with_reducible refine (((q2).out _)).mono ?_)
  rintro r w2 ⟨rfl, k2⟩
  replace da := da.kb k2
  replace db := db.kb k2
  replace b1 := b1.kb k2
  replace b2 := b2.kb k2
  replace b3 := b3.kb k2
  replace kx := kx.trans k2
  have s2 := k2.size
  simp only [World.size_alloc] at s2
  clear k2
  have f19 := (b3.alloc (.cells #[.string nv, .int .i64 kv, .int .i64 av, .int .i64 xv, .int .i64 yv, .int .i64 zv, .int .i64 lov, .int .i64 hiv] 98 (0, 0))).c (i := 0) rfl
  have f20 := (b3.alloc (.cells #[.string nv, .int .i64 kv, .int .i64 av, .int .i64 xv, .int .i64 yv, .int .i64 zv, .int .i64 lov, .int .i64 hiv] 98 (0, 0))).c (i := 1) rfl
  have f21 := (b3.alloc (.cells #[.string nv, .int .i64 kv, .int .i64 av, .int .i64 xv, .int .i64 yv, .int .i64 zv, .int .i64 lov, .int .i64 hiv] 98 (0, 0))).c (i := 2) rfl
  have f22 := (b3.alloc (.cells #[.string nv, .int .i64 kv, .int .i64 av, .int .i64 xv, .int .i64 yv, .int .i64 zv, .int .i64 lov, .int .i64 hiv] 98 (0, 0))).c (i := 3) rfl
  have f23 := (b3.alloc (.cells #[.string nv, .int .i64 kv, .int .i64 av, .int .i64 xv, .int .i64 yv, .int .i64 zv, .int .i64 lov, .int .i64 hiv] 98 (0, 0))).c (i := 4) rfl
  have f24 := (b3.alloc (.cells #[.string nv, .int .i64 kv, .int .i64 av, .int .i64 xv, .int .i64 yv, .int .i64 zv, .int .i64 lov, .int .i64 hiv] 98 (0, 0))).c (i := 5) rfl
  have f25 := (b3.alloc (.cells #[.string nv, .int .i64 kv, .int .i64 av, .int .i64 xv, .int .i64 yv, .int .i64 zv, .int .i64 lov, .int .i64 hiv] 98 (0, 0))).c (i := 6) rfl
  have f26 := (b3.alloc (.cells #[.string nv, .int .i64 kv, .int .i64 av, .int .i64 xv, .int .i64 yv, .int .i64 zv, .int .i64 lov, .int .i64 hiv] 98 (0, 0))).c (i := 7) rfl
  have f27 := (Is.made w2 #[.string nv, .int .i64 kv, .int .i64 av, .int .i64 xv, .int .i64 yv, .int .i64 zv, .int .i64 lov, .int .i64 hiv] 98).c (i := 0) rfl
  have f28 := (Is.made w2 #[.string nv, .int .i64 kv, .int .i64 av, .int .i64 xv, .int .i64 yv, .int .i64 zv, .int .i64 lov, .int .i64 hiv] 98).c (i := 1) rfl
  have f29 := (Is.made w2 #[.string nv, .int .i64 kv, .int .i64 av, .int .i64 xv, .int .i64 yv, .int .i64 zv, .int .i64 lov, .int .i64 hiv] 98).c (i := 2) rfl
  have f30 := (Is.made w2 #[.string nv, .int .i64 kv, .int .i64 av, .int .i64 xv, .int .i64 yv, .int .i64 zv, .int .i64 lov, .int .i64 hiv] 98).c (i := 3) rfl
  have f31 := (Is.made w2 #[.string nv, .int .i64 kv, .int .i64 av, .int .i64 xv, .int .i64 yv, .int .i64 zv, .int .i64 lov, .int .i64 hiv] 98).c (i := 4) rfl
  have f32 := (Is.made w2 #[.string nv, .int .i64 kv, .int .i64 av, .int .i64 xv, .int .i64 yv, .int .i64 zv, .int .i64 lov, .int .i64 hiv] 98).c (i := 5) rfl
  have f33 := (Is.made w2 #[.string nv, .int .i64 kv, .int .i64 av, .int .i64 xv, .int .i64 yv, .int .i64 zv, .int .i64 lov, .int .i64 hiv] 98).c (i := 6) rfl
  have f34 := (Is.made w2 #[.string nv, .int .i64 kv, .int .i64 av, .int .i64 xv, .int .i64 yv, .int .i64 zv, .int .i64 lov, .int .i64 hiv] 98).c (i := 7) rfl
  go_wp2
  go_ret
  clear f19 f20 f21 f22 f23 f24 f25 f26 f27 f28 f29 f30 f31 f32 f33 f34
  replace kx := kx.alloc (.cells #[.string nv, .int .i64 kv, .int .i64 av, .int .i64 xv, .int .i64 yv, .int .i64 zv, .int .i64 lov, .int .i64 hiv] 98 (0, 0))
  exact ⟨show Ending.returned (.bool false) = Ending.returned (.bool ((plB nu ku au xu yu zu lou hiu nv kv av xv yv zv lov hiv && eqL frB us vs))) by unfold plB; rw [h1]; rfl, kx⟩
set_option maxRecDepth 100000 in
theorem fSameGF (nu : ByteArray) (ku : Int) (au : Int) (xu : Int) (yu : Int) (zu : Int) (lou : Int) (hiu : Int) (fpu : Option Addr) (flu : Nat) (fcu : Nat) (nv : ByteArray) (kv : Int) (av : Int) (xv : Int) (yv : Int) (zv : Int) (lov : Int) (hiv : Int) (fpv : Option Addr) (flv : Nat) (fcv : Nat) (us : List FrT) (vs : List FrT) (hbd : flu ≤ 1000000) (hall : Hid (∀ f ∈ us, f.ds.length ≤ 1000000))  (q1 : Ca 66 #[.agg #[.string nu, .int .i64 ku, .int .i64 au, .int .i64 xu, .int .i64 yu, .int .i64 zu, .int .i64 lou, .int .i64 hiu, .slice fpu flu fcu]] (.tuple #[.agg #[.string nu, .int .i64 ku, .int .i64 au, .int .i64 xu, .int .i64 yu, .int .i64 zu, .int .i64 lou, .int .i64 hiu], .slice fpu flu fcu])) (q2 : Ca 66 #[.agg #[.string nv, .int .i64 kv, .int .i64 av, .int .i64 xv, .int .i64 yv, .int .i64 zv, .int .i64 lov, .int .i64 hiv, .slice fpv flv fcv]] (.tuple #[.agg #[.string nv, .int .i64 kv, .int .i64 av, .int .i64 xv, .int .i64 yv, .int .i64 zv, .int .i64 lov, .int .i64 hiv], .slice fpv flv fcv]))  (w : World) (da : FrS w (.slice fpu flu fcu) us) (db : FrS w (.slice fpv flv fcv) vs) : Calls Tryd.prog 65 #[.agg #[.string nu, .int .i64 ku, .int .i64 au, .int .i64 xu, .int .i64 yu, .int .i64 zu, .int .i64 lou, .int .i64 hiu, .slice fpu flu fcu], .agg #[.string nv, .int .i64 kv, .int .i64 av, .int .i64 xv, .int .i64 yv, .int .i64 zv, .int .i64 lov, .int .i64 hiv, .slice fpv flv fcv], .func (.func 66) #[] #[], .func (.func 67) #[] #[]] w fun r W' => r = .returned (.bool (plB nu ku au xu yu zu lou hiu nv kv av xv yv zv lov hiv && eqL frB us vs)) ∧ Kb w W' := by
  rcases Bool.eq_false_or_eq_true (nu.toList == nv.toList) with h1 | h1
  · rcases Bool.eq_false_or_eq_true (ku == kv) with h2 | h2
    · rcases Bool.eq_false_or_eq_true (au == av) with h3 | h3
      · rcases Bool.eq_false_or_eq_true (xu == xv) with h4 | h4
        · rcases Bool.eq_false_or_eq_true (yu == yv) with h5 | h5
          · rcases Bool.eq_false_or_eq_true (zu == zv) with h6 | h6
            · rcases Bool.eq_false_or_eq_true (lou == lov) with h7 | h7
              · rcases Bool.eq_false_or_eq_true (hiu == hiv) with h8 | h8
                · exact fSameGF_1 nu ku au xu yu zu lou hiu fpu flu fcu nv kv av xv yv zv lov hiv fpv flv fcv us vs hbd hall q1 q2 h1 h2 h3 h4 h5 h6 h7 h8 w da db
                · exact fSameGF_2 nu ku au xu yu zu lou hiu fpu flu fcu nv kv av xv yv zv lov hiv fpv flv fcv us vs hbd hall q1 q2 h1 h2 h3 h4 h5 h6 h7 h8 w da db
              · exact fSameGF_3 nu ku au xu yu zu lou hiu fpu flu fcu nv kv av xv yv zv lov hiv fpv flv fcv us vs hbd hall q1 q2 h1 h2 h3 h4 h5 h6 h7 w da db
            · exact fSameGF_4 nu ku au xu yu zu lou hiu fpu flu fcu nv kv av xv yv zv lov hiv fpv flv fcv us vs hbd hall q1 q2 h1 h2 h3 h4 h5 h6 w da db
          · exact fSameGF_5 nu ku au xu yu zu lou hiu fpu flu fcu nv kv av xv yv zv lov hiv fpv flv fcv us vs hbd hall q1 q2 h1 h2 h3 h4 h5 w da db
        · exact fSameGF_6 nu ku au xu yu zu lou hiu fpu flu fcu nv kv av xv yv zv lov hiv fpv flv fcv us vs hbd hall q1 q2 h1 h2 h3 h4 w da db
      · exact fSameGF_7 nu ku au xu yu zu lou hiu fpu flu fcu nv kv av xv yv zv lov hiv fpv flv fcv us vs hbd hall q1 q2 h1 h2 h3 w da db
    · exact fSameGF_8 nu ku au xu yu zu lou hiu fpu flu fcu nv kv av xv yv zv lov hiv fpv flv fcv us vs hbd hall q1 q2 h1 h2 w da db
  · exact fSameGF_9 nu ku au xu yu zu lou hiu fpu flu fcu nv kv av xv yv zv lov hiv fpv flv fcv us vs hbd hall q1 q2 h1 w da db
set_option maxRecDepth 100000 in
set_option maxHeartbeats 1000000 in
theorem fSame_1 (nu : ByteArray) (ku : Int) (au : Int) (xu : Int) (yu : Int) (zu : Int) (lou : Int) (hiu : Int) (fpu : Option Addr) (flu : Nat) (fcu : Nat) (nv : ByteArray) (kv : Int) (av : Int) (xv : Int) (yv : Int) (zv : Int) (lov : Int) (hiv : Int) (fpv : Option Addr) (flv : Nat) (fcv : Nat) (us : List FrT) (vs : List FrT) (hbd : flu ≤ 1000000) (hall : Hid (∀ f ∈ us, f.ds.length ≤ 1000000)) (w : World) (da : FrS w (.slice fpu flu fcu) us) (db : FrS w (.slice fpv flv fcv) vs)  : Calls Tryd.prog 31 #[.agg #[.string nu, .int .i64 ku, .int .i64 au, .int .i64 xu, .int .i64 yu, .int .i64 zu, .int .i64 lou, .int .i64 hiu, .slice fpu flu fcu], .agg #[.string nv, .int .i64 kv, .int .i64 av, .int .i64 xv, .int .i64 yv, .int .i64 zv, .int .i64 lov, .int .i64 hiv, .slice fpv flv fcv]] w fun r W' => r = .returned (.bool (plB nu ku au xu yu zu lou hiu nv kv av xv yv zv lov hiv && eqL frB us vs)) ∧ Kb w W' := by
  have kx := Kb.refl w
  have f1 := ((Is.made w #[.string nu, .int .i64 ku, .int .i64 au, .int .i64 xu, .int .i64 yu, .int .i64 zu, .int .i64 lou, .int .i64 hiu, .slice fpu flu fcu] 28).alloc (.cells #[.string nv, .int .i64 kv, .int .i64 av, .int .i64 xv, .int .i64 yv, .int .i64 zv, .int .i64 lov, .int .i64 hiv, .slice fpv flv fcv] 28 (0, 0))).c (i := 0) rfl
  have f2 := ((Is.made w #[.string nu, .int .i64 ku, .int .i64 au, .int .i64 xu, .int .i64 yu, .int .i64 zu, .int .i64 lou, .int .i64 hiu, .slice fpu flu fcu] 28).alloc (.cells #[.string nv, .int .i64 kv, .int .i64 av, .int .i64 xv, .int .i64 yv, .int .i64 zv, .int .i64 lov, .int .i64 hiv, .slice fpv flv fcv] 28 (0, 0))).c (i := 1) rfl
  have f3 := ((Is.made w #[.string nu, .int .i64 ku, .int .i64 au, .int .i64 xu, .int .i64 yu, .int .i64 zu, .int .i64 lou, .int .i64 hiu, .slice fpu flu fcu] 28).alloc (.cells #[.string nv, .int .i64 kv, .int .i64 av, .int .i64 xv, .int .i64 yv, .int .i64 zv, .int .i64 lov, .int .i64 hiv, .slice fpv flv fcv] 28 (0, 0))).c (i := 2) rfl
  have f4 := ((Is.made w #[.string nu, .int .i64 ku, .int .i64 au, .int .i64 xu, .int .i64 yu, .int .i64 zu, .int .i64 lou, .int .i64 hiu, .slice fpu flu fcu] 28).alloc (.cells #[.string nv, .int .i64 kv, .int .i64 av, .int .i64 xv, .int .i64 yv, .int .i64 zv, .int .i64 lov, .int .i64 hiv, .slice fpv flv fcv] 28 (0, 0))).c (i := 3) rfl
  have f5 := ((Is.made w #[.string nu, .int .i64 ku, .int .i64 au, .int .i64 xu, .int .i64 yu, .int .i64 zu, .int .i64 lou, .int .i64 hiu, .slice fpu flu fcu] 28).alloc (.cells #[.string nv, .int .i64 kv, .int .i64 av, .int .i64 xv, .int .i64 yv, .int .i64 zv, .int .i64 lov, .int .i64 hiv, .slice fpv flv fcv] 28 (0, 0))).c (i := 4) rfl
  have f6 := ((Is.made w #[.string nu, .int .i64 ku, .int .i64 au, .int .i64 xu, .int .i64 yu, .int .i64 zu, .int .i64 lou, .int .i64 hiu, .slice fpu flu fcu] 28).alloc (.cells #[.string nv, .int .i64 kv, .int .i64 av, .int .i64 xv, .int .i64 yv, .int .i64 zv, .int .i64 lov, .int .i64 hiv, .slice fpv flv fcv] 28 (0, 0))).c (i := 5) rfl
  have f7 := ((Is.made w #[.string nu, .int .i64 ku, .int .i64 au, .int .i64 xu, .int .i64 yu, .int .i64 zu, .int .i64 lou, .int .i64 hiu, .slice fpu flu fcu] 28).alloc (.cells #[.string nv, .int .i64 kv, .int .i64 av, .int .i64 xv, .int .i64 yv, .int .i64 zv, .int .i64 lov, .int .i64 hiv, .slice fpv flv fcv] 28 (0, 0))).c (i := 6) rfl
  have f8 := ((Is.made w #[.string nu, .int .i64 ku, .int .i64 au, .int .i64 xu, .int .i64 yu, .int .i64 zu, .int .i64 lou, .int .i64 hiu, .slice fpu flu fcu] 28).alloc (.cells #[.string nv, .int .i64 kv, .int .i64 av, .int .i64 xv, .int .i64 yv, .int .i64 zv, .int .i64 lov, .int .i64 hiv, .slice fpv flv fcv] 28 (0, 0))).c (i := 7) rfl
  have f9 := ((Is.made w #[.string nu, .int .i64 ku, .int .i64 au, .int .i64 xu, .int .i64 yu, .int .i64 zu, .int .i64 lou, .int .i64 hiu, .slice fpu flu fcu] 28).alloc (.cells #[.string nv, .int .i64 kv, .int .i64 av, .int .i64 xv, .int .i64 yv, .int .i64 zv, .int .i64 lov, .int .i64 hiv, .slice fpv flv fcv] 28 (0, 0))).c (i := 8) rfl
  have f10 := (Is.made (w.alloc (.cells #[.string nu, .int .i64 ku, .int .i64 au, .int .i64 xu, .int .i64 yu, .int .i64 zu, .int .i64 lou, .int .i64 hiu, .slice fpu flu fcu] 28 (0, 0))) #[.string nv, .int .i64 kv, .int .i64 av, .int .i64 xv, .int .i64 yv, .int .i64 zv, .int .i64 lov, .int .i64 hiv, .slice fpv flv fcv] 28).c (i := 0) rfl
  simp only [World.size_alloc] at f10
  have f11 := (Is.made (w.alloc (.cells #[.string nu, .int .i64 ku, .int .i64 au, .int .i64 xu, .int .i64 yu, .int .i64 zu, .int .i64 lou, .int .i64 hiu, .slice fpu flu fcu] 28 (0, 0))) #[.string nv, .int .i64 kv, .int .i64 av, .int .i64 xv, .int .i64 yv, .int .i64 zv, .int .i64 lov, .int .i64 hiv, .slice fpv flv fcv] 28).c (i := 1) rfl
  simp only [World.size_alloc] at f11
  have f12 := (Is.made (w.alloc (.cells #[.string nu, .int .i64 ku, .int .i64 au, .int .i64 xu, .int .i64 yu, .int .i64 zu, .int .i64 lou, .int .i64 hiu, .slice fpu flu fcu] 28 (0, 0))) #[.string nv, .int .i64 kv, .int .i64 av, .int .i64 xv, .int .i64 yv, .int .i64 zv, .int .i64 lov, .int .i64 hiv, .slice fpv flv fcv] 28).c (i := 2) rfl
  simp only [World.size_alloc] at f12
  have f13 := (Is.made (w.alloc (.cells #[.string nu, .int .i64 ku, .int .i64 au, .int .i64 xu, .int .i64 yu, .int .i64 zu, .int .i64 lou, .int .i64 hiu, .slice fpu flu fcu] 28 (0, 0))) #[.string nv, .int .i64 kv, .int .i64 av, .int .i64 xv, .int .i64 yv, .int .i64 zv, .int .i64 lov, .int .i64 hiv, .slice fpv flv fcv] 28).c (i := 3) rfl
  simp only [World.size_alloc] at f13
  have f14 := (Is.made (w.alloc (.cells #[.string nu, .int .i64 ku, .int .i64 au, .int .i64 xu, .int .i64 yu, .int .i64 zu, .int .i64 lou, .int .i64 hiu, .slice fpu flu fcu] 28 (0, 0))) #[.string nv, .int .i64 kv, .int .i64 av, .int .i64 xv, .int .i64 yv, .int .i64 zv, .int .i64 lov, .int .i64 hiv, .slice fpv flv fcv] 28).c (i := 4) rfl
  simp only [World.size_alloc] at f14
  have f15 := (Is.made (w.alloc (.cells #[.string nu, .int .i64 ku, .int .i64 au, .int .i64 xu, .int .i64 yu, .int .i64 zu, .int .i64 lou, .int .i64 hiu, .slice fpu flu fcu] 28 (0, 0))) #[.string nv, .int .i64 kv, .int .i64 av, .int .i64 xv, .int .i64 yv, .int .i64 zv, .int .i64 lov, .int .i64 hiv, .slice fpv flv fcv] 28).c (i := 5) rfl
  simp only [World.size_alloc] at f15
  have f16 := (Is.made (w.alloc (.cells #[.string nu, .int .i64 ku, .int .i64 au, .int .i64 xu, .int .i64 yu, .int .i64 zu, .int .i64 lou, .int .i64 hiu, .slice fpu flu fcu] 28 (0, 0))) #[.string nv, .int .i64 kv, .int .i64 av, .int .i64 xv, .int .i64 yv, .int .i64 zv, .int .i64 lov, .int .i64 hiv, .slice fpv flv fcv] 28).c (i := 6) rfl
  simp only [World.size_alloc] at f16
  have f17 := (Is.made (w.alloc (.cells #[.string nu, .int .i64 ku, .int .i64 au, .int .i64 xu, .int .i64 yu, .int .i64 zu, .int .i64 lou, .int .i64 hiu, .slice fpu flu fcu] 28 (0, 0))) #[.string nv, .int .i64 kv, .int .i64 av, .int .i64 xv, .int .i64 yv, .int .i64 zv, .int .i64 lov, .int .i64 hiv, .slice fpv flv fcv] 28).c (i := 7) rfl
  simp only [World.size_alloc] at f17
  have f18 := (Is.made (w.alloc (.cells #[.string nu, .int .i64 ku, .int .i64 au, .int .i64 xu, .int .i64 yu, .int .i64 zu, .int .i64 lou, .int .i64 hiu, .slice fpu flu fcu] 28 (0, 0))) #[.string nv, .int .i64 kv, .int .i64 av, .int .i64 xv, .int .i64 yv, .int .i64 zv, .int .i64 lov, .int .i64 hiv, .slice fpv flv fcv] 28).c (i := 8) rfl
  simp only [World.size_alloc] at f18
  go_enter Tryd.func31, Tryd.ntmps31
  go_wp2_with fail
  clear f1 f2 f3 f4 f5 f6 f7 f8 f9 f10 f11 f12 f13 f14 f15 f16 f17 f18
  replace da := ((da.alloc (.cells #[.string nu, .int .i64 ku, .int .i64 au, .int .i64 xu, .int .i64 yu, .int .i64 zu, .int .i64 lou, .int .i64 hiu, .slice fpu flu fcu] 28 (0, 0))).alloc (.cells #[.string nv, .int .i64 kv, .int .i64 av, .int .i64 xv, .int .i64 yv, .int .i64 zv, .int .i64 lov, .int .i64 hiv, .slice fpv flv fcv] 28 (0, 0)))
  replace db := ((db.alloc (.cells #[.string nu, .int .i64 ku, .int .i64 au, .int .i64 xu, .int .i64 yu, .int .i64 zu, .int .i64 lou, .int .i64 hiu, .slice fpu flu fcu] 28 (0, 0))).alloc (.cells #[.string nv, .int .i64 kv, .int .i64 av, .int .i64 xv, .int .i64 yv, .int .i64 zv, .int .i64 lov, .int .i64 hiv, .slice fpv flv fcv] 28 (0, 0)))
  have b1 := Is.made w #[.string nu, .int .i64 ku, .int .i64 au, .int .i64 xu, .int .i64 yu, .int .i64 zu, .int .i64 lou, .int .i64 hiu, .slice fpu flu fcu] 28
  replace b1 := (b1.alloc (.cells #[.string nv, .int .i64 kv, .int .i64 av, .int .i64 xv, .int .i64 yv, .int .i64 zv, .int .i64 lov, .int .i64 hiv, .slice fpv flv fcv] 28 (0, 0)))
  have b2 := Is.made (w.alloc (.cells #[.string nu, .int .i64 ku, .int .i64 au, .int .i64 xu, .int .i64 yu, .int .i64 zu, .int .i64 lou, .int .i64 hiu, .slice fpu flu fcu] 28 (0, 0))) #[.string nv, .int .i64 kv, .int .i64 av, .int .i64 xv, .int .i64 yv, .int .i64 zv, .int .i64 lov, .int .i64 hiv, .slice fpv flv fcv] 28
  simp only [World.size_alloc] at b2
  replace kx := kx.alloc (.cells #[.string nu, .int .i64 ku, .int .i64 au, .int .i64 xu, .int .i64 yu, .int .i64 zu, .int .i64 lou, .int .i64 hiu, .slice fpu flu fcu] 28 (0, 0))
  replace kx := kx.alloc (.cells #[.string nv, .int .i64 kv, .int .i64 av, .int .i64 xv, .int .i64 yv, .int .i64 zv, .int .i64 lov, .int .i64 hiv, .slice fpv flv fcv] 28 (0, 0))
  (with_reducible refine (fSameGF nu ku au xu yu zu lou hiu fpu flu fcu nv kv av xv yv zv lov hiv fpv flv fcv us vs hbd hall (fS3_any nu ku au xu yu zu lou hiu fpu flu fcu) (fS3_any nv kv av xv yv zv lov hiv fpv flv fcv) _ da db).mono ?_)
  rintro r w1 ⟨rfl, k1⟩
  replace da := da.kb k1
  replace db := db.kb k1
  replace b1 := b1.kb k1
  replace b2 := b2.kb k1
  replace kx := kx.trans k1
  have s1 := k1.size
  simp only [World.size_alloc] at s1
  clear k1
  go_wp2
  go_ret
  exact ⟨rfl, kx⟩
end Go.Proofs.YtgclljgdoonnmaaDoor
