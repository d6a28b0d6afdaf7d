/- Features: the reference: Move. -/
import Derived.Test.YtdmfkgopalelgaaDoorQk9
import Derived.Test.YtdmfkgopalelgaaDoorOf1
import Derived.Test.YtdmfkgopalelgaaDoorOr2
import Derived.StillTailTactics
namespace Go.Proofs.YtdmfkgopalelgaaDoor
open Go.RowKit

set_option maxRecDepth 100000 in
set_option maxHeartbeats 4000000 in
theorem rMove_1 (nu : ByteArray) (ku : Int) (au : Int) (xu : Int) (yu : Int) (zu : Int) (lou : Int) (hiu : Int) (fpu : Option Addr) (flu : Nat) (fcu : Nat) (du : Int) (dv : Int) (dw : Int) (r1 : Int)   (q1 : Ca 19 #[.agg #[.string nu, .int .i64 ku, .int .i64 au, .int .i64 xu, .int .i64 yu, .int .i64 zu, .int .i64 lou, .int .i64 hiu, .slice fpu flu fcu]] (.int .i64 r1))  (h1 : (r1 != 0) = true) (w : World)  : Calls Tryd.prog 25 #[.agg #[.string nu, .int .i64 ku, .int .i64 au, .int .i64 xu, .int .i64 yu, .int .i64 zu, .int .i64 lou, .int .i64 hiu, .slice fpu flu fcu], .agg #[.int .i64 du, .int .i64 dv, .int .i64 dw]] w fun r W' => r = .returned (.tuple #[.agg #[.string ⟨#[]⟩, .int .i64 0, .int .i64 0, .int .i64 0, .int .i64 0, .int .i64 0, .int .i64 0, .int .i64 0, .slice none 0 0], .int .i64 r1]) ∧ Kb w W' := by
  have kx := Kb.refl w
  unfold Ca at q1
  have j1 := (((Is.made w #[.string nu, .int .i64 ku, .int .i64 au, .int .i64 xu, .int .i64 yu, .int .i64 zu, .int .i64 lou, .int .i64 hiu, .slice fpu flu fcu] 28).alloc (.cells #[.int .i64 du, .int .i64 dv, .int .i64 dw] 23 (0, 0))).alloc (.cells #[.string ⟨#[]⟩, .int .i64 0, .int .i64 0, .int .i64 0, .int .i64 0, .int .i64 0, .int .i64 0, .int .i64 0, .slice none 0 0] 28 (0, 0)))
  have f2 := j1.c (i := 0) rfl
  have f3 := j1.c (i := 1) rfl
  have f4 := j1.c (i := 2) rfl
  have f5 := j1.c (i := 3) rfl
  have f6 := j1.c (i := 4) rfl
  have f7 := j1.c (i := 5) rfl
  have f8 := j1.c (i := 6) rfl
  have f9 := j1.c (i := 7) rfl
  have f10 := j1.c (i := 8) rfl
  go_enter Tryd.func25, Tryd.ntmps25
  go_wp2_with fail
  clear f2 f3 f4 f5 f6 f7 f8 f9 f10
  have b1 := j1
  have b2 := Is.made (w.alloc (.cells #[.string nu, .int .i64 ku, .int .i64 au, .int .i64 xu, .int .i64 yu, .int .i64 zu, .int .i64 lou, .int .i64 hiu, .slice fpu flu fcu] 28 (0, 0))) #[.int .i64 du, .int .i64 dv, .int .i64 dw] 23
  simp only [World.size_alloc] at b2
  replace b2 := (b2.alloc (.cells #[.string ⟨#[]⟩, .int .i64 0, .int .i64 0, .int .i64 0, .int .i64 0, .int .i64 0, .int .i64 0, .int .i64 0, .slice none 0 0] 28 (0, 0)))
  have b3 := Is.made ((w.alloc (.cells #[.string nu, .int .i64 ku, .int .i64 au, .int .i64 xu, .int .i64 yu, .int .i64 zu, .int .i64 lou, .int .i64 hiu, .slice fpu flu fcu] 28 (0, 0))).alloc (.cells #[.int .i64 du, .int .i64 dv, .int .i64 dw] 23 (0, 0))) #[.string ⟨#[]⟩, .int .i64 0, .int .i64 0, .int .i64 0, .int .i64 0, .int .i64 0, .int .i64 0, .int .i64 0, .slice none 0 0] 28
  simp only [World.size_alloc] at b3
  replace kx := ((kx.alloc (.cells #[.string nu, .int .i64 ku, .int .i64 au, .int .i64 xu, .int .i64 yu, .int .i64 zu, .int .i64 lou, .int .i64 hiu, .slice fpu flu fcu] 28 (0, 0))).alloc (.cells #[.int .i64 du, .int .i64 dv, .int .i64 dw] 23 (0, 0))).alloc (.cells #[.string ⟨#[]⟩, .int .i64 0, .int .i64 0, .int .i64 0, .int .i64 0, .int .i64 0, .int .i64 0, .int .i64 0, .slice none 0 0] 28 (0, 0))
  clear j1
  (with_reducible refine (((q1).out _)).mono ?_)
  rintro r w1 ⟨rfl, k1⟩
  replace b1 := b1.kb k1
  replace b2 := b2.kb k1
  replace b3 := b3.kb k1
  replace kx := kx.trans k1
  have s1 := k1.size
  simp only [World.size_alloc] at s1
  clear k1
  have f11 := b3.c (i := 0) rfl
  have f12 := b3.f 0
  have f13 := b3.c (i := 1) rfl
  have f14 := b3.f 1
  have f15 := b3.c (i := 2) rfl
  have f16 := b3.f 2
  have f17 := b3.c (i := 3) rfl
  have f18 := b3.f 3
  have f19 := b3.c (i := 4) rfl
  have f20 := b3.f 4
  have f21 := b3.c (i := 5) rfl
  have f22 := b3.f 5
  have f23 := b3.c (i := 6) rfl
  have f24 := b3.f 6
  have f25 := b3.c (i := 7) rfl
  have f26 := b3.f 7
  have f27 := b3.c (i := 8) rfl
  have f28 := b3.f 8
  go_wp2
  clear f11 f12 f13 f14 f15 f16 f17 f18 f19 f20 f21 f22 f23 f24 f25 f26 f27 f28
  replace b3 : Is _ _ #[.string ⟨#[]⟩, .int .i64 0, .int .i64 0, .int .i64 0, .int .i64 0, .int .i64 0, .int .i64 0, .int .i64 0, .slice none 0 0] _ := b3.set 0 (.string ⟨#[]⟩)
  replace b3 : Is _ _ #[.string ⟨#[]⟩, .int .i64 0, .int .i64 0, .int .i64 0, .int .i64 0, .int .i64 0, .int .i64 0, .int .i64 0, .slice none 0 0] _ := b3.set 1 (.int .i64 0)
  replace b3 : Is _ _ #[.string ⟨#[]⟩, .int .i64 0, .int .i64 0, .int .i64 0, .int .i64 0, .int .i64 0, .int .i64 0, .int .i64 0, .slice none 0 0] _ := b3.set 2 (.int .i64 0)
  replace b3 : Is _ _ #[.string ⟨#[]⟩, .int .i64 0, .int .i64 0, .int .i64 0, .int .i64 0, .int .i64 0, .int .i64 0, .int .i64 0, .slice none 0 0] _ := b3.set 3 (.int .i64 0)
  replace b3 : Is _ _ #[.string ⟨#[]⟩, .int .i64 0, .int .i64 0, .int .i64 0, .int .i64 0, .int .i64 0, .int .i64 0, .int .i64 0, .slice none 0 0] _ := b3.set 4 (.int .i64 0)
  replace b3 : Is _ _ #[.string ⟨#[]⟩, .int .i64 0, .int .i64 0, .int .i64 0, .int .i64 0, .int .i64 0, .int .i64 0, .int .i64 0, .slice none 0 0] _ := b3.set 5 (.int .i64 0)
  replace b3 : Is _ _ #[.string ⟨#[]⟩, .int .i64 0, .int .i64 0, .int .i64 0, .int .i64 0, .int .i64 0, .int .i64 0, .int .i64 0, .slice none 0 0] _ := b3.set 6 (.int .i64 0)
  replace b3 : Is _ _ #[.string ⟨#[]⟩, .int .i64 0, .int .i64 0, .int .i64 0, .int .i64 0, .int .i64 0, .int .i64 0, .int .i64 0, .slice none 0 0] _ := b3.set 7 (.int .i64 0)
  replace b3 : Is _ _ #[.string ⟨#[]⟩, .int .i64 0, .int .i64 0, .int .i64 0, .int .i64 0, .int .i64 0, .int .i64 0, .int .i64 0, .slice none 0 0] _ := b3.set 8 (.slice none 0 0)
  replace kx := ((((((((kx.setCell (p := ⟨w.heap.size + 1 + 1, 0, none⟩) (show w.heap.size ≤ w.heap.size + 1 + 1 by omega) (.string ⟨#[]⟩)).setCell (p := ⟨w.heap.size + 1 + 1, 1, none⟩) (show w.heap.size ≤ w.heap.size + 1 + 1 by omega) (.int .i64 0)).setCell (p := ⟨w.heap.size + 1 + 1, 2, none⟩) (show w.heap.size ≤ w.heap.size + 1 + 1 by omega) (.int .i64 0)).setCell (p := ⟨w.heap.size + 1 + 1, 3, none⟩) (show w.heap.size ≤ w.heap.size + 1 + 1 by omega) (.int .i64 0)).setCell (p := ⟨w.heap.size + 1 + 1, 4, none⟩) (show w.heap.size ≤ w.heap.size + 1 + 1 by omega) (.int .i64 0)).setCell (p := ⟨w.heap.size + 1 + 1, 5, none⟩) (show w.heap.size ≤ w.heap.size + 1 + 1 by omega) (.int .i64 0)).setCell (p := ⟨w.heap.size + 1 + 1, 6, none⟩) (show w.heap.size ≤ w.heap.size + 1 + 1 by omega) (.int .i64 0)).setCell (p := ⟨w.heap.size + 1 + 1, 7, none⟩) (show w.heap.size ≤ w.heap.size + 1 + 1 by omega) (.int .i64 0)).setCell (p := ⟨w.heap.size + 1 + 1, 8, none⟩) (show w.heap.size ≤ w.heap.size + 1 + 1 by omega) (.slice none 0 0)
  refine ret_row2 Tryd.results25 rfl rfl rfl b3 Tryd.underlying28 rfl (by kernel_rfl) ?_
  exact ⟨rfl, kx⟩
set_option maxRecDepth 100000 in
set_option maxHeartbeats 4000000 in
theorem rMove_2 (nu : ByteArray) (ku : Int) (au : Int) (xu : Int) (yu : Int) (zu : Int) (lou : Int) (hiu : Int) (fpu : Option Addr) (flu : Nat) (fcu : Nat) (du : Int) (dv : Int) (dw : Int) (r1 : Int) (z2 : Int) (z3 : Int) (z4 : Int) (a1 : wrap64 (xu + du) = z2) (a2 : wrap64 (yu + dv) = z3) (a3 : wrap64 (zu + dw) = z4) (q1 : Ca 19 #[.agg #[.string nu, .int .i64 ku, .int .i64 au, .int .i64 xu, .int .i64 yu, .int .i64 zu, .int .i64 lou, .int .i64 hiu, .slice fpu flu fcu]] (.int .i64 r1))  (h1 : (r1 != 0) = false) (h2 : (inR du) = true) (h3 : (inR dv) = true) (h4 : (inR dw) = true) (h5 : (inR z2) = true) (h6 : (inR z3) = true) (h7 : (inR z4) = true) (w : World)  : Calls Tryd.prog 25 #[.agg #[.string nu, .int .i64 ku, .int .i64 au, .int .i64 xu, .int .i64 yu, .int .i64 zu, .int .i64 lou, .int .i64 hiu, .slice fpu flu fcu], .agg #[.int .i64 du, .int .i64 dv, .int .i64 dw]] w fun r W' => r = .returned (.tuple #[.agg #[.string nu, .int .i64 ku, .int .i64 au, .int .i64 z2, .int .i64 z3, .int .i64 z4, .int .i64 lou, .int .i64 hiu, .slice fpu flu fcu], .int .i64 0]) ∧ Kb w W' := by
  have kx := Kb.refl w
  unfold Ca at q1
  have a1' : IntKind.i64.wrap (xu + du) = z2 := (Go.IntWalk.i64_left _).trans a1
  have a2' : IntKind.i64.wrap (yu + dv) = z3 := (Go.IntWalk.i64_left _).trans a2
  have a3' : IntKind.i64.wrap (zu + dw) = z4 := (Go.IntWalk.i64_left _).trans a3
  have j1 := (((Is.made w #[.string nu, .int .i64 ku, .int .i64 au, .int .i64 xu, .int .i64 yu, .int .i64 zu, .int .i64 lou, .int .i64 hiu, .slice fpu flu fcu] 28).alloc (.cells #[.int .i64 du, .int .i64 dv, .int .i64 dw] 23 (0, 0))).alloc (.cells #[.string ⟨#[]⟩, .int .i64 0, .int .i64 0, .int .i64 0, .int .i64 0, .int .i64 0, .int .i64 0, .int .i64 0, .slice none 0 0] 28 (0, 0)))
  have f2 := j1.c (i := 0) rfl
  have f3 := j1.c (i := 1) rfl
  have f4 := j1.c (i := 2) rfl
  have f5 := j1.c (i := 3) rfl
  have f6 := j1.c (i := 4) rfl
  have f7 := j1.c (i := 5) rfl
  have f8 := j1.c (i := 6) rfl
  have f9 := j1.c (i := 7) rfl
  have f10 := j1.c (i := 8) rfl
  go_enter Tryd.func25, Tryd.ntmps25
  go_wp2_with fail
  clear f2 f3 f4 f5 f6 f7 f8 f9 f10
  have b1 := j1
  have b2 := Is.made (w.alloc (.cells #[.string nu, .int .i64 ku, .int .i64 au, .int .i64 xu, .int .i64 yu, .int .i64 zu, .int .i64 lou, .int .i64 hiu, .slice fpu flu fcu] 28 (0, 0))) #[.int .i64 du, .int .i64 dv, .int .i64 dw] 23
  simp only [World.size_alloc] at b2
  replace b2 := (b2.alloc (.cells #[.string ⟨#[]⟩, .int .i64 0, .int .i64 0, .int .i64 0, .int .i64 0, .int .i64 0, .int .i64 0, .int .i64 0, .slice none 0 0] 28 (0, 0)))
  have b3 := Is.made ((w.alloc (.cells #[.string nu, .int .i64 ku, .int .i64 au, .int .i64 xu, .int .i64 yu, .int .i64 zu, .int .i64 lou, .int .i64 hiu, .slice fpu flu fcu] 28 (0, 0))).alloc (.cells #[.int .i64 du, .int .i64 dv, .int .i64 dw] 23 (0, 0))) #[.string ⟨#[]⟩, .int .i64 0, .int .i64 0, .int .i64 0, .int .i64 0, .int .i64 0, .int .i64 0, .int .i64 0, .slice none 0 0] 28
  simp only [World.size_alloc] at b3
  replace kx := ((kx.alloc (.cells #[.string nu, .int .i64 ku, .int .i64 au, .int .i64 xu, .int .i64 yu, .int .i64 zu, .int .i64 lou, .int .i64 hiu, .slice fpu flu fcu] 28 (0, 0))).alloc (.cells #[.int .i64 du, .int .i64 dv, .int .i64 dw] 23 (0, 0))).alloc (.cells #[.string ⟨#[]⟩, .int .i64 0, .int .i64 0, .int .i64 0, .int .i64 0, .int .i64 0, .int .i64 0, .int .i64 0, .slice none 0 0] 28 (0, 0))
  clear j1
  (with_reducible refine (((q1).out _)).mono ?_)
  rintro r w1 ⟨rfl, k1⟩
  replace b1 := b1.kb k1
  replace b2 := b2.kb k1
  replace b3 := b3.kb k1
  replace kx := kx.trans k1
  have s1 := k1.size
  simp only [World.size_alloc] at s1
  clear k1
  go_wp2_with fail
  replace b1 := b1.drew
  replace b2 := b2.drew
  replace b3 := b3.drew
  rw [oF_lit]
  refine o_law2 (⟨55, [some 17, some 18, some 19, some 20, some 21, some 7, some 8, none, none], [17, 18, 19, 20, 21, 7, 8, 7, 8], [[], [0], [1], [], [3], [], [], [5, 2], [6, 4]], [[2], [], [], [3], [], [], [], [], []]⟩ : OT) (RL [fun vv _ => vv = .pointer (some ⟨w.heap.size, 3, none⟩), fun vv _ => vv = .agg #[.int .i64 xu, .int .i64 yu, .int .i64 zu], fun vv _ => vv = .agg #[.int .i64 xu, .int .i64 yu, .int .i64 zu], fun vv _ => vv = .agg #[.int .i64 du, .int .i64 dv, .int .i64 dw], fun vv _ => vv = .agg #[.int .i64 du, .int .i64 dv, .int .i64 dw], fun _ _ => True, fun _ _ => True, fun _ _ => True, fun _ _ => True]) ⟨5, 7, 7, #[.int .i64 0, .int .i64 0, .int .i64 0], #[.int .i64 xu, .int .i64 yu, .int .i64 zu], 92⟩ ⟨6, 8, 8, #[.int .i64 0, .int .i64 0, .int .i64 0], #[.int .i64 du, .int .i64 dv, .int .i64 dw], 92⟩ (by kernel_rfl) (by kernel_rfl) (by kernel_rfl) (rl_free ⟨(fun _ _ _ h => h), (fun _ _ _ h => h), (fun _ _ _ h => h), (fun _ _ _ h => h), (fun _ _ _ h => h), (fun _ _ _ h => h), (fun _ _ _ h => h), (fun _ _ _ h => h), (fun _ _ _ h => h), trivial⟩) ?hR ?fin
  case hR =>
    refine allO_cons ?_ (allO_cons ?_ (allO_cons ?_ (allO_cons ?_ (allO_cons ?_ (allO_cons ?_ (allO_cons ?_ (allO_cons ?_ (allO_cons ?_ (allO_nil)))))))))
    · refine .val (by kernel_rfl) ?_
      intro T w9 hG hD hO Q
      have q0 := hO.1
      have e0 : (oF 55 T).eval (.tmp 2) = .pointer (some ⟨w.heap.size, 0, none⟩) := (oF_eval (by decide)).trans (show T 2 = _ from q0)
      refine og_none rfl ?_
      exact o_val (v := .pointer (some ⟨w.heap.size, 3, none⟩)) (w' := w9) (by generalize (oF 55 T).eval = rr at *; simp [execOp, go_sem, e0]) rfl rfl (Kb.refl _)
    · refine .val (by kernel_rfl) ?_
      intro T w9 hG hD hO Q
      have d0 := hD.1
      have e0 : (oF 55 T).eval (.tmp 17) = .pointer (some ⟨w.heap.size, 3, none⟩) := (oF_eval (by decide)).trans (show T 17 = _ from d0)
      refine og_none rfl ?_
      have im := b1.kx hG (by simp)
      have m0 := im.c (i := 3) rfl
      have m1 := im.c (i := 4) rfl
      have m2 := im.c (i := 5) rfl
      clear im
      exact o_val (v := .agg #[.int .i64 xu, .int .i64 yu, .int .i64 zu]) (w' := w9) (by generalize (oF 55 T).eval = rr at *; simp [execOp, go_sem, e0, m0, m1, m2]) rfl rfl (Kb.refl _)
    · refine .val (by kernel_rfl) ?_
      intro T w9 hG hD hO Q
      have d0 := hD.1
      have e0 : (oF 55 T).eval (.func 61) = .func (.func 61) #[] #[] := rfl
      have e1 : (oF 55 T).eval (.tmp 18) = .agg #[.int .i64 xu, .int .i64 yu, .int .i64 zu] := (oF_eval (by decide)).trans (show T 18 = _ from d0)
      refine og_none rfl ?_
      refine o_call (oc1 (enters_of Tryd.func61 (by kernel_rfl) rfl) rfl rfl e1) rfl ?_
      exact (Ca.o (rCoords xu yu zu) w9).mono fun r W' h => ⟨_, h.1, rfl, h.2⟩
    · refine .val (by kernel_rfl) ?_
      intro T w9 hG hD hO Q
      have q0 := hO.1
      have e0 : (oF 55 T).eval (.tmp 3) = .pointer (some ⟨w.heap.size + 1, 0, none⟩) := (oF_eval (by decide)).trans (show T 3 = _ from q0)
      refine og_none rfl ?_
      have im := b2.kx hG (by simp)
      have m0 := im.c (i := 0) rfl
      have m1 := im.c (i := 1) rfl
      have m2 := im.c (i := 2) rfl
      clear im
      exact o_val (v := .agg #[.int .i64 du, .int .i64 dv, .int .i64 dw]) (w' := w9) (by generalize (oF 55 T).eval = rr at *; simp [execOp, go_sem, e0, m0, m1, m2]) rfl rfl (Kb.refl _)
    · refine .val (by kernel_rfl) ?_
      intro T w9 hG hD hO Q
      have d0 := hD.1
      have e0 : (oF 55 T).eval (.func 61) = .func (.func 61) #[] #[] := rfl
      have e1 : (oF 55 T).eval (.tmp 20) = .agg #[.int .i64 du, .int .i64 dv, .int .i64 dw] := (oF_eval (by decide)).trans (show T 20 = _ from d0)
      refine og_none rfl ?_
      refine o_call (oc1 (enters_of Tryd.func61 (by kernel_rfl) rfl) rfl rfl e1) rfl ?_
      exact (Ca.o (rCoords du dv dw) w9).mono fun r W' h => ⟨_, h.1, rfl, h.2⟩
    · refine .alloc _ (.inl rfl) rfl rfl (fun T w9 => ?_) (fun _ _ => trivial)
      simp [execOp, go_sem]
    · refine .alloc _ (.inr rfl) rfl rfl (fun T w9 => ?_) (fun _ _ => trivial)
      simp [execOp, go_sem]
    · refine .store _ (.inl rfl) rfl rfl ?_ (fun _ _ => trivial)
      intro T w9 g hD hO hT io
      have d0 := hD.1
      have d1 := hD.2.1
      have e0 : (oF 55 T).eval (.tmp 7) = .pointer (some ⟨g, 0, none⟩) := (oF_eval (by decide)).trans hT
      have e1 : (oF 55 T).eval (.tmp 19) = .agg #[.int .i64 xu, .int .i64 yu, .int .i64 zu] := (oF_eval (by decide)).trans (show T 19 = _ from d1)
      have zn := io
      replace zn : Is (w9.setCell ⟨g, 0, none⟩ (.int .i64 xu)) (g) #[.int .i64 xu, .int .i64 0, .int .i64 0] 92 := zn.set 0 _
      replace zn : Is ((w9.setCell ⟨g, 0, none⟩ (.int .i64 xu)).setCell ⟨g, 1, none⟩ (.int .i64 yu)) (g) #[.int .i64 xu, .int .i64 yu, .int .i64 0] 92 := zn.set 1 _
      replace zn : Is (((w9.setCell ⟨g, 0, none⟩ (.int .i64 xu)).setCell ⟨g, 1, none⟩ (.int .i64 yu)).setCell ⟨g, 2, none⟩ (.int .i64 zu)) (g) #[.int .i64 xu, .int .i64 yu, .int .i64 zu] 92 := zn.set 2 _
      have pt := ((((Pt.refl g w9).set 0 (.int .i64 xu)).set 1 (.int .i64 yu)).set 2 (.int .i64 zu))
      have m0 := io.c (i := 0) rfl
      have f0 := io.f 0
      have m1 := io.c (i := 1) rfl
      have f1 := io.f 1
      have m2 := io.c (i := 2) rfl
      have f2 := io.f 2
      clear io
      exact ⟨_, (by generalize (oF 55 T).eval = rr at *; simp [execOp, go_sem, e0, e1, m0, f0, m1, f1, m2, f2] : _ = Result.ok Next.skip (((w9.setCell ⟨g, 0, none⟩ (.int .i64 xu)).setCell ⟨g, 1, none⟩ (.int .i64 yu)).setCell ⟨g, 2, none⟩ (.int .i64 zu))), zn, pt⟩
    · refine .store _ (.inr rfl) rfl rfl ?_ (fun _ _ => trivial)
      intro T w9 g hD hO hT io
      have d0 := hD.1
      have d1 := hD.2.1
      have e0 : (oF 55 T).eval (.tmp 8) = .pointer (some ⟨g, 0, none⟩) := (oF_eval (by decide)).trans hT
      have e1 : (oF 55 T).eval (.tmp 21) = .agg #[.int .i64 du, .int .i64 dv, .int .i64 dw] := (oF_eval (by decide)).trans (show T 21 = _ from d1)
      have zn := io
      replace zn : Is (w9.setCell ⟨g, 0, none⟩ (.int .i64 du)) (g) #[.int .i64 du, .int .i64 0, .int .i64 0] 92 := zn.set 0 _
      replace zn : Is ((w9.setCell ⟨g, 0, none⟩ (.int .i64 du)).setCell ⟨g, 1, none⟩ (.int .i64 dv)) (g) #[.int .i64 du, .int .i64 dv, .int .i64 0] 92 := zn.set 1 _
      replace zn : Is (((w9.setCell ⟨g, 0, none⟩ (.int .i64 du)).setCell ⟨g, 1, none⟩ (.int .i64 dv)).setCell ⟨g, 2, none⟩ (.int .i64 dw)) (g) #[.int .i64 du, .int .i64 dv, .int .i64 dw] 92 := zn.set 2 _
      have pt := ((((Pt.refl g w9).set 0 (.int .i64 du)).set 1 (.int .i64 dv)).set 2 (.int .i64 dw))
      have m0 := io.c (i := 0) rfl
      have f0 := io.f 0
      have m1 := io.c (i := 1) rfl
      have f1 := io.f 1
      have m2 := io.c (i := 2) rfl
      have f2 := io.f 2
      clear io
      exact ⟨_, (by generalize (oF 55 T).eval = rr at *; simp [execOp, go_sem, e0, e1, m0, f0, m1, f1, m2, f2] : _ = Result.ok Next.skip (((w9.setCell ⟨g, 0, none⟩ (.int .i64 du)).setCell ⟨g, 1, none⟩ (.int .i64 dv)).setCell ⟨g, 2, none⟩ (.int .i64 dw))), zn, pt⟩
  case fin =>
    intro T w2 hout hval hG hp hq hne
    have s2 := hG.2.2.2.1
    simp only [World.size_drew] at s2
    rw [show oF 55 T = (⟨#[T 0, T 1, T 2, T 3, T 4, T 5, T 6, T 7, T 8, T 9, T 10, T 11, T 12, T 13, T 14, T 15, T 16, T 17, T 18, T 19, T 20, T 21, T 22, T 23, T 24, T 25, T 26, T 27, T 28, T 29, T 30, T 31, T 32, T 33, T 34, T 35, T 36, T 37, T 38, T 39, T 40, T 41, T 42, T 43, T 44, T 45, T 46, T 47, T 48, T 49, T 50, T 51, T 52, T 53, T 54], []⟩ : Act) from oF_list 55 T]
    rw [show T 0 = .agg #[.string nu, .int .i64 ku, .int .i64 au, .int .i64 xu, .int .i64 yu, .int .i64 zu, .int .i64 lou, .int .i64 hiu, .slice fpu flu fcu] from hout 0 rfl]
    rw [show T 1 = .agg #[.int .i64 du, .int .i64 dv, .int .i64 dw] from hout 1 rfl]
    rw [show T 2 = .pointer (some ⟨w.heap.size, 0, none⟩) from hout 2 rfl]
    rw [show T 3 = .pointer (some ⟨w.heap.size + 1, 0, none⟩) from hout 3 rfl]
    rw [show T 4 = .pointer (some ⟨w.heap.size + 1 + 1, 0, none⟩) from hout 4 rfl]
    rw [show T 5 = .int .i64 0 from hout 5 rfl]
    rw [show T 6 = .int .i64 r1 from hout 6 rfl]
    rw [show T 11 = .agg #[.string nu, .int .i64 ku, .int .i64 au, .int .i64 xu, .int .i64 yu, .int .i64 zu, .int .i64 lou, .int .i64 hiu, .slice fpu flu fcu] from hout 11 rfl]
    rw [show T 12 = .int .i64 r1 from hout 12 rfl]
    rw [show T 13 = .int .i64 r1 from hout 13 rfl]
    rw [show T 14 = .bool false from hout 14 rfl]
    replace b1 := b1.kx hG (by simp)
    replace b2 := b2.kx hG (by simp)
    replace b3 := b3.kx hG (by simp)
    replace kx := (show Kb _ _ from kx.drew).trans hG.nil
    obtain ⟨g2x, eg2x, hg2x, b4⟩ := hp
    replace eg2x : T 7 = _ := eg2x
    rw [eg2x]
    obtain ⟨g2y, eg2y, hg2y, b5⟩ := hq
    replace eg2y : T 8 = _ := eg2y
    rw [eg2y]
    have d2 : g2x ≠ g2y := fun e => hne (show T 7 = T 8 by rw [eg2x, eg2y, e])
    clear hout hval hG hne eg2x eg2y
    go_wp2_with fail
    refine wp_loop_rounds 4 ?_
    rw [rounds_succ]
    have f11 := b5.c (i := 0) rfl
    go_wp2_with fail
    clear f11
    (with_reducible refine ((Ca.o (rIn du) _)).mono ?_)
    rintro r w3 ⟨rfl, k3⟩
    replace b1 := b1.kb k3
    replace b2 := b2.kb k3
    replace b3 := b3.kb k3
    replace b4 := b4.kb k3
    replace b5 := b5.kb k3
    replace kx := kx.trans k3
    have s3 := k3.size
    skip
    clear k3
    go_wp2_with fail
    rw [rounds_succ]
    have f12 := b5.c (i := 1) rfl
    go_wp2_with fail
    clear f12
    (with_reducible refine ((Ca.o (rIn dv) _)).mono ?_)
    rintro r w4 ⟨rfl, k4⟩
    replace b1 := b1.kb k4
    replace b2 := b2.kb k4
    replace b3 := b3.kb k4
    replace b4 := b4.kb k4
    replace b5 := b5.kb k4
    replace kx := kx.trans k4
    have s4 := k4.size
    skip
    clear k4
    go_wp2_with fail
    rw [rounds_succ]
    have f13 := b5.c (i := 2) rfl
    go_wp2_with fail
    clear f13
    (with_reducible refine ((Ca.o (rIn dw) _)).mono ?_)
    rintro r w5 ⟨rfl, k5⟩
    replace b1 := b1.kb k5
    replace b2 := b2.kb k5
    replace b3 := b3.kb k5
    replace b4 := b4.kb k5
    replace b5 := b5.kb k5
    replace kx := kx.trans k5
    have s5 := k5.size
    skip
    clear k5
    go_wp2_with fail
    rw [rounds_succ]
    go_wp2_with fail
    refine wp_loop_rounds 4 ?_
    rw [rounds_succ]
    go_wp2_with fail
    replace b1 := b1.drew
    replace b2 := b2.drew
    replace b3 := b3.drew
    replace b4 := b4.drew
    replace b5 := b5.drew
    have yb1_0 := b1.c (i := 0) rfl
    have yb1_1 := b1.c (i := 1) rfl
    have yb1_2 := b1.c (i := 2) rfl
    have yb1_3 := b1.c (i := 3) rfl
    have yb1_4 := b1.c (i := 4) rfl
    have yb1_5 := b1.c (i := 5) rfl
    have yb1_6 := b1.c (i := 6) rfl
    have yb1_7 := b1.c (i := 7) rfl
    have yb1_8 := b1.c (i := 8) rfl
    have yb2_0 := b2.c (i := 0) rfl
    have yb2_1 := b2.c (i := 1) rfl
    have yb2_2 := b2.c (i := 2) rfl
    have yb3_0 := b3.c (i := 0) rfl
    have yb3_1 := b3.c (i := 1) rfl
    have yb3_2 := b3.c (i := 2) rfl
    have yb3_3 := b3.c (i := 3) rfl
    have yb3_4 := b3.c (i := 4) rfl
    have yb3_5 := b3.c (i := 5) rfl
    have yb3_6 := b3.c (i := 6) rfl
    have yb3_7 := b3.c (i := 7) rfl
    have yb3_8 := b3.c (i := 8) rfl
    have yb4_0 := b4.c (i := 0) rfl
    have yb4_1 := b4.c (i := 1) rfl
    have yb4_2 := b4.c (i := 2) rfl
    have yb5_0 := b5.c (i := 0) rfl
    have yb5_1 := b5.c (i := 1) rfl
    have yb5_2 := b5.c (i := 2) rfl
    go_still_tail 9, (by kernel_rfl)
    clear yb1_0 yb1_1 yb1_2 yb1_3 yb1_4 yb1_5 yb1_6 yb1_7 yb1_8 yb2_0 yb2_1 yb2_2 yb3_0 yb3_1 yb3_2 yb3_3 yb3_4 yb3_5 yb3_6 yb3_7 yb3_8 yb4_0 yb4_1 yb4_2 yb5_0 yb5_1 yb5_2
    change wpList _ _ _ _ _ w5.drew
    have s6 : w5.heap.size ≤ w5.drew.heap.size := Nat.le_refl _
    replace kx := kx.drew
    generalize w5.drew = w6 at *
    have f14 := b4.c (i := 0) rfl
    have f15 := b5.c (i := 0) rfl
    have f16 := b4.f 0
    have j17 := (b4.set 0 (.int .i64 z2))
    have f18 := j17.c (i := 0) rfl
    go_wp2_with fail
    clear f14 f15 f16 f18
    replace b1 := (b1.far (p := ⟨g2x, 0, none⟩) (show w.heap.size ≠ g2x by omega) (.int .i64 z2))
    replace b2 := (b2.far (p := ⟨g2x, 0, none⟩) (show w.heap.size + 1 ≠ g2x by omega) (.int .i64 z2))
    replace b3 := (b3.far (p := ⟨g2x, 0, none⟩) (show w.heap.size + 1 + 1 ≠ g2x by omega) (.int .i64 z2))
    replace b4 : Is _ _ #[.int .i64 z2, .int .i64 yu, .int .i64 zu] _ := b4.set 0 (.int .i64 z2)
    replace b5 := (b5.far (p := ⟨g2x, 0, none⟩) (show g2y ≠ g2x by omega) (.int .i64 z2))
    replace kx := kx.setCell (p := ⟨g2x, 0, none⟩) (show w.heap.size ≤ g2x by omega) (.int .i64 z2)
    clear j17
    (with_reducible refine ((Ca.o (rIn z2) _)).mono ?_)
    rintro r w7 ⟨rfl, k7⟩
    replace b1 := b1.kb k7
    replace b2 := b2.kb k7
    replace b3 := b3.kb k7
    replace b4 := b4.kb k7
    replace b5 := b5.kb k7
    replace kx := kx.trans k7
    have s7 := k7.size
    simp only [World.size_setCell] at s7
    clear k7
    go_wp2_with fail
    rw [rounds_succ]
    go_wp2_with fail
    replace b1 := b1.drew
    replace b2 := b2.drew
    replace b3 := b3.drew
    replace b4 := b4.drew
    replace b5 := b5.drew
    have yb1_0 := b1.c (i := 0) rfl
    have yb1_1 := b1.c (i := 1) rfl
    have yb1_2 := b1.c (i := 2) rfl
    have yb1_3 := b1.c (i := 3) rfl
    have yb1_4 := b1.c (i := 4) rfl
    have yb1_5 := b1.c (i := 5) rfl
    have yb1_6 := b1.c (i := 6) rfl
    have yb1_7 := b1.c (i := 7) rfl
    have yb1_8 := b1.c (i := 8) rfl
    have yb2_0 := b2.c (i := 0) rfl
    have yb2_1 := b2.c (i := 1) rfl
    have yb2_2 := b2.c (i := 2) rfl
    have yb3_0 := b3.c (i := 0) rfl
    have yb3_1 := b3.c (i := 1) rfl
    have yb3_2 := b3.c (i := 2) rfl
    have yb3_3 := b3.c (i := 3) rfl
    have yb3_4 := b3.c (i := 4) rfl
    have yb3_5 := b3.c (i := 5) rfl
    have yb3_6 := b3.c (i := 6) rfl
    have yb3_7 := b3.c (i := 7) rfl
    have yb3_8 := b3.c (i := 8) rfl
    have yb4_0 := b4.c (i := 0) rfl
    have yb4_1 := b4.c (i := 1) rfl
    have yb4_2 := b4.c (i := 2) rfl
    have yb5_0 := b5.c (i := 0) rfl
    have yb5_1 := b5.c (i := 1) rfl
    have yb5_2 := b5.c (i := 2) rfl
    go_still_tail 9, (by kernel_rfl)
    clear yb1_0 yb1_1 yb1_2 yb1_3 yb1_4 yb1_5 yb1_6 yb1_7 yb1_8 yb2_0 yb2_1 yb2_2 yb3_0 yb3_1 yb3_2 yb3_3 yb3_4 yb3_5 yb3_6 yb3_7 yb3_8 yb4_0 yb4_1 yb4_2 yb5_0 yb5_1 yb5_2
    change wpList _ _ _ _ _ w7.drew
    have s8 : w7.heap.size ≤ w7.drew.heap.size := Nat.le_refl _
    replace kx := kx.drew
    generalize w7.drew = w8 at *
    have f19 := b4.c (i := 1) rfl
    have f20 := b5.c (i := 1) rfl
    have f21 := b4.f 1
    have j22 := (b4.set 1 (.int .i64 z3))
    have f23 := j22.c (i := 1) rfl
    go_wp2_with fail
    clear f19 f20 f21 f23
    replace b1 := (b1.far (p := ⟨g2x, 1, none⟩) (show w.heap.size ≠ g2x by omega) (.int .i64 z3))
    replace b2 := (b2.far (p := ⟨g2x, 1, none⟩) (show w.heap.size + 1 ≠ g2x by omega) (.int .i64 z3))
    replace b3 := (b3.far (p := ⟨g2x, 1, none⟩) (show w.heap.size + 1 + 1 ≠ g2x by omega) (.int .i64 z3))
    replace b4 : Is _ _ #[.int .i64 z2, .int .i64 z3, .int .i64 zu] _ := b4.set 1 (.int .i64 z3)
    replace b5 := (b5.far (p := ⟨g2x, 1, none⟩) (show g2y ≠ g2x by omega) (.int .i64 z3))
    replace kx := kx.setCell (p := ⟨g2x, 1, none⟩) (show w.heap.size ≤ g2x by omega) (.int .i64 z3)
    clear j22
    (with_reducible refine ((Ca.o (rIn z3) _)).mono ?_)
    rintro r w9 ⟨rfl, k9⟩
    replace b1 := b1.kb k9
    replace b2 := b2.kb k9
    replace b3 := b3.kb k9
    replace b4 := b4.kb k9
    replace b5 := b5.kb k9
    replace kx := kx.trans k9
    have s9 := k9.size
    simp only [World.size_setCell] at s9
    clear k9
    go_wp2_with fail
    rw [rounds_succ]
    go_wp2_with fail
    replace b1 := b1.drew
    replace b2 := b2.drew
    replace b3 := b3.drew
    replace b4 := b4.drew
    replace b5 := b5.drew
    have yb1_0 := b1.c (i := 0) rfl
    have yb1_1 := b1.c (i := 1) rfl
    have yb1_2 := b1.c (i := 2) rfl
    have yb1_3 := b1.c (i := 3) rfl
    have yb1_4 := b1.c (i := 4) rfl
    have yb1_5 := b1.c (i := 5) rfl
    have yb1_6 := b1.c (i := 6) rfl
    have yb1_7 := b1.c (i := 7) rfl
    have yb1_8 := b1.c (i := 8) rfl
    have yb2_0 := b2.c (i := 0) rfl
    have yb2_1 := b2.c (i := 1) rfl
    have yb2_2 := b2.c (i := 2) rfl
    have yb3_0 := b3.c (i := 0) rfl
    have yb3_1 := b3.c (i := 1) rfl
    have yb3_2 := b3.c (i := 2) rfl
    have yb3_3 := b3.c (i := 3) rfl
    have yb3_4 := b3.c (i := 4) rfl
    have yb3_5 := b3.c (i := 5) rfl
    have yb3_6 := b3.c (i := 6) rfl
    have yb3_7 := b3.c (i := 7) rfl
    have yb3_8 := b3.c (i := 8) rfl
    have yb4_0 := b4.c (i := 0) rfl
    have yb4_1 := b4.c (i := 1) rfl
    have yb4_2 := b4.c (i := 2) rfl
    have yb5_0 := b5.c (i := 0) rfl
    have yb5_1 := b5.c (i := 1) rfl
    have yb5_2 := b5.c (i := 2) rfl
    go_still_tail 9, (by kernel_rfl)
    clear yb1_0 yb1_1 yb1_2 yb1_3 yb1_4 yb1_5 yb1_6 yb1_7 yb1_8 yb2_0 yb2_1 yb2_2 yb3_0 yb3_1 yb3_2 yb3_3 yb3_4 yb3_5 yb3_6 yb3_7 yb3_8 yb4_0 yb4_1 yb4_2 yb5_0 yb5_1 yb5_2
    change wpList _ _ _ _ _ w9.drew
    have s10 : w9.heap.size ≤ w9.drew.heap.size := Nat.le_refl _
    replace kx := kx.drew
    generalize w9.drew = w10 at *
    have f24 := b4.c (i := 2) rfl
    have f25 := b5.c (i := 2) rfl
    have f26 := b4.f 2
    have j27 := (b4.set 2 (.int .i64 z4))
    have f28 := j27.c (i := 2) rfl
    go_wp2_with fail
    clear f24 f25 f26 f28
    replace b1 := (b1.far (p := ⟨g2x, 2, none⟩) (show w.heap.size ≠ g2x by omega) (.int .i64 z4))
    replace b2 := (b2.far (p := ⟨g2x, 2, none⟩) (show w.heap.size + 1 ≠ g2x by omega) (.int .i64 z4))
    replace b3 := (b3.far (p := ⟨g2x, 2, none⟩) (show w.heap.size + 1 + 1 ≠ g2x by omega) (.int .i64 z4))
    replace b4 : Is _ _ #[.int .i64 z2, .int .i64 z3, .int .i64 z4] _ := b4.set 2 (.int .i64 z4)
    replace b5 := (b5.far (p := ⟨g2x, 2, none⟩) (show g2y ≠ g2x by omega) (.int .i64 z4))
    replace kx := kx.setCell (p := ⟨g2x, 2, none⟩) (show w.heap.size ≤ g2x by omega) (.int .i64 z4)
    clear j27
    (with_reducible refine ((Ca.o (rIn z4) _)).mono ?_)
    rintro r w11 ⟨rfl, k11⟩
    replace b1 := b1.kb k11
    replace b2 := b2.kb k11
    replace b3 := b3.kb k11
    replace b4 := b4.kb k11
    replace b5 := b5.kb k11
    replace kx := kx.trans k11
    have s11 := k11.size
    simp only [World.size_setCell] at s11
    clear k11
    go_wp2_with fail
    rw [rounds_succ]
    go_wp2_with fail
    replace b1 := b1.drew
    replace b2 := b2.drew
    replace b3 := b3.drew
    replace b4 := b4.drew
    replace b5 := b5.drew
    rw [oF_lit]
    refine o_law (⟨55, [some 51, some 52, some 53, some 54, none, some 5], [51, 52, 53, 54, 4, 5], [[], [], [1], [0, 2], [3], []], [[2], [7], [], [], [4], []]⟩ : OT) (Gz (w.heap.size + 1 + 1) #[.string ⟨#[]⟩, .int .i64 0, .int .i64 0, .int .i64 0, .int .i64 0, .int .i64 0, .int .i64 0, .int .i64 0, .slice none 0 0] #[.string nu, .int .i64 ku, .int .i64 au, .int .i64 z2, .int .i64 z3, .int .i64 z4, .int .i64 lou, .int .i64 hiu, .slice fpu flu fcu] 28) (RL [fun vv _ => vv = .agg #[.string nu, .int .i64 ku, .int .i64 au, .int .i64 xu, .int .i64 yu, .int .i64 zu, .int .i64 lou, .int .i64 hiu, .slice fpu flu fcu], fun vv _ => vv = .agg #[.int .i64 z2, .int .i64 z3, .int .i64 z4], fun vv _ => vv = .agg #[.int .i64 z2, .int .i64 z3, .int .i64 z4], fun vv _ => vv = .agg #[.string nu, .int .i64 ku, .int .i64 au, .int .i64 z2, .int .i64 z3, .int .i64 z4, .int .i64 lou, .int .i64 hiu, .slice fpu flu fcu], fun _ ww => Is ww (w.heap.size + 1 + 1) #[.string nu, .int .i64 ku, .int .i64 au, .int .i64 z2, .int .i64 z3, .int .i64 z4, .int .i64 lou, .int .i64 hiu, .slice fpu flu fcu] 28, fun vv _ => vv = .int .i64 0]) (by kernel_rfl) ?hk ?hR ?fin
    case hk => kernel_rfl
    case hR =>
      refine ⟨fun _ => (Gz.refl _ _ _ _ _), fun _ _ _ => Gz.trans, rl_stab ⟨fun _ _ _ _ h => h, fun _ _ _ _ h => h, fun _ _ _ _ h => h, fun _ _ _ _ h => h, (fun v w w' k h => k.2.1 h), fun _ _ _ _ h => h, trivial⟩, ?_⟩
      refine allO_cons ?_ (allO_cons ?_ (allO_cons ?_ (allO_cons ?_ (allO_cons ?_ (allO_cons ?_ (allO_nil))))))
      · intro T w9 hG hD hO Q
        have q0 := hO.1
        have e0 : (oF 55 T).eval (.tmp 2) = .pointer (some ⟨w.heap.size, 0, none⟩) := (oF_eval (by decide)).trans (show T 2 = _ from q0)
        refine og_none rfl ?_
        have im := b1.kx hG.1 (by simp only [List.mem_singleton]; omega)
        have m0 := im.c (i := 0) rfl
        have m1 := im.c (i := 1) rfl
        have m2 := im.c (i := 2) rfl
        have m3 := im.c (i := 3) rfl
        have m4 := im.c (i := 4) rfl
        have m5 := im.c (i := 5) rfl
        have m6 := im.c (i := 6) rfl
        have m7 := im.c (i := 7) rfl
        have m8 := im.c (i := 8) rfl
        clear im
        exact o_val (v := .agg #[.string nu, .int .i64 ku, .int .i64 au, .int .i64 xu, .int .i64 yu, .int .i64 zu, .int .i64 lou, .int .i64 hiu, .slice fpu flu fcu]) (w' := w9) (by generalize (oF 55 T).eval = rr at *; simp [execOp, go_sem, e0, m0, m1, m2, m3, m4, m5, m6, m7, m8]) rfl rfl (Gz.refl _ _ _ _ _)
      · intro T w9 hG hD hO Q
        have q0 := hO.1
        have e0 : (oF 55 T).eval (.tmp 7) = .pointer (some ⟨g2x, 0, none⟩) := (oF_eval (by decide)).trans (show T 7 = _ from q0)
        refine og_none rfl ?_
        have im := b4.kx hG.1 (by simp only [List.mem_singleton]; omega)
        have m0 := im.c (i := 0) rfl
        have m1 := im.c (i := 1) rfl
        have m2 := im.c (i := 2) rfl
        clear im
        exact o_val (v := .agg #[.int .i64 z2, .int .i64 z3, .int .i64 z4]) (w' := w9) (by generalize (oF 55 T).eval = rr at *; simp [execOp, go_sem, e0, m0, m1, m2]) rfl rfl (Gz.refl _ _ _ _ _)
      · intro T w9 hG hD hO Q
        have d0 := hD.1
        have e0 : (oF 55 T).eval (.func 63) = .func (.func 63) #[] #[] := rfl
        have e1 : (oF 55 T).eval (.tmp 52) = .agg #[.int .i64 z2, .int .i64 z3, .int .i64 z4] := (oF_eval (by decide)).trans (show T 52 = _ from d0)
        refine og_none rfl ?_
        refine o_call (oc1 (enters_of Tryd.func63 (by kernel_rfl) rfl) rfl rfl e1) rfl ?_
        exact (Ca.o (rPlace_any z2 z3 z4) w9).mono fun r W' h => ⟨_, h.1, rfl, h.2.gz⟩
      · intro T w9 hG hD hO Q
        have d0 := hD.1
        have d1 := hD.2.1
        have e0 : (oF 55 T).eval (.func 62) = .func (.func 62) #[] #[] := rfl
        have e1 : (oF 55 T).eval (.tmp 51) = .agg #[.string nu, .int .i64 ku, .int .i64 au, .int .i64 xu, .int .i64 yu, .int .i64 zu, .int .i64 lou, .int .i64 hiu, .slice fpu flu fcu] := (oF_eval (by decide)).trans (show T 51 = _ from d0)
        have e2 : (oF 55 T).eval (.tmp 53) = .agg #[.int .i64 z2, .int .i64 z3, .int .i64 z4] := (oF_eval (by decide)).trans (show T 53 = _ from d1)
        refine og_none rfl ?_
        refine o_call (oc2 (enters_of Tryd.func62 (by kernel_rfl) rfl) rfl rfl e1 e2) rfl ?_
        exact (Ca.o (rat_any nu ku au xu yu zu lou hiu fpu flu fcu z2 z3 z4) w9).mono fun r W' h => ⟨_, h.1, rfl, h.2.gz⟩
      · intro T w9 hG hD hO Q
        have d0 := hD.1
        have q0 := hO.1
        have e0 : (oF 55 T).eval (.tmp 4) = .pointer (some ⟨w.heap.size + 1 + 1, 0, none⟩) := (oF_eval (by decide)).trans (show T 4 = _ from q0)
        have e1 : (oF 55 T).eval (.tmp 54) = .agg #[.string nu, .int .i64 ku, .int .i64 au, .int .i64 z2, .int .i64 z3, .int .i64 z4, .int .i64 lou, .int .i64 hiu, .slice fpu flu fcu] := (oF_eval (by decide)).trans (show T 54 = _ from d0)
        refine og_none rfl ?_
        have io : Is w9 (w.heap.size + 1 + 1) #[.string ⟨#[]⟩, .int .i64 0, .int .i64 0, .int .i64 0, .int .i64 0, .int .i64 0, .int .i64 0, .int .i64 0, .slice none 0 0] 28 ∨ Is w9 (w.heap.size + 1 + 1) #[.string nu, .int .i64 ku, .int .i64 au, .int .i64 z2, .int .i64 z3, .int .i64 z4, .int .i64 lou, .int .i64 hiu, .slice fpu flu fcu] 28 := hG.2.2 (.inl b3)
        rcases io with io | io
        · have zn := io
          replace zn : Is (w9.setCell ⟨w.heap.size + 1 + 1, 0, none⟩ (.string nu)) (w.heap.size + 1 + 1) #[.string nu, .int .i64 0, .int .i64 0, .int .i64 0, .int .i64 0, .int .i64 0, .int .i64 0, .int .i64 0, .slice none 0 0] 28 := zn.set 0 _
          replace zn : Is ((w9.setCell ⟨w.heap.size + 1 + 1, 0, none⟩ (.string nu)).setCell ⟨w.heap.size + 1 + 1, 1, none⟩ (.int .i64 ku)) (w.heap.size + 1 + 1) #[.string nu, .int .i64 ku, .int .i64 0, .int .i64 0, .int .i64 0, .int .i64 0, .int .i64 0, .int .i64 0, .slice none 0 0] 28 := zn.set 1 _
          replace zn : Is (((w9.setCell ⟨w.heap.size + 1 + 1, 0, none⟩ (.string nu)).setCell ⟨w.heap.size + 1 + 1, 1, none⟩ (.int .i64 ku)).setCell ⟨w.heap.size + 1 + 1, 2, none⟩ (.int .i64 au)) (w.heap.size + 1 + 1) #[.string nu, .int .i64 ku, .int .i64 au, .int .i64 0, .int .i64 0, .int .i64 0, .int .i64 0, .int .i64 0, .slice none 0 0] 28 := zn.set 2 _
          replace zn : Is ((((w9.setCell ⟨w.heap.size + 1 + 1, 0, none⟩ (.string nu)).setCell ⟨w.heap.size + 1 + 1, 1, none⟩ (.int .i64 ku)).setCell ⟨w.heap.size + 1 + 1, 2, none⟩ (.int .i64 au)).setCell ⟨w.heap.size + 1 + 1, 3, none⟩ (.int .i64 z2)) (w.heap.size + 1 + 1) #[.string nu, .int .i64 ku, .int .i64 au, .int .i64 z2, .int .i64 0, .int .i64 0, .int .i64 0, .int .i64 0, .slice none 0 0] 28 := zn.set 3 _
          replace zn : Is (((((w9.setCell ⟨w.heap.size + 1 + 1, 0, none⟩ (.string nu)).setCell ⟨w.heap.size + 1 + 1, 1, none⟩ (.int .i64 ku)).setCell ⟨w.heap.size + 1 + 1, 2, none⟩ (.int .i64 au)).setCell ⟨w.heap.size + 1 + 1, 3, none⟩ (.int .i64 z2)).setCell ⟨w.heap.size + 1 + 1, 4, none⟩ (.int .i64 z3)) (w.heap.size + 1 + 1) #[.string nu, .int .i64 ku, .int .i64 au, .int .i64 z2, .int .i64 z3, .int .i64 0, .int .i64 0, .int .i64 0, .slice none 0 0] 28 := zn.set 4 _
          replace zn : Is ((((((w9.setCell ⟨w.heap.size + 1 + 1, 0, none⟩ (.string nu)).setCell ⟨w.heap.size + 1 + 1, 1, none⟩ (.int .i64 ku)).setCell ⟨w.heap.size + 1 + 1, 2, none⟩ (.int .i64 au)).setCell ⟨w.heap.size + 1 + 1, 3, none⟩ (.int .i64 z2)).setCell ⟨w.heap.size + 1 + 1, 4, none⟩ (.int .i64 z3)).setCell ⟨w.heap.size + 1 + 1, 5, none⟩ (.int .i64 z4)) (w.heap.size + 1 + 1) #[.string nu, .int .i64 ku, .int .i64 au, .int .i64 z2, .int .i64 z3, .int .i64 z4, .int .i64 0, .int .i64 0, .slice none 0 0] 28 := zn.set 5 _
          replace zn : Is (((((((w9.setCell ⟨w.heap.size + 1 + 1, 0, none⟩ (.string nu)).setCell ⟨w.heap.size + 1 + 1, 1, none⟩ (.int .i64 ku)).setCell ⟨w.heap.size + 1 + 1, 2, none⟩ (.int .i64 au)).setCell ⟨w.heap.size + 1 + 1, 3, none⟩ (.int .i64 z2)).setCell ⟨w.heap.size + 1 + 1, 4, none⟩ (.int .i64 z3)).setCell ⟨w.heap.size + 1 + 1, 5, none⟩ (.int .i64 z4)).setCell ⟨w.heap.size + 1 + 1, 6, none⟩ (.int .i64 lou)) (w.heap.size + 1 + 1) #[.string nu, .int .i64 ku, .int .i64 au, .int .i64 z2, .int .i64 z3, .int .i64 z4, .int .i64 lou, .int .i64 0, .slice none 0 0] 28 := zn.set 6 _
          replace zn : Is ((((((((w9.setCell ⟨w.heap.size + 1 + 1, 0, none⟩ (.string nu)).setCell ⟨w.heap.size + 1 + 1, 1, none⟩ (.int .i64 ku)).setCell ⟨w.heap.size + 1 + 1, 2, none⟩ (.int .i64 au)).setCell ⟨w.heap.size + 1 + 1, 3, none⟩ (.int .i64 z2)).setCell ⟨w.heap.size + 1 + 1, 4, none⟩ (.int .i64 z3)).setCell ⟨w.heap.size + 1 + 1, 5, none⟩ (.int .i64 z4)).setCell ⟨w.heap.size + 1 + 1, 6, none⟩ (.int .i64 lou)).setCell ⟨w.heap.size + 1 + 1, 7, none⟩ (.int .i64 hiu)) (w.heap.size + 1 + 1) #[.string nu, .int .i64 ku, .int .i64 au, .int .i64 z2, .int .i64 z3, .int .i64 z4, .int .i64 lou, .int .i64 hiu, .slice none 0 0] 28 := zn.set 7 _
          replace zn : Is (((((((((w9.setCell ⟨w.heap.size + 1 + 1, 0, none⟩ (.string nu)).setCell ⟨w.heap.size + 1 + 1, 1, none⟩ (.int .i64 ku)).setCell ⟨w.heap.size + 1 + 1, 2, none⟩ (.int .i64 au)).setCell ⟨w.heap.size + 1 + 1, 3, none⟩ (.int .i64 z2)).setCell ⟨w.heap.size + 1 + 1, 4, none⟩ (.int .i64 z3)).setCell ⟨w.heap.size + 1 + 1, 5, none⟩ (.int .i64 z4)).setCell ⟨w.heap.size + 1 + 1, 6, none⟩ (.int .i64 lou)).setCell ⟨w.heap.size + 1 + 1, 7, none⟩ (.int .i64 hiu)).setCell ⟨w.heap.size + 1 + 1, 8, none⟩ (.slice fpu flu fcu)) (w.heap.size + 1 + 1) #[.string nu, .int .i64 ku, .int .i64 au, .int .i64 z2, .int .i64 z3, .int .i64 z4, .int .i64 lou, .int .i64 hiu, .slice fpu flu fcu] 28 := zn.set 8 _
          have pt := ((((((((((Pt.refl (w.heap.size + 1 + 1) w9).set 0 (.string nu)).set 1 (.int .i64 ku)).set 2 (.int .i64 au)).set 3 (.int .i64 z2)).set 4 (.int .i64 z3)).set 5 (.int .i64 z4)).set 6 (.int .i64 lou)).set 7 (.int .i64 hiu)).set 8 (.slice fpu flu fcu))
          have m0 := io.c (i := 0) rfl
          have f0 := io.f 0
          have m1 := io.c (i := 1) rfl
          have f1 := io.f 1
          have m2 := io.c (i := 2) rfl
          have f2 := io.f 2
          have m3 := io.c (i := 3) rfl
          have f3 := io.f 3
          have m4 := io.c (i := 4) rfl
          have f4 := io.f 4
          have m5 := io.c (i := 5) rfl
          have f5 := io.f 5
          have m6 := io.c (i := 6) rfl
          have f6 := io.f 6
          have m7 := io.c (i := 7) rfl
          have f7 := io.f 7
          have m8 := io.c (i := 8) rfl
          have f8 := io.f 8
          clear io
          exact o_skip (w' := (((((((((w9.setCell ⟨w.heap.size + 1 + 1, 0, none⟩ (.string nu)).setCell ⟨w.heap.size + 1 + 1, 1, none⟩ (.int .i64 ku)).setCell ⟨w.heap.size + 1 + 1, 2, none⟩ (.int .i64 au)).setCell ⟨w.heap.size + 1 + 1, 3, none⟩ (.int .i64 z2)).setCell ⟨w.heap.size + 1 + 1, 4, none⟩ (.int .i64 z3)).setCell ⟨w.heap.size + 1 + 1, 5, none⟩ (.int .i64 z4)).setCell ⟨w.heap.size + 1 + 1, 6, none⟩ (.int .i64 lou)).setCell ⟨w.heap.size + 1 + 1, 7, none⟩ (.int .i64 hiu)).setCell ⟨w.heap.size + 1 + 1, 8, none⟩ (.slice fpu flu fcu))) (by generalize (oF 55 T).eval = rr at *; simp [execOp, go_sem, e0, e1, m0, f0, m1, f1, m2, f2, m3, f3, m4, f4, m5, f5, m6, f6, m7, f7, m8, f8]) rfl zn (pt.gz zn)
        · have zn := io
          replace zn : Is (w9.setCell ⟨w.heap.size + 1 + 1, 0, none⟩ (.string nu)) (w.heap.size + 1 + 1) #[.string nu, .int .i64 ku, .int .i64 au, .int .i64 z2, .int .i64 z3, .int .i64 z4, .int .i64 lou, .int .i64 hiu, .slice fpu flu fcu] 28 := zn.set 0 _
          replace zn : Is ((w9.setCell ⟨w.heap.size + 1 + 1, 0, none⟩ (.string nu)).setCell ⟨w.heap.size + 1 + 1, 1, none⟩ (.int .i64 ku)) (w.heap.size + 1 + 1) #[.string nu, .int .i64 ku, .int .i64 au, .int .i64 z2, .int .i64 z3, .int .i64 z4, .int .i64 lou, .int .i64 hiu, .slice fpu flu fcu] 28 := zn.set 1 _
          replace zn : Is (((w9.setCell ⟨w.heap.size + 1 + 1, 0, none⟩ (.string nu)).setCell ⟨w.heap.size + 1 + 1, 1, none⟩ (.int .i64 ku)).setCell ⟨w.heap.size + 1 + 1, 2, none⟩ (.int .i64 au)) (w.heap.size + 1 + 1) #[.string nu, .int .i64 ku, .int .i64 au, .int .i64 z2, .int .i64 z3, .int .i64 z4, .int .i64 lou, .int .i64 hiu, .slice fpu flu fcu] 28 := zn.set 2 _
          replace zn : Is ((((w9.setCell ⟨w.heap.size + 1 + 1, 0, none⟩ (.string nu)).setCell ⟨w.heap.size + 1 + 1, 1, none⟩ (.int .i64 ku)).setCell ⟨w.heap.size + 1 + 1, 2, none⟩ (.int .i64 au)).setCell ⟨w.heap.size + 1 + 1, 3, none⟩ (.int .i64 z2)) (w.heap.size + 1 + 1) #[.string nu, .int .i64 ku, .int .i64 au, .int .i64 z2, .int .i64 z3, .int .i64 z4, .int .i64 lou, .int .i64 hiu, .slice fpu flu fcu] 28 := zn.set 3 _
          replace zn : Is (((((w9.setCell ⟨w.heap.size + 1 + 1, 0, none⟩ (.string nu)).setCell ⟨w.heap.size + 1 + 1, 1, none⟩ (.int .i64 ku)).setCell ⟨w.heap.size + 1 + 1, 2, none⟩ (.int .i64 au)).setCell ⟨w.heap.size + 1 + 1, 3, none⟩ (.int .i64 z2)).setCell ⟨w.heap.size + 1 + 1, 4, none⟩ (.int .i64 z3)) (w.heap.size + 1 + 1) #[.string nu, .int .i64 ku, .int .i64 au, .int .i64 z2, .int .i64 z3, .int .i64 z4, .int .i64 lou, .int .i64 hiu, .slice fpu flu fcu] 28 := zn.set 4 _
          replace zn : Is ((((((w9.setCell ⟨w.heap.size + 1 + 1, 0, none⟩ (.string nu)).setCell ⟨w.heap.size + 1 + 1, 1, none⟩ (.int .i64 ku)).setCell ⟨w.heap.size + 1 + 1, 2, none⟩ (.int .i64 au)).setCell ⟨w.heap.size + 1 + 1, 3, none⟩ (.int .i64 z2)).setCell ⟨w.heap.size + 1 + 1, 4, none⟩ (.int .i64 z3)).setCell ⟨w.heap.size + 1 + 1, 5, none⟩ (.int .i64 z4)) (w.heap.size + 1 + 1) #[.string nu, .int .i64 ku, .int .i64 au, .int .i64 z2, .int .i64 z3, .int .i64 z4, .int .i64 lou, .int .i64 hiu, .slice fpu flu fcu] 28 := zn.set 5 _
          replace zn : Is (((((((w9.setCell ⟨w.heap.size + 1 + 1, 0, none⟩ (.string nu)).setCell ⟨w.heap.size + 1 + 1, 1, none⟩ (.int .i64 ku)).setCell ⟨w.heap.size + 1 + 1, 2, none⟩ (.int .i64 au)).setCell ⟨w.heap.size + 1 + 1, 3, none⟩ (.int .i64 z2)).setCell ⟨w.heap.size + 1 + 1, 4, none⟩ (.int .i64 z3)).setCell ⟨w.heap.size + 1 + 1, 5, none⟩ (.int .i64 z4)).setCell ⟨w.heap.size + 1 + 1, 6, none⟩ (.int .i64 lou)) (w.heap.size + 1 + 1) #[.string nu, .int .i64 ku, .int .i64 au, .int .i64 z2, .int .i64 z3, .int .i64 z4, .int .i64 lou, .int .i64 hiu, .slice fpu flu fcu] 28 := zn.set 6 _
          replace zn : Is ((((((((w9.setCell ⟨w.heap.size + 1 + 1, 0, none⟩ (.string nu)).setCell ⟨w.heap.size + 1 + 1, 1, none⟩ (.int .i64 ku)).setCell ⟨w.heap.size + 1 + 1, 2, none⟩ (.int .i64 au)).setCell ⟨w.heap.size + 1 + 1, 3, none⟩ (.int .i64 z2)).setCell ⟨w.heap.size + 1 + 1, 4, none⟩ (.int .i64 z3)).setCell ⟨w.heap.size + 1 + 1, 5, none⟩ (.int .i64 z4)).setCell ⟨w.heap.size + 1 + 1, 6, none⟩ (.int .i64 lou)).setCell ⟨w.heap.size + 1 + 1, 7, none⟩ (.int .i64 hiu)) (w.heap.size + 1 + 1) #[.string nu, .int .i64 ku, .int .i64 au, .int .i64 z2, .int .i64 z3, .int .i64 z4, .int .i64 lou, .int .i64 hiu, .slice fpu flu fcu] 28 := zn.set 7 _
          replace zn : Is (((((((((w9.setCell ⟨w.heap.size + 1 + 1, 0, none⟩ (.string nu)).setCell ⟨w.heap.size + 1 + 1, 1, none⟩ (.int .i64 ku)).setCell ⟨w.heap.size + 1 + 1, 2, none⟩ (.int .i64 au)).setCell ⟨w.heap.size + 1 + 1, 3, none⟩ (.int .i64 z2)).setCell ⟨w.heap.size + 1 + 1, 4, none⟩ (.int .i64 z3)).setCell ⟨w.heap.size + 1 + 1, 5, none⟩ (.int .i64 z4)).setCell ⟨w.heap.size + 1 + 1, 6, none⟩ (.int .i64 lou)).setCell ⟨w.heap.size + 1 + 1, 7, none⟩ (.int .i64 hiu)).setCell ⟨w.heap.size + 1 + 1, 8, none⟩ (.slice fpu flu fcu)) (w.heap.size + 1 + 1) #[.string nu, .int .i64 ku, .int .i64 au, .int .i64 z2, .int .i64 z3, .int .i64 z4, .int .i64 lou, .int .i64 hiu, .slice fpu flu fcu] 28 := zn.set 8 _
          have pt := ((((((((((Pt.refl (w.heap.size + 1 + 1) w9).set 0 (.string nu)).set 1 (.int .i64 ku)).set 2 (.int .i64 au)).set 3 (.int .i64 z2)).set 4 (.int .i64 z3)).set 5 (.int .i64 z4)).set 6 (.int .i64 lou)).set 7 (.int .i64 hiu)).set 8 (.slice fpu flu fcu))
          have m0 := io.c (i := 0) rfl
          have f0 := io.f 0
          have m1 := io.c (i := 1) rfl
          have f1 := io.f 1
          have m2 := io.c (i := 2) rfl
          have f2 := io.f 2
          have m3 := io.c (i := 3) rfl
          have f3 := io.f 3
          have m4 := io.c (i := 4) rfl
          have f4 := io.f 4
          have m5 := io.c (i := 5) rfl
          have f5 := io.f 5
          have m6 := io.c (i := 6) rfl
          have f6 := io.f 6
          have m7 := io.c (i := 7) rfl
          have f7 := io.f 7
          have m8 := io.c (i := 8) rfl
          have f8 := io.f 8
          clear io
          exact o_skip (w' := (((((((((w9.setCell ⟨w.heap.size + 1 + 1, 0, none⟩ (.string nu)).setCell ⟨w.heap.size + 1 + 1, 1, none⟩ (.int .i64 ku)).setCell ⟨w.heap.size + 1 + 1, 2, none⟩ (.int .i64 au)).setCell ⟨w.heap.size + 1 + 1, 3, none⟩ (.int .i64 z2)).setCell ⟨w.heap.size + 1 + 1, 4, none⟩ (.int .i64 z3)).setCell ⟨w.heap.size + 1 + 1, 5, none⟩ (.int .i64 z4)).setCell ⟨w.heap.size + 1 + 1, 6, none⟩ (.int .i64 lou)).setCell ⟨w.heap.size + 1 + 1, 7, none⟩ (.int .i64 hiu)).setCell ⟨w.heap.size + 1 + 1, 8, none⟩ (.slice fpu flu fcu))) (by generalize (oF 55 T).eval = rr at *; simp [execOp, go_sem, e0, e1, m0, f0, m1, f1, m2, f2, m3, f3, m4, f4, m5, f5, m6, f6, m7, f7, m8, f8]) rfl zn (pt.gz zn)
      · intro T w9 hG hD hO Q
        have e0 : (oF 55 T).eval (.const (.int .i64 0)) = .int .i64 0 := rfl
        refine og_none rfl ?_
        exact o_val (v := .int .i64 0) (w' := w9) (by generalize (oF 55 T).eval = rr at *; simp [execOp, go_sem, e0]) rfl rfl (Gz.refl _ _ _ _ _)
    case fin =>
      intro T w12 hout hval hG
      have s12 := hG.1.2.2.2.1
      simp only [World.size_drew] at s12
      rw [show oF 55 T = (⟨#[T 0, T 1, T 2, T 3, T 4, T 5, T 6, T 7, T 8, T 9, T 10, T 11, T 12, T 13, T 14, T 15, T 16, T 17, T 18, T 19, T 20, T 21, T 22, T 23, T 24, T 25, T 26, T 27, T 28, T 29, T 30, T 31, T 32, T 33, T 34, T 35, T 36, T 37, T 38, T 39, T 40, T 41, T 42, T 43, T 44, T 45, T 46, T 47, T 48, T 49, T 50, T 51, T 52, T 53, T 54], []⟩ : Act) from oF_list 55 T]
      rw [show T 0 = .agg #[.string nu, .int .i64 ku, .int .i64 au, .int .i64 xu, .int .i64 yu, .int .i64 zu, .int .i64 lou, .int .i64 hiu, .slice fpu flu fcu] from hout 0 rfl]
      rw [show T 1 = .agg #[.int .i64 du, .int .i64 dv, .int .i64 dw] from hout 1 rfl]
      rw [show T 2 = .pointer (some ⟨w.heap.size, 0, none⟩) from hout 2 rfl]
      rw [show T 3 = .pointer (some ⟨w.heap.size + 1, 0, none⟩) from hout 3 rfl]
      rw [show T 4 = .pointer (some ⟨w.heap.size + 1 + 1, 0, none⟩) from hout 4 rfl]
      rw [show T 5 = .int .i64 0 from hval 5 (by decide : 5 < 6)]
      rw [show T 6 = .int .i64 r1 from hout 6 rfl]
      rw [show T 7 = .pointer (some ⟨g2x, 0, none⟩) from hout 7 rfl]
      rw [show T 8 = .pointer (some ⟨g2y, 0, none⟩) from hout 8 rfl]
      rw [show T 9 = .int .i64 3 from hout 9 rfl]
      rw [show T 10 = .int .i64 3 from hout 10 rfl]
      rw [show T 11 = .agg #[.string nu, .int .i64 ku, .int .i64 au, .int .i64 xu, .int .i64 yu, .int .i64 zu, .int .i64 lou, .int .i64 hiu, .slice fpu flu fcu] from hout 11 rfl]
      rw [show T 12 = .int .i64 r1 from hout 12 rfl]
      rw [show T 13 = .int .i64 r1 from hout 13 rfl]
      rw [show T 14 = .bool false from hout 14 rfl]
      rw [show T 22 = .int .i64 3 from hout 22 rfl]
      rw [show T 23 = .bool false from hout 23 rfl]
      rw [show T 24 = .int .i64 2 from hout 24 rfl]
      rw [show T 25 = .int .i64 3 from hout 25 rfl]
      rw [show T 26 = .int .i64 2 from hout 26 rfl]
      rw [show T 27 = .pointer (some ⟨g2y, 2, none⟩) from hout 27 rfl]
      rw [show T 28 = .int .i64 dw from hout 28 rfl]
      rw [show T 29 = .bool true from hout 29 rfl]
      rw [show T 30 = .bool false from hout 30 rfl]
      rw [show T 32 = .int .i64 3 from hout 32 rfl]
      rw [show T 33 = .bool false from hout 33 rfl]
      rw [show T 34 = .int .i64 2 from hout 34 rfl]
      rw [show T 35 = .int .i64 3 from hout 35 rfl]
      rw [show T 36 = .int .i64 2 from hout 36 rfl]
      rw [show T 37 = .int .i64 2 from hout 37 rfl]
      rw [show T 38 = .pointer (some ⟨g2x, 2, none⟩) from hout 38 rfl]
      rw [show T 39 = .int .i64 zu from hout 39 rfl]
      rw [show T 40 = .int .i64 2 from hout 40 rfl]
      rw [show T 41 = .pointer (some ⟨g2y, 2, none⟩) from hout 41 rfl]
      rw [show T 42 = .int .i64 dw from hout 42 rfl]
      rw [show T 43 = .int .i64 z4 from hout 43 rfl]
      rw [show T 44 = .pointer (some ⟨g2x, 2, none⟩) from hout 44 rfl]
      rw [show T 45 = .int .i64 2 from hout 45 rfl]
      rw [show T 46 = .pointer (some ⟨g2x, 2, none⟩) from hout 46 rfl]
      rw [show T 47 = .int .i64 z4 from hout 47 rfl]
      rw [show T 48 = .bool true from hout 48 rfl]
      rw [show T 49 = .bool false from hout 49 rfl]
      replace b1 := b1.kx hG.1 (by simp only [List.mem_singleton]; omega)
      replace b2 := b2.kx hG.1 (by simp only [List.mem_singleton]; omega)
      replace b4 := b4.kx hG.1 (by simp only [List.mem_singleton]; omega)
      replace b5 := b5.kx hG.1 (by simp only [List.mem_singleton]; omega)
      replace b3 := hval 4 (by decide)
      replace b3 : Is _ (w.heap.size + 1 + 1) #[.string nu, .int .i64 ku, .int .i64 au, .int .i64 z2, .int .i64 z3, .int .i64 z4, .int .i64 lou, .int .i64 hiu, .slice fpu flu fcu] 28 := b3
      replace kx := hG.1.old kx.drew (by intro x hx; simp only [List.mem_singleton] at hx; subst hx; omega)
      clear hout hval hG
      go_wp2
      refine ret_row2 Tryd.results25 rfl rfl rfl b3 Tryd.underlying28 rfl (by kernel_rfl) ?_
      exact ⟨rfl, kx⟩
set_option maxRecDepth 100000 in
set_option maxHeartbeats 4000000 in
theorem rMove_3 (nu : ByteArray) (ku : Int) (au : Int) (xu : Int) (yu : Int) (zu : Int) (lou : Int) (hiu : Int) (fpu : Option Addr) (flu : Nat) (fcu : Nat) (du : Int) (dv : Int) (dw : Int) (r1 : Int) (z2 : Int) (z3 : Int) (z4 : Int) (a1 : wrap64 (xu + du) = z2) (a2 : wrap64 (yu + dv) = z3) (a3 : wrap64 (zu + dw) = z4) (q1 : Ca 19 #[.agg #[.string nu, .int .i64 ku, .int .i64 au, .int .i64 xu, .int .i64 yu, .int .i64 zu, .int .i64 lou, .int .i64 hiu, .slice fpu flu fcu]] (.int .i64 r1))  (h1 : (r1 != 0) = false) (h2 : (inR du) = true) (h3 : (inR dv) = true) (h4 : (inR dw) = true) (h5 : (inR z2) = true) (h6 : (inR z3) = true) (h7 : (inR z4) = false) (w : World)  : Calls Tryd.prog 25 #[.agg #[.string nu, .int .i64 ku, .int .i64 au, .int .i64 xu, .int .i64 yu, .int .i64 zu, .int .i64 lou, .int .i64 hiu, .slice fpu flu fcu], .agg #[.int .i64 du, .int .i64 dv, .int .i64 dw]] w fun r W' => r = .returned (.tuple #[.agg #[.string ⟨#[]⟩, .int .i64 0, .int .i64 0, .int .i64 0, .int .i64 0, .int .i64 0, .int .i64 0, .int .i64 0, .slice none 0 0], .int .i64 2]) ∧ Kb w W' := by
  have kx := Kb.refl w
  unfold Ca at q1
  have a1' : IntKind.i64.wrap (xu + du) = z2 := (Go.IntWalk.i64_left _).trans a1
  have a2' : IntKind.i64.wrap (yu + dv) = z3 := (Go.IntWalk.i64_left _).trans a2
  have a3' : IntKind.i64.wrap (zu + dw) = z4 := (Go.IntWalk.i64_left _).trans a3
  have j1 := (((Is.made w #[.string nu, .int .i64 ku, .int .i64 au, .int .i64 xu, .int .i64 yu, .int .i64 zu, .int .i64 lou, .int .i64 hiu, .slice fpu flu fcu] 28).alloc (.cells #[.int .i64 du, .int .i64 dv, .int .i64 dw] 23 (0, 0))).alloc (.cells #[.string ⟨#[]⟩, .int .i64 0, .int .i64 0, .int .i64 0, .int .i64 0, .int .i64 0, .int .i64 0, .int .i64 0, .slice none 0 0] 28 (0, 0)))
  have f2 := j1.c (i := 0) rfl
  have f3 := j1.c (i := 1) rfl
  have f4 := j1.c (i := 2) rfl
  have f5 := j1.c (i := 3) rfl
  have f6 := j1.c (i := 4) rfl
  have f7 := j1.c (i := 5) rfl
  have f8 := j1.c (i := 6) rfl
  have f9 := j1.c (i := 7) rfl
  have f10 := j1.c (i := 8) rfl
  go_enter Tryd.func25, Tryd.ntmps25
  go_wp2_with fail
  clear f2 f3 f4 f5 f6 f7 f8 f9 f10
  have b1 := j1
  have b2 := Is.made (w.alloc (.cells #[.string nu, .int .i64 ku, .int .i64 au, .int .i64 xu, .int .i64 yu, .int .i64 zu, .int .i64 lou, .int .i64 hiu, .slice fpu flu fcu] 28 (0, 0))) #[.int .i64 du, .int .i64 dv, .int .i64 dw] 23
  simp only [World.size_alloc] at b2
  replace b2 := (b2.alloc (.cells #[.string ⟨#[]⟩, .int .i64 0, .int .i64 0, .int .i64 0, .int .i64 0, .int .i64 0, .int .i64 0, .int .i64 0, .slice none 0 0] 28 (0, 0)))
  have b3 := Is.made ((w.alloc (.cells #[.string nu, .int .i64 ku, .int .i64 au, .int .i64 xu, .int .i64 yu, .int .i64 zu, .int .i64 lou, .int .i64 hiu, .slice fpu flu fcu] 28 (0, 0))).alloc (.cells #[.int .i64 du, .int .i64 dv, .int .i64 dw] 23 (0, 0))) #[.string ⟨#[]⟩, .int .i64 0, .int .i64 0, .int .i64 0, .int .i64 0, .int .i64 0, .int .i64 0, .int .i64 0, .slice none 0 0] 28
  simp only [World.size_alloc] at b3
  replace kx := ((kx.alloc (.cells #[.string nu, .int .i64 ku, .int .i64 au, .int .i64 xu, .int .i64 yu, .int .i64 zu, .int .i64 lou, .int .i64 hiu, .slice fpu flu fcu] 28 (0, 0))).alloc (.cells #[.int .i64 du, .int .i64 dv, .int .i64 dw] 23 (0, 0))).alloc (.cells #[.string ⟨#[]⟩, .int .i64 0, .int .i64 0, .int .i64 0, .int .i64 0, .int .i64 0, .int .i64 0, .int .i64 0, .slice none 0 0] 28 (0, 0))
  clear j1
  (with_reducible refine (((q1).out _)).mono ?_)
  rintro r w1 ⟨rfl, k1⟩
  replace b1 := b1.kb k1
  replace b2 := b2.kb k1
  replace b3 := b3.kb k1
  replace kx := kx.trans k1
  have s1 := k1.size
  simp only [World.size_alloc] at s1
  clear k1
  go_wp2_with fail
  replace b1 := b1.drew
  replace b2 := b2.drew
  replace b3 := b3.drew
  rw [oF_lit]
  refine o_law2 (⟨55, [some 17, some 18, some 19, some 20, some 21, some 7, some 8, none, none], [17, 18, 19, 20, 21, 7, 8, 7, 8], [[], [0], [1], [], [3], [], [], [5, 2], [6, 4]], [[2], [], [], [3], [], [], [], [], []]⟩ : OT) (RL [fun vv _ => vv = .pointer (some ⟨w.heap.size, 3, none⟩), fun vv _ => vv = .agg #[.int .i64 xu, .int .i64 yu, .int .i64 zu], fun vv _ => vv = .agg #[.int .i64 xu, .int .i64 yu, .int .i64 zu], fun vv _ => vv = .agg #[.int .i64 du, .int .i64 dv, .int .i64 dw], fun vv _ => vv = .agg #[.int .i64 du, .int .i64 dv, .int .i64 dw], fun _ _ => True, fun _ _ => True, fun _ _ => True, fun _ _ => True]) ⟨5, 7, 7, #[.int .i64 0, .int .i64 0, .int .i64 0], #[.int .i64 xu, .int .i64 yu, .int .i64 zu], 92⟩ ⟨6, 8, 8, #[.int .i64 0, .int .i64 0, .int .i64 0], #[.int .i64 du, .int .i64 dv, .int .i64 dw], 92⟩ (by kernel_rfl) (by kernel_rfl) (by kernel_rfl) (rl_free ⟨(fun _ _ _ h => h), (fun _ _ _ h => h), (fun _ _ _ h => h), (fun _ _ _ h => h), (fun _ _ _ h => h), (fun _ _ _ h => h), (fun _ _ _ h => h), (fun _ _ _ h => h), (fun _ _ _ h => h), trivial⟩) ?hR ?fin
  case hR =>
    refine allO_cons ?_ (allO_cons ?_ (allO_cons ?_ (allO_cons ?_ (allO_cons ?_ (allO_cons ?_ (allO_cons ?_ (allO_cons ?_ (allO_cons ?_ (allO_nil)))))))))
    · refine .val (by kernel_rfl) ?_
      intro T w9 hG hD hO Q
      have q0 := hO.1
      have e0 : (oF 55 T).eval (.tmp 2) = .pointer (some ⟨w.heap.size, 0, none⟩) := (oF_eval (by decide)).trans (show T 2 = _ from q0)
      refine og_none rfl ?_
      exact o_val (v := .pointer (some ⟨w.heap.size, 3, none⟩)) (w' := w9) (by generalize (oF 55 T).eval = rr at *; simp [execOp, go_sem, e0]) rfl rfl (Kb.refl _)
    · refine .val (by kernel_rfl) ?_
      intro T w9 hG hD hO Q
      have d0 := hD.1
      have e0 : (oF 55 T).eval (.tmp 17) = .pointer (some ⟨w.heap.size, 3, none⟩) := (oF_eval (by decide)).trans (show T 17 = _ from d0)
      refine og_none rfl ?_
      have im := b1.kx hG (by simp)
      have m0 := im.c (i := 3) rfl
      have m1 := im.c (i := 4) rfl
      have m2 := im.c (i := 5) rfl
      clear im
      exact o_val (v := .agg #[.int .i64 xu, .int .i64 yu, .int .i64 zu]) (w' := w9) (by generalize (oF 55 T).eval = rr at *; simp [execOp, go_sem, e0, m0, m1, m2]) rfl rfl (Kb.refl _)
    · refine .val (by kernel_rfl) ?_
      intro T w9 hG hD hO Q
      have d0 := hD.1
      have e0 : (oF 55 T).eval (.func 61) = .func (.func 61) #[] #[] := rfl
      have e1 : (oF 55 T).eval (.tmp 18) = .agg #[.int .i64 xu, .int .i64 yu, .int .i64 zu] := (oF_eval (by decide)).trans (show T 18 = _ from d0)
      refine og_none rfl ?_
      refine o_call (oc1 (enters_of Tryd.func61 (by kernel_rfl) rfl) rfl rfl e1) rfl ?_
      exact (Ca.o (rCoords xu yu zu) w9).mono fun r W' h => ⟨_, h.1, rfl, h.2⟩
    · refine .val (by kernel_rfl) ?_
      intro T w9 hG hD hO Q
      have q0 := hO.1
      have e0 : (oF 55 T).eval (.tmp 3) = .pointer (some ⟨w.heap.size + 1, 0, none⟩) := (oF_eval (by decide)).trans (show T 3 = _ from q0)
      refine og_none rfl ?_
      have im := b2.kx hG (by simp)
      have m0 := im.c (i := 0) rfl
      have m1 := im.c (i := 1) rfl
      have m2 := im.c (i := 2) rfl
      clear im
      exact o_val (v := .agg #[.int .i64 du, .int .i64 dv, .int .i64 dw]) (w' := w9) (by generalize (oF 55 T).eval = rr at *; simp [execOp, go_sem, e0, m0, m1, m2]) rfl rfl (Kb.refl _)
    · refine .val (by kernel_rfl) ?_
      intro T w9 hG hD hO Q
      have d0 := hD.1
      have e0 : (oF 55 T).eval (.func 61) = .func (.func 61) #[] #[] := rfl
      have e1 : (oF 55 T).eval (.tmp 20) = .agg #[.int .i64 du, .int .i64 dv, .int .i64 dw] := (oF_eval (by decide)).trans (show T 20 = _ from d0)
      refine og_none rfl ?_
      refine o_call (oc1 (enters_of Tryd.func61 (by kernel_rfl) rfl) rfl rfl e1) rfl ?_
      exact (Ca.o (rCoords du dv dw) w9).mono fun r W' h => ⟨_, h.1, rfl, h.2⟩
    · refine .alloc _ (.inl rfl) rfl rfl (fun T w9 => ?_) (fun _ _ => trivial)
      simp [execOp, go_sem]
    · refine .alloc _ (.inr rfl) rfl rfl (fun T w9 => ?_) (fun _ _ => trivial)
      simp [execOp, go_sem]
    · refine .store _ (.inl rfl) rfl rfl ?_ (fun _ _ => trivial)
      intro T w9 g hD hO hT io
      have d0 := hD.1
      have d1 := hD.2.1
      have e0 : (oF 55 T).eval (.tmp 7) = .pointer (some ⟨g, 0, none⟩) := (oF_eval (by decide)).trans hT
      have e1 : (oF 55 T).eval (.tmp 19) = .agg #[.int .i64 xu, .int .i64 yu, .int .i64 zu] := (oF_eval (by decide)).trans (show T 19 = _ from d1)
      have zn := io
      replace zn : Is (w9.setCell ⟨g, 0, none⟩ (.int .i64 xu)) (g) #[.int .i64 xu, .int .i64 0, .int .i64 0] 92 := zn.set 0 _
      replace zn : Is ((w9.setCell ⟨g, 0, none⟩ (.int .i64 xu)).setCell ⟨g, 1, none⟩ (.int .i64 yu)) (g) #[.int .i64 xu, .int .i64 yu, .int .i64 0] 92 := zn.set 1 _
      replace zn : Is (((w9.setCell ⟨g, 0, none⟩ (.int .i64 xu)).setCell ⟨g, 1, none⟩ (.int .i64 yu)).setCell ⟨g, 2, none⟩ (.int .i64 zu)) (g) #[.int .i64 xu, .int .i64 yu, .int .i64 zu] 92 := zn.set 2 _
      have pt := ((((Pt.refl g w9).set 0 (.int .i64 xu)).set 1 (.int .i64 yu)).set 2 (.int .i64 zu))
      have m0 := io.c (i := 0) rfl
      have f0 := io.f 0
      have m1 := io.c (i := 1) rfl
      have f1 := io.f 1
      have m2 := io.c (i := 2) rfl
      have f2 := io.f 2
      clear io
      exact ⟨_, (by generalize (oF 55 T).eval = rr at *; simp [execOp, go_sem, e0, e1, m0, f0, m1, f1, m2, f2] : _ = Result.ok Next.skip (((w9.setCell ⟨g, 0, none⟩ (.int .i64 xu)).setCell ⟨g, 1, none⟩ (.int .i64 yu)).setCell ⟨g, 2, none⟩ (.int .i64 zu))), zn, pt⟩
    · refine .store _ (.inr rfl) rfl rfl ?_ (fun _ _ => trivial)
      intro T w9 g hD hO hT io
      have d0 := hD.1
      have d1 := hD.2.1
      have e0 : (oF 55 T).eval (.tmp 8) = .pointer (some ⟨g, 0, none⟩) := (oF_eval (by decide)).trans hT
      have e1 : (oF 55 T).eval (.tmp 21) = .agg #[.int .i64 du, .int .i64 dv, .int .i64 dw] := (oF_eval (by decide)).trans (show T 21 = _ from d1)
      have zn := io
      replace zn : Is (w9.setCell ⟨g, 0, none⟩ (.int .i64 du)) (g) #[.int .i64 du, .int .i64 0, .int .i64 0] 92 := zn.set 0 _
      replace zn : Is ((w9.setCell ⟨g, 0, none⟩ (.int .i64 du)).setCell ⟨g, 1, none⟩ (.int .i64 dv)) (g) #[.int .i64 du, .int .i64 dv, .int .i64 0] 92 := zn.set 1 _
      replace zn : Is (((w9.setCell ⟨g, 0, none⟩ (.int .i64 du)).setCell ⟨g, 1, none⟩ (.int .i64 dv)).setCell ⟨g, 2, none⟩ (.int .i64 dw)) (g) #[.int .i64 du, .int .i64 dv, .int .i64 dw] 92 := zn.set 2 _
      have pt := ((((Pt.refl g w9).set 0 (.int .i64 du)).set 1 (.int .i64 dv)).set 2 (.int .i64 dw))
      have m0 := io.c (i := 0) rfl
      have f0 := io.f 0
      have m1 := io.c (i := 1) rfl
      have f1 := io.f 1
      have m2 := io.c (i := 2) rfl
      have f2 := io.f 2
      clear io
      exact ⟨_, (by generalize (oF 55 T).eval = rr at *; simp [execOp, go_sem, e0, e1, m0, f0, m1, f1, m2, f2] : _ = Result.ok Next.skip (((w9.setCell ⟨g, 0, none⟩ (.int .i64 du)).setCell ⟨g, 1, none⟩ (.int .i64 dv)).setCell ⟨g, 2, none⟩ (.int .i64 dw))), zn, pt⟩
  case fin =>
    intro T w2 hout hval hG hp hq hne
    have s2 := hG.2.2.2.1
    simp only [World.size_drew] at s2
    rw [show oF 55 T = (⟨#[T 0, T 1, T 2, T 3, T 4, T 5, T 6, T 7, T 8, T 9, T 10, T 11, T 12, T 13, T 14, T 15, T 16, T 17, T 18, T 19, T 20, T 21, T 22, T 23, T 24, T 25, T 26, T 27, T 28, T 29, T 30, T 31, T 32, T 33, T 34, T 35, T 36, T 37, T 38, T 39, T 40, T 41, T 42, T 43, T 44, T 45, T 46, T 47, T 48, T 49, T 50, T 51, T 52, T 53, T 54], []⟩ : Act) from oF_list 55 T]
    rw [show T 0 = .agg #[.string nu, .int .i64 ku, .int .i64 au, .int .i64 xu, .int .i64 yu, .int .i64 zu, .int .i64 lou, .int .i64 hiu, .slice fpu flu fcu] from hout 0 rfl]
    rw [show T 1 = .agg #[.int .i64 du, .int .i64 dv, .int .i64 dw] from hout 1 rfl]
    rw [show T 2 = .pointer (some ⟨w.heap.size, 0, none⟩) from hout 2 rfl]
    rw [show T 3 = .pointer (some ⟨w.heap.size + 1, 0, none⟩) from hout 3 rfl]
    rw [show T 4 = .pointer (some ⟨w.heap.size + 1 + 1, 0, none⟩) from hout 4 rfl]
    rw [show T 5 = .int .i64 0 from hout 5 rfl]
    rw [show T 6 = .int .i64 r1 from hout 6 rfl]
    rw [show T 11 = .agg #[.string nu, .int .i64 ku, .int .i64 au, .int .i64 xu, .int .i64 yu, .int .i64 zu, .int .i64 lou, .int .i64 hiu, .slice fpu flu fcu] from hout 11 rfl]
    rw [show T 12 = .int .i64 r1 from hout 12 rfl]
    rw [show T 13 = .int .i64 r1 from hout 13 rfl]
    rw [show T 14 = .bool false from hout 14 rfl]
    replace b1 := b1.kx hG (by simp)
    replace b2 := b2.kx hG (by simp)
    replace b3 := b3.kx hG (by simp)
    replace kx := (show Kb _ _ from kx.drew).trans hG.nil
    obtain ⟨g2x, eg2x, hg2x, b4⟩ := hp
    replace eg2x : T 7 = _ := eg2x
    rw [eg2x]
    obtain ⟨g2y, eg2y, hg2y, b5⟩ := hq
    replace eg2y : T 8 = _ := eg2y
    rw [eg2y]
    have d2 : g2x ≠ g2y := fun e => hne (show T 7 = T 8 by rw [eg2x, eg2y, e])
    clear hout hval hG hne eg2x eg2y
    go_wp2_with fail
    refine wp_loop_rounds 4 ?_
    rw [rounds_succ]
    have f11 := b5.c (i := 0) rfl
    go_wp2_with fail
    clear f11
    (with_reducible refine ((Ca.o (rIn du) _)).mono ?_)
    rintro r w3 ⟨rfl, k3⟩
    replace b1 := b1.kb k3
    replace b2 := b2.kb k3
    replace b3 := b3.kb k3
    replace b4 := b4.kb k3
    replace b5 := b5.kb k3
    replace kx := kx.trans k3
    have s3 := k3.size
    skip
    clear k3
    go_wp2_with fail
    rw [rounds_succ]
    have f12 := b5.c (i := 1) rfl
    go_wp2_with fail
    clear f12
    (with_reducible refine ((Ca.o (rIn dv) _)).mono ?_)
    rintro r w4 ⟨rfl, k4⟩
    replace b1 := b1.kb k4
    replace b2 := b2.kb k4
    replace b3 := b3.kb k4
    replace b4 := b4.kb k4
    replace b5 := b5.kb k4
    replace kx := kx.trans k4
    have s4 := k4.size
    skip
    clear k4
    go_wp2_with fail
    rw [rounds_succ]
    have f13 := b5.c (i := 2) rfl
    go_wp2_with fail
    clear f13
    (with_reducible refine ((Ca.o (rIn dw) _)).mono ?_)
    rintro r w5 ⟨rfl, k5⟩
    replace b1 := b1.kb k5
    replace b2 := b2.kb k5
    replace b3 := b3.kb k5
    replace b4 := b4.kb k5
    replace b5 := b5.kb k5
    replace kx := kx.trans k5
    have s5 := k5.size
    skip
    clear k5
    go_wp2_with fail
    rw [rounds_succ]
    go_wp2_with fail
    refine wp_loop_rounds 3 ?_
    rw [rounds_succ]
    go_wp2_with fail
    replace b1 := b1.drew
    replace b2 := b2.drew
    replace b3 := b3.drew
    replace b4 := b4.drew
    replace b5 := b5.drew
    have yb1_0 := b1.c (i := 0) rfl
    have yb1_1 := b1.c (i := 1) rfl
    have yb1_2 := b1.c (i := 2) rfl
    have yb1_3 := b1.c (i := 3) rfl
    have yb1_4 := b1.c (i := 4) rfl
    have yb1_5 := b1.c (i := 5) rfl
    have yb1_6 := b1.c (i := 6) rfl
    have yb1_7 := b1.c (i := 7) rfl
    have yb1_8 := b1.c (i := 8) rfl
    have yb2_0 := b2.c (i := 0) rfl
    have yb2_1 := b2.c (i := 1) rfl
    have yb2_2 := b2.c (i := 2) rfl
    have yb3_0 := b3.c (i := 0) rfl
    have yb3_1 := b3.c (i := 1) rfl
    have yb3_2 := b3.c (i := 2) rfl
    have yb3_3 := b3.c (i := 3) rfl
    have yb3_4 := b3.c (i := 4) rfl
    have yb3_5 := b3.c (i := 5) rfl
    have yb3_6 := b3.c (i := 6) rfl
    have yb3_7 := b3.c (i := 7) rfl
    have yb3_8 := b3.c (i := 8) rfl
    have yb4_0 := b4.c (i := 0) rfl
    have yb4_1 := b4.c (i := 1) rfl
    have yb4_2 := b4.c (i := 2) rfl
    have yb5_0 := b5.c (i := 0) rfl
    have yb5_1 := b5.c (i := 1) rfl
    have yb5_2 := b5.c (i := 2) rfl
    go_still_tail 9, (by kernel_rfl)
    clear yb1_0 yb1_1 yb1_2 yb1_3 yb1_4 yb1_5 yb1_6 yb1_7 yb1_8 yb2_0 yb2_1 yb2_2 yb3_0 yb3_1 yb3_2 yb3_3 yb3_4 yb3_5 yb3_6 yb3_7 yb3_8 yb4_0 yb4_1 yb4_2 yb5_0 yb5_1 yb5_2
    change wpList _ _ _ _ _ w5.drew
    have s6 : w5.heap.size ≤ w5.drew.heap.size := Nat.le_refl _
    replace kx := kx.drew
    generalize w5.drew = w6 at *
    have f14 := b4.c (i := 0) rfl
    have f15 := b5.c (i := 0) rfl
    have f16 := b4.f 0
    have j17 := (b4.set 0 (.int .i64 z2))
    have f18 := j17.c (i := 0) rfl
    go_wp2_with fail
    clear f14 f15 f16 f18
    replace b1 := (b1.far (p := ⟨g2x, 0, none⟩) (show w.heap.size ≠ g2x by omega) (.int .i64 z2))
    replace b2 := (b2.far (p := ⟨g2x, 0, none⟩) (show w.heap.size + 1 ≠ g2x by omega) (.int .i64 z2))
    replace b3 := (b3.far (p := ⟨g2x, 0, none⟩) (show w.heap.size + 1 + 1 ≠ g2x by omega) (.int .i64 z2))
    replace b4 : Is _ _ #[.int .i64 z2, .int .i64 yu, .int .i64 zu] _ := b4.set 0 (.int .i64 z2)
    replace b5 := (b5.far (p := ⟨g2x, 0, none⟩) (show g2y ≠ g2x by omega) (.int .i64 z2))
    replace kx := kx.setCell (p := ⟨g2x, 0, none⟩) (show w.heap.size ≤ g2x by omega) (.int .i64 z2)
    clear j17
    (with_reducible refine ((Ca.o (rIn z2) _)).mono ?_)
    rintro r w7 ⟨rfl, k7⟩
    replace b1 := b1.kb k7
    replace b2 := b2.kb k7
    replace b3 := b3.kb k7
    replace b4 := b4.kb k7
    replace b5 := b5.kb k7
    replace kx := kx.trans k7
    have s7 := k7.size
    simp only [World.size_setCell] at s7
    clear k7
    go_wp2_with fail
    rw [rounds_succ]
    go_wp2_with fail
    replace b1 := b1.drew
    replace b2 := b2.drew
    replace b3 := b3.drew
    replace b4 := b4.drew
    replace b5 := b5.drew
    have yb1_0 := b1.c (i := 0) rfl
    have yb1_1 := b1.c (i := 1) rfl
    have yb1_2 := b1.c (i := 2) rfl
    have yb1_3 := b1.c (i := 3) rfl
    have yb1_4 := b1.c (i := 4) rfl
    have yb1_5 := b1.c (i := 5) rfl
    have yb1_6 := b1.c (i := 6) rfl
    have yb1_7 := b1.c (i := 7) rfl
    have yb1_8 := b1.c (i := 8) rfl
    have yb2_0 := b2.c (i := 0) rfl
    have yb2_1 := b2.c (i := 1) rfl
    have yb2_2 := b2.c (i := 2) rfl
    have yb3_0 := b3.c (i := 0) rfl
    have yb3_1 := b3.c (i := 1) rfl
    have yb3_2 := b3.c (i := 2) rfl
    have yb3_3 := b3.c (i := 3) rfl
    have yb3_4 := b3.c (i := 4) rfl
    have yb3_5 := b3.c (i := 5) rfl
    have yb3_6 := b3.c (i := 6) rfl
    have yb3_7 := b3.c (i := 7) rfl
    have yb3_8 := b3.c (i := 8) rfl
    have yb4_0 := b4.c (i := 0) rfl
    have yb4_1 := b4.c (i := 1) rfl
    have yb4_2 := b4.c (i := 2) rfl
    have yb5_0 := b5.c (i := 0) rfl
    have yb5_1 := b5.c (i := 1) rfl
    have yb5_2 := b5.c (i := 2) rfl
    go_still_tail 9, (by kernel_rfl)
    clear yb1_0 yb1_1 yb1_2 yb1_3 yb1_4 yb1_5 yb1_6 yb1_7 yb1_8 yb2_0 yb2_1 yb2_2 yb3_0 yb3_1 yb3_2 yb3_3 yb3_4 yb3_5 yb3_6 yb3_7 yb3_8 yb4_0 yb4_1 yb4_2 yb5_0 yb5_1 yb5_2
    change wpList _ _ _ _ _ w7.drew
    have s8 : w7.heap.size ≤ w7.drew.heap.size := Nat.le_refl _
    replace kx := kx.drew
    generalize w7.drew = w8 at *
    have f19 := b4.c (i := 1) rfl
    have f20 := b5.c (i := 1) rfl
    have f21 := b4.f 1
    have j22 := (b4.set 1 (.int .i64 z3))
    have f23 := j22.c (i := 1) rfl
    go_wp2_with fail
    clear f19 f20 f21 f23
    replace b1 := (b1.far (p := ⟨g2x, 1, none⟩) (show w.heap.size ≠ g2x by omega) (.int .i64 z3))
    replace b2 := (b2.far (p := ⟨g2x, 1, none⟩) (show w.heap.size + 1 ≠ g2x by omega) (.int .i64 z3))
    replace b3 := (b3.far (p := ⟨g2x, 1, none⟩) (show w.heap.size + 1 + 1 ≠ g2x by omega) (.int .i64 z3))
    replace b4 : Is _ _ #[.int .i64 z2, .int .i64 z3, .int .i64 zu] _ := b4.set 1 (.int .i64 z3)
    replace b5 := (b5.far (p := ⟨g2x, 1, none⟩) (show g2y ≠ g2x by omega) (.int .i64 z3))
    replace kx := kx.setCell (p := ⟨g2x, 1, none⟩) (show w.heap.size ≤ g2x by omega) (.int .i64 z3)
    clear j22
    (with_reducible refine ((Ca.o (rIn z3) _)).mono ?_)
    rintro r w9 ⟨rfl, k9⟩
    replace b1 := b1.kb k9
    replace b2 := b2.kb k9
    replace b3 := b3.kb k9
    replace b4 := b4.kb k9
    replace b5 := b5.kb k9
    replace kx := kx.trans k9
    have s9 := k9.size
    simp only [World.size_setCell] at s9
    clear k9
    go_wp2_with fail
    rw [rounds_succ]
    go_wp2_with fail
    replace b1 := b1.drew
    replace b2 := b2.drew
    replace b3 := b3.drew
    replace b4 := b4.drew
    replace b5 := b5.drew
    have yb1_0 := b1.c (i := 0) rfl
    have yb1_1 := b1.c (i := 1) rfl
    have yb1_2 := b1.c (i := 2) rfl
    have yb1_3 := b1.c (i := 3) rfl
    have yb1_4 := b1.c (i := 4) rfl
    have yb1_5 := b1.c (i := 5) rfl
    have yb1_6 := b1.c (i := 6) rfl
    have yb1_7 := b1.c (i := 7) rfl
    have yb1_8 := b1.c (i := 8) rfl
    have yb2_0 := b2.c (i := 0) rfl
    have yb2_1 := b2.c (i := 1) rfl
    have yb2_2 := b2.c (i := 2) rfl
    have yb3_0 := b3.c (i := 0) rfl
    have yb3_1 := b3.c (i := 1) rfl
    have yb3_2 := b3.c (i := 2) rfl
    have yb3_3 := b3.c (i := 3) rfl
    have yb3_4 := b3.c (i := 4) rfl
    have yb3_5 := b3.c (i := 5) rfl
    have yb3_6 := b3.c (i := 6) rfl
    have yb3_7 := b3.c (i := 7) rfl
    have yb3_8 := b3.c (i := 8) rfl
    have yb4_0 := b4.c (i := 0) rfl
    have yb4_1 := b4.c (i := 1) rfl
    have yb4_2 := b4.c (i := 2) rfl
    have yb5_0 := b5.c (i := 0) rfl
    have yb5_1 := b5.c (i := 1) rfl
    have yb5_2 := b5.c (i := 2) rfl
    go_still_tail 9, (by kernel_rfl)
    clear yb1_0 yb1_1 yb1_2 yb1_3 yb1_4 yb1_5 yb1_6 yb1_7 yb1_8 yb2_0 yb2_1 yb2_2 yb3_0 yb3_1 yb3_2 yb3_3 yb3_4 yb3_5 yb3_6 yb3_7 yb3_8 yb4_0 yb4_1 yb4_2 yb5_0 yb5_1 yb5_2
    change wpList _ _ _ _ _ w9.drew
    have s10 : w9.heap.size ≤ w9.drew.heap.size := Nat.le_refl _
    replace kx := kx.drew
    generalize w9.drew = w10 at *
    have f24 := b4.c (i := 2) rfl
    have f25 := b5.c (i := 2) rfl
    have f26 := b4.f 2
    have j27 := (b4.set 2 (.int .i64 z4))
    have f28 := j27.c (i := 2) rfl
    go_wp2_with fail
    clear f24 f25 f26 f28
    replace b1 := (b1.far (p := ⟨g2x, 2, none⟩) (show w.heap.size ≠ g2x by omega) (.int .i64 z4))
    replace b2 := (b2.far (p := ⟨g2x, 2, none⟩) (show w.heap.size + 1 ≠ g2x by omega) (.int .i64 z4))
    replace b3 := (b3.far (p := ⟨g2x, 2, none⟩) (show w.heap.size + 1 + 1 ≠ g2x by omega) (.int .i64 z4))
    replace b4 : Is _ _ #[.int .i64 z2, .int .i64 z3, .int .i64 z4] _ := b4.set 2 (.int .i64 z4)
    replace b5 := (b5.far (p := ⟨g2x, 2, none⟩) (show g2y ≠ g2x by omega) (.int .i64 z4))
    replace kx := kx.setCell (p := ⟨g2x, 2, none⟩) (show w.heap.size ≤ g2x by omega) (.int .i64 z4)
    clear j27
    (with_reducible refine ((Ca.o (rIn z4) _)).mono ?_)
    rintro r w11 ⟨rfl, k11⟩
    replace b1 := b1.kb k11
    replace b2 := b2.kb k11
    replace b3 := b3.kb k11
    replace b4 := b4.kb k11
    replace b5 := b5.kb k11
    replace kx := kx.trans k11
    have s11 := k11.size
    simp only [World.size_setCell] at s11
    clear k11
    have f29 := b3.c (i := 0) rfl
    have f30 := b3.f 0
    have f31 := b3.c (i := 1) rfl
    have f32 := b3.f 1
    have f33 := b3.c (i := 2) rfl
    have f34 := b3.f 2
    have f35 := b3.c (i := 3) rfl
    have f36 := b3.f 3
    have f37 := b3.c (i := 4) rfl
    have f38 := b3.f 4
    have f39 := b3.c (i := 5) rfl
    have f40 := b3.f 5
    have f41 := b3.c (i := 6) rfl
    have f42 := b3.f 6
    have f43 := b3.c (i := 7) rfl
    have f44 := b3.f 7
    have f45 := b3.c (i := 8) rfl
    have f46 := b3.f 8
    go_wp2
    clear f29 f30 f31 f32 f33 f34 f35 f36 f37 f38 f39 f40 f41 f42 f43 f44 f45 f46
    replace b3 : Is _ _ #[.string ⟨#[]⟩, .int .i64 0, .int .i64 0, .int .i64 0, .int .i64 0, .int .i64 0, .int .i64 0, .int .i64 0, .slice none 0 0] _ := b3.set 0 (.string ⟨#[]⟩)
    replace b3 : Is _ _ #[.string ⟨#[]⟩, .int .i64 0, .int .i64 0, .int .i64 0, .int .i64 0, .int .i64 0, .int .i64 0, .int .i64 0, .slice none 0 0] _ := b3.set 1 (.int .i64 0)
    replace b3 : Is _ _ #[.string ⟨#[]⟩, .int .i64 0, .int .i64 0, .int .i64 0, .int .i64 0, .int .i64 0, .int .i64 0, .int .i64 0, .slice none 0 0] _ := b3.set 2 (.int .i64 0)
    replace b3 : Is _ _ #[.string ⟨#[]⟩, .int .i64 0, .int .i64 0, .int .i64 0, .int .i64 0, .int .i64 0, .int .i64 0, .int .i64 0, .slice none 0 0] _ := b3.set 3 (.int .i64 0)
    replace b3 : Is _ _ #[.string ⟨#[]⟩, .int .i64 0, .int .i64 0, .int .i64 0, .int .i64 0, .int .i64 0, .int .i64 0, .int .i64 0, .slice none 0 0] _ := b3.set 4 (.int .i64 0)
    replace b3 : Is _ _ #[.string ⟨#[]⟩, .int .i64 0, .int .i64 0, .int .i64 0, .int .i64 0, .int .i64 0, .int .i64 0, .int .i64 0, .slice none 0 0] _ := b3.set 5 (.int .i64 0)
    replace b3 : Is _ _ #[.string ⟨#[]⟩, .int .i64 0, .int .i64 0, .int .i64 0, .int .i64 0, .int .i64 0, .int .i64 0, .int .i64 0, .slice none 0 0] _ := b3.set 6 (.int .i64 0)
    replace b3 : Is _ _ #[.string ⟨#[]⟩, .int .i64 0, .int .i64 0, .int .i64 0, .int .i64 0, .int .i64 0, .int .i64 0, .int .i64 0, .slice none 0 0] _ := b3.set 7 (.int .i64 0)
    replace b3 : Is _ _ #[.string ⟨#[]⟩, .int .i64 0, .int .i64 0, .int .i64 0, .int .i64 0, .int .i64 0, .int .i64 0, .int .i64 0, .slice none 0 0] _ := b3.set 8 (.slice none 0 0)
    replace kx := ((((((((kx.setCell (p := ⟨w.heap.size + 1 + 1, 0, none⟩) (show w.heap.size ≤ w.heap.size + 1 + 1 by omega) (.string ⟨#[]⟩)).setCell (p := ⟨w.heap.size + 1 + 1, 1, none⟩) (show w.heap.size ≤ w.heap.size + 1 + 1 by omega) (.int .i64 0)).setCell (p := ⟨w.heap.size + 1 + 1, 2, none⟩) (show w.heap.size ≤ w.heap.size + 1 + 1 by omega) (.int .i64 0)).setCell (p := ⟨w.heap.size + 1 + 1, 3, none⟩) (show w.heap.size ≤ w.heap.size + 1 + 1 by omega) (.int .i64 0)).setCell (p := ⟨w.heap.size + 1 + 1, 4, none⟩) (show w.heap.size ≤ w.heap.size + 1 + 1 by omega) (.int .i64 0)).setCell (p := ⟨w.heap.size + 1 + 1, 5, none⟩) (show w.heap.size ≤ w.heap.size + 1 + 1 by omega) (.int .i64 0)).setCell (p := ⟨w.heap.size + 1 + 1, 6, none⟩) (show w.heap.size ≤ w.heap.size + 1 + 1 by omega) (.int .i64 0)).setCell (p := ⟨w.heap.size + 1 + 1, 7, none⟩) (show w.heap.size ≤ w.heap.size + 1 + 1 by omega) (.int .i64 0)).setCell (p := ⟨w.heap.size + 1 + 1, 8, none⟩) (show w.heap.size ≤ w.heap.size + 1 + 1 by omega) (.slice none 0 0)
    refine ret_row2 Tryd.results25 rfl rfl rfl b3 Tryd.underlying28 rfl (by kernel_rfl) ?_
    exact ⟨rfl, kx⟩
set_option maxRecDepth 100000 in
set_option maxHeartbeats 4000000 in
theorem rMove_4 (nu : ByteArray) (ku : Int) (au : Int) (xu : Int) (yu : Int) (zu : Int) (lou : Int) (hiu : Int) (fpu : Option Addr) (flu : Nat) (fcu : Nat) (du : Int) (dv : Int) (dw : Int) (r1 : Int) (z2 : Int) (z3 : Int) (a1 : wrap64 (xu + du) = z2) (a2 : wrap64 (yu + dv) = z3) (q1 : Ca 19 #[.agg #[.string nu, .int .i64 ku, .int .i64 au, .int .i64 xu, .int .i64 yu, .int .i64 zu, .int .i64 lou, .int .i64 hiu, .slice fpu flu fcu]] (.int .i64 r1))  (h1 : (r1 != 0) = false) (h2 : (inR du) = true) (h3 : (inR dv) = true) (h4 : (inR dw) = true) (h5 : (inR z2) = true) (h6 : (inR z3) = false) (w : World)  : Calls Tryd.prog 25 #[.agg #[.string nu, .int .i64 ku, .int .i64 au, .int .i64 xu, .int .i64 yu, .int .i64 zu, .int .i64 lou, .int .i64 hiu, .slice fpu flu fcu], .agg #[.int .i64 du, .int .i64 dv, .int .i64 dw]] w fun r W' => r = .returned (.tuple #[.agg #[.string ⟨#[]⟩, .int .i64 0, .int .i64 0, .int .i64 0, .int .i64 0, .int .i64 0, .int .i64 0, .int .i64 0, .slice none 0 0], .int .i64 2]) ∧ Kb w W' := by
  have kx := Kb.refl w
  unfold Ca at q1
  have a1' : IntKind.i64.wrap (xu + du) = z2 := (Go.IntWalk.i64_left _).trans a1
  have a2' : IntKind.i64.wrap (yu + dv) = z3 := (Go.IntWalk.i64_left _).trans a2
  have j1 := (((Is.made w #[.string nu, .int .i64 ku, .int .i64 au, .int .i64 xu, .int .i64 yu, .int .i64 zu, .int .i64 lou, .int .i64 hiu, .slice fpu flu fcu] 28).alloc (.cells #[.int .i64 du, .int .i64 dv, .int .i64 dw] 23 (0, 0))).alloc (.cells #[.string ⟨#[]⟩, .int .i64 0, .int .i64 0, .int .i64 0, .int .i64 0, .int .i64 0, .int .i64 0, .int .i64 0, .slice none 0 0] 28 (0, 0)))
  have f2 := j1.c (i := 0) rfl
  have f3 := j1.c (i := 1) rfl
  have f4 := j1.c (i := 2) rfl
  have f5 := j1.c (i := 3) rfl
  have f6 := j1.c (i := 4) rfl
  have f7 := j1.c (i := 5) rfl
  have f8 := j1.c (i := 6) rfl
  have f9 := j1.c (i := 7) rfl
  have f10 := j1.c (i := 8) rfl
  go_enter Tryd.func25, Tryd.ntmps25
  go_wp2_with fail
  clear f2 f3 f4 f5 f6 f7 f8 f9 f10
  have b1 := j1
  have b2 := Is.made (w.alloc (.cells #[.string nu, .int .i64 ku, .int .i64 au, .int .i64 xu, .int .i64 yu, .int .i64 zu, .int .i64 lou, .int .i64 hiu, .slice fpu flu fcu] 28 (0, 0))) #[.int .i64 du, .int .i64 dv, .int .i64 dw] 23
  simp only [World.size_alloc] at b2
  replace b2 := (b2.alloc (.cells #[.string ⟨#[]⟩, .int .i64 0, .int .i64 0, .int .i64 0, .int .i64 0, .int .i64 0, .int .i64 0, .int .i64 0, .slice none 0 0] 28 (0, 0)))
  have b3 := Is.made ((w.alloc (.cells #[.string nu, .int .i64 ku, .int .i64 au, .int .i64 xu, .int .i64 yu, .int .i64 zu, .int .i64 lou, .int .i64 hiu, .slice fpu flu fcu] 28 (0, 0))).alloc (.cells #[.int .i64 du, .int .i64 dv, .int .i64 dw] 23 (0, 0))) #[.string ⟨#[]⟩, .int .i64 0, .int .i64 0, .int .i64 0, .int .i64 0, .int .i64 0, .int .i64 0, .int .i64 0, .slice none 0 0] 28
  simp only [World.size_alloc] at b3
  replace kx := ((kx.alloc (.cells #[.string nu, .int .i64 ku, .int .i64 au, .int .i64 xu, .int .i64 yu, .int .i64 zu, .int .i64 lou, .int .i64 hiu, .slice fpu flu fcu] 28 (0, 0))).alloc (.cells #[.int .i64 du, .int .i64 dv, .int .i64 dw] 23 (0, 0))).alloc (.cells #[.string ⟨#[]⟩, .int .i64 0, .int .i64 0, .int .i64 0, .int .i64 0, .int .i64 0, .int .i64 0, .int .i64 0, .slice none 0 0] 28 (0, 0))
  clear j1
  (with_reducible refine (((q1).out _)).mono ?_)
  rintro r w1 ⟨rfl, k1⟩
  replace b1 := b1.kb k1
  replace b2 := b2.kb k1
  replace b3 := b3.kb k1
  replace kx := kx.trans k1
  have s1 := k1.size
  simp only [World.size_alloc] at s1
  clear k1
  go_wp2_with fail
  replace b1 := b1.drew
  replace b2 := b2.drew
  replace b3 := b3.drew
  rw [oF_lit]
  refine o_law2 (⟨55, [some 17, some 18, some 19, some 20, some 21, some 7, some 8, none, none], [17, 18, 19, 20, 21, 7, 8, 7, 8], [[], [0], [1], [], [3], [], [], [5, 2], [6, 4]], [[2], [], [], [3], [], [], [], [], []]⟩ : OT) (RL [fun vv _ => vv = .pointer (some ⟨w.heap.size, 3, none⟩), fun vv _ => vv = .agg #[.int .i64 xu, .int .i64 yu, .int .i64 zu], fun vv _ => vv = .agg #[.int .i64 xu, .int .i64 yu, .int .i64 zu], fun vv _ => vv = .agg #[.int .i64 du, .int .i64 dv, .int .i64 dw], fun vv _ => vv = .agg #[.int .i64 du, .int .i64 dv, .int .i64 dw], fun _ _ => True, fun _ _ => True, fun _ _ => True, fun _ _ => True]) ⟨5, 7, 7, #[.int .i64 0, .int .i64 0, .int .i64 0], #[.int .i64 xu, .int .i64 yu, .int .i64 zu], 92⟩ ⟨6, 8, 8, #[.int .i64 0, .int .i64 0, .int .i64 0], #[.int .i64 du, .int .i64 dv, .int .i64 dw], 92⟩ (by kernel_rfl) (by kernel_rfl) (by kernel_rfl) (rl_free ⟨(fun _ _ _ h => h), (fun _ _ _ h => h), (fun _ _ _ h => h), (fun _ _ _ h => h), (fun _ _ _ h => h), (fun _ _ _ h => h), (fun _ _ _ h => h), (fun _ _ _ h => h), (fun _ _ _ h => h), trivial⟩) ?hR ?fin
  case hR =>
    refine allO_cons ?_ (allO_cons ?_ (allO_cons ?_ (allO_cons ?_ (allO_cons ?_ (allO_cons ?_ (allO_cons ?_ (allO_cons ?_ (allO_cons ?_ (allO_nil)))))))))
    · refine .val (by kernel_rfl) ?_
      intro T w9 hG hD hO Q
      have q0 := hO.1
      have e0 : (oF 55 T).eval (.tmp 2) = .pointer (some ⟨w.heap.size, 0, none⟩) := (oF_eval (by decide)).trans (show T 2 = _ from q0)
      refine og_none rfl ?_
      exact o_val (v := .pointer (some ⟨w.heap.size, 3, none⟩)) (w' := w9) (by generalize (oF 55 T).eval = rr at *; simp [execOp, go_sem, e0]) rfl rfl (Kb.refl _)
    · refine .val (by kernel_rfl) ?_
      intro T w9 hG hD hO Q
      have d0 := hD.1
      have e0 : (oF 55 T).eval (.tmp 17) = .pointer (some ⟨w.heap.size, 3, none⟩) := (oF_eval (by decide)).trans (show T 17 = _ from d0)
      refine og_none rfl ?_
      have im := b1.kx hG (by simp)
      have m0 := im.c (i := 3) rfl
      have m1 := im.c (i := 4) rfl
      have m2 := im.c (i := 5) rfl
      clear im
      exact o_val (v := .agg #[.int .i64 xu, .int .i64 yu, .int .i64 zu]) (w' := w9) (by generalize (oF 55 T).eval = rr at *; simp [execOp, go_sem, e0, m0, m1, m2]) rfl rfl (Kb.refl _)
    · refine .val (by kernel_rfl) ?_
      intro T w9 hG hD hO Q
      have d0 := hD.1
      have e0 : (oF 55 T).eval (.func 61) = .func (.func 61) #[] #[] := rfl
      have e1 : (oF 55 T).eval (.tmp 18) = .agg #[.int .i64 xu, .int .i64 yu, .int .i64 zu] := (oF_eval (by decide)).trans (show T 18 = _ from d0)
      refine og_none rfl ?_
      refine o_call (oc1 (enters_of Tryd.func61 (by kernel_rfl) rfl) rfl rfl e1) rfl ?_
      exact (Ca.o (rCoords xu yu zu) w9).mono fun r W' h => ⟨_, h.1, rfl, h.2⟩
    · refine .val (by kernel_rfl) ?_
      intro T w9 hG hD hO Q
      have q0 := hO.1
      have e0 : (oF 55 T).eval (.tmp 3) = .pointer (some ⟨w.heap.size + 1, 0, none⟩) := (oF_eval (by decide)).trans (show T 3 = _ from q0)
      refine og_none rfl ?_
      have im := b2.kx hG (by simp)
      have m0 := im.c (i := 0) rfl
      have m1 := im.c (i := 1) rfl
      have m2 := im.c (i := 2) rfl
      clear im
      exact o_val (v := .agg #[.int .i64 du, .int .i64 dv, .int .i64 dw]) (w' := w9) (by generalize (oF 55 T).eval = rr at *; simp [execOp, go_sem, e0, m0, m1, m2]) rfl rfl (Kb.refl _)
    · refine .val (by kernel_rfl) ?_
      intro T w9 hG hD hO Q
      have d0 := hD.1
      have e0 : (oF 55 T).eval (.func 61) = .func (.func 61) #[] #[] := rfl
      have e1 : (oF 55 T).eval (.tmp 20) = .agg #[.int .i64 du, .int .i64 dv, .int .i64 dw] := (oF_eval (by decide)).trans (show T 20 = _ from d0)
      refine og_none rfl ?_
      refine o_call (oc1 (enters_of Tryd.func61 (by kernel_rfl) rfl) rfl rfl e1) rfl ?_
      exact (Ca.o (rCoords du dv dw) w9).mono fun r W' h => ⟨_, h.1, rfl, h.2⟩
    · refine .alloc _ (.inl rfl) rfl rfl (fun T w9 => ?_) (fun _ _ => trivial)
      simp [execOp, go_sem]
    · refine .alloc _ (.inr rfl) rfl rfl (fun T w9 => ?_) (fun _ _ => trivial)
      simp [execOp, go_sem]
    · refine .store _ (.inl rfl) rfl rfl ?_ (fun _ _ => trivial)
      intro T w9 g hD hO hT io
      have d0 := hD.1
      have d1 := hD.2.1
      have e0 : (oF 55 T).eval (.tmp 7) = .pointer (some ⟨g, 0, none⟩) := (oF_eval (by decide)).trans hT
      have e1 : (oF 55 T).eval (.tmp 19) = .agg #[.int .i64 xu, .int .i64 yu, .int .i64 zu] := (oF_eval (by decide)).trans (show T 19 = _ from d1)
      have zn := io
      replace zn : Is (w9.setCell ⟨g, 0, none⟩ (.int .i64 xu)) (g) #[.int .i64 xu, .int .i64 0, .int .i64 0] 92 := zn.set 0 _
      replace zn : Is ((w9.setCell ⟨g, 0, none⟩ (.int .i64 xu)).setCell ⟨g, 1, none⟩ (.int .i64 yu)) (g) #[.int .i64 xu, .int .i64 yu, .int .i64 0] 92 := zn.set 1 _
      replace zn : Is (((w9.setCell ⟨g, 0, none⟩ (.int .i64 xu)).setCell ⟨g, 1, none⟩ (.int .i64 yu)).setCell ⟨g, 2, none⟩ (.int .i64 zu)) (g) #[.int .i64 xu, .int .i64 yu, .int .i64 zu] 92 := zn.set 2 _
      have pt := ((((Pt.refl g w9).set 0 (.int .i64 xu)).set 1 (.int .i64 yu)).set 2 (.int .i64 zu))
      have m0 := io.c (i := 0) rfl
      have f0 := io.f 0
      have m1 := io.c (i := 1) rfl
      have f1 := io.f 1
      have m2 := io.c (i := 2) rfl
      have f2 := io.f 2
      clear io
      exact ⟨_, (by generalize (oF 55 T).eval = rr at *; simp [execOp, go_sem, e0, e1, m0, f0, m1, f1, m2, f2] : _ = Result.ok Next.skip (((w9.setCell ⟨g, 0, none⟩ (.int .i64 xu)).setCell ⟨g, 1, none⟩ (.int .i64 yu)).setCell ⟨g, 2, none⟩ (.int .i64 zu))), zn, pt⟩
    · refine .store _ (.inr rfl) rfl rfl ?_ (fun _ _ => trivial)
      intro T w9 g hD hO hT io
      have d0 := hD.1
      have d1 := hD.2.1
      have e0 : (oF 55 T).eval (.tmp 8) = .pointer (some ⟨g, 0, none⟩) := (oF_eval (by decide)).trans hT
      have e1 : (oF 55 T).eval (.tmp 21) = .agg #[.int .i64 du, .int .i64 dv, .int .i64 dw] := (oF_eval (by decide)).trans (show T 21 = _ from d1)
      have zn := io
      replace zn : Is (w9.setCell ⟨g, 0, none⟩ (.int .i64 du)) (g) #[.int .i64 du, .int .i64 0, .int .i64 0] 92 := zn.set 0 _
      replace zn : Is ((w9.setCell ⟨g, 0, none⟩ (.int .i64 du)).setCell ⟨g, 1, none⟩ (.int .i64 dv)) (g) #[.int .i64 du, .int .i64 dv, .int .i64 0] 92 := zn.set 1 _
      replace zn : Is (((w9.setCell ⟨g, 0, none⟩ (.int .i64 du)).setCell ⟨g, 1, none⟩ (.int .i64 dv)).setCell ⟨g, 2, none⟩ (.int .i64 dw)) (g) #[.int .i64 du, .int .i64 dv, .int .i64 dw] 92 := zn.set 2 _
      have pt := ((((Pt.refl g w9).set 0 (.int .i64 du)).set 1 (.int .i64 dv)).set 2 (.int .i64 dw))
      have m0 := io.c (i := 0) rfl
      have f0 := io.f 0
      have m1 := io.c (i := 1) rfl
      have f1 := io.f 1
      have m2 := io.c (i := 2) rfl
      have f2 := io.f 2
      clear io
      exact ⟨_, (by generalize (oF 55 T).eval = rr at *; simp [execOp, go_sem, e0, e1, m0, f0, m1, f1, m2, f2] : _ = Result.ok Next.skip (((w9.setCell ⟨g, 0, none⟩ (.int .i64 du)).setCell ⟨g, 1, none⟩ (.int .i64 dv)).setCell ⟨g, 2, none⟩ (.int .i64 dw))), zn, pt⟩
  case fin =>
    intro T w2 hout hval hG hp hq hne
    have s2 := hG.2.2.2.1
    simp only [World.size_drew] at s2
    rw [show oF 55 T = (⟨#[T 0, T 1, T 2, T 3, T 4, T 5, T 6, T 7, T 8, T 9, T 10, T 11, T 12, T 13, T 14, T 15, T 16, T 17, T 18, T 19, T 20, T 21, T 22, T 23, T 24, T 25, T 26, T 27, T 28, T 29, T 30, T 31, T 32, T 33, T 34, T 35, T 36, T 37, T 38, T 39, T 40, T 41, T 42, T 43, T 44, T 45, T 46, T 47, T 48, T 49, T 50, T 51, T 52, T 53, T 54], []⟩ : Act) from oF_list 55 T]
    rw [show T 0 = .agg #[.string nu, .int .i64 ku, .int .i64 au, .int .i64 xu, .int .i64 yu, .int .i64 zu, .int .i64 lou, .int .i64 hiu, .slice fpu flu fcu] from hout 0 rfl]
    rw [show T 1 = .agg #[.int .i64 du, .int .i64 dv, .int .i64 dw] from hout 1 rfl]
    rw [show T 2 = .pointer (some ⟨w.heap.size, 0, none⟩) from hout 2 rfl]
    rw [show T 3 = .pointer (some ⟨w.heap.size + 1, 0, none⟩) from hout 3 rfl]
    rw [show T 4 = .pointer (some ⟨w.heap.size + 1 + 1, 0, none⟩) from hout 4 rfl]
    rw [show T 5 = .int .i64 0 from hout 5 rfl]
    rw [show T 6 = .int .i64 r1 from hout 6 rfl]
    rw [show T 11 = .agg #[.string nu, .int .i64 ku, .int .i64 au, .int .i64 xu, .int .i64 yu, .int .i64 zu, .int .i64 lou, .int .i64 hiu, .slice fpu flu fcu] from hout 11 rfl]
    rw [show T 12 = .int .i64 r1 from hout 12 rfl]
    rw [show T 13 = .int .i64 r1 from hout 13 rfl]
    rw [show T 14 = .bool false from hout 14 rfl]
    replace b1 := b1.kx hG (by simp)
    replace b2 := b2.kx hG (by simp)
    replace b3 := b3.kx hG (by simp)
    replace kx := (show Kb _ _ from kx.drew).trans hG.nil
    obtain ⟨g2x, eg2x, hg2x, b4⟩ := hp
    replace eg2x : T 7 = _ := eg2x
    rw [eg2x]
    obtain ⟨g2y, eg2y, hg2y, b5⟩ := hq
    replace eg2y : T 8 = _ := eg2y
    rw [eg2y]
    have d2 : g2x ≠ g2y := fun e => hne (show T 7 = T 8 by rw [eg2x, eg2y, e])
    clear hout hval hG hne eg2x eg2y
    go_wp2_with fail
    refine wp_loop_rounds 4 ?_
    rw [rounds_succ]
    have f11 := b5.c (i := 0) rfl
    go_wp2_with fail
    clear f11
    (with_reducible refine ((Ca.o (rIn du) _)).mono ?_)
    rintro r w3 ⟨rfl, k3⟩
    replace b1 := b1.kb k3
    replace b2 := b2.kb k3
    replace b3 := b3.kb k3
    replace b4 := b4.kb k3
    replace b5 := b5.kb k3
    replace kx := kx.trans k3
    have s3 := k3.size
    skip
    clear k3
    go_wp2_with fail
    rw [rounds_succ]
    have f12 := b5.c (i := 1) rfl
    go_wp2_with fail
    clear f12
    (with_reducible refine ((Ca.o (rIn dv) _)).mono ?_)
    rintro r w4 ⟨rfl, k4⟩
    replace b1 := b1.kb k4
    replace b2 := b2.kb k4
    replace b3 := b3.kb k4
    replace b4 := b4.kb k4
    replace b5 := b5.kb k4
    replace kx := kx.trans k4
    have s4 := k4.size
    skip
    clear k4
    go_wp2_with fail
    rw [rounds_succ]
    have f13 := b5.c (i := 2) rfl
    go_wp2_with fail
    clear f13
    (with_reducible refine ((Ca.o (rIn dw) _)).mono ?_)
    rintro r w5 ⟨rfl, k5⟩
    replace b1 := b1.kb k5
    replace b2 := b2.kb k5
    replace b3 := b3.kb k5
    replace b4 := b4.kb k5
    replace b5 := b5.kb k5
    replace kx := kx.trans k5
    have s5 := k5.size
    skip
    clear k5
    go_wp2_with fail
    rw [rounds_succ]
    go_wp2_with fail
    refine wp_loop_rounds 2 ?_
    rw [rounds_succ]
    go_wp2_with fail
    replace b1 := b1.drew
    replace b2 := b2.drew
    replace b3 := b3.drew
    replace b4 := b4.drew
    replace b5 := b5.drew
    have yb1_0 := b1.c (i := 0) rfl
    have yb1_1 := b1.c (i := 1) rfl
    have yb1_2 := b1.c (i := 2) rfl
    have yb1_3 := b1.c (i := 3) rfl
    have yb1_4 := b1.c (i := 4) rfl
    have yb1_5 := b1.c (i := 5) rfl
    have yb1_6 := b1.c (i := 6) rfl
    have yb1_7 := b1.c (i := 7) rfl
    have yb1_8 := b1.c (i := 8) rfl
    have yb2_0 := b2.c (i := 0) rfl
    have yb2_1 := b2.c (i := 1) rfl
    have yb2_2 := b2.c (i := 2) rfl
    have yb3_0 := b3.c (i := 0) rfl
    have yb3_1 := b3.c (i := 1) rfl
    have yb3_2 := b3.c (i := 2) rfl
    have yb3_3 := b3.c (i := 3) rfl
    have yb3_4 := b3.c (i := 4) rfl
    have yb3_5 := b3.c (i := 5) rfl
    have yb3_6 := b3.c (i := 6) rfl
    have yb3_7 := b3.c (i := 7) rfl
    have yb3_8 := b3.c (i := 8) rfl
    have yb4_0 := b4.c (i := 0) rfl
    have yb4_1 := b4.c (i := 1) rfl
    have yb4_2 := b4.c (i := 2) rfl
    have yb5_0 := b5.c (i := 0) rfl
    have yb5_1 := b5.c (i := 1) rfl
    have yb5_2 := b5.c (i := 2) rfl
    go_still_tail 9, (by kernel_rfl)
    clear yb1_0 yb1_1 yb1_2 yb1_3 yb1_4 yb1_5 yb1_6 yb1_7 yb1_8 yb2_0 yb2_1 yb2_2 yb3_0 yb3_1 yb3_2 yb3_3 yb3_4 yb3_5 yb3_6 yb3_7 yb3_8 yb4_0 yb4_1 yb4_2 yb5_0 yb5_1 yb5_2
    change wpList _ _ _ _ _ w5.drew
    have s6 : w5.heap.size ≤ w5.drew.heap.size := Nat.le_refl _
    replace kx := kx.drew
    generalize w5.drew = w6 at *
    have f14 := b4.c (i := 0) rfl
    have f15 := b5.c (i := 0) rfl
    have f16 := b4.f 0
    have j17 := (b4.set 0 (.int .i64 z2))
    have f18 := j17.c (i := 0) rfl
    go_wp2_with fail
    clear f14 f15 f16 f18
    replace b1 := (b1.far (p := ⟨g2x, 0, none⟩) (show w.heap.size ≠ g2x by omega) (.int .i64 z2))
    replace b2 := (b2.far (p := ⟨g2x, 0, none⟩) (show w.heap.size + 1 ≠ g2x by omega) (.int .i64 z2))
    replace b3 := (b3.far (p := ⟨g2x, 0, none⟩) (show w.heap.size + 1 + 1 ≠ g2x by omega) (.int .i64 z2))
    replace b4 : Is _ _ #[.int .i64 z2, .int .i64 yu, .int .i64 zu] _ := b4.set 0 (.int .i64 z2)
    replace b5 := (b5.far (p := ⟨g2x, 0, none⟩) (show g2y ≠ g2x by omega) (.int .i64 z2))
    replace kx := kx.setCell (p := ⟨g2x, 0, none⟩) (show w.heap.size ≤ g2x by omega) (.int .i64 z2)
    clear j17
    (with_reducible refine ((Ca.o (rIn z2) _)).mono ?_)
    rintro r w7 ⟨rfl, k7⟩
    replace b1 := b1.kb k7
    replace b2 := b2.kb k7
    replace b3 := b3.kb k7
    replace b4 := b4.kb k7
    replace b5 := b5.kb k7
    replace kx := kx.trans k7
    have s7 := k7.size
    simp only [World.size_setCell] at s7
    clear k7
    go_wp2_with fail
    rw [rounds_succ]
    go_wp2_with fail
    replace b1 := b1.drew
    replace b2 := b2.drew
    replace b3 := b3.drew
    replace b4 := b4.drew
    replace b5 := b5.drew
    have yb1_0 := b1.c (i := 0) rfl
    have yb1_1 := b1.c (i := 1) rfl
    have yb1_2 := b1.c (i := 2) rfl
    have yb1_3 := b1.c (i := 3) rfl
    have yb1_4 := b1.c (i := 4) rfl
    have yb1_5 := b1.c (i := 5) rfl
    have yb1_6 := b1.c (i := 6) rfl
    have yb1_7 := b1.c (i := 7) rfl
    have yb1_8 := b1.c (i := 8) rfl
    have yb2_0 := b2.c (i := 0) rfl
    have yb2_1 := b2.c (i := 1) rfl
    have yb2_2 := b2.c (i := 2) rfl
    have yb3_0 := b3.c (i := 0) rfl
    have yb3_1 := b3.c (i := 1) rfl
    have yb3_2 := b3.c (i := 2) rfl
    have yb3_3 := b3.c (i := 3) rfl
    have yb3_4 := b3.c (i := 4) rfl
    have yb3_5 := b3.c (i := 5) rfl
    have yb3_6 := b3.c (i := 6) rfl
    have yb3_7 := b3.c (i := 7) rfl
    have yb3_8 := b3.c (i := 8) rfl
    have yb4_0 := b4.c (i := 0) rfl
    have yb4_1 := b4.c (i := 1) rfl
    have yb4_2 := b4.c (i := 2) rfl
    have yb5_0 := b5.c (i := 0) rfl
    have yb5_1 := b5.c (i := 1) rfl
    have yb5_2 := b5.c (i := 2) rfl
    go_still_tail 9, (by kernel_rfl)
    clear yb1_0 yb1_1 yb1_2 yb1_3 yb1_4 yb1_5 yb1_6 yb1_7 yb1_8 yb2_0 yb2_1 yb2_2 yb3_0 yb3_1 yb3_2 yb3_3 yb3_4 yb3_5 yb3_6 yb3_7 yb3_8 yb4_0 yb4_1 yb4_2 yb5_0 yb5_1 yb5_2
    change wpList _ _ _ _ _ w7.drew
    have s8 : w7.heap.size ≤ w7.drew.heap.size := Nat.le_refl _
    replace kx := kx.drew
    generalize w7.drew = w8 at *
    have f19 := b4.c (i := 1) rfl
    have f20 := b5.c (i := 1) rfl
    have f21 := b4.f 1
    have j22 := (b4.set 1 (.int .i64 z3))
    have f23 := j22.c (i := 1) rfl
    go_wp2_with fail
    clear f19 f20 f21 f23
    replace b1 := (b1.far (p := ⟨g2x, 1, none⟩) (show w.heap.size ≠ g2x by omega) (.int .i64 z3))
    replace b2 := (b2.far (p := ⟨g2x, 1, none⟩) (show w.heap.size + 1 ≠ g2x by omega) (.int .i64 z3))
    replace b3 := (b3.far (p := ⟨g2x, 1, none⟩) (show w.heap.size + 1 + 1 ≠ g2x by omega) (.int .i64 z3))
    replace b4 : Is _ _ #[.int .i64 z2, .int .i64 z3, .int .i64 zu] _ := b4.set 1 (.int .i64 z3)
    replace b5 := (b5.far (p := ⟨g2x, 1, none⟩) (show g2y ≠ g2x by omega) (.int .i64 z3))
    replace kx := kx.setCell (p := ⟨g2x, 1, none⟩) (show w.heap.size ≤ g2x by omega) (.int .i64 z3)
    clear j22
    (with_reducible refine ((Ca.o (rIn z3) _)).mono ?_)
    rintro r w9 ⟨rfl, k9⟩
    replace b1 := b1.kb k9
    replace b2 := b2.kb k9
    replace b3 := b3.kb k9
    replace b4 := b4.kb k9
    replace b5 := b5.kb k9
    replace kx := kx.trans k9
    have s9 := k9.size
    simp only [World.size_setCell] at s9
    clear k9
    have f24 := b3.c (i := 0) rfl
    have f25 := b3.f 0
    have f26 := b3.c (i := 1) rfl
    have f27 := b3.f 1
    have f28 := b3.c (i := 2) rfl
    have f29 := b3.f 2
    have f30 := b3.c (i := 3) rfl
    have f31 := b3.f 3
    have f32 := b3.c (i := 4) rfl
    have f33 := b3.f 4
    have f34 := b3.c (i := 5) rfl
    have f35 := b3.f 5
    have f36 := b3.c (i := 6) rfl
    have f37 := b3.f 6
    have f38 := b3.c (i := 7) rfl
    have f39 := b3.f 7
    have f40 := b3.c (i := 8) rfl
    have f41 := b3.f 8
    go_wp2
    clear f24 f25 f26 f27 f28 f29 f30 f31 f32 f33 f34 f35 f36 f37 f38 f39 f40 f41
    replace b3 : Is _ _ #[.string ⟨#[]⟩, .int .i64 0, .int .i64 0, .int .i64 0, .int .i64 0, .int .i64 0, .int .i64 0, .int .i64 0, .slice none 0 0] _ := b3.set 0 (.string ⟨#[]⟩)
    replace b3 : Is _ _ #[.string ⟨#[]⟩, .int .i64 0, .int .i64 0, .int .i64 0, .int .i64 0, .int .i64 0, .int .i64 0, .int .i64 0, .slice none 0 0] _ := b3.set 1 (.int .i64 0)
    replace b3 : Is _ _ #[.string ⟨#[]⟩, .int .i64 0, .int .i64 0, .int .i64 0, .int .i64 0, .int .i64 0, .int .i64 0, .int .i64 0, .slice none 0 0] _ := b3.set 2 (.int .i64 0)
    replace b3 : Is _ _ #[.string ⟨#[]⟩, .int .i64 0, .int .i64 0, .int .i64 0, .int .i64 0, .int .i64 0, .int .i64 0, .int .i64 0, .slice none 0 0] _ := b3.set 3 (.int .i64 0)
    replace b3 : Is _ _ #[.string ⟨#[]⟩, .int .i64 0, .int .i64 0, .int .i64 0, .int .i64 0, .int .i64 0, .int .i64 0, .int .i64 0, .slice none 0 0] _ := b3.set 4 (.int .i64 0)
    replace b3 : Is _ _ #[.string ⟨#[]⟩, .int .i64 0, .int .i64 0, .int .i64 0, .int .i64 0, .int .i64 0, .int .i64 0, .int .i64 0, .slice none 0 0] _ := b3.set 5 (.int .i64 0)
    replace b3 : Is _ _ #[.string ⟨#[]⟩, .int .i64 0, .int .i64 0, .int .i64 0, .int .i64 0, .int .i64 0, .int .i64 0, .int .i64 0, .slice none 0 0] _ := b3.set 6 (.int .i64 0)
    replace b3 : Is _ _ #[.string ⟨#[]⟩, .int .i64 0, .int .i64 0, .int .i64 0, .int .i64 0, .int .i64 0, .int .i64 0, .int .i64 0, .slice none 0 0] _ := b3.set 7 (.int .i64 0)
    replace b3 : Is _ _ #[.string ⟨#[]⟩, .int .i64 0, .int .i64 0, .int .i64 0, .int .i64 0, .int .i64 0, .int .i64 0, .int .i64 0, .slice none 0 0] _ := b3.set 8 (.slice none 0 0)
    replace kx := ((((((((kx.setCell (p := ⟨w.heap.size + 1 + 1, 0, none⟩) (show w.heap.size ≤ w.heap.size + 1 + 1 by omega) (.string ⟨#[]⟩)).setCell (p := ⟨w.heap.size + 1 + 1, 1, none⟩) (show w.heap.size ≤ w.heap.size + 1 + 1 by omega) (.int .i64 0)).setCell (p := ⟨w.heap.size + 1 + 1, 2, none⟩) (show w.heap.size ≤ w.heap.size + 1 + 1 by omega) (.int .i64 0)).setCell (p := ⟨w.heap.size + 1 + 1, 3, none⟩) (show w.heap.size ≤ w.heap.size + 1 + 1 by omega) (.int .i64 0)).setCell (p := ⟨w.heap.size + 1 + 1, 4, none⟩) (show w.heap.size ≤ w.heap.size + 1 + 1 by omega) (.int .i64 0)).setCell (p := ⟨w.heap.size + 1 + 1, 5, none⟩) (show w.heap.size ≤ w.heap.size + 1 + 1 by omega) (.int .i64 0)).setCell (p := ⟨w.heap.size + 1 + 1, 6, none⟩) (show w.heap.size ≤ w.heap.size + 1 + 1 by omega) (.int .i64 0)).setCell (p := ⟨w.heap.size + 1 + 1, 7, none⟩) (show w.heap.size ≤ w.heap.size + 1 + 1 by omega) (.int .i64 0)).setCell (p := ⟨w.heap.size + 1 + 1, 8, none⟩) (show w.heap.size ≤ w.heap.size + 1 + 1 by omega) (.slice none 0 0)
    refine ret_row2 Tryd.results25 rfl rfl rfl b3 Tryd.underlying28 rfl (by kernel_rfl) ?_
    exact ⟨rfl, kx⟩
set_option maxRecDepth 100000 in
set_option maxHeartbeats 4000000 in
theorem rMove_5 (nu : ByteArray) (ku : Int) (au : Int) (xu : Int) (yu : Int) (zu : Int) (lou : Int) (hiu : Int) (fpu : Option Addr) (flu : Nat) (fcu : Nat) (du : Int) (dv : Int) (dw : Int) (r1 : Int) (z2 : Int) (a1 : wrap64 (xu + du) = z2) (q1 : Ca 19 #[.agg #[.string nu, .int .i64 ku, .int .i64 au, .int .i64 xu, .int .i64 yu, .int .i64 zu, .int .i64 lou, .int .i64 hiu, .slice fpu flu fcu]] (.int .i64 r1))  (h1 : (r1 != 0) = false) (h2 : (inR du) = true) (h3 : (inR dv) = true) (h4 : (inR dw) = true) (h5 : (inR z2) = false) (w : World)  : Calls Tryd.prog 25 #[.agg #[.string nu, .int .i64 ku, .int .i64 au, .int .i64 xu, .int .i64 yu, .int .i64 zu, .int .i64 lou, .int .i64 hiu, .slice fpu flu fcu], .agg #[.int .i64 du, .int .i64 dv, .int .i64 dw]] w fun r W' => r = .returned (.tuple #[.agg #[.string ⟨#[]⟩, .int .i64 0, .int .i64 0, .int .i64 0, .int .i64 0, .int .i64 0, .int .i64 0, .int .i64 0, .slice none 0 0], .int .i64 2]) ∧ Kb w W' := by
  have kx := Kb.refl w
  unfold Ca at q1
  have a1' : IntKind.i64.wrap (xu + du) = z2 := (Go.IntWalk.i64_left _).trans a1
  have j1 := (((Is.made w #[.string nu, .int .i64 ku, .int .i64 au, .int .i64 xu, .int .i64 yu, .int .i64 zu, .int .i64 lou, .int .i64 hiu, .slice fpu flu fcu] 28).alloc (.cells #[.int .i64 du, .int .i64 dv, .int .i64 dw] 23 (0, 0))).alloc (.cells #[.string ⟨#[]⟩, .int .i64 0, .int .i64 0, .int .i64 0, .int .i64 0, .int .i64 0, .int .i64 0, .int .i64 0, .slice none 0 0] 28 (0, 0)))
  have f2 := j1.c (i := 0) rfl
  have f3 := j1.c (i := 1) rfl
  have f4 := j1.c (i := 2) rfl
  have f5 := j1.c (i := 3) rfl
  have f6 := j1.c (i := 4) rfl
  have f7 := j1.c (i := 5) rfl
  have f8 := j1.c (i := 6) rfl
  have f9 := j1.c (i := 7) rfl
  have f10 := j1.c (i := 8) rfl
  go_enter Tryd.func25, Tryd.ntmps25
  go_wp2_with fail
  clear f2 f3 f4 f5 f6 f7 f8 f9 f10
  have b1 := j1
  have b2 := Is.made (w.alloc (.cells #[.string nu, .int .i64 ku, .int .i64 au, .int .i64 xu, .int .i64 yu, .int .i64 zu, .int .i64 lou, .int .i64 hiu, .slice fpu flu fcu] 28 (0, 0))) #[.int .i64 du, .int .i64 dv, .int .i64 dw] 23
  simp only [World.size_alloc] at b2
  replace b2 := (b2.alloc (.cells #[.string ⟨#[]⟩, .int .i64 0, .int .i64 0, .int .i64 0, .int .i64 0, .int .i64 0, .int .i64 0, .int .i64 0, .slice none 0 0] 28 (0, 0)))
  have b3 := Is.made ((w.alloc (.cells #[.string nu, .int .i64 ku, .int .i64 au, .int .i64 xu, .int .i64 yu, .int .i64 zu, .int .i64 lou, .int .i64 hiu, .slice fpu flu fcu] 28 (0, 0))).alloc (.cells #[.int .i64 du, .int .i64 dv, .int .i64 dw] 23 (0, 0))) #[.string ⟨#[]⟩, .int .i64 0, .int .i64 0, .int .i64 0, .int .i64 0, .int .i64 0, .int .i64 0, .int .i64 0, .slice none 0 0] 28
  simp only [World.size_alloc] at b3
  replace kx := ((kx.alloc (.cells #[.string nu, .int .i64 ku, .int .i64 au, .int .i64 xu, .int .i64 yu, .int .i64 zu, .int .i64 lou, .int .i64 hiu, .slice fpu flu fcu] 28 (0, 0))).alloc (.cells #[.int .i64 du, .int .i64 dv, .int .i64 dw] 23 (0, 0))).alloc (.cells #[.string ⟨#[]⟩, .int .i64 0, .int .i64 0, .int .i64 0, .int .i64 0, .int .i64 0, .int .i64 0, .int .i64 0, .slice none 0 0] 28 (0, 0))
  clear j1
  (with_reducible refine (((q1).out _)).mono ?_)
  rintro r w1 ⟨rfl, k1⟩
  replace b1 := b1.kb k1
  replace b2 := b2.kb k1
  replace b3 := b3.kb k1
  replace kx := kx.trans k1
  have s1 := k1.size
  simp only [World.size_alloc] at s1
  clear k1
  go_wp2_with fail
  replace b1 := b1.drew
  replace b2 := b2.drew
  replace b3 := b3.drew
  rw [oF_lit]
  refine o_law2 (⟨55, [some 17, some 18, some 19, some 20, some 21, some 7, some 8, none, none], [17, 18, 19, 20, 21, 7, 8, 7, 8], [[], [0], [1], [], [3], [], [], [5, 2], [6, 4]], [[2], [], [], [3], [], [], [], [], []]⟩ : OT) (RL [fun vv _ => vv = .pointer (some ⟨w.heap.size, 3, none⟩), fun vv _ => vv = .agg #[.int .i64 xu, .int .i64 yu, .int .i64 zu], fun vv _ => vv = .agg #[.int .i64 xu, .int .i64 yu, .int .i64 zu], fun vv _ => vv = .agg #[.int .i64 du, .int .i64 dv, .int .i64 dw], fun vv _ => vv = .agg #[.int .i64 du, .int .i64 dv, .int .i64 dw], fun _ _ => True, fun _ _ => True, fun _ _ => True, fun _ _ => True]) ⟨5, 7, 7, #[.int .i64 0, .int .i64 0, .int .i64 0], #[.int .i64 xu, .int .i64 yu, .int .i64 zu], 92⟩ ⟨6, 8, 8, #[.int .i64 0, .int .i64 0, .int .i64 0], #[.int .i64 du, .int .i64 dv, .int .i64 dw], 92⟩ (by kernel_rfl) (by kernel_rfl) (by kernel_rfl) (rl_free ⟨(fun _ _ _ h => h), (fun _ _ _ h => h), (fun _ _ _ h => h), (fun _ _ _ h => h), (fun _ _ _ h => h), (fun _ _ _ h => h), (fun _ _ _ h => h), (fun _ _ _ h => h), (fun _ _ _ h => h), trivial⟩) ?hR ?fin
  case hR =>
    refine allO_cons ?_ (allO_cons ?_ (allO_cons ?_ (allO_cons ?_ (allO_cons ?_ (allO_cons ?_ (allO_cons ?_ (allO_cons ?_ (allO_cons ?_ (allO_nil)))))))))
    · refine .val (by kernel_rfl) ?_
      intro T w9 hG hD hO Q
      have q0 := hO.1
      have e0 : (oF 55 T).eval (.tmp 2) = .pointer (some ⟨w.heap.size, 0, none⟩) := (oF_eval (by decide)).trans (show T 2 = _ from q0)
      refine og_none rfl ?_
      exact o_val (v := .pointer (some ⟨w.heap.size, 3, none⟩)) (w' := w9) (by generalize (oF 55 T).eval = rr at *; simp [execOp, go_sem, e0]) rfl rfl (Kb.refl _)
    · refine .val (by kernel_rfl) ?_
      intro T w9 hG hD hO Q
      have d0 := hD.1
      have e0 : (oF 55 T).eval (.tmp 17) = .pointer (some ⟨w.heap.size, 3, none⟩) := (oF_eval (by decide)).trans (show T 17 = _ from d0)
      refine og_none rfl ?_
      have im := b1.kx hG (by simp)
      have m0 := im.c (i := 3) rfl
      have m1 := im.c (i := 4) rfl
      have m2 := im.c (i := 5) rfl
      clear im
      exact o_val (v := .agg #[.int .i64 xu, .int .i64 yu, .int .i64 zu]) (w' := w9) (by generalize (oF 55 T).eval = rr at *; simp [execOp, go_sem, e0, m0, m1, m2]) rfl rfl (Kb.refl _)
    · refine .val (by kernel_rfl) ?_
      intro T w9 hG hD hO Q
      have d0 := hD.1
      have e0 : (oF 55 T).eval (.func 61) = .func (.func 61) #[] #[] := rfl
      have e1 : (oF 55 T).eval (.tmp 18) = .agg #[.int .i64 xu, .int .i64 yu, .int .i64 zu] := (oF_eval (by decide)).trans (show T 18 = _ from d0)
      refine og_none rfl ?_
      refine o_call (oc1 (enters_of Tryd.func61 (by kernel_rfl) rfl) rfl rfl e1) rfl ?_
      exact (Ca.o (rCoords xu yu zu) w9).mono fun r W' h => ⟨_, h.1, rfl, h.2⟩
    · refine .val (by kernel_rfl) ?_
      intro T w9 hG hD hO Q
      have q0 := hO.1
      have e0 : (oF 55 T).eval (.tmp 3) = .pointer (some ⟨w.heap.size + 1, 0, none⟩) := (oF_eval (by decide)).trans (show T 3 = _ from q0)
      refine og_none rfl ?_
      have im := b2.kx hG (by simp)
      have m0 := im.c (i := 0) rfl
      have m1 := im.c (i := 1) rfl
      have m2 := im.c (i := 2) rfl
      clear im
      exact o_val (v := .agg #[.int .i64 du, .int .i64 dv, .int .i64 dw]) (w' := w9) (by generalize (oF 55 T).eval = rr at *; simp [execOp, go_sem, e0, m0, m1, m2]) rfl rfl (Kb.refl _)
    · refine .val (by kernel_rfl) ?_
      intro T w9 hG hD hO Q
      have d0 := hD.1
      have e0 : (oF 55 T).eval (.func 61) = .func (.func 61) #[] #[] := rfl
      have e1 : (oF 55 T).eval (.tmp 20) = .agg #[.int .i64 du, .int .i64 dv, .int .i64 dw] := (oF_eval (by decide)).trans (show T 20 = _ from d0)
      refine og_none rfl ?_
      refine o_call (oc1 (enters_of Tryd.func61 (by kernel_rfl) rfl) rfl rfl e1) rfl ?_
      exact (Ca.o (rCoords du dv dw) w9).mono fun r W' h => ⟨_, h.1, rfl, h.2⟩
    · refine .alloc _ (.inl rfl) rfl rfl (fun T w9 => ?_) (fun _ _ => trivial)
      simp [execOp, go_sem]
    · refine .alloc _ (.inr rfl) rfl rfl (fun T w9 => ?_) (fun _ _ => trivial)
      simp [execOp, go_sem]
    · refine .store _ (.inl rfl) rfl rfl ?_ (fun _ _ => trivial)
      intro T w9 g hD hO hT io
      have d0 := hD.1
      have d1 := hD.2.1
      have e0 : (oF 55 T).eval (.tmp 7) = .pointer (some ⟨g, 0, none⟩) := (oF_eval (by decide)).trans hT
      have e1 : (oF 55 T).eval (.tmp 19) = .agg #[.int .i64 xu, .int .i64 yu, .int .i64 zu] := (oF_eval (by decide)).trans (show T 19 = _ from d1)
      have zn := io
      replace zn : Is (w9.setCell ⟨g, 0, none⟩ (.int .i64 xu)) (g) #[.int .i64 xu, .int .i64 0, .int .i64 0] 92 := zn.set 0 _
      replace zn : Is ((w9.setCell ⟨g, 0, none⟩ (.int .i64 xu)).setCell ⟨g, 1, none⟩ (.int .i64 yu)) (g) #[.int .i64 xu, .int .i64 yu, .int .i64 0] 92 := zn.set 1 _
      replace zn : Is (((w9.setCell ⟨g, 0, none⟩ (.int .i64 xu)).setCell ⟨g, 1, none⟩ (.int .i64 yu)).setCell ⟨g, 2, none⟩ (.int .i64 zu)) (g) #[.int .i64 xu, .int .i64 yu, .int .i64 zu] 92 := zn.set 2 _
      have pt := ((((Pt.refl g w9).set 0 (.int .i64 xu)).set 1 (.int .i64 yu)).set 2 (.int .i64 zu))
      have m0 := io.c (i := 0) rfl
      have f0 := io.f 0
      have m1 := io.c (i := 1) rfl
      have f1 := io.f 1
      have m2 := io.c (i := 2) rfl
      have f2 := io.f 2
      clear io
      exact ⟨_, (by generalize (oF 55 T).eval = rr at *; simp [execOp, go_sem, e0, e1, m0, f0, m1, f1, m2, f2] : _ = Result.ok Next.skip (((w9.setCell ⟨g, 0, none⟩ (.int .i64 xu)).setCell ⟨g, 1, none⟩ (.int .i64 yu)).setCell ⟨g, 2, none⟩ (.int .i64 zu))), zn, pt⟩
    · refine .store _ (.inr rfl) rfl rfl ?_ (fun _ _ => trivial)
      intro T w9 g hD hO hT io
      have d0 := hD.1
      have d1 := hD.2.1
      have e0 : (oF 55 T).eval (.tmp 8) = .pointer (some ⟨g, 0, none⟩) := (oF_eval (by decide)).trans hT
      have e1 : (oF 55 T).eval (.tmp 21) = .agg #[.int .i64 du, .int .i64 dv, .int .i64 dw] := (oF_eval (by decide)).trans (show T 21 = _ from d1)
      have zn := io
      replace zn : Is (w9.setCell ⟨g, 0, none⟩ (.int .i64 du)) (g) #[.int .i64 du, .int .i64 0, .int .i64 0] 92 := zn.set 0 _
      replace zn : Is ((w9.setCell ⟨g, 0, none⟩ (.int .i64 du)).setCell ⟨g, 1, none⟩ (.int .i64 dv)) (g) #[.int .i64 du, .int .i64 dv, .int .i64 0] 92 := zn.set 1 _
      replace zn : Is (((w9.setCell ⟨g, 0, none⟩ (.int .i64 du)).setCell ⟨g, 1, none⟩ (.int .i64 dv)).setCell ⟨g, 2, none⟩ (.int .i64 dw)) (g) #[.int .i64 du, .int .i64 dv, .int .i64 dw] 92 := zn.set 2 _
      have pt := ((((Pt.refl g w9).set 0 (.int .i64 du)).set 1 (.int .i64 dv)).set 2 (.int .i64 dw))
      have m0 := io.c (i := 0) rfl
      have f0 := io.f 0
      have m1 := io.c (i := 1) rfl
      have f1 := io.f 1
      have m2 := io.c (i := 2) rfl
      have f2 := io.f 2
      clear io
      exact ⟨_, (by generalize (oF 55 T).eval = rr at *; simp [execOp, go_sem, e0, e1, m0, f0, m1, f1, m2, f2] : _ = Result.ok Next.skip (((w9.setCell ⟨g, 0, none⟩ (.int .i64 du)).setCell ⟨g, 1, none⟩ (.int .i64 dv)).setCell ⟨g, 2, none⟩ (.int .i64 dw))), zn, pt⟩
  case fin =>
    intro T w2 hout hval hG hp hq hne
    have s2 := hG.2.2.2.1
    simp only [World.size_drew] at s2
    rw [show oF 55 T = (⟨#[T 0, T 1, T 2, T 3, T 4, T 5, T 6, T 7, T 8, T 9, T 10, T 11, T 12, T 13, T 14, T 15, T 16, T 17, T 18, T 19, T 20, T 21, T 22, T 23, T 24, T 25, T 26, T 27, T 28, T 29, T 30, T 31, T 32, T 33, T 34, T 35, T 36, T 37, T 38, T 39, T 40, T 41, T 42, T 43, T 44, T 45, T 46, T 47, T 48, T 49, T 50, T 51, T 52, T 53, T 54], []⟩ : Act) from oF_list 55 T]
    rw [show T 0 = .agg #[.string nu, .int .i64 ku, .int .i64 au, .int .i64 xu, .int .i64 yu, .int .i64 zu, .int .i64 lou, .int .i64 hiu, .slice fpu flu fcu] from hout 0 rfl]
    rw [show T 1 = .agg #[.int .i64 du, .int .i64 dv, .int .i64 dw] from hout 1 rfl]
    rw [show T 2 = .pointer (some ⟨w.heap.size, 0, none⟩) from hout 2 rfl]
    rw [show T 3 = .pointer (some ⟨w.heap.size + 1, 0, none⟩) from hout 3 rfl]
    rw [show T 4 = .pointer (some ⟨w.heap.size + 1 + 1, 0, none⟩) from hout 4 rfl]
    rw [show T 5 = .int .i64 0 from hout 5 rfl]
    rw [show T 6 = .int .i64 r1 from hout 6 rfl]
    rw [show T 11 = .agg #[.string nu, .int .i64 ku, .int .i64 au, .int .i64 xu, .int .i64 yu, .int .i64 zu, .int .i64 lou, .int .i64 hiu, .slice fpu flu fcu] from hout 11 rfl]
    rw [show T 12 = .int .i64 r1 from hout 12 rfl]
    rw [show T 13 = .int .i64 r1 from hout 13 rfl]
    rw [show T 14 = .bool false from hout 14 rfl]
    replace b1 := b1.kx hG (by simp)
    replace b2 := b2.kx hG (by simp)
    replace b3 := b3.kx hG (by simp)
    replace kx := (show Kb _ _ from kx.drew).trans hG.nil
    obtain ⟨g2x, eg2x, hg2x, b4⟩ := hp
    replace eg2x : T 7 = _ := eg2x
    rw [eg2x]
    obtain ⟨g2y, eg2y, hg2y, b5⟩ := hq
    replace eg2y : T 8 = _ := eg2y
    rw [eg2y]
    have d2 : g2x ≠ g2y := fun e => hne (show T 7 = T 8 by rw [eg2x, eg2y, e])
    clear hout hval hG hne eg2x eg2y
    go_wp2_with fail
    refine wp_loop_rounds 4 ?_
    rw [rounds_succ]
    have f11 := b5.c (i := 0) rfl
    go_wp2_with fail
    clear f11
    (with_reducible refine ((Ca.o (rIn du) _)).mono ?_)
    rintro r w3 ⟨rfl, k3⟩
    replace b1 := b1.kb k3
    replace b2 := b2.kb k3
    replace b3 := b3.kb k3
    replace b4 := b4.kb k3
    replace b5 := b5.kb k3
    replace kx := kx.trans k3
    have s3 := k3.size
    skip
    clear k3
    go_wp2_with fail
    rw [rounds_succ]
    have f12 := b5.c (i := 1) rfl
    go_wp2_with fail
    clear f12
    (with_reducible refine ((Ca.o (rIn dv) _)).mono ?_)
    rintro r w4 ⟨rfl, k4⟩
    replace b1 := b1.kb k4
    replace b2 := b2.kb k4
    replace b3 := b3.kb k4
    replace b4 := b4.kb k4
    replace b5 := b5.kb k4
    replace kx := kx.trans k4
    have s4 := k4.size
    skip
    clear k4
    go_wp2_with fail
    rw [rounds_succ]
    have f13 := b5.c (i := 2) rfl
    go_wp2_with fail
    clear f13
    (with_reducible refine ((Ca.o (rIn dw) _)).mono ?_)
    rintro r w5 ⟨rfl, k5⟩
    replace b1 := b1.kb k5
    replace b2 := b2.kb k5
    replace b3 := b3.kb k5
    replace b4 := b4.kb k5
    replace b5 := b5.kb k5
    replace kx := kx.trans k5
    have s5 := k5.size
    skip
    clear k5
    go_wp2_with fail
    rw [rounds_succ]
    go_wp2_with fail
    refine wp_loop_rounds 1 ?_
    rw [rounds_succ]
    go_wp2_with fail
    replace b1 := b1.drew
    replace b2 := b2.drew
    replace b3 := b3.drew
    replace b4 := b4.drew
    replace b5 := b5.drew
    have yb1_0 := b1.c (i := 0) rfl
    have yb1_1 := b1.c (i := 1) rfl
    have yb1_2 := b1.c (i := 2) rfl
    have yb1_3 := b1.c (i := 3) rfl
    have yb1_4 := b1.c (i := 4) rfl
    have yb1_5 := b1.c (i := 5) rfl
    have yb1_6 := b1.c (i := 6) rfl
    have yb1_7 := b1.c (i := 7) rfl
    have yb1_8 := b1.c (i := 8) rfl
    have yb2_0 := b2.c (i := 0) rfl
    have yb2_1 := b2.c (i := 1) rfl
    have yb2_2 := b2.c (i := 2) rfl
    have yb3_0 := b3.c (i := 0) rfl
    have yb3_1 := b3.c (i := 1) rfl
    have yb3_2 := b3.c (i := 2) rfl
    have yb3_3 := b3.c (i := 3) rfl
    have yb3_4 := b3.c (i := 4) rfl
    have yb3_5 := b3.c (i := 5) rfl
    have yb3_6 := b3.c (i := 6) rfl
    have yb3_7 := b3.c (i := 7) rfl
    have yb3_8 := b3.c (i := 8) rfl
    have yb4_0 := b4.c (i := 0) rfl
    have yb4_1 := b4.c (i := 1) rfl
    have yb4_2 := b4.c (i := 2) rfl
    have yb5_0 := b5.c (i := 0) rfl
    have yb5_1 := b5.c (i := 1) rfl
    have yb5_2 := b5.c (i := 2) rfl
    go_still_tail 9, (by kernel_rfl)
    clear yb1_0 yb1_1 yb1_2 yb1_3 yb1_4 yb1_5 yb1_6 yb1_7 yb1_8 yb2_0 yb2_1 yb2_2 yb3_0 yb3_1 yb3_2 yb3_3 yb3_4 yb3_5 yb3_6 yb3_7 yb3_8 yb4_0 yb4_1 yb4_2 yb5_0 yb5_1 yb5_2
    change wpList _ _ _ _ _ w5.drew
    have s6 : w5.heap.size ≤ w5.drew.heap.size := Nat.le_refl _
    replace kx := kx.drew
    generalize w5.drew = w6 at *
    have f14 := b4.c (i := 0) rfl
    have f15 := b5.c (i := 0) rfl
    have f16 := b4.f 0
    have j17 := (b4.set 0 (.int .i64 z2))
    have f18 := j17.c (i := 0) rfl
    go_wp2_with fail
    clear f14 f15 f16 f18
    replace b1 := (b1.far (p := ⟨g2x, 0, none⟩) (show w.heap.size ≠ g2x by omega) (.int .i64 z2))
    replace b2 := (b2.far (p := ⟨g2x, 0, none⟩) (show w.heap.size + 1 ≠ g2x by omega) (.int .i64 z2))
    replace b3 := (b3.far (p := ⟨g2x, 0, none⟩) (show w.heap.size + 1 + 1 ≠ g2x by omega) (.int .i64 z2))
    replace b4 : Is _ _ #[.int .i64 z2, .int .i64 yu, .int .i64 zu] _ := b4.set 0 (.int .i64 z2)
    replace b5 := (b5.far (p := ⟨g2x, 0, none⟩) (show g2y ≠ g2x by omega) (.int .i64 z2))
    replace kx := kx.setCell (p := ⟨g2x, 0, none⟩) (show w.heap.size ≤ g2x by omega) (.int .i64 z2)
    clear j17
    (with_reducible refine ((Ca.o (rIn z2) _)).mono ?_)
    rintro r w7 ⟨rfl, k7⟩
    replace b1 := b1.kb k7
    replace b2 := b2.kb k7
    replace b3 := b3.kb k7
    replace b4 := b4.kb k7
    replace b5 := b5.kb k7
    replace kx := kx.trans k7
    have s7 := k7.size
    simp only [World.size_setCell] at s7
    clear k7
    have f19 := b3.c (i := 0) rfl
    have f20 := b3.f 0
    have f21 := b3.c (i := 1) rfl
    have f22 := b3.f 1
    have f23 := b3.c (i := 2) rfl
    have f24 := b3.f 2
    have f25 := b3.c (i := 3) rfl
    have f26 := b3.f 3
    have f27 := b3.c (i := 4) rfl
    have f28 := b3.f 4
    have f29 := b3.c (i := 5) rfl
    have f30 := b3.f 5
    have f31 := b3.c (i := 6) rfl
    have f32 := b3.f 6
    have f33 := b3.c (i := 7) rfl
    have f34 := b3.f 7
    have f35 := b3.c (i := 8) rfl
    have f36 := b3.f 8
    go_wp2
    clear f19 f20 f21 f22 f23 f24 f25 f26 f27 f28 f29 f30 f31 f32 f33 f34 f35 f36
    replace b3 : Is _ _ #[.string ⟨#[]⟩, .int .i64 0, .int .i64 0, .int .i64 0, .int .i64 0, .int .i64 0, .int .i64 0, .int .i64 0, .slice none 0 0] _ := b3.set 0 (.string ⟨#[]⟩)
    replace b3 : Is _ _ #[.string ⟨#[]⟩, .int .i64 0, .int .i64 0, .int .i64 0, .int .i64 0, .int .i64 0, .int .i64 0, .int .i64 0, .slice none 0 0] _ := b3.set 1 (.int .i64 0)
    replace b3 : Is _ _ #[.string ⟨#[]⟩, .int .i64 0, .int .i64 0, .int .i64 0, .int .i64 0, .int .i64 0, .int .i64 0, .int .i64 0, .slice none 0 0] _ := b3.set 2 (.int .i64 0)
    replace b3 : Is _ _ #[.string ⟨#[]⟩, .int .i64 0, .int .i64 0, .int .i64 0, .int .i64 0, .int .i64 0, .int .i64 0, .int .i64 0, .slice none 0 0] _ := b3.set 3 (.int .i64 0)
    replace b3 : Is _ _ #[.string ⟨#[]⟩, .int .i64 0, .int .i64 0, .int .i64 0, .int .i64 0, .int .i64 0, .int .i64 0, .int .i64 0, .slice none 0 0] _ := b3.set 4 (.int .i64 0)
    replace b3 : Is _ _ #[.string ⟨#[]⟩, .int .i64 0, .int .i64 0, .int .i64 0, .int .i64 0, .int .i64 0, .int .i64 0, .int .i64 0, .slice none 0 0] _ := b3.set 5 (.int .i64 0)
    replace b3 : Is _ _ #[.string ⟨#[]⟩, .int .i64 0, .int .i64 0, .int .i64 0, .int .i64 0, .int .i64 0, .int .i64 0, .int .i64 0, .slice none 0 0] _ := b3.set 6 (.int .i64 0)
    replace b3 : Is _ _ #[.string ⟨#[]⟩, .int .i64 0, .int .i64 0, .int .i64 0, .int .i64 0, .int .i64 0, .int .i64 0, .int .i64 0, .slice none 0 0] _ := b3.set 7 (.int .i64 0)
    replace b3 : Is _ _ #[.string ⟨#[]⟩, .int .i64 0, .int .i64 0, .int .i64 0, .int .i64 0, .int .i64 0, .int .i64 0, .int .i64 0, .slice none 0 0] _ := b3.set 8 (.slice none 0 0)
    replace kx := ((((((((kx.setCell (p := ⟨w.heap.size + 1 + 1, 0, none⟩) (show w.heap.size ≤ w.heap.size + 1 + 1 by omega) (.string ⟨#[]⟩)).setCell (p := ⟨w.heap.size + 1 + 1, 1, none⟩) (show w.heap.size ≤ w.heap.size + 1 + 1 by omega) (.int .i64 0)).setCell (p := ⟨w.heap.size + 1 + 1, 2, none⟩) (show w.heap.size ≤ w.heap.size + 1 + 1 by omega) (.int .i64 0)).setCell (p := ⟨w.heap.size + 1 + 1, 3, none⟩) (show w.heap.size ≤ w.heap.size + 1 + 1 by omega) (.int .i64 0)).setCell (p := ⟨w.heap.size + 1 + 1, 4, none⟩) (show w.heap.size ≤ w.heap.size + 1 + 1 by omega) (.int .i64 0)).setCell (p := ⟨w.heap.size + 1 + 1, 5, none⟩) (show w.heap.size ≤ w.heap.size + 1 + 1 by omega) (.int .i64 0)).setCell (p := ⟨w.heap.size + 1 + 1, 6, none⟩) (show w.heap.size ≤ w.heap.size + 1 + 1 by omega) (.int .i64 0)).setCell (p := ⟨w.heap.size + 1 + 1, 7, none⟩) (show w.heap.size ≤ w.heap.size + 1 + 1 by omega) (.int .i64 0)).setCell (p := ⟨w.heap.size + 1 + 1, 8, none⟩) (show w.heap.size ≤ w.heap.size + 1 + 1 by omega) (.slice none 0 0)
    refine ret_row2 Tryd.results25 rfl rfl rfl b3 Tryd.underlying28 rfl (by kernel_rfl) ?_
    exact ⟨rfl, kx⟩
set_option maxRecDepth 100000 in
set_option maxHeartbeats 4000000 in
theorem rMove_6 (nu : ByteArray) (ku : Int) (au : Int) (xu : Int) (yu : Int) (zu : Int) (lou : Int) (hiu : Int) (fpu : Option Addr) (flu : Nat) (fcu : Nat) (du : Int) (dv : Int) (dw : Int) (r1 : Int)   (q1 : Ca 19 #[.agg #[.string nu, .int .i64 ku, .int .i64 au, .int .i64 xu, .int .i64 yu, .int .i64 zu, .int .i64 lou, .int .i64 hiu, .slice fpu flu fcu]] (.int .i64 r1))  (h1 : (r1 != 0) = false) (h2 : (inR du) = true) (h3 : (inR dv) = true) (h4 : (inR dw) = false) (w : World)  : Calls Tryd.prog 25 #[.agg #[.string nu, .int .i64 ku, .int .i64 au, .int .i64 xu, .int .i64 yu, .int .i64 zu, .int .i64 lou, .int .i64 hiu, .slice fpu flu fcu], .agg #[.int .i64 du, .int .i64 dv, .int .i64 dw]] w fun r W' => r = .returned (.tuple #[.agg #[.string ⟨#[]⟩, .int .i64 0, .int .i64 0, .int .i64 0, .int .i64 0, .int .i64 0, .int .i64 0, .int .i64 0, .slice none 0 0], .int .i64 2]) ∧ Kb w W' := by
  have kx := Kb.refl w
  unfold Ca at q1
  have j1 := (((Is.made w #[.string nu, .int .i64 ku, .int .i64 au, .int .i64 xu, .int .i64 yu, .int .i64 zu, .int .i64 lou, .int .i64 hiu, .slice fpu flu fcu] 28).alloc (.cells #[.int .i64 du, .int .i64 dv, .int .i64 dw] 23 (0, 0))).alloc (.cells #[.string ⟨#[]⟩, .int .i64 0, .int .i64 0, .int .i64 0, .int .i64 0, .int .i64 0, .int .i64 0, .int .i64 0, .slice none 0 0] 28 (0, 0)))
  have f2 := j1.c (i := 0) rfl
  have f3 := j1.c (i := 1) rfl
  have f4 := j1.c (i := 2) rfl
  have f5 := j1.c (i := 3) rfl
  have f6 := j1.c (i := 4) rfl
  have f7 := j1.c (i := 5) rfl
  have f8 := j1.c (i := 6) rfl
  have f9 := j1.c (i := 7) rfl
  have f10 := j1.c (i := 8) rfl
  go_enter Tryd.func25, Tryd.ntmps25
  go_wp2_with fail
  clear f2 f3 f4 f5 f6 f7 f8 f9 f10
  have b1 := j1
  have b2 := Is.made (w.alloc (.cells #[.string nu, .int .i64 ku, .int .i64 au, .int .i64 xu, .int .i64 yu, .int .i64 zu, .int .i64 lou, .int .i64 hiu, .slice fpu flu fcu] 28 (0, 0))) #[.int .i64 du, .int .i64 dv, .int .i64 dw] 23
  simp only [World.size_alloc] at b2
  replace b2 := (b2.alloc (.cells #[.string ⟨#[]⟩, .int .i64 0, .int .i64 0, .int .i64 0, .int .i64 0, .int .i64 0, .int .i64 0, .int .i64 0, .slice none 0 0] 28 (0, 0)))
  have b3 := Is.made ((w.alloc (.cells #[.string nu, .int .i64 ku, .int .i64 au, .int .i64 xu, .int .i64 yu, .int .i64 zu, .int .i64 lou, .int .i64 hiu, .slice fpu flu fcu] 28 (0, 0))).alloc (.cells #[.int .i64 du, .int .i64 dv, .int .i64 dw] 23 (0, 0))) #[.string ⟨#[]⟩, .int .i64 0, .int .i64 0, .int .i64 0, .int .i64 0, .int .i64 0, .int .i64 0, .int .i64 0, .slice none 0 0] 28
  simp only [World.size_alloc] at b3
  replace kx := ((kx.alloc (.cells #[.string nu, .int .i64 ku, .int .i64 au, .int .i64 xu, .int .i64 yu, .int .i64 zu, .int .i64 lou, .int .i64 hiu, .slice fpu flu fcu] 28 (0, 0))).alloc (.cells #[.int .i64 du, .int .i64 dv, .int .i64 dw] 23 (0, 0))).alloc (.cells #[.string ⟨#[]⟩, .int .i64 0, .int .i64 0, .int .i64 0, .int .i64 0, .int .i64 0, .int .i64 0, .int .i64 0, .slice none 0 0] 28 (0, 0))
  clear j1
  (with_reducible refine (((q1).out _)).mono ?_)
  rintro r w1 ⟨rfl, k1⟩
  replace b1 := b1.kb k1
  replace b2 := b2.kb k1
  replace b3 := b3.kb k1
  replace kx := kx.trans k1
  have s1 := k1.size
  simp only [World.size_alloc] at s1
  clear k1
  go_wp2_with fail
  replace b1 := b1.drew
  replace b2 := b2.drew
  replace b3 := b3.drew
  rw [oF_lit]
  refine o_law2 (⟨55, [some 17, some 18, some 19, some 20, some 21, some 7, some 8, none, none], [17, 18, 19, 20, 21, 7, 8, 7, 8], [[], [0], [1], [], [3], [], [], [5, 2], [6, 4]], [[2], [], [], [3], [], [], [], [], []]⟩ : OT) (RL [fun vv _ => vv = .pointer (some ⟨w.heap.size, 3, none⟩), fun vv _ => vv = .agg #[.int .i64 xu, .int .i64 yu, .int .i64 zu], fun vv _ => vv = .agg #[.int .i64 xu, .int .i64 yu, .int .i64 zu], fun vv _ => vv = .agg #[.int .i64 du, .int .i64 dv, .int .i64 dw], fun vv _ => vv = .agg #[.int .i64 du, .int .i64 dv, .int .i64 dw], fun _ _ => True, fun _ _ => True, fun _ _ => True, fun _ _ => True]) ⟨5, 7, 7, #[.int .i64 0, .int .i64 0, .int .i64 0], #[.int .i64 xu, .int .i64 yu, .int .i64 zu], 92⟩ ⟨6, 8, 8, #[.int .i64 0, .int .i64 0, .int .i64 0], #[.int .i64 du, .int .i64 dv, .int .i64 dw], 92⟩ (by kernel_rfl) (by kernel_rfl) (by kernel_rfl) (rl_free ⟨(fun _ _ _ h => h), (fun _ _ _ h => h), (fun _ _ _ h => h), (fun _ _ _ h => h), (fun _ _ _ h => h), (fun _ _ _ h => h), (fun _ _ _ h => h), (fun _ _ _ h => h), (fun _ _ _ h => h), trivial⟩) ?hR ?fin
  case hR =>
    refine allO_cons ?_ (allO_cons ?_ (allO_cons ?_ (allO_cons ?_ (allO_cons ?_ (allO_cons ?_ (allO_cons ?_ (allO_cons ?_ (allO_cons ?_ (allO_nil)))))))))
    · refine .val (by kernel_rfl) ?_
      intro T w9 hG hD hO Q
      have q0 := hO.1
      have e0 : (oF 55 T).eval (.tmp 2) = .pointer (some ⟨w.heap.size, 0, none⟩) := (oF_eval (by decide)).trans (show T 2 = _ from q0)
      refine og_none rfl ?_
      exact o_val (v := .pointer (some ⟨w.heap.size, 3, none⟩)) (w' := w9) (by generalize (oF 55 T).eval = rr at *; simp [execOp, go_sem, e0]) rfl rfl (Kb.refl _)
    · refine .val (by kernel_rfl) ?_
      intro T w9 hG hD hO Q
      have d0 := hD.1
      have e0 : (oF 55 T).eval (.tmp 17) = .pointer (some ⟨w.heap.size, 3, none⟩) := (oF_eval (by decide)).trans (show T 17 = _ from d0)
      refine og_none rfl ?_
      have im := b1.kx hG (by simp)
      have m0 := im.c (i := 3) rfl
      have m1 := im.c (i := 4) rfl
      have m2 := im.c (i := 5) rfl
      clear im
      exact o_val (v := .agg #[.int .i64 xu, .int .i64 yu, .int .i64 zu]) (w' := w9) (by generalize (oF 55 T).eval = rr at *; simp [execOp, go_sem, e0, m0, m1, m2]) rfl rfl (Kb.refl _)
    · refine .val (by kernel_rfl) ?_
      intro T w9 hG hD hO Q
      have d0 := hD.1
      have e0 : (oF 55 T).eval (.func 61) = .func (.func 61) #[] #[] := rfl
      have e1 : (oF 55 T).eval (.tmp 18) = .agg #[.int .i64 xu, .int .i64 yu, .int .i64 zu] := (oF_eval (by decide)).trans (show T 18 = _ from d0)
      refine og_none rfl ?_
      refine o_call (oc1 (enters_of Tryd.func61 (by kernel_rfl) rfl) rfl rfl e1) rfl ?_
      exact (Ca.o (rCoords xu yu zu) w9).mono fun r W' h => ⟨_, h.1, rfl, h.2⟩
    · refine .val (by kernel_rfl) ?_
      intro T w9 hG hD hO Q
      have q0 := hO.1
      have e0 : (oF 55 T).eval (.tmp 3) = .pointer (some ⟨w.heap.size + 1, 0, none⟩) := (oF_eval (by decide)).trans (show T 3 = _ from q0)
      refine og_none rfl ?_
      have im := b2.kx hG (by simp)
      have m0 := im.c (i := 0) rfl
      have m1 := im.c (i := 1) rfl
      have m2 := im.c (i := 2) rfl
      clear im
      exact o_val (v := .agg #[.int .i64 du, .int .i64 dv, .int .i64 dw]) (w' := w9) (by generalize (oF 55 T).eval = rr at *; simp [execOp, go_sem, e0, m0, m1, m2]) rfl rfl (Kb.refl _)
    · refine .val (by kernel_rfl) ?_
      intro T w9 hG hD hO Q
      have d0 := hD.1
      have e0 : (oF 55 T).eval (.func 61) = .func (.func 61) #[] #[] := rfl
      have e1 : (oF 55 T).eval (.tmp 20) = .agg #[.int .i64 du, .int .i64 dv, .int .i64 dw] := (oF_eval (by decide)).trans (show T 20 = _ from d0)
      refine og_none rfl ?_
      refine o_call (oc1 (enters_of Tryd.func61 (by kernel_rfl) rfl) rfl rfl e1) rfl ?_
      exact (Ca.o (rCoords du dv dw) w9).mono fun r W' h => ⟨_, h.1, rfl, h.2⟩
    · refine .alloc _ (.inl rfl) rfl rfl (fun T w9 => ?_) (fun _ _ => trivial)
      simp [execOp, go_sem]
    · refine .alloc _ (.inr rfl) rfl rfl (fun T w9 => ?_) (fun _ _ => trivial)
      simp [execOp, go_sem]
    · refine .store _ (.inl rfl) rfl rfl ?_ (fun _ _ => trivial)
      intro T w9 g hD hO hT io
      have d0 := hD.1
      have d1 := hD.2.1
      have e0 : (oF 55 T).eval (.tmp 7) = .pointer (some ⟨g, 0, none⟩) := (oF_eval (by decide)).trans hT
      have e1 : (oF 55 T).eval (.tmp 19) = .agg #[.int .i64 xu, .int .i64 yu, .int .i64 zu] := (oF_eval (by decide)).trans (show T 19 = _ from d1)
      have zn := io
      replace zn : Is (w9.setCell ⟨g, 0, none⟩ (.int .i64 xu)) (g) #[.int .i64 xu, .int .i64 0, .int .i64 0] 92 := zn.set 0 _
      replace zn : Is ((w9.setCell ⟨g, 0, none⟩ (.int .i64 xu)).setCell ⟨g, 1, none⟩ (.int .i64 yu)) (g) #[.int .i64 xu, .int .i64 yu, .int .i64 0] 92 := zn.set 1 _
      replace zn : Is (((w9.setCell ⟨g, 0, none⟩ (.int .i64 xu)).setCell ⟨g, 1, none⟩ (.int .i64 yu)).setCell ⟨g, 2, none⟩ (.int .i64 zu)) (g) #[.int .i64 xu, .int .i64 yu, .int .i64 zu] 92 := zn.set 2 _
      have pt := ((((Pt.refl g w9).set 0 (.int .i64 xu)).set 1 (.int .i64 yu)).set 2 (.int .i64 zu))
      have m0 := io.c (i := 0) rfl
      have f0 := io.f 0
      have m1 := io.c (i := 1) rfl
      have f1 := io.f 1
      have m2 := io.c (i := 2) rfl
      have f2 := io.f 2
      clear io
      exact ⟨_, (by generalize (oF 55 T).eval = rr at *; simp [execOp, go_sem, e0, e1, m0, f0, m1, f1, m2, f2] : _ = Result.ok Next.skip (((w9.setCell ⟨g, 0, none⟩ (.int .i64 xu)).setCell ⟨g, 1, none⟩ (.int .i64 yu)).setCell ⟨g, 2, none⟩ (.int .i64 zu))), zn, pt⟩
    · refine .store _ (.inr rfl) rfl rfl ?_ (fun _ _ => trivial)
      intro T w9 g hD hO hT io
      have d0 := hD.1
      have d1 := hD.2.1
      have e0 : (oF 55 T).eval (.tmp 8) = .pointer (some ⟨g, 0, none⟩) := (oF_eval (by decide)).trans hT
      have e1 : (oF 55 T).eval (.tmp 21) = .agg #[.int .i64 du, .int .i64 dv, .int .i64 dw] := (oF_eval (by decide)).trans (show T 21 = _ from d1)
      have zn := io
      replace zn : Is (w9.setCell ⟨g, 0, none⟩ (.int .i64 du)) (g) #[.int .i64 du, .int .i64 0, .int .i64 0] 92 := zn.set 0 _
      replace zn : Is ((w9.setCell ⟨g, 0, none⟩ (.int .i64 du)).setCell ⟨g, 1, none⟩ (.int .i64 dv)) (g) #[.int .i64 du, .int .i64 dv, .int .i64 0] 92 := zn.set 1 _
      replace zn : Is (((w9.setCell ⟨g, 0, none⟩ (.int .i64 du)).setCell ⟨g, 1, none⟩ (.int .i64 dv)).setCell ⟨g, 2, none⟩ (.int .i64 dw)) (g) #[.int .i64 du, .int .i64 dv, .int .i64 dw] 92 := zn.set 2 _
      have pt := ((((Pt.refl g w9).set 0 (.int .i64 du)).set 1 (.int .i64 dv)).set 2 (.int .i64 dw))
      have m0 := io.c (i := 0) rfl
      have f0 := io.f 0
      have m1 := io.c (i := 1) rfl
      have f1 := io.f 1
      have m2 := io.c (i := 2) rfl
      have f2 := io.f 2
      clear io
      exact ⟨_, (by generalize (oF 55 T).eval = rr at *; simp [execOp, go_sem, e0, e1, m0, f0, m1, f1, m2, f2] : _ = Result.ok Next.skip (((w9.setCell ⟨g, 0, none⟩ (.int .i64 du)).setCell ⟨g, 1, none⟩ (.int .i64 dv)).setCell ⟨g, 2, none⟩ (.int .i64 dw))), zn, pt⟩
  case fin =>
    intro T w2 hout hval hG hp hq hne
    have s2 := hG.2.2.2.1
    simp only [World.size_drew] at s2
    rw [show oF 55 T = (⟨#[T 0, T 1, T 2, T 3, T 4, T 5, T 6, T 7, T 8, T 9, T 10, T 11, T 12, T 13, T 14, T 15, T 16, T 17, T 18, T 19, T 20, T 21, T 22, T 23, T 24, T 25, T 26, T 27, T 28, T 29, T 30, T 31, T 32, T 33, T 34, T 35, T 36, T 37, T 38, T 39, T 40, T 41, T 42, T 43, T 44, T 45, T 46, T 47, T 48, T 49, T 50, T 51, T 52, T 53, T 54], []⟩ : Act) from oF_list 55 T]
    rw [show T 0 = .agg #[.string nu, .int .i64 ku, .int .i64 au, .int .i64 xu, .int .i64 yu, .int .i64 zu, .int .i64 lou, .int .i64 hiu, .slice fpu flu fcu] from hout 0 rfl]
    rw [show T 1 = .agg #[.int .i64 du, .int .i64 dv, .int .i64 dw] from hout 1 rfl]
    rw [show T 2 = .pointer (some ⟨w.heap.size, 0, none⟩) from hout 2 rfl]
    rw [show T 3 = .pointer (some ⟨w.heap.size + 1, 0, none⟩) from hout 3 rfl]
    rw [show T 4 = .pointer (some ⟨w.heap.size + 1 + 1, 0, none⟩) from hout 4 rfl]
    rw [show T 5 = .int .i64 0 from hout 5 rfl]
    rw [show T 6 = .int .i64 r1 from hout 6 rfl]
    rw [show T 11 = .agg #[.string nu, .int .i64 ku, .int .i64 au, .int .i64 xu, .int .i64 yu, .int .i64 zu, .int .i64 lou, .int .i64 hiu, .slice fpu flu fcu] from hout 11 rfl]
    rw [show T 12 = .int .i64 r1 from hout 12 rfl]
    rw [show T 13 = .int .i64 r1 from hout 13 rfl]
    rw [show T 14 = .bool false from hout 14 rfl]
    replace b1 := b1.kx hG (by simp)
    replace b2 := b2.kx hG (by simp)
    replace b3 := b3.kx hG (by simp)
    replace kx := (show Kb _ _ from kx.drew).trans hG.nil
    obtain ⟨g2x, eg2x, hg2x, b4⟩ := hp
    replace eg2x : T 7 = _ := eg2x
    rw [eg2x]
    obtain ⟨g2y, eg2y, hg2y, b5⟩ := hq
    replace eg2y : T 8 = _ := eg2y
    rw [eg2y]
    have d2 : g2x ≠ g2y := fun e => hne (show T 7 = T 8 by rw [eg2x, eg2y, e])
    clear hout hval hG hne eg2x eg2y
    go_wp2_with fail
    refine wp_loop_rounds 3 ?_
    rw [rounds_succ]
    have f11 := b5.c (i := 0) rfl
    go_wp2_with fail
    clear f11
    (with_reducible refine ((Ca.o (rIn du) _)).mono ?_)
    rintro r w3 ⟨rfl, k3⟩
    replace b1 := b1.kb k3
    replace b2 := b2.kb k3
    replace b3 := b3.kb k3
    replace b4 := b4.kb k3
    replace b5 := b5.kb k3
    replace kx := kx.trans k3
    have s3 := k3.size
    skip
    clear k3
    go_wp2_with fail
    rw [rounds_succ]
    have f12 := b5.c (i := 1) rfl
    go_wp2_with fail
    clear f12
    (with_reducible refine ((Ca.o (rIn dv) _)).mono ?_)
    rintro r w4 ⟨rfl, k4⟩
    replace b1 := b1.kb k4
    replace b2 := b2.kb k4
    replace b3 := b3.kb k4
    replace b4 := b4.kb k4
    replace b5 := b5.kb k4
    replace kx := kx.trans k4
    have s4 := k4.size
    skip
    clear k4
    go_wp2_with fail
    rw [rounds_succ]
    have f13 := b5.c (i := 2) rfl
    go_wp2_with fail
    clear f13
    (with_reducible refine ((Ca.o (rIn dw) _)).mono ?_)
    rintro r w5 ⟨rfl, k5⟩
    replace b1 := b1.kb k5
    replace b2 := b2.kb k5
    replace b3 := b3.kb k5
    replace b4 := b4.kb k5
    replace b5 := b5.kb k5
    replace kx := kx.trans k5
    have s5 := k5.size
    skip
    clear k5
    have f14 := b3.c (i := 0) rfl
    have f15 := b3.f 0
    have f16 := b3.c (i := 1) rfl
    have f17 := b3.f 1
    have f18 := b3.c (i := 2) rfl
    have f19 := b3.f 2
    have f20 := b3.c (i := 3) rfl
    have f21 := b3.f 3
    have f22 := b3.c (i := 4) rfl
    have f23 := b3.f 4
    have f24 := b3.c (i := 5) rfl
    have f25 := b3.f 5
    have f26 := b3.c (i := 6) rfl
    have f27 := b3.f 6
    have f28 := b3.c (i := 7) rfl
    have f29 := b3.f 7
    have f30 := b3.c (i := 8) rfl
    have f31 := b3.f 8
    go_wp2
    clear f14 f15 f16 f17 f18 f19 f20 f21 f22 f23 f24 f25 f26 f27 f28 f29 f30 f31
    replace b3 : Is _ _ #[.string ⟨#[]⟩, .int .i64 0, .int .i64 0, .int .i64 0, .int .i64 0, .int .i64 0, .int .i64 0, .int .i64 0, .slice none 0 0] _ := b3.set 0 (.string ⟨#[]⟩)
    replace b3 : Is _ _ #[.string ⟨#[]⟩, .int .i64 0, .int .i64 0, .int .i64 0, .int .i64 0, .int .i64 0, .int .i64 0, .int .i64 0, .slice none 0 0] _ := b3.set 1 (.int .i64 0)
    replace b3 : Is _ _ #[.string ⟨#[]⟩, .int .i64 0, .int .i64 0, .int .i64 0, .int .i64 0, .int .i64 0, .int .i64 0, .int .i64 0, .slice none 0 0] _ := b3.set 2 (.int .i64 0)
    replace b3 : Is _ _ #[.string ⟨#[]⟩, .int .i64 0, .int .i64 0, .int .i64 0, .int .i64 0, .int .i64 0, .int .i64 0, .int .i64 0, .slice none 0 0] _ := b3.set 3 (.int .i64 0)
    replace b3 : Is _ _ #[.string ⟨#[]⟩, .int .i64 0, .int .i64 0, .int .i64 0, .int .i64 0, .int .i64 0, .int .i64 0, .int .i64 0, .slice none 0 0] _ := b3.set 4 (.int .i64 0)
    replace b3 : Is _ _ #[.string ⟨#[]⟩, .int .i64 0, .int .i64 0, .int .i64 0, .int .i64 0, .int .i64 0, .int .i64 0, .int .i64 0, .slice none 0 0] _ := b3.set 5 (.int .i64 0)
    replace b3 : Is _ _ #[.string ⟨#[]⟩, .int .i64 0, .int .i64 0, .int .i64 0, .int .i64 0, .int .i64 0, .int .i64 0, .int .i64 0, .slice none 0 0] _ := b3.set 6 (.int .i64 0)
    replace b3 : Is _ _ #[.string ⟨#[]⟩, .int .i64 0, .int .i64 0, .int .i64 0, .int .i64 0, .int .i64 0, .int .i64 0, .int .i64 0, .slice none 0 0] _ := b3.set 7 (.int .i64 0)
    replace b3 : Is _ _ #[.string ⟨#[]⟩, .int .i64 0, .int .i64 0, .int .i64 0, .int .i64 0, .int .i64 0, .int .i64 0, .int .i64 0, .slice none 0 0] _ := b3.set 8 (.slice none 0 0)
    replace kx := ((((((((kx.setCell (p := ⟨w.heap.size + 1 + 1, 0, none⟩) (show w.heap.size ≤ w.heap.size + 1 + 1 by omega) (.string ⟨#[]⟩)).setCell (p := ⟨w.heap.size + 1 + 1, 1, none⟩) (show w.heap.size ≤ w.heap.size + 1 + 1 by omega) (.int .i64 0)).setCell (p := ⟨w.heap.size + 1 + 1, 2, none⟩) (show w.heap.size ≤ w.heap.size + 1 + 1 by omega) (.int .i64 0)).setCell (p := ⟨w.heap.size + 1 + 1, 3, none⟩) (show w.heap.size ≤ w.heap.size + 1 + 1 by omega) (.int .i64 0)).setCell (p := ⟨w.heap.size + 1 + 1, 4, none⟩) (show w.heap.size ≤ w.heap.size + 1 + 1 by omega) (.int .i64 0)).setCell (p := ⟨w.heap.size + 1 + 1, 5, none⟩) (show w.heap.size ≤ w.heap.size + 1 + 1 by omega) (.int .i64 0)).setCell (p := ⟨w.heap.size + 1 + 1, 6, none⟩) (show w.heap.size ≤ w.heap.size + 1 + 1 by omega) (.int .i64 0)).setCell (p := ⟨w.heap.size + 1 + 1, 7, none⟩) (show w.heap.size ≤ w.heap.size + 1 + 1 by omega) (.int .i64 0)).setCell (p := ⟨w.heap.size + 1 + 1, 8, none⟩) (show w.heap.size ≤ w.heap.size + 1 + 1 by omega) (.slice none 0 0)
    refine ret_row2 Tryd.results25 rfl rfl rfl b3 Tryd.underlying28 rfl (by kernel_rfl) ?_
    exact ⟨rfl, kx⟩
set_option maxRecDepth 100000 in
set_option maxHeartbeats 4000000 in
theorem rMove_7 (nu : ByteArray) (ku : Int) (au : Int) (xu : Int) (yu : Int) (zu : Int) (lou : Int) (hiu : Int) (fpu : Option Addr) (flu : Nat) (fcu : Nat) (du : Int) (dv : Int) (dw : Int) (r1 : Int)   (q1 : Ca 19 #[.agg #[.string nu, .int .i64 ku, .int .i64 au, .int .i64 xu, .int .i64 yu, .int .i64 zu, .int .i64 lou, .int .i64 hiu, .slice fpu flu fcu]] (.int .i64 r1))  (h1 : (r1 != 0) = false) (h2 : (inR du) = true) (h3 : (inR dv) = false) (w : World)  : Calls Tryd.prog 25 #[.agg #[.string nu, .int .i64 ku, .int .i64 au, .int .i64 xu, .int .i64 yu, .int .i64 zu, .int .i64 lou, .int .i64 hiu, .slice fpu flu fcu], .agg #[.int .i64 du, .int .i64 dv, .int .i64 dw]] w fun r W' => r = .returned (.tuple #[.agg #[.string ⟨#[]⟩, .int .i64 0, .int .i64 0, .int .i64 0, .int .i64 0, .int .i64 0, .int .i64 0, .int .i64 0, .slice none 0 0], .int .i64 2]) ∧ Kb w W' := by
  have kx := Kb.refl w
  unfold Ca at q1
  have j1 := (((Is.made w #[.string nu, .int .i64 ku, .int .i64 au, .int .i64 xu, .int .i64 yu, .int .i64 zu, .int .i64 lou, .int .i64 hiu, .slice fpu flu fcu] 28).alloc (.cells #[.int .i64 du, .int .i64 dv, .int .i64 dw] 23 (0, 0))).alloc (.cells #[.string ⟨#[]⟩, .int .i64 0, .int .i64 0, .int .i64 0, .int .i64 0, .int .i64 0, .int .i64 0, .int .i64 0, .slice none 0 0] 28 (0, 0)))
  have f2 := j1.c (i := 0) rfl
  have f3 := j1.c (i := 1) rfl
  have f4 := j1.c (i := 2) rfl
  have f5 := j1.c (i := 3) rfl
  have f6 := j1.c (i := 4) rfl
  have f7 := j1.c (i := 5) rfl
  have f8 := j1.c (i := 6) rfl
  have f9 := j1.c (i := 7) rfl
  have f10 := j1.c (i := 8) rfl
  go_enter Tryd.func25, Tryd.ntmps25
  go_wp2_with fail
  clear f2 f3 f4 f5 f6 f7 f8 f9 f10
  have b1 := j1
  have b2 := Is.made (w.alloc (.cells #[.string nu, .int .i64 ku, .int .i64 au, .int .i64 xu, .int .i64 yu, .int .i64 zu, .int .i64 lou, .int .i64 hiu, .slice fpu flu fcu] 28 (0, 0))) #[.int .i64 du, .int .i64 dv, .int .i64 dw] 23
  simp only [World.size_alloc] at b2
  replace b2 := (b2.alloc (.cells #[.string ⟨#[]⟩, .int .i64 0, .int .i64 0, .int .i64 0, .int .i64 0, .int .i64 0, .int .i64 0, .int .i64 0, .slice none 0 0] 28 (0, 0)))
  have b3 := Is.made ((w.alloc (.cells #[.string nu, .int .i64 ku, .int .i64 au, .int .i64 xu, .int .i64 yu, .int .i64 zu, .int .i64 lou, .int .i64 hiu, .slice fpu flu fcu] 28 (0, 0))).alloc (.cells #[.int .i64 du, .int .i64 dv, .int .i64 dw] 23 (0, 0))) #[.string ⟨#[]⟩, .int .i64 0, .int .i64 0, .int .i64 0, .int .i64 0, .int .i64 0, .int .i64 0, .int .i64 0, .slice none 0 0] 28
  simp only [World.size_alloc] at b3
  replace kx := ((kx.alloc (.cells #[.string nu, .int .i64 ku, .int .i64 au, .int .i64 xu, .int .i64 yu, .int .i64 zu, .int .i64 lou, .int .i64 hiu, .slice fpu flu fcu] 28 (0, 0))).alloc (.cells #[.int .i64 du, .int .i64 dv, .int .i64 dw] 23 (0, 0))).alloc (.cells #[.string ⟨#[]⟩, .int .i64 0, .int .i64 0, .int .i64 0, .int .i64 0, .int .i64 0, .int .i64 0, .int .i64 0, .slice none 0 0] 28 (0, 0))
  clear j1
  (with_reducible refine (((q1).out _)).mono ?_)
  rintro r w1 ⟨rfl, k1⟩
  replace b1 := b1.kb k1
  replace b2 := b2.kb k1
  replace b3 := b3.kb k1
  replace kx := kx.trans k1
  have s1 := k1.size
  simp only [World.size_alloc] at s1
  clear k1
  go_wp2_with fail
  replace b1 := b1.drew
  replace b2 := b2.drew
  replace b3 := b3.drew
  rw [oF_lit]
  refine o_law2 (⟨55, [some 17, some 18, some 19, some 20, some 21, some 7, some 8, none, none], [17, 18, 19, 20, 21, 7, 8, 7, 8], [[], [0], [1], [], [3], [], [], [5, 2], [6, 4]], [[2], [], [], [3], [], [], [], [], []]⟩ : OT) (RL [fun vv _ => vv = .pointer (some ⟨w.heap.size, 3, none⟩), fun vv _ => vv = .agg #[.int .i64 xu, .int .i64 yu, .int .i64 zu], fun vv _ => vv = .agg #[.int .i64 xu, .int .i64 yu, .int .i64 zu], fun vv _ => vv = .agg #[.int .i64 du, .int .i64 dv, .int .i64 dw], fun vv _ => vv = .agg #[.int .i64 du, .int .i64 dv, .int .i64 dw], fun _ _ => True, fun _ _ => True, fun _ _ => True, fun _ _ => True]) ⟨5, 7, 7, #[.int .i64 0, .int .i64 0, .int .i64 0], #[.int .i64 xu, .int .i64 yu, .int .i64 zu], 92⟩ ⟨6, 8, 8, #[.int .i64 0, .int .i64 0, .int .i64 0], #[.int .i64 du, .int .i64 dv, .int .i64 dw], 92⟩ (by kernel_rfl) (by kernel_rfl) (by kernel_rfl) (rl_free ⟨(fun _ _ _ h => h), (fun _ _ _ h => h), (fun _ _ _ h => h), (fun _ _ _ h => h), (fun _ _ _ h => h), (fun _ _ _ h => h), (fun _ _ _ h => h), (fun _ _ _ h => h), (fun _ _ _ h => h), trivial⟩) ?hR ?fin
  case hR =>
    refine allO_cons ?_ (allO_cons ?_ (allO_cons ?_ (allO_cons ?_ (allO_cons ?_ (allO_cons ?_ (allO_cons ?_ (allO_cons ?_ (allO_cons ?_ (allO_nil)))))))))
    · refine .val (by kernel_rfl) ?_
      intro T w9 hG hD hO Q
      have q0 := hO.1
      have e0 : (oF 55 T).eval (.tmp 2) = .pointer (some ⟨w.heap.size, 0, none⟩) := (oF_eval (by decide)).trans (show T 2 = _ from q0)
      refine og_none rfl ?_
      exact o_val (v := .pointer (some ⟨w.heap.size, 3, none⟩)) (w' := w9) (by generalize (oF 55 T).eval = rr at *; simp [execOp, go_sem, e0]) rfl rfl (Kb.refl _)
    · refine .val (by kernel_rfl) ?_
      intro T w9 hG hD hO Q
      have d0 := hD.1
      have e0 : (oF 55 T).eval (.tmp 17) = .pointer (some ⟨w.heap.size, 3, none⟩) := (oF_eval (by decide)).trans (show T 17 = _ from d0)
      refine og_none rfl ?_
      have im := b1.kx hG (by simp)
      have m0 := im.c (i := 3) rfl
      have m1 := im.c (i := 4) rfl
      have m2 := im.c (i := 5) rfl
      clear im
      exact o_val (v := .agg #[.int .i64 xu, .int .i64 yu, .int .i64 zu]) (w' := w9) (by generalize (oF 55 T).eval = rr at *; simp [execOp, go_sem, e0, m0, m1, m2]) rfl rfl (Kb.refl _)
    · refine .val (by kernel_rfl) ?_
      intro T w9 hG hD hO Q
      have d0 := hD.1
      have e0 : (oF 55 T).eval (.func 61) = .func (.func 61) #[] #[] := rfl
      have e1 : (oF 55 T).eval (.tmp 18) = .agg #[.int .i64 xu, .int .i64 yu, .int .i64 zu] := (oF_eval (by decide)).trans (show T 18 = _ from d0)
      refine og_none rfl ?_
      refine o_call (oc1 (enters_of Tryd.func61 (by kernel_rfl) rfl) rfl rfl e1) rfl ?_
      exact (Ca.o (rCoords xu yu zu) w9).mono fun r W' h => ⟨_, h.1, rfl, h.2⟩
    · refine .val (by kernel_rfl) ?_
      intro T w9 hG hD hO Q
      have q0 := hO.1
      have e0 : (oF 55 T).eval (.tmp 3) = .pointer (some ⟨w.heap.size + 1, 0, none⟩) := (oF_eval (by decide)).trans (show T 3 = _ from q0)
      refine og_none rfl ?_
      have im := b2.kx hG (by simp)
      have m0 := im.c (i := 0) rfl
      have m1 := im.c (i := 1) rfl
      have m2 := im.c (i := 2) rfl
      clear im
      exact o_val (v := .agg #[.int .i64 du, .int .i64 dv, .int .i64 dw]) (w' := w9) (by generalize (oF 55 T).eval = rr at *; simp [execOp, go_sem, e0, m0, m1, m2]) rfl rfl (Kb.refl _)
    · refine .val (by kernel_rfl) ?_
      intro T w9 hG hD hO Q
      have d0 := hD.1
      have e0 : (oF 55 T).eval (.func 61) = .func (.func 61) #[] #[] := rfl
      have e1 : (oF 55 T).eval (.tmp 20) = .agg #[.int .i64 du, .int .i64 dv, .int .i64 dw] := (oF_eval (by decide)).trans (show T 20 = _ from d0)
      refine og_none rfl ?_
      refine o_call (oc1 (enters_of Tryd.func61 (by kernel_rfl) rfl) rfl rfl e1) rfl ?_
      exact (Ca.o (rCoords du dv dw) w9).mono fun r W' h => ⟨_, h.1, rfl, h.2⟩
    · refine .alloc _ (.inl rfl) rfl rfl (fun T w9 => ?_) (fun _ _ => trivial)
      simp [execOp, go_sem]
    · refine .alloc _ (.inr rfl) rfl rfl (fun T w9 => ?_) (fun _ _ => trivial)
      simp [execOp, go_sem]
    · refine .store _ (.inl rfl) rfl rfl ?_ (fun _ _ => trivial)
      intro T w9 g hD hO hT io
      have d0 := hD.1
      have d1 := hD.2.1
      have e0 : (oF 55 T).eval (.tmp 7) = .pointer (some ⟨g, 0, none⟩) := (oF_eval (by decide)).trans hT
      have e1 : (oF 55 T).eval (.tmp 19) = .agg #[.int .i64 xu, .int .i64 yu, .int .i64 zu] := (oF_eval (by decide)).trans (show T 19 = _ from d1)
      have zn := io
      replace zn : Is (w9.setCell ⟨g, 0, none⟩ (.int .i64 xu)) (g) #[.int .i64 xu, .int .i64 0, .int .i64 0] 92 := zn.set 0 _
      replace zn : Is ((w9.setCell ⟨g, 0, none⟩ (.int .i64 xu)).setCell ⟨g, 1, none⟩ (.int .i64 yu)) (g) #[.int .i64 xu, .int .i64 yu, .int .i64 0] 92 := zn.set 1 _
      replace zn : Is (((w9.setCell ⟨g, 0, none⟩ (.int .i64 xu)).setCell ⟨g, 1, none⟩ (.int .i64 yu)).setCell ⟨g, 2, none⟩ (.int .i64 zu)) (g) #[.int .i64 xu, .int .i64 yu, .int .i64 zu] 92 := zn.set 2 _
      have pt := ((((Pt.refl g w9).set 0 (.int .i64 xu)).set 1 (.int .i64 yu)).set 2 (.int .i64 zu))
      have m0 := io.c (i := 0) rfl
      have f0 := io.f 0
      have m1 := io.c (i := 1) rfl
      have f1 := io.f 1
      have m2 := io.c (i := 2) rfl
      have f2 := io.f 2
      clear io
      exact ⟨_, (by generalize (oF 55 T).eval = rr at *; simp [execOp, go_sem, e0, e1, m0, f0, m1, f1, m2, f2] : _ = Result.ok Next.skip (((w9.setCell ⟨g, 0, none⟩ (.int .i64 xu)).setCell ⟨g, 1, none⟩ (.int .i64 yu)).setCell ⟨g, 2, none⟩ (.int .i64 zu))), zn, pt⟩
    · refine .store _ (.inr rfl) rfl rfl ?_ (fun _ _ => trivial)
      intro T w9 g hD hO hT io
      have d0 := hD.1
      have d1 := hD.2.1
      have e0 : (oF 55 T).eval (.tmp 8) = .pointer (some ⟨g, 0, none⟩) := (oF_eval (by decide)).trans hT
      have e1 : (oF 55 T).eval (.tmp 21) = .agg #[.int .i64 du, .int .i64 dv, .int .i64 dw] := (oF_eval (by decide)).trans (show T 21 = _ from d1)
      have zn := io
      replace zn : Is (w9.setCell ⟨g, 0, none⟩ (.int .i64 du)) (g) #[.int .i64 du, .int .i64 0, .int .i64 0] 92 := zn.set 0 _
      replace zn : Is ((w9.setCell ⟨g, 0, none⟩ (.int .i64 du)).setCell ⟨g, 1, none⟩ (.int .i64 dv)) (g) #[.int .i64 du, .int .i64 dv, .int .i64 0] 92 := zn.set 1 _
      replace zn : Is (((w9.setCell ⟨g, 0, none⟩ (.int .i64 du)).setCell ⟨g, 1, none⟩ (.int .i64 dv)).setCell ⟨g, 2, none⟩ (.int .i64 dw)) (g) #[.int .i64 du, .int .i64 dv, .int .i64 dw] 92 := zn.set 2 _
      have pt := ((((Pt.refl g w9).set 0 (.int .i64 du)).set 1 (.int .i64 dv)).set 2 (.int .i64 dw))
      have m0 := io.c (i := 0) rfl
      have f0 := io.f 0
      have m1 := io.c (i := 1) rfl
      have f1 := io.f 1
      have m2 := io.c (i := 2) rfl
      have f2 := io.f 2
      clear io
      exact ⟨_, (by generalize (oF 55 T).eval = rr at *; simp [execOp, go_sem, e0, e1, m0, f0, m1, f1, m2, f2] : _ = Result.ok Next.skip (((w9.setCell ⟨g, 0, none⟩ (.int .i64 du)).setCell ⟨g, 1, none⟩ (.int .i64 dv)).setCell ⟨g, 2, none⟩ (.int .i64 dw))), zn, pt⟩
  case fin =>
    intro T w2 hout hval hG hp hq hne
    have s2 := hG.2.2.2.1
    simp only [World.size_drew] at s2
    rw [show oF 55 T = (⟨#[T 0, T 1, T 2, T 3, T 4, T 5, T 6, T 7, T 8, T 9, T 10, T 11, T 12, T 13, T 14, T 15, T 16, T 17, T 18, T 19, T 20, T 21, T 22, T 23, T 24, T 25, T 26, T 27, T 28, T 29, T 30, T 31, T 32, T 33, T 34, T 35, T 36, T 37, T 38, T 39, T 40, T 41, T 42, T 43, T 44, T 45, T 46, T 47, T 48, T 49, T 50, T 51, T 52, T 53, T 54], []⟩ : Act) from oF_list 55 T]
    rw [show T 0 = .agg #[.string nu, .int .i64 ku, .int .i64 au, .int .i64 xu, .int .i64 yu, .int .i64 zu, .int .i64 lou, .int .i64 hiu, .slice fpu flu fcu] from hout 0 rfl]
    rw [show T 1 = .agg #[.int .i64 du, .int .i64 dv, .int .i64 dw] from hout 1 rfl]
    rw [show T 2 = .pointer (some ⟨w.heap.size, 0, none⟩) from hout 2 rfl]
    rw [show T 3 = .pointer (some ⟨w.heap.size + 1, 0, none⟩) from hout 3 rfl]
    rw [show T 4 = .pointer (some ⟨w.heap.size + 1 + 1, 0, none⟩) from hout 4 rfl]
    rw [show T 5 = .int .i64 0 from hout 5 rfl]
    rw [show T 6 = .int .i64 r1 from hout 6 rfl]
    rw [show T 11 = .agg #[.string nu, .int .i64 ku, .int .i64 au, .int .i64 xu, .int .i64 yu, .int .i64 zu, .int .i64 lou, .int .i64 hiu, .slice fpu flu fcu] from hout 11 rfl]
    rw [show T 12 = .int .i64 r1 from hout 12 rfl]
    rw [show T 13 = .int .i64 r1 from hout 13 rfl]
    rw [show T 14 = .bool false from hout 14 rfl]
    replace b1 := b1.kx hG (by simp)
    replace b2 := b2.kx hG (by simp)
    replace b3 := b3.kx hG (by simp)
    replace kx := (show Kb _ _ from kx.drew).trans hG.nil
    obtain ⟨g2x, eg2x, hg2x, b4⟩ := hp
    replace eg2x : T 7 = _ := eg2x
    rw [eg2x]
    obtain ⟨g2y, eg2y, hg2y, b5⟩ := hq
    replace eg2y : T 8 = _ := eg2y
    rw [eg2y]
    have d2 : g2x ≠ g2y := fun e => hne (show T 7 = T 8 by rw [eg2x, eg2y, e])
    clear hout hval hG hne eg2x eg2y
    go_wp2_with fail
    refine wp_loop_rounds 2 ?_
    rw [rounds_succ]
    have f11 := b5.c (i := 0) rfl
    go_wp2_with fail
    clear f11
    (with_reducible refine ((Ca.o (rIn du) _)).mono ?_)
    rintro r w3 ⟨rfl, k3⟩
    replace b1 := b1.kb k3
    replace b2 := b2.kb k3
    replace b3 := b3.kb k3
    replace b4 := b4.kb k3
    replace b5 := b5.kb k3
    replace kx := kx.trans k3
    have s3 := k3.size
    skip
    clear k3
    go_wp2_with fail
    rw [rounds_succ]
    have f12 := b5.c (i := 1) rfl
    go_wp2_with fail
    clear f12
    (with_reducible refine ((Ca.o (rIn dv) _)).mono ?_)
    rintro r w4 ⟨rfl, k4⟩
    replace b1 := b1.kb k4
    replace b2 := b2.kb k4
    replace b3 := b3.kb k4
    replace b4 := b4.kb k4
    replace b5 := b5.kb k4
    replace kx := kx.trans k4
    have s4 := k4.size
    skip
    clear k4
    have f13 := b3.c (i := 0) rfl
    have f14 := b3.f 0
    have f15 := b3.c (i := 1) rfl
    have f16 := b3.f 1
    have f17 := b3.c (i := 2) rfl
    have f18 := b3.f 2
    have f19 := b3.c (i := 3) rfl
    have f20 := b3.f 3
    have f21 := b3.c (i := 4) rfl
    have f22 := b3.f 4
    have f23 := b3.c (i := 5) rfl
    have f24 := b3.f 5
    have f25 := b3.c (i := 6) rfl
    have f26 := b3.f 6
    have f27 := b3.c (i := 7) rfl
    have f28 := b3.f 7
    have f29 := b3.c (i := 8) rfl
    have f30 := b3.f 8
    go_wp2
    clear f13 f14 f15 f16 f17 f18 f19 f20 f21 f22 f23 f24 f25 f26 f27 f28 f29 f30
    replace b3 : Is _ _ #[.string ⟨#[]⟩, .int .i64 0, .int .i64 0, .int .i64 0, .int .i64 0, .int .i64 0, .int .i64 0, .int .i64 0, .slice none 0 0] _ := b3.set 0 (.string ⟨#[]⟩)
    replace b3 : Is _ _ #[.string ⟨#[]⟩, .int .i64 0, .int .i64 0, .int .i64 0, .int .i64 0, .int .i64 0, .int .i64 0, .int .i64 0, .slice none 0 0] _ := b3.set 1 (.int .i64 0)
    replace b3 : Is _ _ #[.string ⟨#[]⟩, .int .i64 0, .int .i64 0, .int .i64 0, .int .i64 0, .int .i64 0, .int .i64 0, .int .i64 0, .slice none 0 0] _ := b3.set 2 (.int .i64 0)
    replace b3 : Is _ _ #[.string ⟨#[]⟩, .int .i64 0, .int .i64 0, .int .i64 0, .int .i64 0, .int .i64 0, .int .i64 0, .int .i64 0, .slice none 0 0] _ := b3.set 3 (.int .i64 0)
    replace b3 : Is _ _ #[.string ⟨#[]⟩, .int .i64 0, .int .i64 0, .int .i64 0, .int .i64 0, .int .i64 0, .int .i64 0, .int .i64 0, .slice none 0 0] _ := b3.set 4 (.int .i64 0)
    replace b3 : Is _ _ #[.string ⟨#[]⟩, .int .i64 0, .int .i64 0, .int .i64 0, .int .i64 0, .int .i64 0, .int .i64 0, .int .i64 0, .slice none 0 0] _ := b3.set 5 (.int .i64 0)
    replace b3 : Is _ _ #[.string ⟨#[]⟩, .int .i64 0, .int .i64 0, .int .i64 0, .int .i64 0, .int .i64 0, .int .i64 0, .int .i64 0, .slice none 0 0] _ := b3.set 6 (.int .i64 0)
    replace b3 : Is _ _ #[.string ⟨#[]⟩, .int .i64 0, .int .i64 0, .int .i64 0, .int .i64 0, .int .i64 0, .int .i64 0, .int .i64 0, .slice none 0 0] _ := b3.set 7 (.int .i64 0)
    replace b3 : Is _ _ #[.string ⟨#[]⟩, .int .i64 0, .int .i64 0, .int .i64 0, .int .i64 0, .int .i64 0, .int .i64 0, .int .i64 0, .slice none 0 0] _ := b3.set 8 (.slice none 0 0)
    replace kx := ((((((((kx.setCell (p := ⟨w.heap.size + 1 + 1, 0, none⟩) (show w.heap.size ≤ w.heap.size + 1 + 1 by omega) (.string ⟨#[]⟩)).setCell (p := ⟨w.heap.size + 1 + 1, 1, none⟩) (show w.heap.size ≤ w.heap.size + 1 + 1 by omega) (.int .i64 0)).setCell (p := ⟨w.heap.size + 1 + 1, 2, none⟩) (show w.heap.size ≤ w.heap.size + 1 + 1 by omega) (.int .i64 0)).setCell (p := ⟨w.heap.size + 1 + 1, 3, none⟩) (show w.heap.size ≤ w.heap.size + 1 + 1 by omega) (.int .i64 0)).setCell (p := ⟨w.heap.size + 1 + 1, 4, none⟩) (show w.heap.size ≤ w.heap.size + 1 + 1 by omega) (.int .i64 0)).setCell (p := ⟨w.heap.size + 1 + 1, 5, none⟩) (show w.heap.size ≤ w.heap.size + 1 + 1 by omega) (.int .i64 0)).setCell (p := ⟨w.heap.size + 1 + 1, 6, none⟩) (show w.heap.size ≤ w.heap.size + 1 + 1 by omega) (.int .i64 0)).setCell (p := ⟨w.heap.size + 1 + 1, 7, none⟩) (show w.heap.size ≤ w.heap.size + 1 + 1 by omega) (.int .i64 0)).setCell (p := ⟨w.heap.size + 1 + 1, 8, none⟩) (show w.heap.size ≤ w.heap.size + 1 + 1 by omega) (.slice none 0 0)
    refine ret_row2 Tryd.results25 rfl rfl rfl b3 Tryd.underlying28 rfl (by kernel_rfl) ?_
    exact ⟨rfl, kx⟩
set_option maxRecDepth 100000 in
set_option maxHeartbeats 4000000 in
theorem rMove_8 (nu : ByteArray) (ku : Int) (au : Int) (xu : Int) (yu : Int) (zu : Int) (lou : Int) (hiu : Int) (fpu : Option Addr) (flu : Nat) (fcu : Nat) (du : Int) (dv : Int) (dw : Int) (r1 : Int)   (q1 : Ca 19 #[.agg #[.string nu, .int .i64 ku, .int .i64 au, .int .i64 xu, .int .i64 yu, .int .i64 zu, .int .i64 lou, .int .i64 hiu, .slice fpu flu fcu]] (.int .i64 r1))  (h1 : (r1 != 0) = false) (h2 : (inR du) = false) (w : World)  : Calls Tryd.prog 25 #[.agg #[.string nu, .int .i64 ku, .int .i64 au, .int .i64 xu, .int .i64 yu, .int .i64 zu, .int .i64 lou, .int .i64 hiu, .slice fpu flu fcu], .agg #[.int .i64 du, .int .i64 dv, .int .i64 dw]] w fun r W' => r = .returned (.tuple #[.agg #[.string ⟨#[]⟩, .int .i64 0, .int .i64 0, .int .i64 0, .int .i64 0, .int .i64 0, .int .i64 0, .int .i64 0, .slice none 0 0], .int .i64 2]) ∧ Kb w W' := by
  have kx := Kb.refl w
  unfold Ca at q1
  have j1 := (((Is.made w #[.string nu, .int .i64 ku, .int .i64 au, .int .i64 xu, .int .i64 yu, .int .i64 zu, .int .i64 lou, .int .i64 hiu, .slice fpu flu fcu] 28).alloc (.cells #[.int .i64 du, .int .i64 dv, .int .i64 dw] 23 (0, 0))).alloc (.cells #[.string ⟨#[]⟩, .int .i64 0, .int .i64 0, .int .i64 0, .int .i64 0, .int .i64 0, .int .i64 0, .int .i64 0, .slice none 0 0] 28 (0, 0)))
  have f2 := j1.c (i := 0) rfl
  have f3 := j1.c (i := 1) rfl
  have f4 := j1.c (i := 2) rfl
  have f5 := j1.c (i := 3) rfl
  have f6 := j1.c (i := 4) rfl
  have f7 := j1.c (i := 5) rfl
  have f8 := j1.c (i := 6) rfl
  have f9 := j1.c (i := 7) rfl
  have f10 := j1.c (i := 8) rfl
  go_enter Tryd.func25, Tryd.ntmps25
  go_wp2_with fail
  clear f2 f3 f4 f5 f6 f7 f8 f9 f10
  have b1 := j1
  have b2 := Is.made (w.alloc (.cells #[.string nu, .int .i64 ku, .int .i64 au, .int .i64 xu, .int .i64 yu, .int .i64 zu, .int .i64 lou, .int .i64 hiu, .slice fpu flu fcu] 28 (0, 0))) #[.int .i64 du, .int .i64 dv, .int .i64 dw] 23
  simp only [World.size_alloc] at b2
  replace b2 := (b2.alloc (.cells #[.string ⟨#[]⟩, .int .i64 0, .int .i64 0, .int .i64 0, .int .i64 0, .int .i64 0, .int .i64 0, .int .i64 0, .slice none 0 0] 28 (0, 0)))
  have b3 := Is.made ((w.alloc (.cells #[.string nu, .int .i64 ku, .int .i64 au, .int .i64 xu, .int .i64 yu, .int .i64 zu, .int .i64 lou, .int .i64 hiu, .slice fpu flu fcu] 28 (0, 0))).alloc (.cells #[.int .i64 du, .int .i64 dv, .int .i64 dw] 23 (0, 0))) #[.string ⟨#[]⟩, .int .i64 0, .int .i64 0, .int .i64 0, .int .i64 0, .int .i64 0, .int .i64 0, .int .i64 0, .slice none 0 0] 28
  simp only [World.size_alloc] at b3
  replace kx := ((kx.alloc (.cells #[.string nu, .int .i64 ku, .int .i64 au, .int .i64 xu, .int .i64 yu, .int .i64 zu, .int .i64 lou, .int .i64 hiu, .slice fpu flu fcu] 28 (0, 0))).alloc (.cells #[.int .i64 du, .int .i64 dv, .int .i64 dw] 23 (0, 0))).alloc (.cells #[.string ⟨#[]⟩, .int .i64 0, .int .i64 0, .int .i64 0, .int .i64 0, .int .i64 0, .int .i64 0, .int .i64 0, .slice none 0 0] 28 (0, 0))
  clear j1
  (with_reducible refine (((q1).out _)).mono ?_)
  rintro r w1 ⟨rfl, k1⟩
  replace b1 := b1.kb k1
  replace b2 := b2.kb k1
  replace b3 := b3.kb k1
  replace kx := kx.trans k1
  have s1 := k1.size
  simp only [World.size_alloc] at s1
  clear k1
  go_wp2_with fail
  replace b1 := b1.drew
  replace b2 := b2.drew
  replace b3 := b3.drew
  rw [oF_lit]
  refine o_law2 (⟨55, [some 17, some 18, some 19, some 20, some 21, some 7, some 8, none, none], [17, 18, 19, 20, 21, 7, 8, 7, 8], [[], [0], [1], [], [3], [], [], [5, 2], [6, 4]], [[2], [], [], [3], [], [], [], [], []]⟩ : OT) (RL [fun vv _ => vv = .pointer (some ⟨w.heap.size, 3, none⟩), fun vv _ => vv = .agg #[.int .i64 xu, .int .i64 yu, .int .i64 zu], fun vv _ => vv = .agg #[.int .i64 xu, .int .i64 yu, .int .i64 zu], fun vv _ => vv = .agg #[.int .i64 du, .int .i64 dv, .int .i64 dw], fun vv _ => vv = .agg #[.int .i64 du, .int .i64 dv, .int .i64 dw], fun _ _ => True, fun _ _ => True, fun _ _ => True, fun _ _ => True]) ⟨5, 7, 7, #[.int .i64 0, .int .i64 0, .int .i64 0], #[.int .i64 xu, .int .i64 yu, .int .i64 zu], 92⟩ ⟨6, 8, 8, #[.int .i64 0, .int .i64 0, .int .i64 0], #[.int .i64 du, .int .i64 dv, .int .i64 dw], 92⟩ (by kernel_rfl) (by kernel_rfl) (by kernel_rfl) (rl_free ⟨(fun _ _ _ h => h), (fun _ _ _ h => h), (fun _ _ _ h => h), (fun _ _ _ h => h), (fun _ _ _ h => h), (fun _ _ _ h => h), (fun _ _ _ h => h), (fun _ _ _ h => h), (fun _ _ _ h => h), trivial⟩) ?hR ?fin
  case hR =>
    refine allO_cons ?_ (allO_cons ?_ (allO_cons ?_ (allO_cons ?_ (allO_cons ?_ (allO_cons ?_ (allO_cons ?_ (allO_cons ?_ (allO_cons ?_ (allO_nil)))))))))
    · refine .val (by kernel_rfl) ?_
      intro T w9 hG hD hO Q
      have q0 := hO.1
      have e0 : (oF 55 T).eval (.tmp 2) = .pointer (some ⟨w.heap.size, 0, none⟩) := (oF_eval (by decide)).trans (show T 2 = _ from q0)
      refine og_none rfl ?_
      exact o_val (v := .pointer (some ⟨w.heap.size, 3, none⟩)) (w' := w9) (by generalize (oF 55 T).eval = rr at *; simp [execOp, go_sem, e0]) rfl rfl (Kb.refl _)
    · refine .val (by kernel_rfl) ?_
      intro T w9 hG hD hO Q
      have d0 := hD.1
      have e0 : (oF 55 T).eval (.tmp 17) = .pointer (some ⟨w.heap.size, 3, none⟩) := (oF_eval (by decide)).trans (show T 17 = _ from d0)
      refine og_none rfl ?_
      have im := b1.kx hG (by simp)
      have m0 := im.c (i := 3) rfl
      have m1 := im.c (i := 4) rfl
      have m2 := im.c (i := 5) rfl
      clear im
      exact o_val (v := .agg #[.int .i64 xu, .int .i64 yu, .int .i64 zu]) (w' := w9) (by generalize (oF 55 T).eval = rr at *; simp [execOp, go_sem, e0, m0, m1, m2]) rfl rfl (Kb.refl _)
    · refine .val (by kernel_rfl) ?_
      intro T w9 hG hD hO Q
      have d0 := hD.1
      have e0 : (oF 55 T).eval (.func 61) = .func (.func 61) #[] #[] := rfl
      have e1 : (oF 55 T).eval (.tmp 18) = .agg #[.int .i64 xu, .int .i64 yu, .int .i64 zu] := (oF_eval (by decide)).trans (show T 18 = _ from d0)
      refine og_none rfl ?_
      refine o_call (oc1 (enters_of Tryd.func61 (by kernel_rfl) rfl) rfl rfl e1) rfl ?_
      exact (Ca.o (rCoords xu yu zu) w9).mono fun r W' h => ⟨_, h.1, rfl, h.2⟩
    · refine .val (by kernel_rfl) ?_
      intro T w9 hG hD hO Q
      have q0 := hO.1
      have e0 : (oF 55 T).eval (.tmp 3) = .pointer (some ⟨w.heap.size + 1, 0, none⟩) := (oF_eval (by decide)).trans (show T 3 = _ from q0)
      refine og_none rfl ?_
      have im := b2.kx hG (by simp)
      have m0 := im.c (i := 0) rfl
      have m1 := im.c (i := 1) rfl
      have m2 := im.c (i := 2) rfl
      clear im
      exact o_val (v := .agg #[.int .i64 du, .int .i64 dv, .int .i64 dw]) (w' := w9) (by generalize (oF 55 T).eval = rr at *; simp [execOp, go_sem, e0, m0, m1, m2]) rfl rfl (Kb.refl _)
    · refine .val (by kernel_rfl) ?_
      intro T w9 hG hD hO Q
      have d0 := hD.1
      have e0 : (oF 55 T).eval (.func 61) = .func (.func 61) #[] #[] := rfl
      have e1 : (oF 55 T).eval (.tmp 20) = .agg #[.int .i64 du, .int .i64 dv, .int .i64 dw] := (oF_eval (by decide)).trans (show T 20 = _ from d0)
      refine og_none rfl ?_
      refine o_call (oc1 (enters_of Tryd.func61 (by kernel_rfl) rfl) rfl rfl e1) rfl ?_
      exact (Ca.o (rCoords du dv dw) w9).mono fun r W' h => ⟨_, h.1, rfl, h.2⟩
    · refine .alloc _ (.inl rfl) rfl rfl (fun T w9 => ?_) (fun _ _ => trivial)
      simp [execOp, go_sem]
    · refine .alloc _ (.inr rfl) rfl rfl (fun T w9 => ?_) (fun _ _ => trivial)
      simp [execOp, go_sem]
    · refine .store _ (.inl rfl) rfl rfl ?_ (fun _ _ => trivial)
      intro T w9 g hD hO hT io
      have d0 := hD.1
      have d1 := hD.2.1
      have e0 : (oF 55 T).eval (.tmp 7) = .pointer (some ⟨g, 0, none⟩) := (oF_eval (by decide)).trans hT
      have e1 : (oF 55 T).eval (.tmp 19) = .agg #[.int .i64 xu, .int .i64 yu, .int .i64 zu] := (oF_eval (by decide)).trans (show T 19 = _ from d1)
      have zn := io
      replace zn : Is (w9.setCell ⟨g, 0, none⟩ (.int .i64 xu)) (g) #[.int .i64 xu, .int .i64 0, .int .i64 0] 92 := zn.set 0 _
      replace zn : Is ((w9.setCell ⟨g, 0, none⟩ (.int .i64 xu)).setCell ⟨g, 1, none⟩ (.int .i64 yu)) (g) #[.int .i64 xu, .int .i64 yu, .int .i64 0] 92 := zn.set 1 _
      replace zn : Is (((w9.setCell ⟨g, 0, none⟩ (.int .i64 xu)).setCell ⟨g, 1, none⟩ (.int .i64 yu)).setCell ⟨g, 2, none⟩ (.int .i64 zu)) (g) #[.int .i64 xu, .int .i64 yu, .int .i64 zu] 92 := zn.set 2 _
      have pt := ((((Pt.refl g w9).set 0 (.int .i64 xu)).set 1 (.int .i64 yu)).set 2 (.int .i64 zu))
      have m0 := io.c (i := 0) rfl
      have f0 := io.f 0
      have m1 := io.c (i := 1) rfl
      have f1 := io.f 1
      have m2 := io.c (i := 2) rfl
      have f2 := io.f 2
      clear io
      exact ⟨_, (by generalize (oF 55 T).eval = rr at *; simp [execOp, go_sem, e0, e1, m0, f0, m1, f1, m2, f2] : _ = Result.ok Next.skip (((w9.setCell ⟨g, 0, none⟩ (.int .i64 xu)).setCell ⟨g, 1, none⟩ (.int .i64 yu)).setCell ⟨g, 2, none⟩ (.int .i64 zu))), zn, pt⟩
    · refine .store _ (.inr rfl) rfl rfl ?_ (fun _ _ => trivial)
      intro T w9 g hD hO hT io
      have d0 := hD.1
      have d1 := hD.2.1
      have e0 : (oF 55 T).eval (.tmp 8) = .pointer (some ⟨g, 0, none⟩) := (oF_eval (by decide)).trans hT
      have e1 : (oF 55 T).eval (.tmp 21) = .agg #[.int .i64 du, .int .i64 dv, .int .i64 dw] := (oF_eval (by decide)).trans (show T 21 = _ from d1)
      have zn := io
      replace zn : Is (w9.setCell ⟨g, 0, none⟩ (.int .i64 du)) (g) #[.int .i64 du, .int .i64 0, .int .i64 0] 92 := zn.set 0 _
      replace zn : Is ((w9.setCell ⟨g, 0, none⟩ (.int .i64 du)).setCell ⟨g, 1, none⟩ (.int .i64 dv)) (g) #[.int .i64 du, .int .i64 dv, .int .i64 0] 92 := zn.set 1 _
      replace zn : Is (((w9.setCell ⟨g, 0, none⟩ (.int .i64 du)).setCell ⟨g, 1, none⟩ (.int .i64 dv)).setCell ⟨g, 2, none⟩ (.int .i64 dw)) (g) #[.int .i64 du, .int .i64 dv, .int .i64 dw] 92 := zn.set 2 _
      have pt := ((((Pt.refl g w9).set 0 (.int .i64 du)).set 1 (.int .i64 dv)).set 2 (.int .i64 dw))
      have m0 := io.c (i := 0) rfl
      have f0 := io.f 0
      have m1 := io.c (i := 1) rfl
      have f1 := io.f 1
      have m2 := io.c (i := 2) rfl
      have f2 := io.f 2
      clear io
      exact ⟨_, (by generalize (oF 55 T).eval = rr at *; simp [execOp, go_sem, e0, e1, m0, f0, m1, f1, m2, f2] : _ = Result.ok Next.skip (((w9.setCell ⟨g, 0, none⟩ (.int .i64 du)).setCell ⟨g, 1, none⟩ (.int .i64 dv)).setCell ⟨g, 2, none⟩ (.int .i64 dw))), zn, pt⟩
  case fin =>
    intro T w2 hout hval hG hp hq hne
    have s2 := hG.2.2.2.1
    simp only [World.size_drew] at s2
    rw [show oF 55 T = (⟨#[T 0, T 1, T 2, T 3, T 4, T 5, T 6, T 7, T 8, T 9, T 10, T 11, T 12, T 13, T 14, T 15, T 16, T 17, T 18, T 19, T 20, T 21, T 22, T 23, T 24, T 25, T 26, T 27, T 28, T 29, T 30, T 31, T 32, T 33, T 34, T 35, T 36, T 37, T 38, T 39, T 40, T 41, T 42, T 43, T 44, T 45, T 46, T 47, T 48, T 49, T 50, T 51, T 52, T 53, T 54], []⟩ : Act) from oF_list 55 T]
    rw [show T 0 = .agg #[.string nu, .int .i64 ku, .int .i64 au, .int .i64 xu, .int .i64 yu, .int .i64 zu, .int .i64 lou, .int .i64 hiu, .slice fpu flu fcu] from hout 0 rfl]
    rw [show T 1 = .agg #[.int .i64 du, .int .i64 dv, .int .i64 dw] from hout 1 rfl]
    rw [show T 2 = .pointer (some ⟨w.heap.size, 0, none⟩) from hout 2 rfl]
    rw [show T 3 = .pointer (some ⟨w.heap.size + 1, 0, none⟩) from hout 3 rfl]
    rw [show T 4 = .pointer (some ⟨w.heap.size + 1 + 1, 0, none⟩) from hout 4 rfl]
    rw [show T 5 = .int .i64 0 from hout 5 rfl]
    rw [show T 6 = .int .i64 r1 from hout 6 rfl]
    rw [show T 11 = .agg #[.string nu, .int .i64 ku, .int .i64 au, .int .i64 xu, .int .i64 yu, .int .i64 zu, .int .i64 lou, .int .i64 hiu, .slice fpu flu fcu] from hout 11 rfl]
    rw [show T 12 = .int .i64 r1 from hout 12 rfl]
    rw [show T 13 = .int .i64 r1 from hout 13 rfl]
    rw [show T 14 = .bool false from hout 14 rfl]
    replace b1 := b1.kx hG (by simp)
    replace b2 := b2.kx hG (by simp)
    replace b3 := b3.kx hG (by simp)
    replace kx := (show Kb _ _ from kx.drew).trans hG.nil
    obtain ⟨g2x, eg2x, hg2x, b4⟩ := hp
    replace eg2x : T 7 = _ := eg2x
    rw [eg2x]
    obtain ⟨g2y, eg2y, hg2y, b5⟩ := hq
    replace eg2y : T 8 = _ := eg2y
    rw [eg2y]
    have d2 : g2x ≠ g2y := fun e => hne (show T 7 = T 8 by rw [eg2x, eg2y, e])
    clear hout hval hG hne eg2x eg2y
    go_wp2_with fail
    refine wp_loop_rounds 1 ?_
    rw [rounds_succ]
    have f11 := b5.c (i := 0) rfl
    go_wp2_with fail
    clear f11
    (with_reducible refine ((Ca.o (rIn du) _)).mono ?_)
    rintro r w3 ⟨rfl, k3⟩
    replace b1 := b1.kb k3
    replace b2 := b2.kb k3
    replace b3 := b3.kb k3
    replace b4 := b4.kb k3
    replace b5 := b5.kb k3
    replace kx := kx.trans k3
    have s3 := k3.size
    skip
    clear k3
    have f12 := b3.c (i := 0) rfl
    have f13 := b3.f 0
    have f14 := b3.c (i := 1) rfl
    have f15 := b3.f 1
    have f16 := b3.c (i := 2) rfl
    have f17 := b3.f 2
    have f18 := b3.c (i := 3) rfl
    have f19 := b3.f 3
    have f20 := b3.c (i := 4) rfl
    have f21 := b3.f 4
    have f22 := b3.c (i := 5) rfl
    have f23 := b3.f 5
    have f24 := b3.c (i := 6) rfl
    have f25 := b3.f 6
    have f26 := b3.c (i := 7) rfl
    have f27 := b3.f 7
    have f28 := b3.c (i := 8) rfl
    have f29 := b3.f 8
    go_wp2
    clear f12 f13 f14 f15 f16 f17 f18 f19 f20 f21 f22 f23 f24 f25 f26 f27 f28 f29
    replace b3 : Is _ _ #[.string ⟨#[]⟩, .int .i64 0, .int .i64 0, .int .i64 0, .int .i64 0, .int .i64 0, .int .i64 0, .int .i64 0, .slice none 0 0] _ := b3.set 0 (.string ⟨#[]⟩)
    replace b3 : Is _ _ #[.string ⟨#[]⟩, .int .i64 0, .int .i64 0, .int .i64 0, .int .i64 0, .int .i64 0, .int .i64 0, .int .i64 0, .slice none 0 0] _ := b3.set 1 (.int .i64 0)
    replace b3 : Is _ _ #[.string ⟨#[]⟩, .int .i64 0, .int .i64 0, .int .i64 0, .int .i64 0, .int .i64 0, .int .i64 0, .int .i64 0, .slice none 0 0] _ := b3.set 2 (.int .i64 0)
    replace b3 : Is _ _ #[.string ⟨#[]⟩, .int .i64 0, .int .i64 0, .int .i64 0, .int .i64 0, .int .i64 0, .int .i64 0, .int .i64 0, .slice none 0 0] _ := b3.set 3 (.int .i64 0)
    replace b3 : Is _ _ #[.string ⟨#[]⟩, .int .i64 0, .int .i64 0, .int .i64 0, .int .i64 0, .int .i64 0, .int .i64 0, .int .i64 0, .slice none 0 0] _ := b3.set 4 (.int .i64 0)
    replace b3 : Is _ _ #[.string ⟨#[]⟩, .int .i64 0, .int .i64 0, .int .i64 0, .int .i64 0, .int .i64 0, .int .i64 0, .int .i64 0, .slice none 0 0] _ := b3.set 5 (.int .i64 0)
    replace b3 : Is _ _ #[.string ⟨#[]⟩, .int .i64 0, .int .i64 0, .int .i64 0, .int .i64 0, .int .i64 0, .int .i64 0, .int .i64 0, .slice none 0 0] _ := b3.set 6 (.int .i64 0)
    replace b3 : Is _ _ #[.string ⟨#[]⟩, .int .i64 0, .int .i64 0, .int .i64 0, .int .i64 0, .int .i64 0, .int .i64 0, .int .i64 0, .slice none 0 0] _ := b3.set 7 (.int .i64 0)
    replace b3 : Is _ _ #[.string ⟨#[]⟩, .int .i64 0, .int .i64 0, .int .i64 0, .int .i64 0, .int .i64 0, .int .i64 0, .int .i64 0, .slice none 0 0] _ := b3.set 8 (.slice none 0 0)
    replace kx := ((((((((kx.setCell (p := ⟨w.heap.size + 1 + 1, 0, none⟩) (show w.heap.size ≤ w.heap.size + 1 + 1 by omega) (.string ⟨#[]⟩)).setCell (p := ⟨w.heap.size + 1 + 1, 1, none⟩) (show w.heap.size ≤ w.heap.size + 1 + 1 by omega) (.int .i64 0)).setCell (p := ⟨w.heap.size + 1 + 1, 2, none⟩) (show w.heap.size ≤ w.heap.size + 1 + 1 by omega) (.int .i64 0)).setCell (p := ⟨w.heap.size + 1 + 1, 3, none⟩) (show w.heap.size ≤ w.heap.size + 1 + 1 by omega) (.int .i64 0)).setCell (p := ⟨w.heap.size + 1 + 1, 4, none⟩) (show w.heap.size ≤ w.heap.size + 1 + 1 by omega) (.int .i64 0)).setCell (p := ⟨w.heap.size + 1 + 1, 5, none⟩) (show w.heap.size ≤ w.heap.size + 1 + 1 by omega) (.int .i64 0)).setCell (p := ⟨w.heap.size + 1 + 1, 6, none⟩) (show w.heap.size ≤ w.heap.size + 1 + 1 by omega) (.int .i64 0)).setCell (p := ⟨w.heap.size + 1 + 1, 7, none⟩) (show w.heap.size ≤ w.heap.size + 1 + 1 by omega) (.int .i64 0)).setCell (p := ⟨w.heap.size + 1 + 1, 8, none⟩) (show w.heap.size ≤ w.heap.size + 1 + 1 by omega) (.slice none 0 0)
    refine ret_row2 Tryd.results25 rfl rfl rfl b3 Tryd.underlying28 rfl (by kernel_rfl) ?_
    exact ⟨rfl, kx⟩
end Go.Proofs.YtdmfkgopalelgaaDoor
