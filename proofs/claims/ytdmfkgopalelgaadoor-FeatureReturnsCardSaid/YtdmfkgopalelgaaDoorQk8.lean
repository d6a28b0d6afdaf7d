/- Features: Move, any frames. -/
import Derived.Test.YtdmfkgopalelgaaDoorQk6
import Derived.Test.YtdmfkgopalelgaaDoorQg3
namespace Go.Proofs.YtdmfkgopalelgaaDoor
open Go.RowKit

set_option maxRecDepth 100000 in
set_option maxHeartbeats 4000000 in
theorem cMove_1 (nu : ByteArray) (ku : Int) (au : Int) (xu : Int) (yu : Int) (zu : Int) (lou : Int) (hiu : Int) (fpu : Option Addr) (flu : Nat) (fcu : Nat) (fs : List FrT) (hfl : fs.length ≤ 1000) (hall : Hid (∀ f ∈ fs, f.ds.length ≤ 1000)) (du : Int) (dv : Int) (dw : Int) (r4 : Int) (r5 : Int) (r6 : Int) (z1 : Int) (z2 : Int) (z3 : Int) (a1 : wrap64 (xu + du) = z1) (a2 : wrap64 (yu + dv) = z2) (a3 : wrap64 (zu + dw) = z3) (q1 : Ca 18 #[.agg #[.string nu, .int .i64 ku, .int .i64 au, .int .i64 xu, .int .i64 yu, .int .i64 zu, .int .i64 lou, .int .i64 hiu, .slice fpu flu fcu]] (.int .i64 r4)) (q2 : Ca 44 #[.agg #[.int .i64 du, .int .i64 dv, .int .i64 dw]] (.int .i64 r5)) (q3 : Ca 44 #[.agg #[.int .i64 z1, .int .i64 z2, .int .i64 z3]] (.int .i64 r6))  (h1 : ((firstE [firstE [r4], firstE [r5, r6]]) != 0) = true) (w : World) (da : FrS w (.slice fpu flu fcu) fs)  : Calls Tryd.prog 24 #[.agg #[.string nu, .int .i64 ku, .int .i64 au, .int .i64 xu, .int .i64 yu, .int .i64 zu, .int .i64 lou, .int .i64 hiu, .slice fpu flu fcu], .agg #[.int .i64 du, .int .i64 dv, .int .i64 dw]] w fun r W' => r = .returned (.tuple #[.agg #[.string ⟨#[]⟩, .int .i64 0, .int .i64 0, .int .i64 0, .int .i64 0, .int .i64 0, .int .i64 0, .int .i64 0, .slice none 0 0], .int .i64 (firstE [firstE [r4], firstE [r5, r6]])]) ∧ Kb w W' := by
  have kx := Kb.refl w
  unfold Ca at q1 q2 q3
  have da0 := Lib.hid da
  have a1' : IntKind.i64.wrap (xu + du) = z1 := (Go.IntWalk.i64_left _).trans a1
  have a2' : IntKind.i64.wrap (yu + dv) = z2 := (Go.IntWalk.i64_left _).trans a2
  have a3' : IntKind.i64.wrap (zu + dw) = z3 := (Go.IntWalk.i64_left _).trans a3
  have j1 := (((Is.made w #[.string nu, .int .i64 ku, .int .i64 au, .int .i64 xu, .int .i64 yu, .int .i64 zu, .int .i64 lou, .int .i64 hiu, .slice fpu flu fcu] 28).alloc (.cells #[.int .i64 du, .int .i64 dv, .int .i64 dw] 23 (0, 0))).alloc (.cells #[.string ⟨#[]⟩, .int .i64 0, .int .i64 0, .int .i64 0, .int .i64 0, .int .i64 0, .int .i64 0, .int .i64 0, .slice none 0 0] 28 (0, 0)))
  have f2 := j1.c (i := 3) rfl
  have j3 := ((Is.made (w.alloc (.cells #[.string nu, .int .i64 ku, .int .i64 au, .int .i64 xu, .int .i64 yu, .int .i64 zu, .int .i64 lou, .int .i64 hiu, .slice fpu flu fcu] 28 (0, 0))) #[.int .i64 du, .int .i64 dv, .int .i64 dw] 23).alloc (.cells #[.string ⟨#[]⟩, .int .i64 0, .int .i64 0, .int .i64 0, .int .i64 0, .int .i64 0, .int .i64 0, .int .i64 0, .slice none 0 0] 28 (0, 0)))
  simp only [World.size_alloc] at j3
  have f4 := j3.c (i := 0) rfl
  have f5 := j1.c (i := 4) rfl
  have f6 := j3.c (i := 1) rfl
  have f7 := j1.c (i := 5) rfl
  have f8 := j3.c (i := 2) rfl
  go_enter Tryd.func24, Tryd.ntmps24
  go_wp2_with fail
  clear f2 f4 f5 f6 f7 f8
  have b1 := Is.made w #[.string nu, .int .i64 ku, .int .i64 au, .int .i64 xu, .int .i64 yu, .int .i64 zu, .int .i64 lou, .int .i64 hiu, .slice fpu flu fcu] 28
  replace b1 := (((b1.alloc (.cells #[.int .i64 du, .int .i64 dv, .int .i64 dw] 23 (0, 0))).alloc (.cells #[.string ⟨#[]⟩, .int .i64 0, .int .i64 0, .int .i64 0, .int .i64 0, .int .i64 0, .int .i64 0, .int .i64 0, .slice none 0 0] 28 (0, 0))).alloc (.cells #[.int .i64 z1, .int .i64 z2, .int .i64 z3] 23 (0, 0)))
  have b2 := Is.made (w.alloc (.cells #[.string nu, .int .i64 ku, .int .i64 au, .int .i64 xu, .int .i64 yu, .int .i64 zu, .int .i64 lou, .int .i64 hiu, .slice fpu flu fcu] 28 (0, 0))) #[.int .i64 du, .int .i64 dv, .int .i64 dw] 23
  simp only [World.size_alloc] at b2
  replace b2 := ((b2.alloc (.cells #[.string ⟨#[]⟩, .int .i64 0, .int .i64 0, .int .i64 0, .int .i64 0, .int .i64 0, .int .i64 0, .int .i64 0, .slice none 0 0] 28 (0, 0))).alloc (.cells #[.int .i64 z1, .int .i64 z2, .int .i64 z3] 23 (0, 0)))
  have b3 := Is.made ((w.alloc (.cells #[.string nu, .int .i64 ku, .int .i64 au, .int .i64 xu, .int .i64 yu, .int .i64 zu, .int .i64 lou, .int .i64 hiu, .slice fpu flu fcu] 28 (0, 0))).alloc (.cells #[.int .i64 du, .int .i64 dv, .int .i64 dw] 23 (0, 0))) #[.string ⟨#[]⟩, .int .i64 0, .int .i64 0, .int .i64 0, .int .i64 0, .int .i64 0, .int .i64 0, .int .i64 0, .slice none 0 0] 28
  simp only [World.size_alloc] at b3
  replace b3 := (b3.alloc (.cells #[.int .i64 z1, .int .i64 z2, .int .i64 z3] 23 (0, 0)))
  have b4 := Is.made (((w.alloc (.cells #[.string nu, .int .i64 ku, .int .i64 au, .int .i64 xu, .int .i64 yu, .int .i64 zu, .int .i64 lou, .int .i64 hiu, .slice fpu flu fcu] 28 (0, 0))).alloc (.cells #[.int .i64 du, .int .i64 dv, .int .i64 dw] 23 (0, 0))).alloc (.cells #[.string ⟨#[]⟩, .int .i64 0, .int .i64 0, .int .i64 0, .int .i64 0, .int .i64 0, .int .i64 0, .int .i64 0, .slice none 0 0] 28 (0, 0))) #[.int .i64 z1, .int .i64 z2, .int .i64 z3] 23
  simp only [World.size_alloc] at b4
  replace kx := (((kx.alloc (.cells #[.string nu, .int .i64 ku, .int .i64 au, .int .i64 xu, .int .i64 yu, .int .i64 zu, .int .i64 lou, .int .i64 hiu, .slice fpu flu fcu] 28 (0, 0))).alloc (.cells #[.int .i64 du, .int .i64 dv, .int .i64 dw] 23 (0, 0))).alloc (.cells #[.string ⟨#[]⟩, .int .i64 0, .int .i64 0, .int .i64 0, .int .i64 0, .int .i64 0, .int .i64 0, .int .i64 0, .slice none 0 0] 28 (0, 0))).alloc (.cells #[.int .i64 z1, .int .i64 z2, .int .i64 z3] 23 (0, 0))
  clear j1 j3
  replace da := da0.out.kb kx
  replace da := da.drew
  replace b1 := b1.drew
  replace b2 := b2.drew
  replace b3 := b3.drew
  replace b4 := b4.drew
  rw [oF_lit]
  refine o_law (⟨43, [some 27, some 28, some 29, some 30, some 31, some 32, some 33, some 34, some 35, some 7], [27, 28, 29, 30, 31, 32, 33, 34, 35, 7], [[], [0], [1], [], [], [3, 4], [5], [2, 6], [7], [8]], [[2], [], [], [3], [6], [], [], [], [], []]⟩ : OT) (Kx []) (RL [fun vv _ => vv = .agg #[.string nu, .int .i64 ku, .int .i64 au, .int .i64 xu, .int .i64 yu, .int .i64 zu, .int .i64 lou, .int .i64 hiu, .slice fpu flu fcu], fun vv ww => Sl [] 9 ww vv [[.string nu, .int .i64 ku, .int .i64 au, .int .i64 xu, .int .i64 yu, .int .i64 zu, .int .i64 lou, .int .i64 hiu, .slice fpu flu fcu]], fun vv ww => Ck [] vv (firstE [r4]) ww, fun vv _ => vv = .agg #[.int .i64 du, .int .i64 dv, .int .i64 dw], fun vv _ => vv = .agg #[.int .i64 z1, .int .i64 z2, .int .i64 z3], fun vv ww => Sl [] 3 ww vv [[.int .i64 du, .int .i64 dv, .int .i64 dw], [.int .i64 z1, .int .i64 z2, .int .i64 z3]], fun vv ww => Ck [] vv (firstE [r5, r6]) ww, fun vv ww => SlC [] [firstE [r4], firstE [r5, r6]] vv ww, fun vv _ => vv = .int .i64 (firstE [firstE [r4], firstE [r5, r6]]), fun vv _ => vv = .int .i64 (firstE [firstE [r4], firstE [r5, r6]])]) (by kernel_rfl) ?hk ?hR ?fin
  case hk => kernel_rfl
  case hR =>
    refine ⟨fun _ => (Kx.refl _ _), fun _ _ _ => Kx.trans, rl_stab ⟨fun _ _ _ _ h => h, (fun v w w' k h => h.kx k), (fun v w w' k h => h.kx k), fun _ _ _ _ h => h, fun _ _ _ _ h => h, (fun v w w' k h => h.kx k), (fun v w w' k h => h.kx k), (fun v w w' k h => h.kx k), fun _ _ _ _ h => h, fun _ _ _ _ h => h, trivial⟩, ?_⟩
    refine allO_cons ?_ (allO_cons ?_ (allO_cons ?_ (allO_cons ?_ (allO_cons ?_ (allO_cons ?_ (allO_cons ?_ (allO_cons ?_ (allO_cons ?_ (allO_cons ?_ (allO_nil))))))))))
    · intro T w9 hG hD hO Q
      have q0 := hO.1
      have e0 : (oF 43 T).eval (.tmp 2) = .pointer (some ⟨w.heap.size, 0, none⟩) := (oF_eval (by decide)).trans (show T 2 = _ from q0)
      refine og_none rfl ?_
      have im := b1.kx hG (by simp)
      have m0 := im.c (i := 0) rfl
      have m1 := im.c (i := 1) rfl
      have m2 := im.c (i := 2) rfl
      have m3 := im.c (i := 3) rfl
      have m4 := im.c (i := 4) rfl
      have m5 := im.c (i := 5) rfl
      have m6 := im.c (i := 6) rfl
      have m7 := im.c (i := 7) rfl
      have m8 := im.c (i := 8) rfl
      clear im
      exact o_val (v := .agg #[.string nu, .int .i64 ku, .int .i64 au, .int .i64 xu, .int .i64 yu, .int .i64 zu, .int .i64 lou, .int .i64 hiu, .slice fpu flu fcu]) (w' := w9) (by generalize (oF 43 T).eval = rr at *; simp [execOp, go_sem, e0, m0, m1, m2, m3, m4, m5, m6, m7, m8]) rfl rfl (Kx.refl _ _)
    · intro T w9 hG hD hO Q
      have d0 := hD.1
      have e0 : (oF 43 T).eval (.tmp 27) = .agg #[.string nu, .int .i64 ku, .int .i64 au, .int .i64 xu, .int .i64 yu, .int .i64 zu, .int .i64 lou, .int .i64 hiu, .slice fpu flu fcu] := (oF_eval (by decide)).trans (show T 27 = _ from d0)
      refine og_none rfl ?_
      have kz : Kb w9 (w9.alloc (.cells #[.string nu, .int .i64 ku, .int .i64 au, .int .i64 xu, .int .i64 yu, .int .i64 zu, .int .i64 lou, .int .i64 hiu, .slice fpu flu fcu] 28 (0, 0))) := (Kb.refl w9).alloc _
      exact o_val (v := .slice (some ⟨w9.heap.size, 0, none⟩) 1 1) (w' := w9.alloc (.cells #[.string nu, .int .i64 ku, .int .i64 au, .int .i64 xu, .int .i64 yu, .int .i64 zu, .int .i64 lou, .int .i64 hiu, .slice fpu flu fcu] 28 (0, 0))) (by generalize (oF 43 T).eval = rr at *; simp [execOp, go_sem, e0]) rfl (sl_is (Is.made w9 _ _) (by simp) rfl (rows_ok rfl rfl)) kz.kx
    · intro T w9 hG hD hO Q
      have d0 := hD.1
      have e0 : (oF 43 T).eval (.func 58) = .func (.func 58) #[] #[] := rfl
      have e1 : (oF 43 T).eval (.func 18) = .func (.func 18) #[] #[] := rfl
      have e2 : (oF 43 T).eval (.tmp 28) = T 28 := oF_eval (by decide)
      have p2 : (fun vv ww => Sl [] 9 ww vv [[.string nu, .int .i64 ku, .int .i64 au, .int .i64 xu, .int .i64 yu, .int .i64 zu, .int .i64 lou, .int .i64 hiu, .slice fpu flu fcu]]) (T 28) w9 := d0
      refine og_none rfl ?_
      refine o_call (oc2 (enters_of Tryd.func58 (by kernel_rfl) rfl) rfl rfl e1 e2) rfl ?_
      exact (cEach_Ftr [] _ (⟨#[]⟩, 0, 0, 0, 0, 0, 0, 0, none, 0, 0) [(nu, ku, au, xu, yu, zu, lou, hiu, fpu, flu, fcu)] [r4] _ w9 (by simp) (by simp) rfl p2 (enters_of Tryd.func18 (by kernel_rfl) rfl) (each_ok ⟨q1, trivial⟩ rfl)).mono fun r W' ⟨v, h1, h2, h3⟩ => ⟨v, h1, h2, h3.kx⟩
    · intro T w9 hG hD hO Q
      have q0 := hO.1
      have e0 : (oF 43 T).eval (.tmp 3) = .pointer (some ⟨w.heap.size + 1, 0, none⟩) := (oF_eval (by decide)).trans (show T 3 = _ from q0)
      refine og_none rfl ?_
      have im := b2.kx hG (by simp)
      have m0 := im.c (i := 0) rfl
      have m1 := im.c (i := 1) rfl
      have m2 := im.c (i := 2) rfl
      clear im
      exact o_val (v := .agg #[.int .i64 du, .int .i64 dv, .int .i64 dw]) (w' := w9) (by generalize (oF 43 T).eval = rr at *; simp [execOp, go_sem, e0, m0, m1, m2]) rfl rfl (Kx.refl _ _)
    · intro T w9 hG hD hO Q
      have q0 := hO.1
      have e0 : (oF 43 T).eval (.tmp 6) = .pointer (some ⟨w.heap.size + 1 + 1 + 1, 0, none⟩) := (oF_eval (by decide)).trans (show T 6 = _ from q0)
      refine og_none rfl ?_
      have im := b4.kx hG (by simp)
      have m0 := im.c (i := 0) rfl
      have m1 := im.c (i := 1) rfl
      have m2 := im.c (i := 2) rfl
      clear im
      exact o_val (v := .agg #[.int .i64 z1, .int .i64 z2, .int .i64 z3]) (w' := w9) (by generalize (oF 43 T).eval = rr at *; simp [execOp, go_sem, e0, m0, m1, m2]) rfl rfl (Kx.refl _ _)
    · intro T w9 hG hD hO Q
      have d0 := hD.1
      have d1 := hD.2.1
      have e0 : (oF 43 T).eval (.tmp 30) = .agg #[.int .i64 du, .int .i64 dv, .int .i64 dw] := (oF_eval (by decide)).trans (show T 30 = _ from d0)
      have e1 : (oF 43 T).eval (.tmp 31) = .agg #[.int .i64 z1, .int .i64 z2, .int .i64 z3] := (oF_eval (by decide)).trans (show T 31 = _ from d1)
      refine og_none rfl ?_
      have kz : Kb w9 (w9.alloc (.cells #[.int .i64 du, .int .i64 dv, .int .i64 dw, .int .i64 z1, .int .i64 z2, .int .i64 z3] 23 (0, 0))) := (Kb.refl w9).alloc _
      exact o_val (v := .slice (some ⟨w9.heap.size, 0, none⟩) 2 2) (w' := w9.alloc (.cells #[.int .i64 du, .int .i64 dv, .int .i64 dw, .int .i64 z1, .int .i64 z2, .int .i64 z3] 23 (0, 0))) (by generalize (oF 43 T).eval = rr at *; simp [execOp, go_sem, e0, e1]) rfl (sl_is (Is.made w9 _ _) (by simp) rfl (rows_ok rfl rfl)) kz.kx
    · intro T w9 hG hD hO Q
      have d0 := hD.1
      have e0 : (oF 43 T).eval (.func 43) = .func (.func 43) #[] #[] := rfl
      have e1 : (oF 43 T).eval (.func 44) = .func (.func 44) #[] #[] := rfl
      have e2 : (oF 43 T).eval (.tmp 32) = T 32 := oF_eval (by decide)
      have p2 : (fun vv ww => Sl [] 3 ww vv [[.int .i64 du, .int .i64 dv, .int .i64 dw], [.int .i64 z1, .int .i64 z2, .int .i64 z3]]) (T 32) w9 := d0
      refine og_none rfl ?_
      refine o_call (oc2 (enters_of Tryd.func43 (by kernel_rfl) rfl) rfl rfl e1 e2) rfl ?_
      exact (cEach_Spt [] _ (0, 0, 0) [(du, dv, dw), (z1, z2, z3)] [r5, r6] _ w9 (by simp) (by simp) rfl p2 (enters_of Tryd.func44 (by kernel_rfl) rfl) (each_ok ⟨q2, q3, trivial⟩ rfl)).mono fun r W' ⟨v, h1, h2, h3⟩ => ⟨v, h1, h2, h3.kx⟩
    · intro T w9 hG hD hO Q
      have d0 := hD.1
      have d1 := hD.2.1
      have e0 : (oF 43 T).eval (.tmp 29) = T 29 := oF_eval (by decide)
      have p0 : (fun vv ww => Ck [] vv (firstE [r4]) ww) (T 29) w9 := d0
      have e1 : (oF 43 T).eval (.tmp 33) = T 33 := oF_eval (by decide)
      have p1 : (fun vv ww => Ck [] vv (firstE [r5, r6]) ww) (T 33) w9 := d1
      refine og_none rfl ?_
      obtain ⟨F0, c0, f0, g0, h0⟩ := p0
      obtain ⟨F1, c1, f1, g1, h1⟩ := p1
      rw [f0] at e0
      rw [f1] at e1
      have kz : Kb w9 (w9.alloc (.cells #[.func (.func F0) #[] c0, .func (.func F1) #[] c1] 69 (0, 0))) := (Kb.refl w9).alloc _
      exact o_val (v := .slice (some ⟨w9.heap.size, 0, none⟩) 2 2) (w' := w9.alloc (.cells #[.func (.func F0) #[] c0, .func (.func F1) #[] c1] 69 (0, 0))) (by generalize (oF 43 T).eval = rr at *; simp [execOp, go_sem, e0, e1]) rfl ⟨[.func (.func F0) #[] c0, .func (.func F1) #[] c1], rfl, sl_is (Is.made w9 _ _) (by simp) rfl (rows_ok rfl rfl), cks_ok ⟨(Ck.kx ⟨F0, c0, rfl, g0, h0⟩ kz.kx), (Ck.kx ⟨F1, c1, rfl, g1, h1⟩ kz.kx), trivial⟩ rfl⟩ kz.kx
    · intro T w9 hG hD hO Q
      have d0 := hD.1
      have e0 : (oF 43 T).eval (.func 37) = .func (.func 37) #[] #[] := rfl
      have e1 : (oF 43 T).eval (.tmp 34) = T 34 := oF_eval (by decide)
      have p1 : (fun vv ww => SlC [] [firstE [r4], firstE [r5, r6]] vv ww) (T 34) w9 := d0
      refine og_none rfl ?_
      refine o_call (oc1 (enters_of Tryd.func37 (by kernel_rfl) rfl) rfl rfl e1) rfl ?_
      exact (cFirst [] _ _ w9 p1 (by simp)).mono fun r W' h => ⟨_, h.1, rfl, h.2.kx⟩
    · intro T w9 hG hD hO Q
      have d0 := hD.1
      have e0 : (oF 43 T).eval (.tmp 35) = .int .i64 (firstE [firstE [r4], firstE [r5, r6]]) := (oF_eval (by decide)).trans (show T 35 = _ from d0)
      refine og_none rfl ?_
      exact o_val (v := .int .i64 (firstE [firstE [r4], firstE [r5, r6]])) (w' := w9) (by generalize (oF 43 T).eval = rr at *; simp [execOp, go_sem, e0]) rfl rfl (Kx.refl _ _)
  case fin =>
    intro T w1 hout hval hG
    have s1 := hG.2.2.2.1
    simp only [World.size_drew, World.size_alloc] at s1
    rw [show oF 43 T = (⟨#[T 0, T 1, T 2, T 3, T 4, T 5, T 6, T 7, T 8, T 9, T 10, T 11, T 12, T 13, T 14, T 15, T 16, T 17, T 18, T 19, T 20, T 21, T 22, T 23, T 24, T 25, T 26, T 27, T 28, T 29, T 30, T 31, T 32, T 33, T 34, T 35, T 36, T 37, T 38, T 39, T 40, T 41, T 42], []⟩ : Act) from oF_list 43 T]
    rw [show T 0 = .agg #[.string nu, .int .i64 ku, .int .i64 au, .int .i64 xu, .int .i64 yu, .int .i64 zu, .int .i64 lou, .int .i64 hiu, .slice fpu flu fcu] from hout 0 rfl]
    rw [show T 1 = .agg #[.int .i64 du, .int .i64 dv, .int .i64 dw] from hout 1 rfl]
    rw [show T 2 = .pointer (some ⟨w.heap.size, 0, none⟩) from hout 2 rfl]
    rw [show T 3 = .pointer (some ⟨w.heap.size + 1, 0, none⟩) from hout 3 rfl]
    rw [show T 4 = .pointer (some ⟨w.heap.size + 1 + 1, 0, none⟩) from hout 4 rfl]
    rw [show T 5 = .int .i64 0 from hout 5 rfl]
    rw [show T 6 = .pointer (some ⟨w.heap.size + 1 + 1 + 1, 0, none⟩) from hout 6 rfl]
    rw [show T 7 = .int .i64 (firstE [firstE [r4], firstE [r5, r6]]) from hval 9 (by decide : 9 < 10)]
    rw [show T 8 = .pointer (some ⟨w.heap.size, 3, none⟩) from hout 8 rfl]
    rw [show T 9 = .pointer (some ⟨w.heap.size, 3, none⟩) from hout 9 rfl]
    rw [show T 10 = .int .i64 xu from hout 10 rfl]
    rw [show T 11 = .pointer (some ⟨w.heap.size + 1, 0, none⟩) from hout 11 rfl]
    rw [show T 12 = .int .i64 du from hout 12 rfl]
    rw [show T 13 = .int .i64 z1 from hout 13 rfl]
    rw [show T 14 = .pointer (some ⟨w.heap.size, 3, none⟩) from hout 14 rfl]
    rw [show T 15 = .pointer (some ⟨w.heap.size, 4, none⟩) from hout 15 rfl]
    rw [show T 16 = .int .i64 yu from hout 16 rfl]
    rw [show T 17 = .pointer (some ⟨w.heap.size + 1, 1, none⟩) from hout 17 rfl]
    rw [show T 18 = .int .i64 dv from hout 18 rfl]
    rw [show T 19 = .int .i64 z2 from hout 19 rfl]
    rw [show T 20 = .pointer (some ⟨w.heap.size, 3, none⟩) from hout 20 rfl]
    rw [show T 21 = .pointer (some ⟨w.heap.size, 5, none⟩) from hout 21 rfl]
    rw [show T 22 = .int .i64 zu from hout 22 rfl]
    rw [show T 23 = .pointer (some ⟨w.heap.size + 1, 2, none⟩) from hout 23 rfl]
    rw [show T 24 = .int .i64 dw from hout 24 rfl]
    rw [show T 25 = .int .i64 z3 from hout 25 rfl]
    rw [show T 26 = .agg #[.int .i64 z1, .int .i64 z2, .int .i64 z3] from hout 26 rfl]
    replace b1 := b1.kx hG (by simp)
    replace b2 := b2.kx hG (by simp)
    replace b3 := b3.kx hG (by simp)
    replace b4 := b4.kx hG (by simp)
    replace kx := (show Kb _ _ from kx.drew).trans hG.nil
    replace da := da0.out.kb kx
    clear hout hval hG
    have f9 := b3.c (i := 0) rfl
    have f10 := b3.f 0
    have f11 := b3.c (i := 1) rfl
    have f12 := b3.f 1
    have f13 := b3.c (i := 2) rfl
    have f14 := b3.f 2
    have f15 := b3.c (i := 3) rfl
    have f16 := b3.f 3
    have f17 := b3.c (i := 4) rfl
    have f18 := b3.f 4
    have f19 := b3.c (i := 5) rfl
    have f20 := b3.f 5
    have f21 := b3.c (i := 6) rfl
    have f22 := b3.f 6
    have f23 := b3.c (i := 7) rfl
    have f24 := b3.f 7
    have f25 := b3.c (i := 8) rfl
    have f26 := b3.f 8
    go_wp2
    clear f9 f10 f11 f12 f13 f14 f15 f16 f17 f18 f19 f20 f21 f22 f23 f24 f25 f26
    replace b3 : Is _ _ #[.string ⟨#[]⟩, .int .i64 0, .int .i64 0, .int .i64 0, .int .i64 0, .int .i64 0, .int .i64 0, .int .i64 0, .slice none 0 0] _ := b3.set 0 (.string ⟨#[]⟩)
    replace b3 : Is _ _ #[.string ⟨#[]⟩, .int .i64 0, .int .i64 0, .int .i64 0, .int .i64 0, .int .i64 0, .int .i64 0, .int .i64 0, .slice none 0 0] _ := b3.set 1 (.int .i64 0)
    replace b3 : Is _ _ #[.string ⟨#[]⟩, .int .i64 0, .int .i64 0, .int .i64 0, .int .i64 0, .int .i64 0, .int .i64 0, .int .i64 0, .slice none 0 0] _ := b3.set 2 (.int .i64 0)
    replace b3 : Is _ _ #[.string ⟨#[]⟩, .int .i64 0, .int .i64 0, .int .i64 0, .int .i64 0, .int .i64 0, .int .i64 0, .int .i64 0, .slice none 0 0] _ := b3.set 3 (.int .i64 0)
    replace b3 : Is _ _ #[.string ⟨#[]⟩, .int .i64 0, .int .i64 0, .int .i64 0, .int .i64 0, .int .i64 0, .int .i64 0, .int .i64 0, .slice none 0 0] _ := b3.set 4 (.int .i64 0)
    replace b3 : Is _ _ #[.string ⟨#[]⟩, .int .i64 0, .int .i64 0, .int .i64 0, .int .i64 0, .int .i64 0, .int .i64 0, .int .i64 0, .slice none 0 0] _ := b3.set 5 (.int .i64 0)
    replace b3 : Is _ _ #[.string ⟨#[]⟩, .int .i64 0, .int .i64 0, .int .i64 0, .int .i64 0, .int .i64 0, .int .i64 0, .int .i64 0, .slice none 0 0] _ := b3.set 6 (.int .i64 0)
    replace b3 : Is _ _ #[.string ⟨#[]⟩, .int .i64 0, .int .i64 0, .int .i64 0, .int .i64 0, .int .i64 0, .int .i64 0, .int .i64 0, .slice none 0 0] _ := b3.set 7 (.int .i64 0)
    replace b3 : Is _ _ #[.string ⟨#[]⟩, .int .i64 0, .int .i64 0, .int .i64 0, .int .i64 0, .int .i64 0, .int .i64 0, .int .i64 0, .slice none 0 0] _ := b3.set 8 (.slice none 0 0)
    replace kx := ((((((((kx.setCell (p := ⟨w.heap.size + 1 + 1, 0, none⟩) (show w.heap.size ≤ w.heap.size + 1 + 1 by omega) (.string ⟨#[]⟩)).setCell (p := ⟨w.heap.size + 1 + 1, 1, none⟩) (show w.heap.size ≤ w.heap.size + 1 + 1 by omega) (.int .i64 0)).setCell (p := ⟨w.heap.size + 1 + 1, 2, none⟩) (show w.heap.size ≤ w.heap.size + 1 + 1 by omega) (.int .i64 0)).setCell (p := ⟨w.heap.size + 1 + 1, 3, none⟩) (show w.heap.size ≤ w.heap.size + 1 + 1 by omega) (.int .i64 0)).setCell (p := ⟨w.heap.size + 1 + 1, 4, none⟩) (show w.heap.size ≤ w.heap.size + 1 + 1 by omega) (.int .i64 0)).setCell (p := ⟨w.heap.size + 1 + 1, 5, none⟩) (show w.heap.size ≤ w.heap.size + 1 + 1 by omega) (.int .i64 0)).setCell (p := ⟨w.heap.size + 1 + 1, 6, none⟩) (show w.heap.size ≤ w.heap.size + 1 + 1 by omega) (.int .i64 0)).setCell (p := ⟨w.heap.size + 1 + 1, 7, none⟩) (show w.heap.size ≤ w.heap.size + 1 + 1 by omega) (.int .i64 0)).setCell (p := ⟨w.heap.size + 1 + 1, 8, none⟩) (show w.heap.size ≤ w.heap.size + 1 + 1 by omega) (.slice none 0 0)
    refine ret_row2 Tryd.results24 rfl rfl rfl b3 Tryd.underlying28 rfl (by kernel_rfl) ?_
    exact ⟨rfl, kx⟩
set_option maxRecDepth 100000 in
set_option maxHeartbeats 4000000 in
theorem cMove_2 (nu : ByteArray) (ku : Int) (au : Int) (xu : Int) (yu : Int) (zu : Int) (lou : Int) (hiu : Int) (fpu : Option Addr) (flu : Nat) (fcu : Nat) (fs : List FrT) (hfl : fs.length ≤ 1000) (hall : Hid (∀ f ∈ fs, f.ds.length ≤ 1000)) (du : Int) (dv : Int) (dw : Int) (r4 : Int) (r5 : Int) (r6 : Int) (z1 : Int) (z2 : Int) (z3 : Int) (a1 : wrap64 (xu + du) = z1) (a2 : wrap64 (yu + dv) = z2) (a3 : wrap64 (zu + dw) = z3) (q1 : Ca 18 #[.agg #[.string nu, .int .i64 ku, .int .i64 au, .int .i64 xu, .int .i64 yu, .int .i64 zu, .int .i64 lou, .int .i64 hiu, .slice fpu flu fcu]] (.int .i64 r4)) (q2 : Ca 44 #[.agg #[.int .i64 du, .int .i64 dv, .int .i64 dw]] (.int .i64 r5)) (q3 : Ca 44 #[.agg #[.int .i64 z1, .int .i64 z2, .int .i64 z3]] (.int .i64 r6))  (h1 : ((firstE [firstE [r4], firstE [r5, r6]]) != 0) = false) (w : World) (da : FrS w (.slice fpu flu fcu) fs)  : Calls Tryd.prog 24 #[.agg #[.string nu, .int .i64 ku, .int .i64 au, .int .i64 xu, .int .i64 yu, .int .i64 zu, .int .i64 lou, .int .i64 hiu, .slice fpu flu fcu], .agg #[.int .i64 du, .int .i64 dv, .int .i64 dw]] w fun r W' => ∃ q' c', r = .returned (.tuple #[.agg #[.string nu, .int .i64 ku, .int .i64 au, .int .i64 z1, .int .i64 z2, .int .i64 z3, .int .i64 lou, .int .i64 hiu, .slice q' flu c'], .int .i64 0]) ∧ FrU w.heap.size W' (.slice q' flu c') fs ∧ Kb w W' := by
  have kx := Kb.refl w
  unfold Ca at q1 q2 q3
  have da0 := Lib.hid da
  have a1' : IntKind.i64.wrap (xu + du) = z1 := (Go.IntWalk.i64_left _).trans a1
  have a2' : IntKind.i64.wrap (yu + dv) = z2 := (Go.IntWalk.i64_left _).trans a2
  have a3' : IntKind.i64.wrap (zu + dw) = z3 := (Go.IntWalk.i64_left _).trans a3
  have j1 := (((Is.made w #[.string nu, .int .i64 ku, .int .i64 au, .int .i64 xu, .int .i64 yu, .int .i64 zu, .int .i64 lou, .int .i64 hiu, .slice fpu flu fcu] 28).alloc (.cells #[.int .i64 du, .int .i64 dv, .int .i64 dw] 23 (0, 0))).alloc (.cells #[.string ⟨#[]⟩, .int .i64 0, .int .i64 0, .int .i64 0, .int .i64 0, .int .i64 0, .int .i64 0, .int .i64 0, .slice none 0 0] 28 (0, 0)))
  have f2 := j1.c (i := 3) rfl
  have j3 := ((Is.made (w.alloc (.cells #[.string nu, .int .i64 ku, .int .i64 au, .int .i64 xu, .int .i64 yu, .int .i64 zu, .int .i64 lou, .int .i64 hiu, .slice fpu flu fcu] 28 (0, 0))) #[.int .i64 du, .int .i64 dv, .int .i64 dw] 23).alloc (.cells #[.string ⟨#[]⟩, .int .i64 0, .int .i64 0, .int .i64 0, .int .i64 0, .int .i64 0, .int .i64 0, .int .i64 0, .slice none 0 0] 28 (0, 0)))
  simp only [World.size_alloc] at j3
  have f4 := j3.c (i := 0) rfl
  have f5 := j1.c (i := 4) rfl
  have f6 := j3.c (i := 1) rfl
  have f7 := j1.c (i := 5) rfl
  have f8 := j3.c (i := 2) rfl
  go_enter Tryd.func24, Tryd.ntmps24
  go_wp2_with fail
  clear f2 f4 f5 f6 f7 f8
  have b1 := Is.made w #[.string nu, .int .i64 ku, .int .i64 au, .int .i64 xu, .int .i64 yu, .int .i64 zu, .int .i64 lou, .int .i64 hiu, .slice fpu flu fcu] 28
  replace b1 := (((b1.alloc (.cells #[.int .i64 du, .int .i64 dv, .int .i64 dw] 23 (0, 0))).alloc (.cells #[.string ⟨#[]⟩, .int .i64 0, .int .i64 0, .int .i64 0, .int .i64 0, .int .i64 0, .int .i64 0, .int .i64 0, .slice none 0 0] 28 (0, 0))).alloc (.cells #[.int .i64 z1, .int .i64 z2, .int .i64 z3] 23 (0, 0)))
  have b2 := Is.made (w.alloc (.cells #[.string nu, .int .i64 ku, .int .i64 au, .int .i64 xu, .int .i64 yu, .int .i64 zu, .int .i64 lou, .int .i64 hiu, .slice fpu flu fcu] 28 (0, 0))) #[.int .i64 du, .int .i64 dv, .int .i64 dw] 23
  simp only [World.size_alloc] at b2
  replace b2 := ((b2.alloc (.cells #[.string ⟨#[]⟩, .int .i64 0, .int .i64 0, .int .i64 0, .int .i64 0, .int .i64 0, .int .i64 0, .int .i64 0, .slice none 0 0] 28 (0, 0))).alloc (.cells #[.int .i64 z1, .int .i64 z2, .int .i64 z3] 23 (0, 0)))
  have b3 := Is.made ((w.alloc (.cells #[.string nu, .int .i64 ku, .int .i64 au, .int .i64 xu, .int .i64 yu, .int .i64 zu, .int .i64 lou, .int .i64 hiu, .slice fpu flu fcu] 28 (0, 0))).alloc (.cells #[.int .i64 du, .int .i64 dv, .int .i64 dw] 23 (0, 0))) #[.string ⟨#[]⟩, .int .i64 0, .int .i64 0, .int .i64 0, .int .i64 0, .int .i64 0, .int .i64 0, .int .i64 0, .slice none 0 0] 28
  simp only [World.size_alloc] at b3
  replace b3 := (b3.alloc (.cells #[.int .i64 z1, .int .i64 z2, .int .i64 z3] 23 (0, 0)))
  have b4 := Is.made (((w.alloc (.cells #[.string nu, .int .i64 ku, .int .i64 au, .int .i64 xu, .int .i64 yu, .int .i64 zu, .int .i64 lou, .int .i64 hiu, .slice fpu flu fcu] 28 (0, 0))).alloc (.cells #[.int .i64 du, .int .i64 dv, .int .i64 dw] 23 (0, 0))).alloc (.cells #[.string ⟨#[]⟩, .int .i64 0, .int .i64 0, .int .i64 0, .int .i64 0, .int .i64 0, .int .i64 0, .int .i64 0, .slice none 0 0] 28 (0, 0))) #[.int .i64 z1, .int .i64 z2, .int .i64 z3] 23
  simp only [World.size_alloc] at b4
  replace kx := (((kx.alloc (.cells #[.string nu, .int .i64 ku, .int .i64 au, .int .i64 xu, .int .i64 yu, .int .i64 zu, .int .i64 lou, .int .i64 hiu, .slice fpu flu fcu] 28 (0, 0))).alloc (.cells #[.int .i64 du, .int .i64 dv, .int .i64 dw] 23 (0, 0))).alloc (.cells #[.string ⟨#[]⟩, .int .i64 0, .int .i64 0, .int .i64 0, .int .i64 0, .int .i64 0, .int .i64 0, .int .i64 0, .slice none 0 0] 28 (0, 0))).alloc (.cells #[.int .i64 z1, .int .i64 z2, .int .i64 z3] 23 (0, 0))
  clear j1 j3
  replace da := da0.out.kb kx
  replace da := da.drew
  replace b1 := b1.drew
  replace b2 := b2.drew
  replace b3 := b3.drew
  replace b4 := b4.drew
  rw [oF_lit]
  refine o_law (⟨43, [some 27, some 28, some 29, some 30, some 31, some 32, some 33, some 34, some 35, some 7], [27, 28, 29, 30, 31, 32, 33, 34, 35, 7], [[], [0], [1], [], [], [3, 4], [5], [2, 6], [7], [8]], [[2], [], [], [3], [6], [], [], [], [], []]⟩ : OT) (Kx []) (RL [fun vv _ => vv = .agg #[.string nu, .int .i64 ku, .int .i64 au, .int .i64 xu, .int .i64 yu, .int .i64 zu, .int .i64 lou, .int .i64 hiu, .slice fpu flu fcu], fun vv ww => Sl [] 9 ww vv [[.string nu, .int .i64 ku, .int .i64 au, .int .i64 xu, .int .i64 yu, .int .i64 zu, .int .i64 lou, .int .i64 hiu, .slice fpu flu fcu]], fun vv ww => Ck [] vv (firstE [r4]) ww, fun vv _ => vv = .agg #[.int .i64 du, .int .i64 dv, .int .i64 dw], fun vv _ => vv = .agg #[.int .i64 z1, .int .i64 z2, .int .i64 z3], fun vv ww => Sl [] 3 ww vv [[.int .i64 du, .int .i64 dv, .int .i64 dw], [.int .i64 z1, .int .i64 z2, .int .i64 z3]], fun vv ww => Ck [] vv (firstE [r5, r6]) ww, fun vv ww => SlC [] [firstE [r4], firstE [r5, r6]] vv ww, fun vv _ => vv = .int .i64 (firstE [firstE [r4], firstE [r5, r6]]), fun vv _ => vv = .int .i64 (firstE [firstE [r4], firstE [r5, r6]])]) (by kernel_rfl) ?hk ?hR ?fin
  case hk => kernel_rfl
  case hR =>
    refine ⟨fun _ => (Kx.refl _ _), fun _ _ _ => Kx.trans, rl_stab ⟨fun _ _ _ _ h => h, (fun v w w' k h => h.kx k), (fun v w w' k h => h.kx k), fun _ _ _ _ h => h, fun _ _ _ _ h => h, (fun v w w' k h => h.kx k), (fun v w w' k h => h.kx k), (fun v w w' k h => h.kx k), fun _ _ _ _ h => h, fun _ _ _ _ h => h, trivial⟩, ?_⟩
    refine allO_cons ?_ (allO_cons ?_ (allO_cons ?_ (allO_cons ?_ (allO_cons ?_ (allO_cons ?_ (allO_cons ?_ (allO_cons ?_ (allO_cons ?_ (allO_cons ?_ (allO_nil))))))))))
    · intro T w9 hG hD hO Q
      have q0 := hO.1
      have e0 : (oF 43 T).eval (.tmp 2) = .pointer (some ⟨w.heap.size, 0, none⟩) := (oF_eval (by decide)).trans (show T 2 = _ from q0)
      refine og_none rfl ?_
      have im := b1.kx hG (by simp)
      have m0 := im.c (i := 0) rfl
      have m1 := im.c (i := 1) rfl
      have m2 := im.c (i := 2) rfl
      have m3 := im.c (i := 3) rfl
      have m4 := im.c (i := 4) rfl
      have m5 := im.c (i := 5) rfl
      have m6 := im.c (i := 6) rfl
      have m7 := im.c (i := 7) rfl
      have m8 := im.c (i := 8) rfl
      clear im
      exact o_val (v := .agg #[.string nu, .int .i64 ku, .int .i64 au, .int .i64 xu, .int .i64 yu, .int .i64 zu, .int .i64 lou, .int .i64 hiu, .slice fpu flu fcu]) (w' := w9) (by generalize (oF 43 T).eval = rr at *; simp [execOp, go_sem, e0, m0, m1, m2, m3, m4, m5, m6, m7, m8]) rfl rfl (Kx.refl _ _)
    · intro T w9 hG hD hO Q
      have d0 := hD.1
      have e0 : (oF 43 T).eval (.tmp 27) = .agg #[.string nu, .int .i64 ku, .int .i64 au, .int .i64 xu, .int .i64 yu, .int .i64 zu, .int .i64 lou, .int .i64 hiu, .slice fpu flu fcu] := (oF_eval (by decide)).trans (show T 27 = _ from d0)
      refine og_none rfl ?_
      have kz : Kb w9 (w9.alloc (.cells #[.string nu, .int .i64 ku, .int .i64 au, .int .i64 xu, .int .i64 yu, .int .i64 zu, .int .i64 lou, .int .i64 hiu, .slice fpu flu fcu] 28 (0, 0))) := (Kb.refl w9).alloc _
      exact o_val (v := .slice (some ⟨w9.heap.size, 0, none⟩) 1 1) (w' := w9.alloc (.cells #[.string nu, .int .i64 ku, .int .i64 au, .int .i64 xu, .int .i64 yu, .int .i64 zu, .int .i64 lou, .int .i64 hiu, .slice fpu flu fcu] 28 (0, 0))) (by generalize (oF 43 T).eval = rr at *; simp [execOp, go_sem, e0]) rfl (sl_is (Is.made w9 _ _) (by simp) rfl (rows_ok rfl rfl)) kz.kx
    · intro T w9 hG hD hO Q
      have d0 := hD.1
      have e0 : (oF 43 T).eval (.func 58) = .func (.func 58) #[] #[] := rfl
      have e1 : (oF 43 T).eval (.func 18) = .func (.func 18) #[] #[] := rfl
      have e2 : (oF 43 T).eval (.tmp 28) = T 28 := oF_eval (by decide)
      have p2 : (fun vv ww => Sl [] 9 ww vv [[.string nu, .int .i64 ku, .int .i64 au, .int .i64 xu, .int .i64 yu, .int .i64 zu, .int .i64 lou, .int .i64 hiu, .slice fpu flu fcu]]) (T 28) w9 := d0
      refine og_none rfl ?_
      refine o_call (oc2 (enters_of Tryd.func58 (by kernel_rfl) rfl) rfl rfl e1 e2) rfl ?_
      exact (cEach_Ftr [] _ (⟨#[]⟩, 0, 0, 0, 0, 0, 0, 0, none, 0, 0) [(nu, ku, au, xu, yu, zu, lou, hiu, fpu, flu, fcu)] [r4] _ w9 (by simp) (by simp) rfl p2 (enters_of Tryd.func18 (by kernel_rfl) rfl) (each_ok ⟨q1, trivial⟩ rfl)).mono fun r W' ⟨v, h1, h2, h3⟩ => ⟨v, h1, h2, h3.kx⟩
    · intro T w9 hG hD hO Q
      have q0 := hO.1
      have e0 : (oF 43 T).eval (.tmp 3) = .pointer (some ⟨w.heap.size + 1, 0, none⟩) := (oF_eval (by decide)).trans (show T 3 = _ from q0)
      refine og_none rfl ?_
      have im := b2.kx hG (by simp)
      have m0 := im.c (i := 0) rfl
      have m1 := im.c (i := 1) rfl
      have m2 := im.c (i := 2) rfl
      clear im
      exact o_val (v := .agg #[.int .i64 du, .int .i64 dv, .int .i64 dw]) (w' := w9) (by generalize (oF 43 T).eval = rr at *; simp [execOp, go_sem, e0, m0, m1, m2]) rfl rfl (Kx.refl _ _)
    · intro T w9 hG hD hO Q
      have q0 := hO.1
      have e0 : (oF 43 T).eval (.tmp 6) = .pointer (some ⟨w.heap.size + 1 + 1 + 1, 0, none⟩) := (oF_eval (by decide)).trans (show T 6 = _ from q0)
      refine og_none rfl ?_
      have im := b4.kx hG (by simp)
      have m0 := im.c (i := 0) rfl
      have m1 := im.c (i := 1) rfl
      have m2 := im.c (i := 2) rfl
      clear im
      exact o_val (v := .agg #[.int .i64 z1, .int .i64 z2, .int .i64 z3]) (w' := w9) (by generalize (oF 43 T).eval = rr at *; simp [execOp, go_sem, e0, m0, m1, m2]) rfl rfl (Kx.refl _ _)
    · intro T w9 hG hD hO Q
      have d0 := hD.1
      have d1 := hD.2.1
      have e0 : (oF 43 T).eval (.tmp 30) = .agg #[.int .i64 du, .int .i64 dv, .int .i64 dw] := (oF_eval (by decide)).trans (show T 30 = _ from d0)
      have e1 : (oF 43 T).eval (.tmp 31) = .agg #[.int .i64 z1, .int .i64 z2, .int .i64 z3] := (oF_eval (by decide)).trans (show T 31 = _ from d1)
      refine og_none rfl ?_
      have kz : Kb w9 (w9.alloc (.cells #[.int .i64 du, .int .i64 dv, .int .i64 dw, .int .i64 z1, .int .i64 z2, .int .i64 z3] 23 (0, 0))) := (Kb.refl w9).alloc _
      exact o_val (v := .slice (some ⟨w9.heap.size, 0, none⟩) 2 2) (w' := w9.alloc (.cells #[.int .i64 du, .int .i64 dv, .int .i64 dw, .int .i64 z1, .int .i64 z2, .int .i64 z3] 23 (0, 0))) (by generalize (oF 43 T).eval = rr at *; simp [execOp, go_sem, e0, e1]) rfl (sl_is (Is.made w9 _ _) (by simp) rfl (rows_ok rfl rfl)) kz.kx
    · intro T w9 hG hD hO Q
      have d0 := hD.1
      have e0 : (oF 43 T).eval (.func 43) = .func (.func 43) #[] #[] := rfl
      have e1 : (oF 43 T).eval (.func 44) = .func (.func 44) #[] #[] := rfl
      have e2 : (oF 43 T).eval (.tmp 32) = T 32 := oF_eval (by decide)
      have p2 : (fun vv ww => Sl [] 3 ww vv [[.int .i64 du, .int .i64 dv, .int .i64 dw], [.int .i64 z1, .int .i64 z2, .int .i64 z3]]) (T 32) w9 := d0
      refine og_none rfl ?_
      refine o_call (oc2 (enters_of Tryd.func43 (by kernel_rfl) rfl) rfl rfl e1 e2) rfl ?_
      exact (cEach_Spt [] _ (0, 0, 0) [(du, dv, dw), (z1, z2, z3)] [r5, r6] _ w9 (by simp) (by simp) rfl p2 (enters_of Tryd.func44 (by kernel_rfl) rfl) (each_ok ⟨q2, q3, trivial⟩ rfl)).mono fun r W' ⟨v, h1, h2, h3⟩ => ⟨v, h1, h2, h3.kx⟩
    · intro T w9 hG hD hO Q
      have d0 := hD.1
      have d1 := hD.2.1
      have e0 : (oF 43 T).eval (.tmp 29) = T 29 := oF_eval (by decide)
      have p0 : (fun vv ww => Ck [] vv (firstE [r4]) ww) (T 29) w9 := d0
      have e1 : (oF 43 T).eval (.tmp 33) = T 33 := oF_eval (by decide)
      have p1 : (fun vv ww => Ck [] vv (firstE [r5, r6]) ww) (T 33) w9 := d1
      refine og_none rfl ?_
      obtain ⟨F0, c0, f0, g0, h0⟩ := p0
      obtain ⟨F1, c1, f1, g1, h1⟩ := p1
      rw [f0] at e0
      rw [f1] at e1
      have kz : Kb w9 (w9.alloc (.cells #[.func (.func F0) #[] c0, .func (.func F1) #[] c1] 69 (0, 0))) := (Kb.refl w9).alloc _
      exact o_val (v := .slice (some ⟨w9.heap.size, 0, none⟩) 2 2) (w' := w9.alloc (.cells #[.func (.func F0) #[] c0, .func (.func F1) #[] c1] 69 (0, 0))) (by generalize (oF 43 T).eval = rr at *; simp [execOp, go_sem, e0, e1]) rfl ⟨[.func (.func F0) #[] c0, .func (.func F1) #[] c1], rfl, sl_is (Is.made w9 _ _) (by simp) rfl (rows_ok rfl rfl), cks_ok ⟨(Ck.kx ⟨F0, c0, rfl, g0, h0⟩ kz.kx), (Ck.kx ⟨F1, c1, rfl, g1, h1⟩ kz.kx), trivial⟩ rfl⟩ kz.kx
    · intro T w9 hG hD hO Q
      have d0 := hD.1
      have e0 : (oF 43 T).eval (.func 37) = .func (.func 37) #[] #[] := rfl
      have e1 : (oF 43 T).eval (.tmp 34) = T 34 := oF_eval (by decide)
      have p1 : (fun vv ww => SlC [] [firstE [r4], firstE [r5, r6]] vv ww) (T 34) w9 := d0
      refine og_none rfl ?_
      refine o_call (oc1 (enters_of Tryd.func37 (by kernel_rfl) rfl) rfl rfl e1) rfl ?_
      exact (cFirst [] _ _ w9 p1 (by simp)).mono fun r W' h => ⟨_, h.1, rfl, h.2.kx⟩
    · intro T w9 hG hD hO Q
      have d0 := hD.1
      have e0 : (oF 43 T).eval (.tmp 35) = .int .i64 (firstE [firstE [r4], firstE [r5, r6]]) := (oF_eval (by decide)).trans (show T 35 = _ from d0)
      refine og_none rfl ?_
      exact o_val (v := .int .i64 (firstE [firstE [r4], firstE [r5, r6]])) (w' := w9) (by generalize (oF 43 T).eval = rr at *; simp [execOp, go_sem, e0]) rfl rfl (Kx.refl _ _)
  case fin =>
    intro T w1 hout hval hG
    have s1 := hG.2.2.2.1
    simp only [World.size_drew, World.size_alloc] at s1
    rw [show oF 43 T = (⟨#[T 0, T 1, T 2, T 3, T 4, T 5, T 6, T 7, T 8, T 9, T 10, T 11, T 12, T 13, T 14, T 15, T 16, T 17, T 18, T 19, T 20, T 21, T 22, T 23, T 24, T 25, T 26, T 27, T 28, T 29, T 30, T 31, T 32, T 33, T 34, T 35, T 36, T 37, T 38, T 39, T 40, T 41, T 42], []⟩ : Act) from oF_list 43 T]
    rw [show T 0 = .agg #[.string nu, .int .i64 ku, .int .i64 au, .int .i64 xu, .int .i64 yu, .int .i64 zu, .int .i64 lou, .int .i64 hiu, .slice fpu flu fcu] from hout 0 rfl]
    rw [show T 1 = .agg #[.int .i64 du, .int .i64 dv, .int .i64 dw] from hout 1 rfl]
    rw [show T 2 = .pointer (some ⟨w.heap.size, 0, none⟩) from hout 2 rfl]
    rw [show T 3 = .pointer (some ⟨w.heap.size + 1, 0, none⟩) from hout 3 rfl]
    rw [show T 4 = .pointer (some ⟨w.heap.size + 1 + 1, 0, none⟩) from hout 4 rfl]
    rw [show T 5 = .int .i64 0 from hout 5 rfl]
    rw [show T 6 = .pointer (some ⟨w.heap.size + 1 + 1 + 1, 0, none⟩) from hout 6 rfl]
    rw [show T 7 = .int .i64 (firstE [firstE [r4], firstE [r5, r6]]) from hval 9 (by decide : 9 < 10)]
    rw [show T 8 = .pointer (some ⟨w.heap.size, 3, none⟩) from hout 8 rfl]
    rw [show T 9 = .pointer (some ⟨w.heap.size, 3, none⟩) from hout 9 rfl]
    rw [show T 10 = .int .i64 xu from hout 10 rfl]
    rw [show T 11 = .pointer (some ⟨w.heap.size + 1, 0, none⟩) from hout 11 rfl]
    rw [show T 12 = .int .i64 du from hout 12 rfl]
    rw [show T 13 = .int .i64 z1 from hout 13 rfl]
    rw [show T 14 = .pointer (some ⟨w.heap.size, 3, none⟩) from hout 14 rfl]
    rw [show T 15 = .pointer (some ⟨w.heap.size, 4, none⟩) from hout 15 rfl]
    rw [show T 16 = .int .i64 yu from hout 16 rfl]
    rw [show T 17 = .pointer (some ⟨w.heap.size + 1, 1, none⟩) from hout 17 rfl]
    rw [show T 18 = .int .i64 dv from hout 18 rfl]
    rw [show T 19 = .int .i64 z2 from hout 19 rfl]
    rw [show T 20 = .pointer (some ⟨w.heap.size, 3, none⟩) from hout 20 rfl]
    rw [show T 21 = .pointer (some ⟨w.heap.size, 5, none⟩) from hout 21 rfl]
    rw [show T 22 = .int .i64 zu from hout 22 rfl]
    rw [show T 23 = .pointer (some ⟨w.heap.size + 1, 2, none⟩) from hout 23 rfl]
    rw [show T 24 = .int .i64 dw from hout 24 rfl]
    rw [show T 25 = .int .i64 z3 from hout 25 rfl]
    rw [show T 26 = .agg #[.int .i64 z1, .int .i64 z2, .int .i64 z3] from hout 26 rfl]
    replace b1 := b1.kx hG (by simp)
    replace b2 := b2.kx hG (by simp)
    replace b3 := b3.kx hG (by simp)
    replace b4 := b4.kx hG (by simp)
    replace kx := (show Kb _ _ from kx.drew).trans hG.nil
    replace da := da0.out.kb kx
    clear hout hval hG
    have f9 := b1.c (i := 0) rfl
    have f10 := b1.c (i := 1) rfl
    have f11 := b1.c (i := 2) rfl
    have f12 := b1.c (i := 3) rfl
    have f13 := b1.c (i := 4) rfl
    have f14 := b1.c (i := 5) rfl
    have f15 := b1.c (i := 6) rfl
    have f16 := b1.c (i := 7) rfl
    have f17 := b1.c (i := 8) rfl
    have f18 := b4.c (i := 0) rfl
    have f19 := b4.c (i := 1) rfl
    have f20 := b4.c (i := 2) rfl
    go_wp2_with fail
    clear f9 f10 f11 f12 f13 f14 f15 f16 f17 f18 f19 f20
    (with_reducible refine (cplace_1 nu ku au xu yu zu lou hiu fpu flu fcu fs hfl hall z1 z2 z3 _ da).mono ?_)
    rintro r w2 ⟨qq, cc, rfl, U1, k2⟩
    replace da := da.kb k2
    replace b1 := b1.kb k2
    replace b2 := b2.kb k2
    replace b3 := b3.kb k2
    replace b4 := b4.kb k2
    replace kx := kx.trans k2
    have s2 := k2.size
    skip
    clear k2
    try simp only [World.size_alloc, World.size_setCell] at U1
    have f21 := b3.c (i := 0) rfl
    have f22 := b3.f 0
    have f23 := b3.c (i := 1) rfl
    have f24 := b3.f 1
    have f25 := b3.c (i := 2) rfl
    have f26 := b3.f 2
    have f27 := b3.c (i := 3) rfl
    have f28 := b3.f 3
    have f29 := b3.c (i := 4) rfl
    have f30 := b3.f 4
    have f31 := b3.c (i := 5) rfl
    have f32 := b3.f 5
    have f33 := b3.c (i := 6) rfl
    have f34 := b3.f 6
    have f35 := b3.c (i := 7) rfl
    have f36 := b3.f 7
    have f37 := b3.c (i := 8) rfl
    have f38 := b3.f 8
    go_wp2
    clear f21 f22 f23 f24 f25 f26 f27 f28 f29 f30 f31 f32 f33 f34 f35 f36 f37 f38
    replace b3 : Is _ _ #[.string nu, .int .i64 0, .int .i64 0, .int .i64 0, .int .i64 0, .int .i64 0, .int .i64 0, .int .i64 0, .slice none 0 0] _ := b3.set 0 (.string nu)
    replace b3 : Is _ _ #[.string nu, .int .i64 ku, .int .i64 0, .int .i64 0, .int .i64 0, .int .i64 0, .int .i64 0, .int .i64 0, .slice none 0 0] _ := b3.set 1 (.int .i64 ku)
    replace b3 : Is _ _ #[.string nu, .int .i64 ku, .int .i64 au, .int .i64 0, .int .i64 0, .int .i64 0, .int .i64 0, .int .i64 0, .slice none 0 0] _ := b3.set 2 (.int .i64 au)
    replace b3 : Is _ _ #[.string nu, .int .i64 ku, .int .i64 au, .int .i64 z1, .int .i64 0, .int .i64 0, .int .i64 0, .int .i64 0, .slice none 0 0] _ := b3.set 3 (.int .i64 z1)
    replace b3 : Is _ _ #[.string nu, .int .i64 ku, .int .i64 au, .int .i64 z1, .int .i64 z2, .int .i64 0, .int .i64 0, .int .i64 0, .slice none 0 0] _ := b3.set 4 (.int .i64 z2)
    replace b3 : Is _ _ #[.string nu, .int .i64 ku, .int .i64 au, .int .i64 z1, .int .i64 z2, .int .i64 z3, .int .i64 0, .int .i64 0, .slice none 0 0] _ := b3.set 5 (.int .i64 z3)
    replace b3 : Is _ _ #[.string nu, .int .i64 ku, .int .i64 au, .int .i64 z1, .int .i64 z2, .int .i64 z3, .int .i64 lou, .int .i64 0, .slice none 0 0] _ := b3.set 6 (.int .i64 lou)
    replace b3 : Is _ _ #[.string nu, .int .i64 ku, .int .i64 au, .int .i64 z1, .int .i64 z2, .int .i64 z3, .int .i64 lou, .int .i64 hiu, .slice none 0 0] _ := b3.set 7 (.int .i64 hiu)
    replace b3 : Is _ _ #[.string nu, .int .i64 ku, .int .i64 au, .int .i64 z1, .int .i64 z2, .int .i64 z3, .int .i64 lou, .int .i64 hiu, .slice qq flu cc] _ := b3.set 8 (.slice qq flu cc)
    replace U1 := (((((((((U1.far (p := ⟨w.heap.size + 1 + 1, 0, none⟩) (show w.heap.size + 1 + 1 < (w1.heap.size) by omega) (.string nu)).far (p := ⟨w.heap.size + 1 + 1, 1, none⟩) (show w.heap.size + 1 + 1 < (w1.heap.size) by omega) (.int .i64 ku)).far (p := ⟨w.heap.size + 1 + 1, 2, none⟩) (show w.heap.size + 1 + 1 < (w1.heap.size) by omega) (.int .i64 au)).far (p := ⟨w.heap.size + 1 + 1, 3, none⟩) (show w.heap.size + 1 + 1 < (w1.heap.size) by omega) (.int .i64 z1)).far (p := ⟨w.heap.size + 1 + 1, 4, none⟩) (show w.heap.size + 1 + 1 < (w1.heap.size) by omega) (.int .i64 z2)).far (p := ⟨w.heap.size + 1 + 1, 5, none⟩) (show w.heap.size + 1 + 1 < (w1.heap.size) by omega) (.int .i64 z3)).far (p := ⟨w.heap.size + 1 + 1, 6, none⟩) (show w.heap.size + 1 + 1 < (w1.heap.size) by omega) (.int .i64 lou)).far (p := ⟨w.heap.size + 1 + 1, 7, none⟩) (show w.heap.size + 1 + 1 < (w1.heap.size) by omega) (.int .i64 hiu)).far (p := ⟨w.heap.size + 1 + 1, 8, none⟩) (show w.heap.size + 1 + 1 < (w1.heap.size) by omega) (.slice qq flu cc))
    replace kx := ((((((((kx.setCell (p := ⟨w.heap.size + 1 + 1, 0, none⟩) (show w.heap.size ≤ w.heap.size + 1 + 1 by omega) (.string nu)).setCell (p := ⟨w.heap.size + 1 + 1, 1, none⟩) (show w.heap.size ≤ w.heap.size + 1 + 1 by omega) (.int .i64 ku)).setCell (p := ⟨w.heap.size + 1 + 1, 2, none⟩) (show w.heap.size ≤ w.heap.size + 1 + 1 by omega) (.int .i64 au)).setCell (p := ⟨w.heap.size + 1 + 1, 3, none⟩) (show w.heap.size ≤ w.heap.size + 1 + 1 by omega) (.int .i64 z1)).setCell (p := ⟨w.heap.size + 1 + 1, 4, none⟩) (show w.heap.size ≤ w.heap.size + 1 + 1 by omega) (.int .i64 z2)).setCell (p := ⟨w.heap.size + 1 + 1, 5, none⟩) (show w.heap.size ≤ w.heap.size + 1 + 1 by omega) (.int .i64 z3)).setCell (p := ⟨w.heap.size + 1 + 1, 6, none⟩) (show w.heap.size ≤ w.heap.size + 1 + 1 by omega) (.int .i64 lou)).setCell (p := ⟨w.heap.size + 1 + 1, 7, none⟩) (show w.heap.size ≤ w.heap.size + 1 + 1 by omega) (.int .i64 hiu)).setCell (p := ⟨w.heap.size + 1 + 1, 8, none⟩) (show w.heap.size ≤ w.heap.size + 1 + 1 by omega) (.slice qq flu cc)
    refine ret_row2 Tryd.results24 rfl rfl rfl b3 Tryd.underlying28 rfl (by kernel_rfl) ?_
    exact ⟨_, _, rfl, U1.mono (by omega), kx⟩
end Go.Proofs.YtdmfkgopalelgaaDoor
