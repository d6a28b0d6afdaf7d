/- Features: reach. -/
import Derived.Test.YtdmfkgopalelgaaDoorQg3
namespace Go.Proofs.YtdmfkgopalelgaaDoor
open Go.RowKit

set_option maxRecDepth 100000 in
set_option maxHeartbeats 1000000 in
theorem fReach0_1 (n : ByteArray) (k : Int) (a : Int) (x : Int) (y : Int) (z : Int) (lo : Int) (hi : Int) (fp : Option Addr) (fl : Nat) (fc : Nat) (r1 : Int)   (q1 : Ca 50 #[.agg #[.string n, .int .i64 k, .int .i64 a, .int .i64 x, .int .i64 y, .int .i64 z, .int .i64 lo, .int .i64 hi, .slice fp fl fc], .int .i64 0] (.int .i64 r1))  (h1 : (r1 != 0) = true) (w : World) (gl : Gl w)  : Calls Tryd.prog 20 #[.agg #[.string n, .int .i64 k, .int .i64 a, .int .i64 x, .int .i64 y, .int .i64 z, .int .i64 lo, .int .i64 hi, .slice fp fl fc], .int .i64 0] w fun r W' => r = .returned (.tuple #[.agg #[.int .i64 0, .int .i64 0], .int .i64 r1]) ∧ Kb w W' := by
  have kx := Kb.refl w
  unfold Ca at q1
  have gl0 := Lib.hid gl
  have j1 := ((Is.made w #[.string n, .int .i64 k, .int .i64 a, .int .i64 x, .int .i64 y, .int .i64 z, .int .i64 lo, .int .i64 hi, .slice fp fl fc] 28).alloc (.cells #[.int .i64 0, .int .i64 0] 25 (0, 0)))
  have f2 := j1.c (i := 0) rfl
  have f3 := j1.c (i := 1) rfl
  have f4 := j1.c (i := 2) rfl
  have f5 := j1.c (i := 3) rfl
  have f6 := j1.c (i := 4) rfl
  have f7 := j1.c (i := 5) rfl
  have f8 := j1.c (i := 6) rfl
  have f9 := j1.c (i := 7) rfl
  have f10 := j1.c (i := 8) rfl
  go_enter Tryd.func20, Tryd.ntmps20
  go_wp2_with fail
  clear f2 f3 f4 f5 f6 f7 f8 f9 f10
  have b1 := j1
  have b2 := Is.made (w.alloc (.cells #[.string n, .int .i64 k, .int .i64 a, .int .i64 x, .int .i64 y, .int .i64 z, .int .i64 lo, .int .i64 hi, .slice fp fl fc] 28 (0, 0))) #[.int .i64 0, .int .i64 0] 25
  simp only [World.size_alloc] at b2
  replace kx := (kx.alloc (.cells #[.string n, .int .i64 k, .int .i64 a, .int .i64 x, .int .i64 y, .int .i64 z, .int .i64 lo, .int .i64 hi, .slice fp fl fc] 28 (0, 0))).alloc (.cells #[.int .i64 0, .int .i64 0] 25 (0, 0))
  clear j1
  replace gl := gl0.out.kb kx
  (with_reducible refine (((q1).out _)).mono ?_)
  rintro r w1 ⟨rfl, k1⟩
  replace gl := gl.kb k1
  replace b1 := b1.kb k1
  replace b2 := b2.kb k1
  replace kx := kx.trans k1
  have s1 := k1.size
  simp only [World.size_alloc] at s1
  clear k1
  have f11 := b2.c (i := 0) rfl
  have f12 := b2.f 0
  have f13 := b2.c (i := 1) rfl
  have f14 := b2.f 1
  go_wp2
  clear f11 f12 f13 f14
  replace b2 : Is _ _ #[.int .i64 0, .int .i64 0] _ := b2.set 0 (.int .i64 0)
  replace b2 : Is _ _ #[.int .i64 0, .int .i64 0] _ := b2.set 1 (.int .i64 0)
  replace kx := (kx.setCell (p := ⟨w.heap.size + 1, 0, none⟩) (show w.heap.size ≤ w.heap.size + 1 by omega) (.int .i64 0)).setCell (p := ⟨w.heap.size + 1, 1, none⟩) (show w.heap.size ≤ w.heap.size + 1 by omega) (.int .i64 0)
  refine ret_row2 Tryd.results20 rfl rfl rfl b2 Tryd.underlying25 rfl (by kernel_rfl) ?_
  exact ⟨rfl, kx⟩
set_option maxRecDepth 100000 in
set_option maxHeartbeats 1000000 in
theorem fReach0_2 (n : ByteArray) (k : Int) (a : Int) (x : Int) (y : Int) (z : Int) (lo : Int) (hi : Int) (fp : Option Addr) (fl : Nat) (fc : Nat) (r1 : Int) (o2 : Bool) (r3 : Int) (r5 : Int) (r6 : Int) (r7 : Int) (z4 : Int) (a1 : wrap64 (-r3) = z4) (q1 : Ca 50 #[.agg #[.string n, .int .i64 k, .int .i64 a, .int .i64 x, .int .i64 y, .int .i64 z, .int .i64 lo, .int .i64 hi, .slice fp fl fc], .int .i64 0] (.int .i64 r1)) (q2 : Cg 51 #[.agg #[.string n, .int .i64 k, .int .i64 a, .int .i64 x, .int .i64 y, .int .i64 z, .int .i64 lo, .int .i64 hi, .slice fp fl fc], .int .i64 0] (.bool o2)) (q3 : Ca 54 #[.agg #[.string n, .int .i64 k, .int .i64 a, .int .i64 x, .int .i64 y, .int .i64 z, .int .i64 lo, .int .i64 hi, .slice fp fl fc]] (.int .i64 r3)) (q4 : Ca 53 #[.int .i64 x, .int .i64 z4, .int .i64 r3] (.tuple #[.agg #[.int .i64 r5, .int .i64 r6], .int .i64 r7]))  (h1 : (r1 != 0) = false) (h2 : (o2) = true) (w : World) (gl : Gl w)  : Calls Tryd.prog 20 #[.agg #[.string n, .int .i64 k, .int .i64 a, .int .i64 x, .int .i64 y, .int .i64 z, .int .i64 lo, .int .i64 hi, .slice fp fl fc], .int .i64 0] w fun r W' => r = .returned (.tuple #[.agg #[.int .i64 r5, .int .i64 r6], .int .i64 r7]) ∧ Kb w W' := by
  have kx := Kb.refl w
  unfold Ca at q1 q3 q4
  unfold Cg at q2
  have gl0 := Lib.hid gl
  have a1' : IntKind.i64.wrap (-r3) = z4 := (Go.IntWalk.i64_left _).trans a1
  subst h2
  have j1 := ((Is.made w #[.string n, .int .i64 k, .int .i64 a, .int .i64 x, .int .i64 y, .int .i64 z, .int .i64 lo, .int .i64 hi, .slice fp fl fc] 28).alloc (.cells #[.int .i64 0, .int .i64 0] 25 (0, 0)))
  have f2 := j1.c (i := 0) rfl
  have f3 := j1.c (i := 1) rfl
  have f4 := j1.c (i := 2) rfl
  have f5 := j1.c (i := 3) rfl
  have f6 := j1.c (i := 4) rfl
  have f7 := j1.c (i := 5) rfl
  have f8 := j1.c (i := 6) rfl
  have f9 := j1.c (i := 7) rfl
  have f10 := j1.c (i := 8) rfl
  go_enter Tryd.func20, Tryd.ntmps20
  go_wp2_with fail
  clear f2 f3 f4 f5 f6 f7 f8 f9 f10
  have b1 := j1
  have b2 := Is.made (w.alloc (.cells #[.string n, .int .i64 k, .int .i64 a, .int .i64 x, .int .i64 y, .int .i64 z, .int .i64 lo, .int .i64 hi, .slice fp fl fc] 28 (0, 0))) #[.int .i64 0, .int .i64 0] 25
  simp only [World.size_alloc] at b2
  replace kx := (kx.alloc (.cells #[.string n, .int .i64 k, .int .i64 a, .int .i64 x, .int .i64 y, .int .i64 z, .int .i64 lo, .int .i64 hi, .slice fp fl fc] 28 (0, 0))).alloc (.cells #[.int .i64 0, .int .i64 0] 25 (0, 0))
  clear j1
  replace gl := gl0.out.kb kx
  (with_reducible refine (((q1).out _)).mono ?_)
  rintro r w1 ⟨rfl, k1⟩
  replace gl := gl.kb k1
  replace b1 := b1.kb k1
  replace b2 := b2.kb k1
  replace kx := kx.trans k1
  have s1 := k1.size
  simp only [World.size_alloc] at s1
  clear k1
  have f11 := b1.c (i := 0) rfl
  have f12 := b1.c (i := 1) rfl
  have f13 := b1.c (i := 2) rfl
  have f14 := b1.c (i := 3) rfl
  have f15 := b1.c (i := 4) rfl
  have f16 := b1.c (i := 5) rfl
  have f17 := b1.c (i := 6) rfl
  have f18 := b1.c (i := 7) rfl
  have f19 := b1.c (i := 8) rfl
  go_wp2_with fail
  clear f11 f12 f13 f14 f15 f16 f17 f18 f19
  (with_reducible refine ((q2.out _ gl)).mono ?_)
  rintro r w2 ⟨rfl, k2⟩
  replace gl := gl.kb k2
  replace b1 := b1.kb k2
  replace b2 := b2.kb k2
  replace kx := kx.trans k2
  have s2 := k2.size
  skip
  clear k2
  go_wp2_with fail
  (with_reducible refine (cCoord3_1 w.heap.size _).mono ?_)
  rintro r w3 ⟨g3, rfl, p3, i3, k3⟩
  replace gl := gl.kb k3
  replace b1 := b1.kb k3
  replace b2 := b2.kb k3
  replace kx := kx.trans k3
  have s3 := k3.size
  skip
  clear k3
  go_wp2_with fail
  replace gl := gl.drew
  replace b1 := b1.drew
  replace b2 := b2.drew
  replace p3 := p3.drew
  rw [oF_lit]
  refine o_law (⟨37, [some 26, some 27, some 28, some 29, some 30, some 31, some 32, some 33, some 34, some 35, some 36, none, some 5], [26, 27, 28, 29, 30, 31, 32, 33, 34, 35, 36, 4, 5], [[], [], [0, 1], [], [3], [4], [], [6], [2, 5, 7], [8], [8], [9], [10]], [[7], [1], [], [2], [], [], [2], [], [], [], [], [4], []]⟩ : OT) (Gz (w.heap.size + 1) #[.int .i64 0, .int .i64 0] #[.int .i64 r5, .int .i64 r6] 25) (RL [fun vv _ => vv = .func (.func 76) #[] #[.pointer (some ⟨g3, 0, none⟩)], fun vv _ => vv = .int .i64 0, fun vv _ => vv = .int .i64 x, fun vv _ => vv = .agg #[.string n, .int .i64 k, .int .i64 a, .int .i64 x, .int .i64 y, .int .i64 z, .int .i64 lo, .int .i64 hi, .slice fp fl fc], fun vv _ => vv = .int .i64 r3, fun vv _ => vv = .int .i64 z4, fun vv _ => vv = .agg #[.string n, .int .i64 k, .int .i64 a, .int .i64 x, .int .i64 y, .int .i64 z, .int .i64 lo, .int .i64 hi, .slice fp fl fc], fun vv _ => vv = .int .i64 r3, fun vv _ => vv = .tuple #[.agg #[.int .i64 r5, .int .i64 r6], .int .i64 r7], fun vv _ => vv = .agg #[.int .i64 r5, .int .i64 r6], fun vv _ => vv = .int .i64 r7, fun _ ww => Is ww (w.heap.size + 1) #[.int .i64 r5, .int .i64 r6] 25, fun vv _ => vv = .int .i64 r7]) (by kernel_rfl) ?hk ?hR ?fin
  case hk => kernel_rfl
  case hR =>
    refine ⟨fun _ => (Gz.refl _ _ _ _ _), fun _ _ _ => Gz.trans, rl_stab ⟨fun _ _ _ _ h => h, fun _ _ _ _ h => h, fun _ _ _ _ h => h, fun _ _ _ _ h => h, fun _ _ _ _ h => h, fun _ _ _ _ h => h, fun _ _ _ _ h => h, fun _ _ _ _ h => h, fun _ _ _ _ h => h, fun _ _ _ _ h => h, fun _ _ _ _ h => h, (fun v w w' k h => k.2.1 h), fun _ _ _ _ h => h, trivial⟩, ?_⟩
    refine allO_cons ?_ (allO_cons ?_ (allO_cons ?_ (allO_cons ?_ (allO_cons ?_ (allO_cons ?_ (allO_cons ?_ (allO_cons ?_ (allO_cons ?_ (allO_cons ?_ (allO_cons ?_ (allO_cons ?_ (allO_cons ?_ (allO_nil)))))))))))))
    · intro T w9 hG hD hO Q
      have q0 := hO.1
      have e0 : (oF 37 T).eval (.tmp 7) = .func (.func 76) #[] #[.pointer (some ⟨g3, 0, none⟩)] := (oF_eval (by decide)).trans (show T 7 = _ from q0)
      refine og_none rfl ?_
      exact o_val (v := .func (.func 76) #[] #[.pointer (some ⟨g3, 0, none⟩)]) (w' := w9) (by generalize (oF 37 T).eval = rr at *; simp [execOp, go_sem, e0]) rfl rfl (Gz.refl _ _ _ _ _)
    · intro T w9 hG hD hO Q
      have q0 := hO.1
      have e0 : (oF 37 T).eval (.tmp 1) = .int .i64 0 := (oF_eval (by decide)).trans (show T 1 = _ from q0)
      refine og_none rfl ?_
      exact o_val (v := .int .i64 0) (w' := w9) (by generalize (oF 37 T).eval = rr at *; simp [execOp, go_sem, e0]) rfl rfl (Gz.refl _ _ _ _ _)
    · intro T w9 hG hD hO Q
      have d0 := hD.1
      have d1 := hD.2.1
      have e0 : (oF 37 T).eval (.tmp 26) = .func (.func 76) #[] #[.pointer (some ⟨g3, 0, none⟩)] := (oF_eval (by decide)).trans (show T 26 = _ from d0)
      have e1 : (oF 37 T).eval (.tmp 27) = .int .i64 0 := (oF_eval (by decide)).trans (show T 27 = _ from d1)
      refine og_none rfl ?_
      refine o_call (os1 (enters_of Tryd.func76 (by kernel_rfl) rfl) rfl e0 e1) rfl ?_
      exact (cRead_0 _ _ _ _ _ w9 (p3.kx hG.1 (by simp only [List.mem_singleton]; omega)) ((b1.kx hG.1 (by simp only [List.mem_singleton]; omega)).c (i := 3) rfl)).mono fun r W' h => ⟨_, h.1, rfl, h.2.gz⟩
    · intro T w9 hG hD hO Q
      have q0 := hO.1
      have e0 : (oF 37 T).eval (.tmp 2) = .pointer (some ⟨w.heap.size, 0, none⟩) := (oF_eval (by decide)).trans (show T 2 = _ from q0)
      refine og_none rfl ?_
      have im := b1.kx hG.1 (by simp only [List.mem_singleton]; omega)
      have m0 := im.c (i := 0) rfl
      have m1 := im.c (i := 1) rfl
      have m2 := im.c (i := 2) rfl
      have m3 := im.c (i := 3) rfl
      have m4 := im.c (i := 4) rfl
      have m5 := im.c (i := 5) rfl
      have m6 := im.c (i := 6) rfl
      have m7 := im.c (i := 7) rfl
      have m8 := im.c (i := 8) rfl
      clear im
      exact o_val (v := .agg #[.string n, .int .i64 k, .int .i64 a, .int .i64 x, .int .i64 y, .int .i64 z, .int .i64 lo, .int .i64 hi, .slice fp fl fc]) (w' := w9) (by generalize (oF 37 T).eval = rr at *; simp [execOp, go_sem, e0, m0, m1, m2, m3, m4, m5, m6, m7, m8]) rfl rfl (Gz.refl _ _ _ _ _)
    · intro T w9 hG hD hO Q
      have d0 := hD.1
      have e0 : (oF 37 T).eval (.func 54) = .func (.func 54) #[] #[] := rfl
      have e1 : (oF 37 T).eval (.tmp 29) = .agg #[.string n, .int .i64 k, .int .i64 a, .int .i64 x, .int .i64 y, .int .i64 z, .int .i64 lo, .int .i64 hi, .slice fp fl fc] := (oF_eval (by decide)).trans (show T 29 = _ from d0)
      refine og_none rfl ?_
      refine o_call (oc1 (enters_of Tryd.func54 (by kernel_rfl) rfl) rfl rfl e1) rfl ?_
      exact (q3.out w9).mono fun r W' h => ⟨_, h.1, rfl, h.2.gz⟩
    · intro T w9 hG hD hO Q
      have d0 := hD.1
      have e0 : (oF 37 T).eval (.tmp 30) = .int .i64 r3 := (oF_eval (by decide)).trans (show T 30 = _ from d0)
      refine og_none rfl ?_
      exact o_val (v := .int .i64 z4) (w' := w9) (by generalize (oF 37 T).eval = rr at *; simp [execOp, go_sem, e0, a1']) rfl rfl (Gz.refl _ _ _ _ _)
    · intro T w9 hG hD hO Q
      have q0 := hO.1
      have e0 : (oF 37 T).eval (.tmp 2) = .pointer (some ⟨w.heap.size, 0, none⟩) := (oF_eval (by decide)).trans (show T 2 = _ from q0)
      refine og_none rfl ?_
      have im := b1.kx hG.1 (by simp only [List.mem_singleton]; omega)
      have m0 := im.c (i := 0) rfl
      have m1 := im.c (i := 1) rfl
      have m2 := im.c (i := 2) rfl
      have m3 := im.c (i := 3) rfl
      have m4 := im.c (i := 4) rfl
      have m5 := im.c (i := 5) rfl
      have m6 := im.c (i := 6) rfl
      have m7 := im.c (i := 7) rfl
      have m8 := im.c (i := 8) rfl
      clear im
      exact o_val (v := .agg #[.string n, .int .i64 k, .int .i64 a, .int .i64 x, .int .i64 y, .int .i64 z, .int .i64 lo, .int .i64 hi, .slice fp fl fc]) (w' := w9) (by generalize (oF 37 T).eval = rr at *; simp [execOp, go_sem, e0, m0, m1, m2, m3, m4, m5, m6, m7, m8]) rfl rfl (Gz.refl _ _ _ _ _)
    · intro T w9 hG hD hO Q
      have d0 := hD.1
      have e0 : (oF 37 T).eval (.func 54) = .func (.func 54) #[] #[] := rfl
      have e1 : (oF 37 T).eval (.tmp 32) = .agg #[.string n, .int .i64 k, .int .i64 a, .int .i64 x, .int .i64 y, .int .i64 z, .int .i64 lo, .int .i64 hi, .slice fp fl fc] := (oF_eval (by decide)).trans (show T 32 = _ from d0)
      refine og_none rfl ?_
      refine o_call (oc1 (enters_of Tryd.func54 (by kernel_rfl) rfl) rfl rfl e1) rfl ?_
      exact (q3.out w9).mono fun r W' h => ⟨_, h.1, rfl, h.2.gz⟩
    · intro T w9 hG hD hO Q
      have d0 := hD.1
      have d1 := hD.2.1
      have d2 := hD.2.2.1
      have e0 : (oF 37 T).eval (.func 53) = .func (.func 53) #[] #[] := rfl
      have e1 : (oF 37 T).eval (.tmp 28) = .int .i64 x := (oF_eval (by decide)).trans (show T 28 = _ from d0)
      have e2 : (oF 37 T).eval (.tmp 31) = .int .i64 z4 := (oF_eval (by decide)).trans (show T 31 = _ from d1)
      have e3 : (oF 37 T).eval (.tmp 33) = .int .i64 r3 := (oF_eval (by decide)).trans (show T 33 = _ from d2)
      refine og_none rfl ?_
      refine o_call (oc3 (enters_of Tryd.func53 (by kernel_rfl) rfl) rfl rfl e1 e2 e3) rfl ?_
      exact (q4.out w9).mono fun r W' h => ⟨_, h.1, rfl, h.2.gz⟩
    · intro T w9 hG hD hO Q
      have d0 := hD.1
      have e0 : (oF 37 T).eval (.tmp 34) = .tuple #[.agg #[.int .i64 r5, .int .i64 r6], .int .i64 r7] := (oF_eval (by decide)).trans (show T 34 = _ from d0)
      refine og_none rfl ?_
      exact o_val (v := .agg #[.int .i64 r5, .int .i64 r6]) (w' := w9) (by generalize (oF 37 T).eval = rr at *; simp [execOp, go_sem, e0]) rfl rfl (Gz.refl _ _ _ _ _)
    · intro T w9 hG hD hO Q
      have d0 := hD.1
      have e0 : (oF 37 T).eval (.tmp 34) = .tuple #[.agg #[.int .i64 r5, .int .i64 r6], .int .i64 r7] := (oF_eval (by decide)).trans (show T 34 = _ from d0)
      refine og_none rfl ?_
      exact o_val (v := .int .i64 r7) (w' := w9) (by generalize (oF 37 T).eval = rr at *; simp [execOp, go_sem, e0]) rfl rfl (Gz.refl _ _ _ _ _)
    · intro T w9 hG hD hO Q
      have d0 := hD.1
      have q0 := hO.1
      have e0 : (oF 37 T).eval (.tmp 4) = .pointer (some ⟨w.heap.size + 1, 0, none⟩) := (oF_eval (by decide)).trans (show T 4 = _ from q0)
      have e1 : (oF 37 T).eval (.tmp 35) = .agg #[.int .i64 r5, .int .i64 r6] := (oF_eval (by decide)).trans (show T 35 = _ from d0)
      refine og_none rfl ?_
      have io : Is w9 (w.heap.size + 1) #[.int .i64 0, .int .i64 0] 25 ∨ Is w9 (w.heap.size + 1) #[.int .i64 r5, .int .i64 r6] 25 := hG.2.2 (.inl b2)
      rcases io with io | io
      · have zn := io
        replace zn : Is (w9.setCell ⟨w.heap.size + 1, 0, none⟩ (.int .i64 r5)) (w.heap.size + 1) #[.int .i64 r5, .int .i64 0] 25 := zn.set 0 _
        replace zn : Is ((w9.setCell ⟨w.heap.size + 1, 0, none⟩ (.int .i64 r5)).setCell ⟨w.heap.size + 1, 1, none⟩ (.int .i64 r6)) (w.heap.size + 1) #[.int .i64 r5, .int .i64 r6] 25 := zn.set 1 _
        have pt := (((Pt.refl (w.heap.size + 1) w9).set 0 (.int .i64 r5)).set 1 (.int .i64 r6))
        have m0 := io.c (i := 0) rfl
        have f0 := io.f 0
        have m1 := io.c (i := 1) rfl
        have f1 := io.f 1
        clear io
        exact o_skip (w' := ((w9.setCell ⟨w.heap.size + 1, 0, none⟩ (.int .i64 r5)).setCell ⟨w.heap.size + 1, 1, none⟩ (.int .i64 r6))) (by generalize (oF 37 T).eval = rr at *; simp [execOp, go_sem, e0, e1, m0, f0, m1, f1]) rfl zn (pt.gz zn)
      · have zn := io
        replace zn : Is (w9.setCell ⟨w.heap.size + 1, 0, none⟩ (.int .i64 r5)) (w.heap.size + 1) #[.int .i64 r5, .int .i64 r6] 25 := zn.set 0 _
        replace zn : Is ((w9.setCell ⟨w.heap.size + 1, 0, none⟩ (.int .i64 r5)).setCell ⟨w.heap.size + 1, 1, none⟩ (.int .i64 r6)) (w.heap.size + 1) #[.int .i64 r5, .int .i64 r6] 25 := zn.set 1 _
        have pt := (((Pt.refl (w.heap.size + 1) w9).set 0 (.int .i64 r5)).set 1 (.int .i64 r6))
        have m0 := io.c (i := 0) rfl
        have f0 := io.f 0
        have m1 := io.c (i := 1) rfl
        have f1 := io.f 1
        clear io
        exact o_skip (w' := ((w9.setCell ⟨w.heap.size + 1, 0, none⟩ (.int .i64 r5)).setCell ⟨w.heap.size + 1, 1, none⟩ (.int .i64 r6))) (by generalize (oF 37 T).eval = rr at *; simp [execOp, go_sem, e0, e1, m0, f0, m1, f1]) rfl zn (pt.gz zn)
    · intro T w9 hG hD hO Q
      have d0 := hD.1
      have e0 : (oF 37 T).eval (.tmp 36) = .int .i64 r7 := (oF_eval (by decide)).trans (show T 36 = _ from d0)
      refine og_none rfl ?_
      exact o_val (v := .int .i64 r7) (w' := w9) (by generalize (oF 37 T).eval = rr at *; simp [execOp, go_sem, e0]) rfl rfl (Gz.refl _ _ _ _ _)
  case fin =>
    intro T w4 hout hval hG
    have s4 := hG.1.2.2.2.1
    simp only [World.size_drew] at s4
    rw [show oF 37 T = (⟨#[T 0, T 1, T 2, T 3, T 4, T 5, T 6, T 7, T 8, T 9, T 10, T 11, T 12, T 13, T 14, T 15, T 16, T 17, T 18, T 19, T 20, T 21, T 22, T 23, T 24, T 25, T 26, T 27, T 28, T 29, T 30, T 31, T 32, T 33, T 34, T 35, T 36], []⟩ : Act) from oF_list 37 T]
    rw [show T 0 = .agg #[.string n, .int .i64 k, .int .i64 a, .int .i64 x, .int .i64 y, .int .i64 z, .int .i64 lo, .int .i64 hi, .slice fp fl fc] from hout 0 rfl]
    rw [show T 1 = .int .i64 0 from hout 1 rfl]
    rw [show T 2 = .pointer (some ⟨w.heap.size, 0, none⟩) from hout 2 rfl]
    rw [show T 4 = .pointer (some ⟨w.heap.size + 1, 0, none⟩) from hout 4 rfl]
    rw [show T 5 = .int .i64 r7 from hval 12 (by decide : 12 < 13)]
    rw [show T 6 = .int .i64 r1 from hout 6 rfl]
    rw [show T 9 = .agg #[.string n, .int .i64 k, .int .i64 a, .int .i64 x, .int .i64 y, .int .i64 z, .int .i64 lo, .int .i64 hi, .slice fp fl fc] from hout 9 rfl]
    rw [show T 10 = .int .i64 0 from hout 10 rfl]
    rw [show T 11 = .int .i64 r1 from hout 11 rfl]
    rw [show T 12 = .int .i64 r1 from hout 12 rfl]
    rw [show T 13 = .bool false from hout 13 rfl]
    rw [show T 16 = .agg #[.string n, .int .i64 k, .int .i64 a, .int .i64 x, .int .i64 y, .int .i64 z, .int .i64 lo, .int .i64 hi, .slice fp fl fc] from hout 16 rfl]
    rw [show T 17 = .int .i64 0 from hout 17 rfl]
    rw [show T 18 = .bool true from hout 18 rfl]
    rw [show T 19 = .bool false from hout 19 rfl]
    rw [show T 21 = .tuple #[.func (.func 76) #[] #[.pointer (some ⟨g3, 0, none⟩)], .func (.func 77) #[] #[.pointer (some ⟨g3, 0, none⟩)]] from hout 21 rfl]
    rw [show T 22 = .pointer (some ⟨w.heap.size, 3, none⟩) from hout 22 rfl]
    rw [show T 23 = .tuple #[.func (.func 76) #[] #[.pointer (some ⟨g3, 0, none⟩)], .func (.func 77) #[] #[.pointer (some ⟨g3, 0, none⟩)]] from hout 23 rfl]
    rw [show T 24 = .func (.func 76) #[] #[.pointer (some ⟨g3, 0, none⟩)] from hout 24 rfl]
    rw [show T 25 = .func (.func 77) #[] #[.pointer (some ⟨g3, 0, none⟩)] from hout 25 rfl]
    replace b1 := b1.kx hG.1 (by simp only [List.mem_singleton]; omega)
    replace p3 := p3.kx hG.1 (by simp only [List.mem_singleton]; omega)
    replace b2 := hval 11 (by decide)
    replace b2 : Is _ (w.heap.size + 1) #[.int .i64 r5, .int .i64 r6] 25 := b2
    replace kx := hG.1.old kx.drew (by intro x hx; simp only [List.mem_singleton] at hx; subst hx; omega)
    replace gl := gl0.out.kb kx
    clear hout hval hG
    go_wp2
    refine ret_row2 Tryd.results20 rfl rfl rfl b2 Tryd.underlying25 rfl (by kernel_rfl) ?_
    exact ⟨rfl, kx⟩
set_option maxRecDepth 100000 in
set_option maxHeartbeats 1000000 in
theorem fReach0_3 (n : ByteArray) (k : Int) (a : Int) (x : Int) (y : Int) (z : Int) (lo : Int) (hi : Int) (fp : Option Addr) (fl : Nat) (fc : Nat) (r1 : Int) (o2 : Bool)   (q1 : Ca 50 #[.agg #[.string n, .int .i64 k, .int .i64 a, .int .i64 x, .int .i64 y, .int .i64 z, .int .i64 lo, .int .i64 hi, .slice fp fl fc], .int .i64 0] (.int .i64 r1)) (q2 : Cg 51 #[.agg #[.string n, .int .i64 k, .int .i64 a, .int .i64 x, .int .i64 y, .int .i64 z, .int .i64 lo, .int .i64 hi, .slice fp fl fc], .int .i64 0] (.bool o2))  (h1 : (r1 != 0) = false) (h2 : (o2) = false) (w : World) (gl : Gl w)  : Calls Tryd.prog 20 #[.agg #[.string n, .int .i64 k, .int .i64 a, .int .i64 x, .int .i64 y, .int .i64 z, .int .i64 lo, .int .i64 hi, .slice fp fl fc], .int .i64 0] w fun r W' => r = .returned (.tuple #[.agg #[.int .i64 0, .int .i64 0], .int .i64 14]) ∧ Kb w W' := by
  have kx := Kb.refl w
  unfold Ca at q1
  unfold Cg at q2
  have gl0 := Lib.hid gl
  subst h2
  have j1 := ((Is.made w #[.string n, .int .i64 k, .int .i64 a, .int .i64 x, .int .i64 y, .int .i64 z, .int .i64 lo, .int .i64 hi, .slice fp fl fc] 28).alloc (.cells #[.int .i64 0, .int .i64 0] 25 (0, 0)))
  have f2 := j1.c (i := 0) rfl
  have f3 := j1.c (i := 1) rfl
  have f4 := j1.c (i := 2) rfl
  have f5 := j1.c (i := 3) rfl
  have f6 := j1.c (i := 4) rfl
  have f7 := j1.c (i := 5) rfl
  have f8 := j1.c (i := 6) rfl
  have f9 := j1.c (i := 7) rfl
  have f10 := j1.c (i := 8) rfl
  go_enter Tryd.func20, Tryd.ntmps20
  go_wp2_with fail
  clear f2 f3 f4 f5 f6 f7 f8 f9 f10
  have b1 := j1
  have b2 := Is.made (w.alloc (.cells #[.string n, .int .i64 k, .int .i64 a, .int .i64 x, .int .i64 y, .int .i64 z, .int .i64 lo, .int .i64 hi, .slice fp fl fc] 28 (0, 0))) #[.int .i64 0, .int .i64 0] 25
  simp only [World.size_alloc] at b2
  replace kx := (kx.alloc (.cells #[.string n, .int .i64 k, .int .i64 a, .int .i64 x, .int .i64 y, .int .i64 z, .int .i64 lo, .int .i64 hi, .slice fp fl fc] 28 (0, 0))).alloc (.cells #[.int .i64 0, .int .i64 0] 25 (0, 0))
  clear j1
  replace gl := gl0.out.kb kx
  (with_reducible refine (((q1).out _)).mono ?_)
  rintro r w1 ⟨rfl, k1⟩
  replace gl := gl.kb k1
  replace b1 := b1.kb k1
  replace b2 := b2.kb k1
  replace kx := kx.trans k1
  have s1 := k1.size
  simp only [World.size_alloc] at s1
  clear k1
  have f11 := b1.c (i := 0) rfl
  have f12 := b1.c (i := 1) rfl
  have f13 := b1.c (i := 2) rfl
  have f14 := b1.c (i := 3) rfl
  have f15 := b1.c (i := 4) rfl
  have f16 := b1.c (i := 5) rfl
  have f17 := b1.c (i := 6) rfl
  have f18 := b1.c (i := 7) rfl
  have f19 := b1.c (i := 8) rfl
  go_wp2_with fail
  clear f11 f12 f13 f14 f15 f16 f17 f18 f19
  (with_reducible refine ((q2.out _ gl)).mono ?_)
  rintro r w2 ⟨rfl, k2⟩
  replace gl := gl.kb k2
  replace b1 := b1.kb k2
  replace b2 := b2.kb k2
  replace kx := kx.trans k2
  have s2 := k2.size
  skip
  clear k2
  have f20 := b2.c (i := 0) rfl
  have f21 := b2.f 0
  have f22 := b2.c (i := 1) rfl
  have f23 := b2.f 1
  go_wp2
  clear f20 f21 f22 f23
  replace b2 : Is _ _ #[.int .i64 0, .int .i64 0] _ := b2.set 0 (.int .i64 0)
  replace b2 : Is _ _ #[.int .i64 0, .int .i64 0] _ := b2.set 1 (.int .i64 0)
  replace kx := (kx.setCell (p := ⟨w.heap.size + 1, 0, none⟩) (show w.heap.size ≤ w.heap.size + 1 by omega) (.int .i64 0)).setCell (p := ⟨w.heap.size + 1, 1, none⟩) (show w.heap.size ≤ w.heap.size + 1 by omega) (.int .i64 0)
  refine ret_row2 Tryd.results20 rfl rfl rfl b2 Tryd.underlying25 rfl (by kernel_rfl) ?_
  exact ⟨rfl, kx⟩
set_option maxRecDepth 100000 in
theorem fReach0_any (n : ByteArray) (k : Int) (a : Int) (x : Int) (y : Int) (z : Int) (lo : Int) (hi : Int) (fp : Option Addr) (fl : Nat) (fc : Nat) (r1 : Int) (o2 : Bool) (r3 : Int) (r5 : Int) (r6 : Int) (r7 : Int) (q1 : Ca 50 #[.agg #[.string n, .int .i64 k, .int .i64 a, .int .i64 x, .int .i64 y, .int .i64 z, .int .i64 lo, .int .i64 hi, .slice fp fl fc], .int .i64 0] (.int .i64 r1)) (q2 : Cg 51 #[.agg #[.string n, .int .i64 k, .int .i64 a, .int .i64 x, .int .i64 y, .int .i64 z, .int .i64 lo, .int .i64 hi, .slice fp fl fc], .int .i64 0] (.bool o2)) (q3 : Ca 54 #[.agg #[.string n, .int .i64 k, .int .i64 a, .int .i64 x, .int .i64 y, .int .i64 z, .int .i64 lo, .int .i64 hi, .slice fp fl fc]] (.int .i64 r3)) (q4 : Ca 53 #[.int .i64 x, .int .i64 (wrap64 (-r3)), .int .i64 r3] (.tuple #[.agg #[.int .i64 r5, .int .i64 r6], .int .i64 r7]))  : Cg 20 #[.agg #[.string n, .int .i64 k, .int .i64 a, .int .i64 x, .int .i64 y, .int .i64 z, .int .i64 lo, .int .i64 hi, .slice fp fl fc], .int .i64 0] (if (r1 != 0) = true then (.tuple #[.agg #[.int .i64 0, .int .i64 0], .int .i64 r1]) else (if (o2) = true then (.tuple #[.agg #[.int .i64 r5, .int .i64 r6], .int .i64 r7]) else (.tuple #[.agg #[.int .i64 0, .int .i64 0], .int .i64 14]))) := Lib.hid fun w gl => by
  rcases Bool.eq_false_or_eq_true (r1 != 0) with h1 | h1
  · rw [if_pos h1]
    exact fReach0_1 n k a x y z lo hi fp fl fc r1 q1 h1 w gl
  · rw [if_neg (by rw [h1]; decide)]
    rcases Bool.eq_false_or_eq_true (o2) with h2 | h2
    · rw [if_pos h2]
      exact fReach0_2 n k a x y z lo hi fp fl fc r1 o2 r3 r5 r6 r7 ((wrap64 (-r3))) rfl q1 q2 q3 q4 h1 h2 w gl
    · rw [if_neg (by rw [h2]; decide)]
      exact fReach0_3 n k a x y z lo hi fp fl fc r1 o2 q1 q2 h1 h2 w gl
set_option maxRecDepth 100000 in
set_option maxHeartbeats 1000000 in
theorem fReach1_1 (n : ByteArray) (k : Int) (a : Int) (x : Int) (y : Int) (z : Int) (lo : Int) (hi : Int) (fp : Option Addr) (fl : Nat) (fc : Nat) (r1 : Int)   (q1 : Ca 50 #[.agg #[.string n, .int .i64 k, .int .i64 a, .int .i64 x, .int .i64 y, .int .i64 z, .int .i64 lo, .int .i64 hi, .slice fp fl fc], .int .i64 1] (.int .i64 r1))  (h1 : (r1 != 0) = true) (w : World) (gl : Gl w)  : Calls Tryd.prog 20 #[.agg #[.string n, .int .i64 k, .int .i64 a, .int .i64 x, .int .i64 y, .int .i64 z, .int .i64 lo, .int .i64 hi, .slice fp fl fc], .int .i64 1] w fun r W' => r = .returned (.tuple #[.agg #[.int .i64 0, .int .i64 0], .int .i64 r1]) ∧ Kb w W' := by
  have kx := Kb.refl w
  unfold Ca at q1
  have gl0 := Lib.hid gl
  have j1 := ((Is.made w #[.string n, .int .i64 k, .int .i64 a, .int .i64 x, .int .i64 y, .int .i64 z, .int .i64 lo, .int .i64 hi, .slice fp fl fc] 28).alloc (.cells #[.int .i64 0, .int .i64 0] 25 (0, 0)))
  have f2 := j1.c (i := 0) rfl
  have f3 := j1.c (i := 1) rfl
  have f4 := j1.c (i := 2) rfl
  have f5 := j1.c (i := 3) rfl
  have f6 := j1.c (i := 4) rfl
  have f7 := j1.c (i := 5) rfl
  have f8 := j1.c (i := 6) rfl
  have f9 := j1.c (i := 7) rfl
  have f10 := j1.c (i := 8) rfl
  go_enter Tryd.func20, Tryd.ntmps20
  go_wp2_with fail
  clear f2 f3 f4 f5 f6 f7 f8 f9 f10
  have b1 := j1
  have b2 := Is.made (w.alloc (.cells #[.string n, .int .i64 k, .int .i64 a, .int .i64 x, .int .i64 y, .int .i64 z, .int .i64 lo, .int .i64 hi, .slice fp fl fc] 28 (0, 0))) #[.int .i64 0, .int .i64 0] 25
  simp only [World.size_alloc] at b2
  replace kx := (kx.alloc (.cells #[.string n, .int .i64 k, .int .i64 a, .int .i64 x, .int .i64 y, .int .i64 z, .int .i64 lo, .int .i64 hi, .slice fp fl fc] 28 (0, 0))).alloc (.cells #[.int .i64 0, .int .i64 0] 25 (0, 0))
  clear j1
  replace gl := gl0.out.kb kx
  (with_reducible refine (((q1).out _)).mono ?_)
  rintro r w1 ⟨rfl, k1⟩
  replace gl := gl.kb k1
  replace b1 := b1.kb k1
  replace b2 := b2.kb k1
  replace kx := kx.trans k1
  have s1 := k1.size
  simp only [World.size_alloc] at s1
  clear k1
  have f11 := b2.c (i := 0) rfl
  have f12 := b2.f 0
  have f13 := b2.c (i := 1) rfl
  have f14 := b2.f 1
  go_wp2
  clear f11 f12 f13 f14
  replace b2 : Is _ _ #[.int .i64 0, .int .i64 0] _ := b2.set 0 (.int .i64 0)
  replace b2 : Is _ _ #[.int .i64 0, .int .i64 0] _ := b2.set 1 (.int .i64 0)
  replace kx := (kx.setCell (p := ⟨w.heap.size + 1, 0, none⟩) (show w.heap.size ≤ w.heap.size + 1 by omega) (.int .i64 0)).setCell (p := ⟨w.heap.size + 1, 1, none⟩) (show w.heap.size ≤ w.heap.size + 1 by omega) (.int .i64 0)
  refine ret_row2 Tryd.results20 rfl rfl rfl b2 Tryd.underlying25 rfl (by kernel_rfl) ?_
  exact ⟨rfl, kx⟩
set_option maxRecDepth 100000 in
set_option maxHeartbeats 1000000 in
theorem fReach1_2 (n : ByteArray) (k : Int) (a : Int) (x : Int) (y : Int) (z : Int) (lo : Int) (hi : Int) (fp : Option Addr) (fl : Nat) (fc : Nat) (r1 : Int) (o2 : Bool) (r3 : Int) (r5 : Int) (r6 : Int) (r7 : Int) (z4 : Int) (a1 : wrap64 (-r3) = z4) (q1 : Ca 50 #[.agg #[.string n, .int .i64 k, .int .i64 a, .int .i64 x, .int .i64 y, .int .i64 z, .int .i64 lo, .int .i64 hi, .slice fp fl fc], .int .i64 1] (.int .i64 r1)) (q2 : Cg 51 #[.agg #[.string n, .int .i64 k, .int .i64 a, .int .i64 x, .int .i64 y, .int .i64 z, .int .i64 lo, .int .i64 hi, .slice fp fl fc], .int .i64 1] (.bool o2)) (q3 : Ca 54 #[.agg #[.string n, .int .i64 k, .int .i64 a, .int .i64 x, .int .i64 y, .int .i64 z, .int .i64 lo, .int .i64 hi, .slice fp fl fc]] (.int .i64 r3)) (q4 : Ca 53 #[.int .i64 y, .int .i64 z4, .int .i64 r3] (.tuple #[.agg #[.int .i64 r5, .int .i64 r6], .int .i64 r7]))  (h1 : (r1 != 0) = false) (h2 : (o2) = true) (w : World) (gl : Gl w)  : Calls Tryd.prog 20 #[.agg #[.string n, .int .i64 k, .int .i64 a, .int .i64 x, .int .i64 y, .int .i64 z, .int .i64 lo, .int .i64 hi, .slice fp fl fc], .int .i64 1] w fun r W' => r = .returned (.tuple #[.agg #[.int .i64 r5, .int .i64 r6], .int .i64 r7]) ∧ Kb w W' := by
  have kx := Kb.refl w
  unfold Ca at q1 q3 q4
  unfold Cg at q2
  have gl0 := Lib.hid gl
  have a1' : IntKind.i64.wrap (-r3) = z4 := (Go.IntWalk.i64_left _).trans a1
  subst h2
  have j1 := ((Is.made w #[.string n, .int .i64 k, .int .i64 a, .int .i64 x, .int .i64 y, .int .i64 z, .int .i64 lo, .int .i64 hi, .slice fp fl fc] 28).alloc (.cells #[.int .i64 0, .int .i64 0] 25 (0, 0)))
  have f2 := j1.c (i := 0) rfl
  have f3 := j1.c (i := 1) rfl
  have f4 := j1.c (i := 2) rfl
  have f5 := j1.c (i := 3) rfl
  have f6 := j1.c (i := 4) rfl
  have f7 := j1.c (i := 5) rfl
  have f8 := j1.c (i := 6) rfl
  have f9 := j1.c (i := 7) rfl
  have f10 := j1.c (i := 8) rfl
  go_enter Tryd.func20, Tryd.ntmps20
  go_wp2_with fail
  clear f2 f3 f4 f5 f6 f7 f8 f9 f10
  have b1 := j1
  have b2 := Is.made (w.alloc (.cells #[.string n, .int .i64 k, .int .i64 a, .int .i64 x, .int .i64 y, .int .i64 z, .int .i64 lo, .int .i64 hi, .slice fp fl fc] 28 (0, 0))) #[.int .i64 0, .int .i64 0] 25
  simp only [World.size_alloc] at b2
  replace kx := (kx.alloc (.cells #[.string n, .int .i64 k, .int .i64 a, .int .i64 x, .int .i64 y, .int .i64 z, .int .i64 lo, .int .i64 hi, .slice fp fl fc] 28 (0, 0))).alloc (.cells #[.int .i64 0, .int .i64 0] 25 (0, 0))
  clear j1
  replace gl := gl0.out.kb kx
  (with_reducible refine (((q1).out _)).mono ?_)
  rintro r w1 ⟨rfl, k1⟩
  replace gl := gl.kb k1
  replace b1 := b1.kb k1
  replace b2 := b2.kb k1
  replace kx := kx.trans k1
  have s1 := k1.size
  simp only [World.size_alloc] at s1
  clear k1
  have f11 := b1.c (i := 0) rfl
  have f12 := b1.c (i := 1) rfl
  have f13 := b1.c (i := 2) rfl
  have f14 := b1.c (i := 3) rfl
  have f15 := b1.c (i := 4) rfl
  have f16 := b1.c (i := 5) rfl
  have f17 := b1.c (i := 6) rfl
  have f18 := b1.c (i := 7) rfl
  have f19 := b1.c (i := 8) rfl
  go_wp2_with fail
  clear f11 f12 f13 f14 f15 f16 f17 f18 f19
  (with_reducible refine ((q2.out _ gl)).mono ?_)
  rintro r w2 ⟨rfl, k2⟩
  replace gl := gl.kb k2
  replace b1 := b1.kb k2
  replace b2 := b2.kb k2
  replace kx := kx.trans k2
  have s2 := k2.size
  skip
  clear k2
  go_wp2_with fail
  (with_reducible refine (cCoord3_1 w.heap.size _).mono ?_)
  rintro r w3 ⟨g3, rfl, p3, i3, k3⟩
  replace gl := gl.kb k3
  replace b1 := b1.kb k3
  replace b2 := b2.kb k3
  replace kx := kx.trans k3
  have s3 := k3.size
  skip
  clear k3
  go_wp2_with fail
  replace gl := gl.drew
  replace b1 := b1.drew
  replace b2 := b2.drew
  replace p3 := p3.drew
  rw [oF_lit]
  refine o_law (⟨37, [some 26, some 27, some 28, some 29, some 30, some 31, some 32, some 33, some 34, some 35, some 36, none, some 5], [26, 27, 28, 29, 30, 31, 32, 33, 34, 35, 36, 4, 5], [[], [], [0, 1], [], [3], [4], [], [6], [2, 5, 7], [8], [8], [9], [10]], [[7], [1], [], [2], [], [], [2], [], [], [], [], [4], []]⟩ : OT) (Gz (w.heap.size + 1) #[.int .i64 0, .int .i64 0] #[.int .i64 r5, .int .i64 r6] 25) (RL [fun vv _ => vv = .func (.func 76) #[] #[.pointer (some ⟨g3, 0, none⟩)], fun vv _ => vv = .int .i64 1, fun vv _ => vv = .int .i64 y, fun vv _ => vv = .agg #[.string n, .int .i64 k, .int .i64 a, .int .i64 x, .int .i64 y, .int .i64 z, .int .i64 lo, .int .i64 hi, .slice fp fl fc], fun vv _ => vv = .int .i64 r3, fun vv _ => vv = .int .i64 z4, fun vv _ => vv = .agg #[.string n, .int .i64 k, .int .i64 a, .int .i64 x, .int .i64 y, .int .i64 z, .int .i64 lo, .int .i64 hi, .slice fp fl fc], fun vv _ => vv = .int .i64 r3, fun vv _ => vv = .tuple #[.agg #[.int .i64 r5, .int .i64 r6], .int .i64 r7], fun vv _ => vv = .agg #[.int .i64 r5, .int .i64 r6], fun vv _ => vv = .int .i64 r7, fun _ ww => Is ww (w.heap.size + 1) #[.int .i64 r5, .int .i64 r6] 25, fun vv _ => vv = .int .i64 r7]) (by kernel_rfl) ?hk ?hR ?fin
  case hk => kernel_rfl
  case hR =>
    refine ⟨fun _ => (Gz.refl _ _ _ _ _), fun _ _ _ => Gz.trans, rl_stab ⟨fun _ _ _ _ h => h, fun _ _ _ _ h => h, fun _ _ _ _ h => h, fun _ _ _ _ h => h, fun _ _ _ _ h => h, fun _ _ _ _ h => h, fun _ _ _ _ h => h, fun _ _ _ _ h => h, fun _ _ _ _ h => h, fun _ _ _ _ h => h, fun _ _ _ _ h => h, (fun v w w' k h => k.2.1 h), fun _ _ _ _ h => h, trivial⟩, ?_⟩
    refine allO_cons ?_ (allO_cons ?_ (allO_cons ?_ (allO_cons ?_ (allO_cons ?_ (allO_cons ?_ (allO_cons ?_ (allO_cons ?_ (allO_cons ?_ (allO_cons ?_ (allO_cons ?_ (allO_cons ?_ (allO_cons ?_ (allO_nil)))))))))))))
    · intro T w9 hG hD hO Q
      have q0 := hO.1
      have e0 : (oF 37 T).eval (.tmp 7) = .func (.func 76) #[] #[.pointer (some ⟨g3, 0, none⟩)] := (oF_eval (by decide)).trans (show T 7 = _ from q0)
      refine og_none rfl ?_
      exact o_val (v := .func (.func 76) #[] #[.pointer (some ⟨g3, 0, none⟩)]) (w' := w9) (by generalize (oF 37 T).eval = rr at *; simp [execOp, go_sem, e0]) rfl rfl (Gz.refl _ _ _ _ _)
    · intro T w9 hG hD hO Q
      have q0 := hO.1
      have e0 : (oF 37 T).eval (.tmp 1) = .int .i64 1 := (oF_eval (by decide)).trans (show T 1 = _ from q0)
      refine og_none rfl ?_
      exact o_val (v := .int .i64 1) (w' := w9) (by generalize (oF 37 T).eval = rr at *; simp [execOp, go_sem, e0]) rfl rfl (Gz.refl _ _ _ _ _)
    · intro T w9 hG hD hO Q
      have d0 := hD.1
      have d1 := hD.2.1
      have e0 : (oF 37 T).eval (.tmp 26) = .func (.func 76) #[] #[.pointer (some ⟨g3, 0, none⟩)] := (oF_eval (by decide)).trans (show T 26 = _ from d0)
      have e1 : (oF 37 T).eval (.tmp 27) = .int .i64 1 := (oF_eval (by decide)).trans (show T 27 = _ from d1)
      refine og_none rfl ?_
      refine o_call (os1 (enters_of Tryd.func76 (by kernel_rfl) rfl) rfl e0 e1) rfl ?_
      exact (cRead_1 _ _ _ _ _ w9 (p3.kx hG.1 (by simp only [List.mem_singleton]; omega)) ((b1.kx hG.1 (by simp only [List.mem_singleton]; omega)).c (i := 4) rfl)).mono fun r W' h => ⟨_, h.1, rfl, h.2.gz⟩
    · intro T w9 hG hD hO Q
      have q0 := hO.1
      have e0 : (oF 37 T).eval (.tmp 2) = .pointer (some ⟨w.heap.size, 0, none⟩) := (oF_eval (by decide)).trans (show T 2 = _ from q0)
      refine og_none rfl ?_
      have im := b1.kx hG.1 (by simp only [List.mem_singleton]; omega)
      have m0 := im.c (i := 0) rfl
      have m1 := im.c (i := 1) rfl
      have m2 := im.c (i := 2) rfl
      have m3 := im.c (i := 3) rfl
      have m4 := im.c (i := 4) rfl
      have m5 := im.c (i := 5) rfl
      have m6 := im.c (i := 6) rfl
      have m7 := im.c (i := 7) rfl
      have m8 := im.c (i := 8) rfl
      clear im
      exact o_val (v := .agg #[.string n, .int .i64 k, .int .i64 a, .int .i64 x, .int .i64 y, .int .i64 z, .int .i64 lo, .int .i64 hi, .slice fp fl fc]) (w' := w9) (by generalize (oF 37 T).eval = rr at *; simp [execOp, go_sem, e0, m0, m1, m2, m3, m4, m5, m6, m7, m8]) rfl rfl (Gz.refl _ _ _ _ _)
    · intro T w9 hG hD hO Q
      have d0 := hD.1
      have e0 : (oF 37 T).eval (.func 54) = .func (.func 54) #[] #[] := rfl
      have e1 : (oF 37 T).eval (.tmp 29) = .agg #[.string n, .int .i64 k, .int .i64 a, .int .i64 x, .int .i64 y, .int .i64 z, .int .i64 lo, .int .i64 hi, .slice fp fl fc] := (oF_eval (by decide)).trans (show T 29 = _ from d0)
      refine og_none rfl ?_
      refine o_call (oc1 (enters_of Tryd.func54 (by kernel_rfl) rfl) rfl rfl e1) rfl ?_
      exact (q3.out w9).mono fun r W' h => ⟨_, h.1, rfl, h.2.gz⟩
    · intro T w9 hG hD hO Q
      have d0 := hD.1
      have e0 : (oF 37 T).eval (.tmp 30) = .int .i64 r3 := (oF_eval (by decide)).trans (show T 30 = _ from d0)
      refine og_none rfl ?_
      exact o_val (v := .int .i64 z4) (w' := w9) (by generalize (oF 37 T).eval = rr at *; simp [execOp, go_sem, e0, a1']) rfl rfl (Gz.refl _ _ _ _ _)
    · intro T w9 hG hD hO Q
      have q0 := hO.1
      have e0 : (oF 37 T).eval (.tmp 2) = .pointer (some ⟨w.heap.size, 0, none⟩) := (oF_eval (by decide)).trans (show T 2 = _ from q0)
      refine og_none rfl ?_
      have im := b1.kx hG.1 (by simp only [List.mem_singleton]; omega)
      have m0 := im.c (i := 0) rfl
      have m1 := im.c (i := 1) rfl
      have m2 := im.c (i := 2) rfl
      have m3 := im.c (i := 3) rfl
      have m4 := im.c (i := 4) rfl
      have m5 := im.c (i := 5) rfl
      have m6 := im.c (i := 6) rfl
      have m7 := im.c (i := 7) rfl
      have m8 := im.c (i := 8) rfl
      clear im
      exact o_val (v := .agg #[.string n, .int .i64 k, .int .i64 a, .int .i64 x, .int .i64 y, .int .i64 z, .int .i64 lo, .int .i64 hi, .slice fp fl fc]) (w' := w9) (by generalize (oF 37 T).eval = rr at *; simp [execOp, go_sem, e0, m0, m1, m2, m3, m4, m5, m6, m7, m8]) rfl rfl (Gz.refl _ _ _ _ _)
    · intro T w9 hG hD hO Q
      have d0 := hD.1
      have e0 : (oF 37 T).eval (.func 54) = .func (.func 54) #[] #[] := rfl
      have e1 : (oF 37 T).eval (.tmp 32) = .agg #[.string n, .int .i64 k, .int .i64 a, .int .i64 x, .int .i64 y, .int .i64 z, .int .i64 lo, .int .i64 hi, .slice fp fl fc] := (oF_eval (by decide)).trans (show T 32 = _ from d0)
      refine og_none rfl ?_
      refine o_call (oc1 (enters_of Tryd.func54 (by kernel_rfl) rfl) rfl rfl e1) rfl ?_
      exact (q3.out w9).mono fun r W' h => ⟨_, h.1, rfl, h.2.gz⟩
    · intro T w9 hG hD hO Q
      have d0 := hD.1
      have d1 := hD.2.1
      have d2 := hD.2.2.1
      have e0 : (oF 37 T).eval (.func 53) = .func (.func 53) #[] #[] := rfl
      have e1 : (oF 37 T).eval (.tmp 28) = .int .i64 y := (oF_eval (by decide)).trans (show T 28 = _ from d0)
      have e2 : (oF 37 T).eval (.tmp 31) = .int .i64 z4 := (oF_eval (by decide)).trans (show T 31 = _ from d1)
      have e3 : (oF 37 T).eval (.tmp 33) = .int .i64 r3 := (oF_eval (by decide)).trans (show T 33 = _ from d2)
      refine og_none rfl ?_
      refine o_call (oc3 (enters_of Tryd.func53 (by kernel_rfl) rfl) rfl rfl e1 e2 e3) rfl ?_
      exact (q4.out w9).mono fun r W' h => ⟨_, h.1, rfl, h.2.gz⟩
    · intro T w9 hG hD hO Q
      have d0 := hD.1
      have e0 : (oF 37 T).eval (.tmp 34) = .tuple #[.agg #[.int .i64 r5, .int .i64 r6], .int .i64 r7] := (oF_eval (by decide)).trans (show T 34 = _ from d0)
      refine og_none rfl ?_
      exact o_val (v := .agg #[.int .i64 r5, .int .i64 r6]) (w' := w9) (by generalize (oF 37 T).eval = rr at *; simp [execOp, go_sem, e0]) rfl rfl (Gz.refl _ _ _ _ _)
    · intro T w9 hG hD hO Q
      have d0 := hD.1
      have e0 : (oF 37 T).eval (.tmp 34) = .tuple #[.agg #[.int .i64 r5, .int .i64 r6], .int .i64 r7] := (oF_eval (by decide)).trans (show T 34 = _ from d0)
      refine og_none rfl ?_
      exact o_val (v := .int .i64 r7) (w' := w9) (by generalize (oF 37 T).eval = rr at *; simp [execOp, go_sem, e0]) rfl rfl (Gz.refl _ _ _ _ _)
    · intro T w9 hG hD hO Q
      have d0 := hD.1
      have q0 := hO.1
      have e0 : (oF 37 T).eval (.tmp 4) = .pointer (some ⟨w.heap.size + 1, 0, none⟩) := (oF_eval (by decide)).trans (show T 4 = _ from q0)
      have e1 : (oF 37 T).eval (.tmp 35) = .agg #[.int .i64 r5, .int .i64 r6] := (oF_eval (by decide)).trans (show T 35 = _ from d0)
      refine og_none rfl ?_
      have io : Is w9 (w.heap.size + 1) #[.int .i64 0, .int .i64 0] 25 ∨ Is w9 (w.heap.size + 1) #[.int .i64 r5, .int .i64 r6] 25 := hG.2.2 (.inl b2)
      rcases io with io | io
      · have zn := io
        replace zn : Is (w9.setCell ⟨w.heap.size + 1, 0, none⟩ (.int .i64 r5)) (w.heap.size + 1) #[.int .i64 r5, .int .i64 0] 25 := zn.set 0 _
        replace zn : Is ((w9.setCell ⟨w.heap.size + 1, 0, none⟩ (.int .i64 r5)).setCell ⟨w.heap.size + 1, 1, none⟩ (.int .i64 r6)) (w.heap.size + 1) #[.int .i64 r5, .int .i64 r6] 25 := zn.set 1 _
        have pt := (((Pt.refl (w.heap.size + 1) w9).set 0 (.int .i64 r5)).set 1 (.int .i64 r6))
        have m0 := io.c (i := 0) rfl
        have f0 := io.f 0
        have m1 := io.c (i := 1) rfl
        have f1 := io.f 1
        clear io
        exact o_skip (w' := ((w9.setCell ⟨w.heap.size + 1, 0, none⟩ (.int .i64 r5)).setCell ⟨w.heap.size + 1, 1, none⟩ (.int .i64 r6))) (by generalize (oF 37 T).eval = rr at *; simp [execOp, go_sem, e0, e1, m0, f0, m1, f1]) rfl zn (pt.gz zn)
      · have zn := io
        replace zn : Is (w9.setCell ⟨w.heap.size + 1, 0, none⟩ (.int .i64 r5)) (w.heap.size + 1) #[.int .i64 r5, .int .i64 r6] 25 := zn.set 0 _
        replace zn : Is ((w9.setCell ⟨w.heap.size + 1, 0, none⟩ (.int .i64 r5)).setCell ⟨w.heap.size + 1, 1, none⟩ (.int .i64 r6)) (w.heap.size + 1) #[.int .i64 r5, .int .i64 r6] 25 := zn.set 1 _
        have pt := (((Pt.refl (w.heap.size + 1) w9).set 0 (.int .i64 r5)).set 1 (.int .i64 r6))
        have m0 := io.c (i := 0) rfl
        have f0 := io.f 0
        have m1 := io.c (i := 1) rfl
        have f1 := io.f 1
        clear io
        exact o_skip (w' := ((w9.setCell ⟨w.heap.size + 1, 0, none⟩ (.int .i64 r5)).setCell ⟨w.heap.size + 1, 1, none⟩ (.int .i64 r6))) (by generalize (oF 37 T).eval = rr at *; simp [execOp, go_sem, e0, e1, m0, f0, m1, f1]) rfl zn (pt.gz zn)
    · intro T w9 hG hD hO Q
      have d0 := hD.1
      have e0 : (oF 37 T).eval (.tmp 36) = .int .i64 r7 := (oF_eval (by decide)).trans (show T 36 = _ from d0)
      refine og_none rfl ?_
      exact o_val (v := .int .i64 r7) (w' := w9) (by generalize (oF 37 T).eval = rr at *; simp [execOp, go_sem, e0]) rfl rfl (Gz.refl _ _ _ _ _)
  case fin =>
    intro T w4 hout hval hG
    have s4 := hG.1.2.2.2.1
    simp only [World.size_drew] at s4
    rw [show oF 37 T = (⟨#[T 0, T 1, T 2, T 3, T 4, T 5, T 6, T 7, T 8, T 9, T 10, T 11, T 12, T 13, T 14, T 15, T 16, T 17, T 18, T 19, T 20, T 21, T 22, T 23, T 24, T 25, T 26, T 27, T 28, T 29, T 30, T 31, T 32, T 33, T 34, T 35, T 36], []⟩ : Act) from oF_list 37 T]
    rw [show T 0 = .agg #[.string n, .int .i64 k, .int .i64 a, .int .i64 x, .int .i64 y, .int .i64 z, .int .i64 lo, .int .i64 hi, .slice fp fl fc] from hout 0 rfl]
    rw [show T 1 = .int .i64 1 from hout 1 rfl]
    rw [show T 2 = .pointer (some ⟨w.heap.size, 0, none⟩) from hout 2 rfl]
    rw [show T 4 = .pointer (some ⟨w.heap.size + 1, 0, none⟩) from hout 4 rfl]
    rw [show T 5 = .int .i64 r7 from hval 12 (by decide : 12 < 13)]
    rw [show T 6 = .int .i64 r1 from hout 6 rfl]
    rw [show T 9 = .agg #[.string n, .int .i64 k, .int .i64 a, .int .i64 x, .int .i64 y, .int .i64 z, .int .i64 lo, .int .i64 hi, .slice fp fl fc] from hout 9 rfl]
    rw [show T 10 = .int .i64 1 from hout 10 rfl]
    rw [show T 11 = .int .i64 r1 from hout 11 rfl]
    rw [show T 12 = .int .i64 r1 from hout 12 rfl]
    rw [show T 13 = .bool false from hout 13 rfl]
    rw [show T 16 = .agg #[.string n, .int .i64 k, .int .i64 a, .int .i64 x, .int .i64 y, .int .i64 z, .int .i64 lo, .int .i64 hi, .slice fp fl fc] from hout 16 rfl]
    rw [show T 17 = .int .i64 1 from hout 17 rfl]
    rw [show T 18 = .bool true from hout 18 rfl]
    rw [show T 19 = .bool false from hout 19 rfl]
    rw [show T 21 = .tuple #[.func (.func 76) #[] #[.pointer (some ⟨g3, 0, none⟩)], .func (.func 77) #[] #[.pointer (some ⟨g3, 0, none⟩)]] from hout 21 rfl]
    rw [show T 22 = .pointer (some ⟨w.heap.size, 3, none⟩) from hout 22 rfl]
    rw [show T 23 = .tuple #[.func (.func 76) #[] #[.pointer (some ⟨g3, 0, none⟩)], .func (.func 77) #[] #[.pointer (some ⟨g3, 0, none⟩)]] from hout 23 rfl]
    rw [show T 24 = .func (.func 76) #[] #[.pointer (some ⟨g3, 0, none⟩)] from hout 24 rfl]
    rw [show T 25 = .func (.func 77) #[] #[.pointer (some ⟨g3, 0, none⟩)] from hout 25 rfl]
    replace b1 := b1.kx hG.1 (by simp only [List.mem_singleton]; omega)
    replace p3 := p3.kx hG.1 (by simp only [List.mem_singleton]; omega)
    replace b2 := hval 11 (by decide)
    replace b2 : Is _ (w.heap.size + 1) #[.int .i64 r5, .int .i64 r6] 25 := b2
    replace kx := hG.1.old kx.drew (by intro x hx; simp only [List.mem_singleton] at hx; subst hx; omega)
    replace gl := gl0.out.kb kx
    clear hout hval hG
    go_wp2
    refine ret_row2 Tryd.results20 rfl rfl rfl b2 Tryd.underlying25 rfl (by kernel_rfl) ?_
    exact ⟨rfl, kx⟩
set_option maxRecDepth 100000 in
set_option maxHeartbeats 1000000 in
theorem fReach1_3 (n : ByteArray) (k : Int) (a : Int) (x : Int) (y : Int) (z : Int) (lo : Int) (hi : Int) (fp : Option Addr) (fl : Nat) (fc : Nat) (r1 : Int) (o2 : Bool)   (q1 : Ca 50 #[.agg #[.string n, .int .i64 k, .int .i64 a, .int .i64 x, .int .i64 y, .int .i64 z, .int .i64 lo, .int .i64 hi, .slice fp fl fc], .int .i64 1] (.int .i64 r1)) (q2 : Cg 51 #[.agg #[.string n, .int .i64 k, .int .i64 a, .int .i64 x, .int .i64 y, .int .i64 z, .int .i64 lo, .int .i64 hi, .slice fp fl fc], .int .i64 1] (.bool o2))  (h1 : (r1 != 0) = false) (h2 : (o2) = false) (w : World) (gl : Gl w)  : Calls Tryd.prog 20 #[.agg #[.string n, .int .i64 k, .int .i64 a, .int .i64 x, .int .i64 y, .int .i64 z, .int .i64 lo, .int .i64 hi, .slice fp fl fc], .int .i64 1] w fun r W' => r = .returned (.tuple #[.agg #[.int .i64 0, .int .i64 0], .int .i64 14]) ∧ Kb w W' := by
  have kx := Kb.refl w
  unfold Ca at q1
  unfold Cg at q2
  have gl0 := Lib.hid gl
  subst h2
  have j1 := ((Is.made w #[.string n, .int .i64 k, .int .i64 a, .int .i64 x, .int .i64 y, .int .i64 z, .int .i64 lo, .int .i64 hi, .slice fp fl fc] 28).alloc (.cells #[.int .i64 0, .int .i64 0] 25 (0, 0)))
  have f2 := j1.c (i := 0) rfl
  have f3 := j1.c (i := 1) rfl
  have f4 := j1.c (i := 2) rfl
  have f5 := j1.c (i := 3) rfl
  have f6 := j1.c (i := 4) rfl
  have f7 := j1.c (i := 5) rfl
  have f8 := j1.c (i := 6) rfl
  have f9 := j1.c (i := 7) rfl
  have f10 := j1.c (i := 8) rfl
  go_enter Tryd.func20, Tryd.ntmps20
  go_wp2_with fail
  clear f2 f3 f4 f5 f6 f7 f8 f9 f10
  have b1 := j1
  have b2 := Is.made (w.alloc (.cells #[.string n, .int .i64 k, .int .i64 a, .int .i64 x, .int .i64 y, .int .i64 z, .int .i64 lo, .int .i64 hi, .slice fp fl fc] 28 (0, 0))) #[.int .i64 0, .int .i64 0] 25
  simp only [World.size_alloc] at b2
  replace kx := (kx.alloc (.cells #[.string n, .int .i64 k, .int .i64 a, .int .i64 x, .int .i64 y, .int .i64 z, .int .i64 lo, .int .i64 hi, .slice fp fl fc] 28 (0, 0))).alloc (.cells #[.int .i64 0, .int .i64 0] 25 (0, 0))
  clear j1
  replace gl := gl0.out.kb kx
  (with_reducible refine (((q1).out _)).mono ?_)
  rintro r w1 ⟨rfl, k1⟩
  replace gl := gl.kb k1
  replace b1 := b1.kb k1
  replace b2 := b2.kb k1
  replace kx := kx.trans k1
  have s1 := k1.size
  simp only [World.size_alloc] at s1
  clear k1
  have f11 := b1.c (i := 0) rfl
  have f12 := b1.c (i := 1) rfl
  have f13 := b1.c (i := 2) rfl
  have f14 := b1.c (i := 3) rfl
  have f15 := b1.c (i := 4) rfl
  have f16 := b1.c (i := 5) rfl
  have f17 := b1.c (i := 6) rfl
  have f18 := b1.c (i := 7) rfl
  have f19 := b1.c (i := 8) rfl
  go_wp2_with fail
  clear f11 f12 f13 f14 f15 f16 f17 f18 f19
  (with_reducible refine ((q2.out _ gl)).mono ?_)
  rintro r w2 ⟨rfl, k2⟩
  replace gl := gl.kb k2
  replace b1 := b1.kb k2
  replace b2 := b2.kb k2
  replace kx := kx.trans k2
  have s2 := k2.size
  skip
  clear k2
  have f20 := b2.c (i := 0) rfl
  have f21 := b2.f 0
  have f22 := b2.c (i := 1) rfl
  have f23 := b2.f 1
  go_wp2
  clear f20 f21 f22 f23
  replace b2 : Is _ _ #[.int .i64 0, .int .i64 0] _ := b2.set 0 (.int .i64 0)
  replace b2 : Is _ _ #[.int .i64 0, .int .i64 0] _ := b2.set 1 (.int .i64 0)
  replace kx := (kx.setCell (p := ⟨w.heap.size + 1, 0, none⟩) (show w.heap.size ≤ w.heap.size + 1 by omega) (.int .i64 0)).setCell (p := ⟨w.heap.size + 1, 1, none⟩) (show w.heap.size ≤ w.heap.size + 1 by omega) (.int .i64 0)
  refine ret_row2 Tryd.results20 rfl rfl rfl b2 Tryd.underlying25 rfl (by kernel_rfl) ?_
  exact ⟨rfl, kx⟩
set_option maxRecDepth 100000 in
theorem fReach1_any (n : ByteArray) (k : Int) (a : Int) (x : Int) (y : Int) (z : Int) (lo : Int) (hi : Int) (fp : Option Addr) (fl : Nat) (fc : Nat) (r1 : Int) (o2 : Bool) (r3 : Int) (r5 : Int) (r6 : Int) (r7 : Int) (q1 : Ca 50 #[.agg #[.string n, .int .i64 k, .int .i64 a, .int .i64 x, .int .i64 y, .int .i64 z, .int .i64 lo, .int .i64 hi, .slice fp fl fc], .int .i64 1] (.int .i64 r1)) (q2 : Cg 51 #[.agg #[.string n, .int .i64 k, .int .i64 a, .int .i64 x, .int .i64 y, .int .i64 z, .int .i64 lo, .int .i64 hi, .slice fp fl fc], .int .i64 1] (.bool o2)) (q3 : Ca 54 #[.agg #[.string n, .int .i64 k, .int .i64 a, .int .i64 x, .int .i64 y, .int .i64 z, .int .i64 lo, .int .i64 hi, .slice fp fl fc]] (.int .i64 r3)) (q4 : Ca 53 #[.int .i64 y, .int .i64 (wrap64 (-r3)), .int .i64 r3] (.tuple #[.agg #[.int .i64 r5, .int .i64 r6], .int .i64 r7]))  : Cg 20 #[.agg #[.string n, .int .i64 k, .int .i64 a, .int .i64 x, .int .i64 y, .int .i64 z, .int .i64 lo, .int .i64 hi, .slice fp fl fc], .int .i64 1] (if (r1 != 0) = true then (.tuple #[.agg #[.int .i64 0, .int .i64 0], .int .i64 r1]) else (if (o2) = true then (.tuple #[.agg #[.int .i64 r5, .int .i64 r6], .int .i64 r7]) else (.tuple #[.agg #[.int .i64 0, .int .i64 0], .int .i64 14]))) := Lib.hid fun w gl => by
  rcases Bool.eq_false_or_eq_true (r1 != 0) with h1 | h1
  · rw [if_pos h1]
    exact fReach1_1 n k a x y z lo hi fp fl fc r1 q1 h1 w gl
  · rw [if_neg (by rw [h1]; decide)]
    rcases Bool.eq_false_or_eq_true (o2) with h2 | h2
    · rw [if_pos h2]
      exact fReach1_2 n k a x y z lo hi fp fl fc r1 o2 r3 r5 r6 r7 ((wrap64 (-r3))) rfl q1 q2 q3 q4 h1 h2 w gl
    · rw [if_neg (by rw [h2]; decide)]
      exact fReach1_3 n k a x y z lo hi fp fl fc r1 o2 q1 q2 h1 h2 w gl
set_option maxRecDepth 100000 in
set_option maxHeartbeats 1000000 in
theorem fReach2_1 (n : ByteArray) (k : Int) (a : Int) (x : Int) (y : Int) (z : Int) (lo : Int) (hi : Int) (fp : Option Addr) (fl : Nat) (fc : Nat) (r1 : Int)   (q1 : Ca 50 #[.agg #[.string n, .int .i64 k, .int .i64 a, .int .i64 x, .int .i64 y, .int .i64 z, .int .i64 lo, .int .i64 hi, .slice fp fl fc], .int .i64 2] (.int .i64 r1))  (h1 : (r1 != 0) = true) (w : World) (gl : Gl w)  : Calls Tryd.prog 20 #[.agg #[.string n, .int .i64 k, .int .i64 a, .int .i64 x, .int .i64 y, .int .i64 z, .int .i64 lo, .int .i64 hi, .slice fp fl fc], .int .i64 2] w fun r W' => r = .returned (.tuple #[.agg #[.int .i64 0, .int .i64 0], .int .i64 r1]) ∧ Kb w W' := by
  have kx := Kb.refl w
  unfold Ca at q1
  have gl0 := Lib.hid gl
  have j1 := ((Is.made w #[.string n, .int .i64 k, .int .i64 a, .int .i64 x, .int .i64 y, .int .i64 z, .int .i64 lo, .int .i64 hi, .slice fp fl fc] 28).alloc (.cells #[.int .i64 0, .int .i64 0] 25 (0, 0)))
  have f2 := j1.c (i := 0) rfl
  have f3 := j1.c (i := 1) rfl
  have f4 := j1.c (i := 2) rfl
  have f5 := j1.c (i := 3) rfl
  have f6 := j1.c (i := 4) rfl
  have f7 := j1.c (i := 5) rfl
  have f8 := j1.c (i := 6) rfl
  have f9 := j1.c (i := 7) rfl
  have f10 := j1.c (i := 8) rfl
  go_enter Tryd.func20, Tryd.ntmps20
  go_wp2_with fail
  clear f2 f3 f4 f5 f6 f7 f8 f9 f10
  have b1 := j1
  have b2 := Is.made (w.alloc (.cells #[.string n, .int .i64 k, .int .i64 a, .int .i64 x, .int .i64 y, .int .i64 z, .int .i64 lo, .int .i64 hi, .slice fp fl fc] 28 (0, 0))) #[.int .i64 0, .int .i64 0] 25
  simp only [World.size_alloc] at b2
  replace kx := (kx.alloc (.cells #[.string n, .int .i64 k, .int .i64 a, .int .i64 x, .int .i64 y, .int .i64 z, .int .i64 lo, .int .i64 hi, .slice fp fl fc] 28 (0, 0))).alloc (.cells #[.int .i64 0, .int .i64 0] 25 (0, 0))
  clear j1
  replace gl := gl0.out.kb kx
  (with_reducible refine (((q1).out _)).mono ?_)
  rintro r w1 ⟨rfl, k1⟩
  replace gl := gl.kb k1
  replace b1 := b1.kb k1
  replace b2 := b2.kb k1
  replace kx := kx.trans k1
  have s1 := k1.size
  simp only [World.size_alloc] at s1
  clear k1
  have f11 := b2.c (i := 0) rfl
  have f12 := b2.f 0
  have f13 := b2.c (i := 1) rfl
  have f14 := b2.f 1
  go_wp2
  clear f11 f12 f13 f14
  replace b2 : Is _ _ #[.int .i64 0, .int .i64 0] _ := b2.set 0 (.int .i64 0)
  replace b2 : Is _ _ #[.int .i64 0, .int .i64 0] _ := b2.set 1 (.int .i64 0)
  replace kx := (kx.setCell (p := ⟨w.heap.size + 1, 0, none⟩) (show w.heap.size ≤ w.heap.size + 1 by omega) (.int .i64 0)).setCell (p := ⟨w.heap.size + 1, 1, none⟩) (show w.heap.size ≤ w.heap.size + 1 by omega) (.int .i64 0)
  refine ret_row2 Tryd.results20 rfl rfl rfl b2 Tryd.underlying25 rfl (by kernel_rfl) ?_
  exact ⟨rfl, kx⟩
set_option maxRecDepth 100000 in
set_option maxHeartbeats 1000000 in
theorem fReach2_2 (n : ByteArray) (k : Int) (a : Int) (x : Int) (y : Int) (z : Int) (lo : Int) (hi : Int) (fp : Option Addr) (fl : Nat) (fc : Nat) (r1 : Int) (o2 : Bool) (r3 : Int) (r5 : Int) (r6 : Int) (r7 : Int) (z4 : Int) (a1 : wrap64 (-r3) = z4) (q1 : Ca 50 #[.agg #[.string n, .int .i64 k, .int .i64 a, .int .i64 x, .int .i64 y, .int .i64 z, .int .i64 lo, .int .i64 hi, .slice fp fl fc], .int .i64 2] (.int .i64 r1)) (q2 : Cg 51 #[.agg #[.string n, .int .i64 k, .int .i64 a, .int .i64 x, .int .i64 y, .int .i64 z, .int .i64 lo, .int .i64 hi, .slice fp fl fc], .int .i64 2] (.bool o2)) (q3 : Ca 54 #[.agg #[.string n, .int .i64 k, .int .i64 a, .int .i64 x, .int .i64 y, .int .i64 z, .int .i64 lo, .int .i64 hi, .slice fp fl fc]] (.int .i64 r3)) (q4 : Ca 53 #[.int .i64 z, .int .i64 z4, .int .i64 r3] (.tuple #[.agg #[.int .i64 r5, .int .i64 r6], .int .i64 r7]))  (h1 : (r1 != 0) = false) (h2 : (o2) = true) (w : World) (gl : Gl w)  : Calls Tryd.prog 20 #[.agg #[.string n, .int .i64 k, .int .i64 a, .int .i64 x, .int .i64 y, .int .i64 z, .int .i64 lo, .int .i64 hi, .slice fp fl fc], .int .i64 2] w fun r W' => r = .returned (.tuple #[.agg #[.int .i64 r5, .int .i64 r6], .int .i64 r7]) ∧ Kb w W' := by
  have kx := Kb.refl w
  unfold Ca at q1 q3 q4
  unfold Cg at q2
  have gl0 := Lib.hid gl
  have a1' : IntKind.i64.wrap (-r3) = z4 := (Go.IntWalk.i64_left _).trans a1
  subst h2
  have j1 := ((Is.made w #[.string n, .int .i64 k, .int .i64 a, .int .i64 x, .int .i64 y, .int .i64 z, .int .i64 lo, .int .i64 hi, .slice fp fl fc] 28).alloc (.cells #[.int .i64 0, .int .i64 0] 25 (0, 0)))
  have f2 := j1.c (i := 0) rfl
  have f3 := j1.c (i := 1) rfl
  have f4 := j1.c (i := 2) rfl
  have f5 := j1.c (i := 3) rfl
  have f6 := j1.c (i := 4) rfl
  have f7 := j1.c (i := 5) rfl
  have f8 := j1.c (i := 6) rfl
  have f9 := j1.c (i := 7) rfl
  have f10 := j1.c (i := 8) rfl
  go_enter Tryd.func20, Tryd.ntmps20
  go_wp2_with fail
  clear f2 f3 f4 f5 f6 f7 f8 f9 f10
  have b1 := j1
  have b2 := Is.made (w.alloc (.cells #[.string n, .int .i64 k, .int .i64 a, .int .i64 x, .int .i64 y, .int .i64 z, .int .i64 lo, .int .i64 hi, .slice fp fl fc] 28 (0, 0))) #[.int .i64 0, .int .i64 0] 25
  simp only [World.size_alloc] at b2
  replace kx := (kx.alloc (.cells #[.string n, .int .i64 k, .int .i64 a, .int .i64 x, .int .i64 y, .int .i64 z, .int .i64 lo, .int .i64 hi, .slice fp fl fc] 28 (0, 0))).alloc (.cells #[.int .i64 0, .int .i64 0] 25 (0, 0))
  clear j1
  replace gl := gl0.out.kb kx
  (with_reducible refine (((q1).out _)).mono ?_)
  rintro r w1 ⟨rfl, k1⟩
  replace gl := gl.kb k1
  replace b1 := b1.kb k1
  replace b2 := b2.kb k1
  replace kx := kx.trans k1
  have s1 := k1.size
  simp only [World.size_alloc] at s1
  clear k1
  have f11 := b1.c (i := 0) rfl
  have f12 := b1.c (i := 1) rfl
  have f13 := b1.c (i := 2) rfl
  have f14 := b1.c (i := 3) rfl
  have f15 := b1.c (i := 4) rfl
  have f16 := b1.c (i := 5) rfl
  have f17 := b1.c (i := 6) rfl
  have f18 := b1.c (i := 7) rfl
  have f19 := b1.c (i := 8) rfl
  go_wp2_with fail
  clear f11 f12 f13 f14 f15 f16 f17 f18 f19
  (with_reducible refine ((q2.out _ gl)).mono ?_)
  rintro r w2 ⟨rfl, k2⟩
  replace gl := gl.kb k2
  replace b1 := b1.kb k2
  replace b2 := b2.kb k2
  replace kx := kx.trans k2
  have s2 := k2.size
  skip
  clear k2
  go_wp2_with fail
  (with_reducible refine (cCoord3_1 w.heap.size _).mono ?_)
  rintro r w3 ⟨g3, rfl, p3, i3, k3⟩
  replace gl := gl.kb k3
  replace b1 := b1.kb k3
  replace b2 := b2.kb k3
  replace kx := kx.trans k3
  have s3 := k3.size
  skip
  clear k3
  go_wp2_with fail
  replace gl := gl.drew
  replace b1 := b1.drew
  replace b2 := b2.drew
  replace p3 := p3.drew
  rw [oF_lit]
  refine o_law (⟨37, [some 26, some 27, some 28, some 29, some 30, some 31, some 32, some 33, some 34, some 35, some 36, none, some 5], [26, 27, 28, 29, 30, 31, 32, 33, 34, 35, 36, 4, 5], [[], [], [0, 1], [], [3], [4], [], [6], [2, 5, 7], [8], [8], [9], [10]], [[7], [1], [], [2], [], [], [2], [], [], [], [], [4], []]⟩ : OT) (Gz (w.heap.size + 1) #[.int .i64 0, .int .i64 0] #[.int .i64 r5, .int .i64 r6] 25) (RL [fun vv _ => vv = .func (.func 76) #[] #[.pointer (some ⟨g3, 0, none⟩)], fun vv _ => vv = .int .i64 2, fun vv _ => vv = .int .i64 z, fun vv _ => vv = .agg #[.string n, .int .i64 k, .int .i64 a, .int .i64 x, .int .i64 y, .int .i64 z, .int .i64 lo, .int .i64 hi, .slice fp fl fc], fun vv _ => vv = .int .i64 r3, fun vv _ => vv = .int .i64 z4, fun vv _ => vv = .agg #[.string n, .int .i64 k, .int .i64 a, .int .i64 x, .int .i64 y, .int .i64 z, .int .i64 lo, .int .i64 hi, .slice fp fl fc], fun vv _ => vv = .int .i64 r3, fun vv _ => vv = .tuple #[.agg #[.int .i64 r5, .int .i64 r6], .int .i64 r7], fun vv _ => vv = .agg #[.int .i64 r5, .int .i64 r6], fun vv _ => vv = .int .i64 r7, fun _ ww => Is ww (w.heap.size + 1) #[.int .i64 r5, .int .i64 r6] 25, fun vv _ => vv = .int .i64 r7]) (by kernel_rfl) ?hk ?hR ?fin
  case hk => kernel_rfl
  case hR =>
    refine ⟨fun _ => (Gz.refl _ _ _ _ _), fun _ _ _ => Gz.trans, rl_stab ⟨fun _ _ _ _ h => h, fun _ _ _ _ h => h, fun _ _ _ _ h => h, fun _ _ _ _ h => h, fun _ _ _ _ h => h, fun _ _ _ _ h => h, fun _ _ _ _ h => h, fun _ _ _ _ h => h, fun _ _ _ _ h => h, fun _ _ _ _ h => h, fun _ _ _ _ h => h, (fun v w w' k h => k.2.1 h), fun _ _ _ _ h => h, trivial⟩, ?_⟩
    refine allO_cons ?_ (allO_cons ?_ (allO_cons ?_ (allO_cons ?_ (allO_cons ?_ (allO_cons ?_ (allO_cons ?_ (allO_cons ?_ (allO_cons ?_ (allO_cons ?_ (allO_cons ?_ (allO_cons ?_ (allO_cons ?_ (allO_nil)))))))))))))
    · intro T w9 hG hD hO Q
      have q0 := hO.1
      have e0 : (oF 37 T).eval (.tmp 7) = .func (.func 76) #[] #[.pointer (some ⟨g3, 0, none⟩)] := (oF_eval (by decide)).trans (show T 7 = _ from q0)
      refine og_none rfl ?_
      exact o_val (v := .func (.func 76) #[] #[.pointer (some ⟨g3, 0, none⟩)]) (w' := w9) (by generalize (oF 37 T).eval = rr at *; simp [execOp, go_sem, e0]) rfl rfl (Gz.refl _ _ _ _ _)
    · intro T w9 hG hD hO Q
      have q0 := hO.1
      have e0 : (oF 37 T).eval (.tmp 1) = .int .i64 2 := (oF_eval (by decide)).trans (show T 1 = _ from q0)
      refine og_none rfl ?_
      exact o_val (v := .int .i64 2) (w' := w9) (by generalize (oF 37 T).eval = rr at *; simp [execOp, go_sem, e0]) rfl rfl (Gz.refl _ _ _ _ _)
    · intro T w9 hG hD hO Q
      have d0 := hD.1
      have d1 := hD.2.1
      have e0 : (oF 37 T).eval (.tmp 26) = .func (.func 76) #[] #[.pointer (some ⟨g3, 0, none⟩)] := (oF_eval (by decide)).trans (show T 26 = _ from d0)
      have e1 : (oF 37 T).eval (.tmp 27) = .int .i64 2 := (oF_eval (by decide)).trans (show T 27 = _ from d1)
      refine og_none rfl ?_
      refine o_call (os1 (enters_of Tryd.func76 (by kernel_rfl) rfl) rfl e0 e1) rfl ?_
      exact (cRead_2 _ _ _ _ _ w9 (p3.kx hG.1 (by simp only [List.mem_singleton]; omega)) ((b1.kx hG.1 (by simp only [List.mem_singleton]; omega)).c (i := 5) rfl)).mono fun r W' h => ⟨_, h.1, rfl, h.2.gz⟩
    · intro T w9 hG hD hO Q
      have q0 := hO.1
      have e0 : (oF 37 T).eval (.tmp 2) = .pointer (some ⟨w.heap.size, 0, none⟩) := (oF_eval (by decide)).trans (show T 2 = _ from q0)
      refine og_none rfl ?_
      have im := b1.kx hG.1 (by simp only [List.mem_singleton]; omega)
      have m0 := im.c (i := 0) rfl
      have m1 := im.c (i := 1) rfl
      have m2 := im.c (i := 2) rfl
      have m3 := im.c (i := 3) rfl
      have m4 := im.c (i := 4) rfl
      have m5 := im.c (i := 5) rfl
      have m6 := im.c (i := 6) rfl
      have m7 := im.c (i := 7) rfl
      have m8 := im.c (i := 8) rfl
      clear im
      exact o_val (v := .agg #[.string n, .int .i64 k, .int .i64 a, .int .i64 x, .int .i64 y, .int .i64 z, .int .i64 lo, .int .i64 hi, .slice fp fl fc]) (w' := w9) (by generalize (oF 37 T).eval = rr at *; simp [execOp, go_sem, e0, m0, m1, m2, m3, m4, m5, m6, m7, m8]) rfl rfl (Gz.refl _ _ _ _ _)
    · intro T w9 hG hD hO Q
      have d0 := hD.1
      have e0 : (oF 37 T).eval (.func 54) = .func (.func 54) #[] #[] := rfl
      have e1 : (oF 37 T).eval (.tmp 29) = .agg #[.string n, .int .i64 k, .int .i64 a, .int .i64 x, .int .i64 y, .int .i64 z, .int .i64 lo, .int .i64 hi, .slice fp fl fc] := (oF_eval (by decide)).trans (show T 29 = _ from d0)
      refine og_none rfl ?_
      refine o_call (oc1 (enters_of Tryd.func54 (by kernel_rfl) rfl) rfl rfl e1) rfl ?_
      exact (q3.out w9).mono fun r W' h => ⟨_, h.1, rfl, h.2.gz⟩
    · intro T w9 hG hD hO Q
      have d0 := hD.1
      have e0 : (oF 37 T).eval (.tmp 30) = .int .i64 r3 := (oF_eval (by decide)).trans (show T 30 = _ from d0)
      refine og_none rfl ?_
      exact o_val (v := .int .i64 z4) (w' := w9) (by generalize (oF 37 T).eval = rr at *; simp [execOp, go_sem, e0, a1']) rfl rfl (Gz.refl _ _ _ _ _)
    · intro T w9 hG hD hO Q
      have q0 := hO.1
      have e0 : (oF 37 T).eval (.tmp 2) = .pointer (some ⟨w.heap.size, 0, none⟩) := (oF_eval (by decide)).trans (show T 2 = _ from q0)
      refine og_none rfl ?_
      have im := b1.kx hG.1 (by simp only [List.mem_singleton]; omega)
      have m0 := im.c (i := 0) rfl
      have m1 := im.c (i := 1) rfl
      have m2 := im.c (i := 2) rfl
      have m3 := im.c (i := 3) rfl
      have m4 := im.c (i := 4) rfl
      have m5 := im.c (i := 5) rfl
      have m6 := im.c (i := 6) rfl
      have m7 := im.c (i := 7) rfl
      have m8 := im.c (i := 8) rfl
      clear im
      exact o_val (v := .agg #[.string n, .int .i64 k, .int .i64 a, .int .i64 x, .int .i64 y, .int .i64 z, .int .i64 lo, .int .i64 hi, .slice fp fl fc]) (w' := w9) (by generalize (oF 37 T).eval = rr at *; simp [execOp, go_sem, e0, m0, m1, m2, m3, m4, m5, m6, m7, m8]) rfl rfl (Gz.refl _ _ _ _ _)
    · intro T w9 hG hD hO Q
      have d0 := hD.1
      have e0 : (oF 37 T).eval (.func 54) = .func (.func 54) #[] #[] := rfl
      have e1 : (oF 37 T).eval (.tmp 32) = .agg #[.string n, .int .i64 k, .int .i64 a, .int .i64 x, .int .i64 y, .int .i64 z, .int .i64 lo, .int .i64 hi, .slice fp fl fc] := (oF_eval (by decide)).trans (show T 32 = _ from d0)
      refine og_none rfl ?_
      refine o_call (oc1 (enters_of Tryd.func54 (by kernel_rfl) rfl) rfl rfl e1) rfl ?_
      exact (q3.out w9).mono fun r W' h => ⟨_, h.1, rfl, h.2.gz⟩
    · intro T w9 hG hD hO Q
      have d0 := hD.1
      have d1 := hD.2.1
      have d2 := hD.2.2.1
      have e0 : (oF 37 T).eval (.func 53) = .func (.func 53) #[] #[] := rfl
      have e1 : (oF 37 T).eval (.tmp 28) = .int .i64 z := (oF_eval (by decide)).trans (show T 28 = _ from d0)
      have e2 : (oF 37 T).eval (.tmp 31) = .int .i64 z4 := (oF_eval (by decide)).trans (show T 31 = _ from d1)
      have e3 : (oF 37 T).eval (.tmp 33) = .int .i64 r3 := (oF_eval (by decide)).trans (show T 33 = _ from d2)
      refine og_none rfl ?_
      refine o_call (oc3 (enters_of Tryd.func53 (by kernel_rfl) rfl) rfl rfl e1 e2 e3) rfl ?_
      exact (q4.out w9).mono fun r W' h => ⟨_, h.1, rfl, h.2.gz⟩
    · intro T w9 hG hD hO Q
      have d0 := hD.1
      have e0 : (oF 37 T).eval (.tmp 34) = .tuple #[.agg #[.int .i64 r5, .int .i64 r6], .int .i64 r7] := (oF_eval (by decide)).trans (show T 34 = _ from d0)
      refine og_none rfl ?_
      exact o_val (v := .agg #[.int .i64 r5, .int .i64 r6]) (w' := w9) (by generalize (oF 37 T).eval = rr at *; simp [execOp, go_sem, e0]) rfl rfl (Gz.refl _ _ _ _ _)
    · intro T w9 hG hD hO Q
      have d0 := hD.1
      have e0 : (oF 37 T).eval (.tmp 34) = .tuple #[.agg #[.int .i64 r5, .int .i64 r6], .int .i64 r7] := (oF_eval (by decide)).trans (show T 34 = _ from d0)
      refine og_none rfl ?_
      exact o_val (v := .int .i64 r7) (w' := w9) (by generalize (oF 37 T).eval = rr at *; simp [execOp, go_sem, e0]) rfl rfl (Gz.refl _ _ _ _ _)
    · intro T w9 hG hD hO Q
      have d0 := hD.1
      have q0 := hO.1
      have e0 : (oF 37 T).eval (.tmp 4) = .pointer (some ⟨w.heap.size + 1, 0, none⟩) := (oF_eval (by decide)).trans (show T 4 = _ from q0)
      have e1 : (oF 37 T).eval (.tmp 35) = .agg #[.int .i64 r5, .int .i64 r6] := (oF_eval (by decide)).trans (show T 35 = _ from d0)
      refine og_none rfl ?_
      have io : Is w9 (w.heap.size + 1) #[.int .i64 0, .int .i64 0] 25 ∨ Is w9 (w.heap.size + 1) #[.int .i64 r5, .int .i64 r6] 25 := hG.2.2 (.inl b2)
      rcases io with io | io
      · have zn := io
        replace zn : Is (w9.setCell ⟨w.heap.size + 1, 0, none⟩ (.int .i64 r5)) (w.heap.size + 1) #[.int .i64 r5, .int .i64 0] 25 := zn.set 0 _
        replace zn : Is ((w9.setCell ⟨w.heap.size + 1, 0, none⟩ (.int .i64 r5)).setCell ⟨w.heap.size + 1, 1, none⟩ (.int .i64 r6)) (w.heap.size + 1) #[.int .i64 r5, .int .i64 r6] 25 := zn.set 1 _
        have pt := (((Pt.refl (w.heap.size + 1) w9).set 0 (.int .i64 r5)).set 1 (.int .i64 r6))
        have m0 := io.c (i := 0) rfl
        have f0 := io.f 0
        have m1 := io.c (i := 1) rfl
        have f1 := io.f 1
        clear io
        exact o_skip (w' := ((w9.setCell ⟨w.heap.size + 1, 0, none⟩ (.int .i64 r5)).setCell ⟨w.heap.size + 1, 1, none⟩ (.int .i64 r6))) (by generalize (oF 37 T).eval = rr at *; simp [execOp, go_sem, e0, e1, m0, f0, m1, f1]) rfl zn (pt.gz zn)
      · have zn := io
        replace zn : Is (w9.setCell ⟨w.heap.size + 1, 0, none⟩ (.int .i64 r5)) (w.heap.size + 1) #[.int .i64 r5, .int .i64 r6] 25 := zn.set 0 _
        replace zn : Is ((w9.setCell ⟨w.heap.size + 1, 0, none⟩ (.int .i64 r5)).setCell ⟨w.heap.size + 1, 1, none⟩ (.int .i64 r6)) (w.heap.size + 1) #[.int .i64 r5, .int .i64 r6] 25 := zn.set 1 _
        have pt := (((Pt.refl (w.heap.size + 1) w9).set 0 (.int .i64 r5)).set 1 (.int .i64 r6))
        have m0 := io.c (i := 0) rfl
        have f0 := io.f 0
        have m1 := io.c (i := 1) rfl
        have f1 := io.f 1
        clear io
        exact o_skip (w' := ((w9.setCell ⟨w.heap.size + 1, 0, none⟩ (.int .i64 r5)).setCell ⟨w.heap.size + 1, 1, none⟩ (.int .i64 r6))) (by generalize (oF 37 T).eval = rr at *; simp [execOp, go_sem, e0, e1, m0, f0, m1, f1]) rfl zn (pt.gz zn)
    · intro T w9 hG hD hO Q
      have d0 := hD.1
      have e0 : (oF 37 T).eval (.tmp 36) = .int .i64 r7 := (oF_eval (by decide)).trans (show T 36 = _ from d0)
      refine og_none rfl ?_
      exact o_val (v := .int .i64 r7) (w' := w9) (by generalize (oF 37 T).eval = rr at *; simp [execOp, go_sem, e0]) rfl rfl (Gz.refl _ _ _ _ _)
  case fin =>
    intro T w4 hout hval hG
    have s4 := hG.1.2.2.2.1
    simp only [World.size_drew] at s4
    rw [show oF 37 T = (⟨#[T 0, T 1, T 2, T 3, T 4, T 5, T 6, T 7, T 8, T 9, T 10, T 11, T 12, T 13, T 14, T 15, T 16, T 17, T 18, T 19, T 20, T 21, T 22, T 23, T 24, T 25, T 26, T 27, T 28, T 29, T 30, T 31, T 32, T 33, T 34, T 35, T 36], []⟩ : Act) from oF_list 37 T]
    rw [show T 0 = .agg #[.string n, .int .i64 k, .int .i64 a, .int .i64 x, .int .i64 y, .int .i64 z, .int .i64 lo, .int .i64 hi, .slice fp fl fc] from hout 0 rfl]
    rw [show T 1 = .int .i64 2 from hout 1 rfl]
    rw [show T 2 = .pointer (some ⟨w.heap.size, 0, none⟩) from hout 2 rfl]
    rw [show T 4 = .pointer (some ⟨w.heap.size + 1, 0, none⟩) from hout 4 rfl]
    rw [show T 5 = .int .i64 r7 from hval 12 (by decide : 12 < 13)]
    rw [show T 6 = .int .i64 r1 from hout 6 rfl]
    rw [show T 9 = .agg #[.string n, .int .i64 k, .int .i64 a, .int .i64 x, .int .i64 y, .int .i64 z, .int .i64 lo, .int .i64 hi, .slice fp fl fc] from hout 9 rfl]
    rw [show T 10 = .int .i64 2 from hout 10 rfl]
    rw [show T 11 = .int .i64 r1 from hout 11 rfl]
    rw [show T 12 = .int .i64 r1 from hout 12 rfl]
    rw [show T 13 = .bool false from hout 13 rfl]
    rw [show T 16 = .agg #[.string n, .int .i64 k, .int .i64 a, .int .i64 x, .int .i64 y, .int .i64 z, .int .i64 lo, .int .i64 hi, .slice fp fl fc] from hout 16 rfl]
    rw [show T 17 = .int .i64 2 from hout 17 rfl]
    rw [show T 18 = .bool true from hout 18 rfl]
    rw [show T 19 = .bool false from hout 19 rfl]
    rw [show T 21 = .tuple #[.func (.func 76) #[] #[.pointer (some ⟨g3, 0, none⟩)], .func (.func 77) #[] #[.pointer (some ⟨g3, 0, none⟩)]] from hout 21 rfl]
    rw [show T 22 = .pointer (some ⟨w.heap.size, 3, none⟩) from hout 22 rfl]
    rw [show T 23 = .tuple #[.func (.func 76) #[] #[.pointer (some ⟨g3, 0, none⟩)], .func (.func 77) #[] #[.pointer (some ⟨g3, 0, none⟩)]] from hout 23 rfl]
    rw [show T 24 = .func (.func 76) #[] #[.pointer (some ⟨g3, 0, none⟩)] from hout 24 rfl]
    rw [show T 25 = .func (.func 77) #[] #[.pointer (some ⟨g3, 0, none⟩)] from hout 25 rfl]
    replace b1 := b1.kx hG.1 (by simp only [List.mem_singleton]; omega)
    replace p3 := p3.kx hG.1 (by simp only [List.mem_singleton]; omega)
    replace b2 := hval 11 (by decide)
    replace b2 : Is _ (w.heap.size + 1) #[.int .i64 r5, .int .i64 r6] 25 := b2
    replace kx := hG.1.old kx.drew (by intro x hx; simp only [List.mem_singleton] at hx; subst hx; omega)
    replace gl := gl0.out.kb kx
    clear hout hval hG
    go_wp2
    refine ret_row2 Tryd.results20 rfl rfl rfl b2 Tryd.underlying25 rfl (by kernel_rfl) ?_
    exact ⟨rfl, kx⟩
set_option maxRecDepth 100000 in
set_option maxHeartbeats 1000000 in
theorem fReach2_3 (n : ByteArray) (k : Int) (a : Int) (x : Int) (y : Int) (z : Int) (lo : Int) (hi : Int) (fp : Option Addr) (fl : Nat) (fc : Nat) (r1 : Int) (o2 : Bool)   (q1 : Ca 50 #[.agg #[.string n, .int .i64 k, .int .i64 a, .int .i64 x, .int .i64 y, .int .i64 z, .int .i64 lo, .int .i64 hi, .slice fp fl fc], .int .i64 2] (.int .i64 r1)) (q2 : Cg 51 #[.agg #[.string n, .int .i64 k, .int .i64 a, .int .i64 x, .int .i64 y, .int .i64 z, .int .i64 lo, .int .i64 hi, .slice fp fl fc], .int .i64 2] (.bool o2))  (h1 : (r1 != 0) = false) (h2 : (o2) = false) (w : World) (gl : Gl w)  : Calls Tryd.prog 20 #[.agg #[.string n, .int .i64 k, .int .i64 a, .int .i64 x, .int .i64 y, .int .i64 z, .int .i64 lo, .int .i64 hi, .slice fp fl fc], .int .i64 2] w fun r W' => r = .returned (.tuple #[.agg #[.int .i64 0, .int .i64 0], .int .i64 14]) ∧ Kb w W' := by
  have kx := Kb.refl w
  unfold Ca at q1
  unfold Cg at q2
  have gl0 := Lib.hid gl
  subst h2
  have j1 := ((Is.made w #[.string n, .int .i64 k, .int .i64 a, .int .i64 x, .int .i64 y, .int .i64 z, .int .i64 lo, .int .i64 hi, .slice fp fl fc] 28).alloc (.cells #[.int .i64 0, .int .i64 0] 25 (0, 0)))
  have f2 := j1.c (i := 0) rfl
  have f3 := j1.c (i := 1) rfl
  have f4 := j1.c (i := 2) rfl
  have f5 := j1.c (i := 3) rfl
  have f6 := j1.c (i := 4) rfl
  have f7 := j1.c (i := 5) rfl
  have f8 := j1.c (i := 6) rfl
  have f9 := j1.c (i := 7) rfl
  have f10 := j1.c (i := 8) rfl
  go_enter Tryd.func20, Tryd.ntmps20
  go_wp2_with fail
  clear f2 f3 f4 f5 f6 f7 f8 f9 f10
  have b1 := j1
  have b2 := Is.made (w.alloc (.cells #[.string n, .int .i64 k, .int .i64 a, .int .i64 x, .int .i64 y, .int .i64 z, .int .i64 lo, .int .i64 hi, .slice fp fl fc] 28 (0, 0))) #[.int .i64 0, .int .i64 0] 25
  simp only [World.size_alloc] at b2
  replace kx := (kx.alloc (.cells #[.string n, .int .i64 k, .int .i64 a, .int .i64 x, .int .i64 y, .int .i64 z, .int .i64 lo, .int .i64 hi, .slice fp fl fc] 28 (0, 0))).alloc (.cells #[.int .i64 0, .int .i64 0] 25 (0, 0))
  clear j1
  replace gl := gl0.out.kb kx
  (with_reducible refine (((q1).out _)).mono ?_)
  rintro r w1 ⟨rfl, k1⟩
  replace gl := gl.kb k1
  replace b1 := b1.kb k1
  replace b2 := b2.kb k1
  replace kx := kx.trans k1
  have s1 := k1.size
  simp only [World.size_alloc] at s1
  clear k1
  have f11 := b1.c (i := 0) rfl
  have f12 := b1.c (i := 1) rfl
  have f13 := b1.c (i := 2) rfl
  have f14 := b1.c (i := 3) rfl
  have f15 := b1.c (i := 4) rfl
  have f16 := b1.c (i := 5) rfl
  have f17 := b1.c (i := 6) rfl
  have f18 := b1.c (i := 7) rfl
  have f19 := b1.c (i := 8) rfl
  go_wp2_with fail
  clear f11 f12 f13 f14 f15 f16 f17 f18 f19
  (with_reducible refine ((q2.out _ gl)).mono ?_)
  rintro r w2 ⟨rfl, k2⟩
  replace gl := gl.kb k2
  replace b1 := b1.kb k2
  replace b2 := b2.kb k2
  replace kx := kx.trans k2
  have s2 := k2.size
  skip
  clear k2
  have f20 := b2.c (i := 0) rfl
  have f21 := b2.f 0
  have f22 := b2.c (i := 1) rfl
  have f23 := b2.f 1
  go_wp2
  clear f20 f21 f22 f23
  replace b2 : Is _ _ #[.int .i64 0, .int .i64 0] _ := b2.set 0 (.int .i64 0)
  replace b2 : Is _ _ #[.int .i64 0, .int .i64 0] _ := b2.set 1 (.int .i64 0)
  replace kx := (kx.setCell (p := ⟨w.heap.size + 1, 0, none⟩) (show w.heap.size ≤ w.heap.size + 1 by omega) (.int .i64 0)).setCell (p := ⟨w.heap.size + 1, 1, none⟩) (show w.heap.size ≤ w.heap.size + 1 by omega) (.int .i64 0)
  refine ret_row2 Tryd.results20 rfl rfl rfl b2 Tryd.underlying25 rfl (by kernel_rfl) ?_
  exact ⟨rfl, kx⟩
set_option maxRecDepth 100000 in
theorem fReach2_any (n : ByteArray) (k : Int) (a : Int) (x : Int) (y : Int) (z : Int) (lo : Int) (hi : Int) (fp : Option Addr) (fl : Nat) (fc : Nat) (r1 : Int) (o2 : Bool) (r3 : Int) (r5 : Int) (r6 : Int) (r7 : Int) (q1 : Ca 50 #[.agg #[.string n, .int .i64 k, .int .i64 a, .int .i64 x, .int .i64 y, .int .i64 z, .int .i64 lo, .int .i64 hi, .slice fp fl fc], .int .i64 2] (.int .i64 r1)) (q2 : Cg 51 #[.agg #[.string n, .int .i64 k, .int .i64 a, .int .i64 x, .int .i64 y, .int .i64 z, .int .i64 lo, .int .i64 hi, .slice fp fl fc], .int .i64 2] (.bool o2)) (q3 : Ca 54 #[.agg #[.string n, .int .i64 k, .int .i64 a, .int .i64 x, .int .i64 y, .int .i64 z, .int .i64 lo, .int .i64 hi, .slice fp fl fc]] (.int .i64 r3)) (q4 : Ca 53 #[.int .i64 z, .int .i64 (wrap64 (-r3)), .int .i64 r3] (.tuple #[.agg #[.int .i64 r5, .int .i64 r6], .int .i64 r7]))  : Cg 20 #[.agg #[.string n, .int .i64 k, .int .i64 a, .int .i64 x, .int .i64 y, .int .i64 z, .int .i64 lo, .int .i64 hi, .slice fp fl fc], .int .i64 2] (if (r1 != 0) = true then (.tuple #[.agg #[.int .i64 0, .int .i64 0], .int .i64 r1]) else (if (o2) = true then (.tuple #[.agg #[.int .i64 r5, .int .i64 r6], .int .i64 r7]) else (.tuple #[.agg #[.int .i64 0, .int .i64 0], .int .i64 14]))) := Lib.hid fun w gl => by
  rcases Bool.eq_false_or_eq_true (r1 != 0) with h1 | h1
  · rw [if_pos h1]
    exact fReach2_1 n k a x y z lo hi fp fl fc r1 q1 h1 w gl
  · rw [if_neg (by rw [h1]; decide)]
    rcases Bool.eq_false_or_eq_true (o2) with h2 | h2
    · rw [if_pos h2]
      exact fReach2_2 n k a x y z lo hi fp fl fc r1 o2 r3 r5 r6 r7 ((wrap64 (-r3))) rfl q1 q2 q3 q4 h1 h2 w gl
    · rw [if_neg (by rw [h2]; decide)]
      exact fReach2_3 n k a x y z lo hi fp fl fc r1 o2 q1 q2 h1 h2 w gl
set_option maxRecDepth 100000 in
set_option maxHeartbeats 1000000 in
theorem fReachC_2 (n : ByteArray) (k : Int) (a : Int) (x : Int) (y : Int) (z : Int) (lo : Int) (hi : Int) (fp : Option Addr) (fl : Nat) (fc : Nat) (c : Int) (r1 : Int) (o2 : Bool)   (q1 : Ca 50 #[.agg #[.string n, .int .i64 k, .int .i64 a, .int .i64 x, .int .i64 y, .int .i64 z, .int .i64 lo, .int .i64 hi, .slice fp fl fc], .int .i64 c] (.int .i64 r1)) (q2 : Cg 51 #[.agg #[.string n, .int .i64 k, .int .i64 a, .int .i64 x, .int .i64 y, .int .i64 z, .int .i64 lo, .int .i64 hi, .slice fp fl fc], .int .i64 c] (.bool o2))  (h1 : (r1 != 0) = false) (h2 : (o2) = false) (w : World) (gl : Gl w)  : Calls Tryd.prog 20 #[.agg #[.string n, .int .i64 k, .int .i64 a, .int .i64 x, .int .i64 y, .int .i64 z, .int .i64 lo, .int .i64 hi, .slice fp fl fc], .int .i64 c] w fun r W' => r = .returned (.tuple #[.agg #[.int .i64 0, .int .i64 0], .int .i64 14]) ∧ Kb w W' := by
  have kx := Kb.refl w
  unfold Ca at q1
  unfold Cg at q2
  have gl0 := Lib.hid gl
  subst h2
  have j1 := ((Is.made w #[.string n, .int .i64 k, .int .i64 a, .int .i64 x, .int .i64 y, .int .i64 z, .int .i64 lo, .int .i64 hi, .slice fp fl fc] 28).alloc (.cells #[.int .i64 0, .int .i64 0] 25 (0, 0)))
  have f2 := j1.c (i := 0) rfl
  have f3 := j1.c (i := 1) rfl
  have f4 := j1.c (i := 2) rfl
  have f5 := j1.c (i := 3) rfl
  have f6 := j1.c (i := 4) rfl
  have f7 := j1.c (i := 5) rfl
  have f8 := j1.c (i := 6) rfl
  have f9 := j1.c (i := 7) rfl
  have f10 := j1.c (i := 8) rfl
  go_enter Tryd.func20, Tryd.ntmps20
  go_wp2_with fail
  clear f2 f3 f4 f5 f6 f7 f8 f9 f10
  have b1 := j1
  have b2 := Is.made (w.alloc (.cells #[.string n, .int .i64 k, .int .i64 a, .int .i64 x, .int .i64 y, .int .i64 z, .int .i64 lo, .int .i64 hi, .slice fp fl fc] 28 (0, 0))) #[.int .i64 0, .int .i64 0] 25
  simp only [World.size_alloc] at b2
  replace kx := (kx.alloc (.cells #[.string n, .int .i64 k, .int .i64 a, .int .i64 x, .int .i64 y, .int .i64 z, .int .i64 lo, .int .i64 hi, .slice fp fl fc] 28 (0, 0))).alloc (.cells #[.int .i64 0, .int .i64 0] 25 (0, 0))
  clear j1
  replace gl := gl0.out.kb kx
  (with_reducible refine (((q1).out _)).mono ?_)
  rintro r w1 ⟨rfl, k1⟩
  replace gl := gl.kb k1
  replace b1 := b1.kb k1
  replace b2 := b2.kb k1
  replace kx := kx.trans k1
  have s1 := k1.size
  simp only [World.size_alloc] at s1
  clear k1
  have f11 := b1.c (i := 0) rfl
  have f12 := b1.c (i := 1) rfl
  have f13 := b1.c (i := 2) rfl
  have f14 := b1.c (i := 3) rfl
  have f15 := b1.c (i := 4) rfl
  have f16 := b1.c (i := 5) rfl
  have f17 := b1.c (i := 6) rfl
  have f18 := b1.c (i := 7) rfl
  have f19 := b1.c (i := 8) rfl
  go_wp2_with fail
  clear f11 f12 f13 f14 f15 f16 f17 f18 f19
  (with_reducible refine ((q2.out _ gl)).mono ?_)
  rintro r w2 ⟨rfl, k2⟩
  replace gl := gl.kb k2
  replace b1 := b1.kb k2
  replace b2 := b2.kb k2
  replace kx := kx.trans k2
  have s2 := k2.size
  skip
  clear k2
  have f20 := b2.c (i := 0) rfl
  have f21 := b2.f 0
  have f22 := b2.c (i := 1) rfl
  have f23 := b2.f 1
  go_wp2
  clear f20 f21 f22 f23
  replace b2 : Is _ _ #[.int .i64 0, .int .i64 0] _ := b2.set 0 (.int .i64 0)
  replace b2 : Is _ _ #[.int .i64 0, .int .i64 0] _ := b2.set 1 (.int .i64 0)
  replace kx := (kx.setCell (p := ⟨w.heap.size + 1, 0, none⟩) (show w.heap.size ≤ w.heap.size + 1 by omega) (.int .i64 0)).setCell (p := ⟨w.heap.size + 1, 1, none⟩) (show w.heap.size ≤ w.heap.size + 1 by omega) (.int .i64 0)
  refine ret_row2 Tryd.results20 rfl rfl rfl b2 Tryd.underlying25 rfl (by kernel_rfl) ?_
  exact ⟨rfl, kx⟩
end Go.Proofs.YtdmfkgopalelgaaDoor
