/- Features: Reach and Separate at the features of the examples. -/
import Derived.Test.YtdmfkgopalelgaaDoorQg6
import Derived.Test.YtdmfkgopalelgaaDoorOf2
import Derived.Lib.MinMax
namespace Go.Proofs.YtdmfkgopalelgaaDoor
open Go.RowKit

set_option maxRecDepth 100000 in
set_option maxHeartbeats 1000000 in
theorem aw_hole_1 (w : World)  : Calls Tryd.prog 33 #[] w fun r W' => r = .returned (.agg #[.string ⟨#[72]⟩, .int .i64 1, .int .i64 2, .int .i64 5000, .int .i64 0, .int .i64 0, .int .i64 1000, .int .i64 1011, .slice none 0 0]) ∧ Kb w W' := by
  have kx := Kb.refl w
  go_enter Tryd.func33, Tryd.ntmps33
  go_wp2
  have b1 := Is.made w #[.string ⟨#[72]⟩, .int .i64 1, .int .i64 2, .int .i64 5000, .int .i64 0, .int .i64 0, .int .i64 1000, .int .i64 1011, .slice none 0 0] 28
  replace kx := kx.alloc (.cells #[.string ⟨#[72]⟩, .int .i64 1, .int .i64 2, .int .i64 5000, .int .i64 0, .int .i64 0, .int .i64 1000, .int .i64 1011, .slice none 0 0] 28 (0, 0))
  refine ret_row Tryd.results33 rfl rfl b1 Tryd.underlying28 rfl (by kernel_rfl) ?_
  exact ⟨rfl, kx⟩
set_option maxRecDepth 100000 in
theorem aw_hole_any     : Ca 33 #[] (.agg #[.string ⟨#[72]⟩, .int .i64 1, .int .i64 2, .int .i64 5000, .int .i64 0, .int .i64 0, .int .i64 1000, .int .i64 1011, .slice none 0 0]) := Lib.hid fun w => by
  exact aw_hole_1  w
theorem aw_checkH : Ca 18 #[.agg #[.string ⟨#[72]⟩, .int .i64 1, .int .i64 2, .int .i64 5000, .int .i64 0, .int .i64 0, .int .i64 1000, .int .i64 1011, .slice none 0 0]] (.int .i64 0) := by
  have q := fCheck ⟨#[72]⟩ 1 2 5000 0 0 1000 1011 none 0 0 (by decide)
  rw [show (ftE ⟨#[72]⟩ 1 2 5000 0 0 1000 1011) = 0 by decide +kernel] at q
  exact q
theorem aw_halfH : Ca 54 #[.agg #[.string ⟨#[72]⟩, .int .i64 1, .int .i64 2, .int .i64 5000, .int .i64 0, .int .i64 0, .int .i64 1000, .int .i64 1011, .slice none 0 0]] (.int .i64 506) := by
  have q := fhalf ⟨#[72]⟩ 1 2 5000 0 0 1000 1011 none 0 0
  rw [show wrap64 ((wrap64 (1011 + 1)).tdiv 2) = 506 by decide +kernel] at q
  exact q
theorem aw_bdH0 : Cg 51 #[.agg #[.string ⟨#[72]⟩, .int .i64 1, .int .i64 2, .int .i64 5000, .int .i64 0, .int .i64 0, .int .i64 1000, .int .i64 1011, .slice none 0 0], .int .i64 0] (.bool true) := fbounded ⟨#[72]⟩ 1 2 5000 0 0 1000 1011 none 0 0 0 (by decide)
theorem aw_bdH1 : Cg 51 #[.agg #[.string ⟨#[72]⟩, .int .i64 1, .int .i64 2, .int .i64 5000, .int .i64 0, .int .i64 0, .int .i64 1000, .int .i64 1011, .slice none 0 0], .int .i64 1] (.bool true) := fbounded ⟨#[72]⟩ 1 2 5000 0 0 1000 1011 none 0 0 1 (by decide)
theorem aw_bdH2 : Cg 51 #[.agg #[.string ⟨#[72]⟩, .int .i64 1, .int .i64 2, .int .i64 5000, .int .i64 0, .int .i64 0, .int .i64 1000, .int .i64 1011, .slice none 0 0], .int .i64 2] (.bool false) := fbounded ⟨#[72]⟩ 1 2 5000 0 0 1000 1011 none 0 0 2 (by decide)
theorem aw_checkW1 : Ca 18 #[.agg #[.string ⟨#[87]⟩, .int .i64 0, .int .i64 0, .int .i64 5507, .int .i64 0, .int .i64 0, .int .i64 0, .int .i64 0, .slice none 0 0]] (.int .i64 0) := by
  have q := fCheck ⟨#[87]⟩ 0 0 5507 0 0 0 0 none 0 0 (by decide)
  rw [show (ftE ⟨#[87]⟩ 0 0 5507 0 0 0 0) = 0 by decide +kernel] at q
  exact q
theorem aw_halfW1 : Ca 54 #[.agg #[.string ⟨#[87]⟩, .int .i64 0, .int .i64 0, .int .i64 5507, .int .i64 0, .int .i64 0, .int .i64 0, .int .i64 0, .slice none 0 0]] (.int .i64 0) := by
  have q := fhalf ⟨#[87]⟩ 0 0 5507 0 0 0 0 none 0 0
  rw [show wrap64 ((wrap64 (0 + 1)).tdiv 2) = 0 by decide +kernel] at q
  exact q
theorem aw_bdW10 : Cg 51 #[.agg #[.string ⟨#[87]⟩, .int .i64 0, .int .i64 0, .int .i64 5507, .int .i64 0, .int .i64 0, .int .i64 0, .int .i64 0, .slice none 0 0], .int .i64 0] (.bool true) := fbounded ⟨#[87]⟩ 0 0 5507 0 0 0 0 none 0 0 0 (by decide)
theorem aw_checkW0 : Ca 18 #[.agg #[.string ⟨#[87]⟩, .int .i64 0, .int .i64 0, .int .i64 5506, .int .i64 0, .int .i64 0, .int .i64 0, .int .i64 0, .slice none 0 0]] (.int .i64 0) := by
  have q := fCheck ⟨#[87]⟩ 0 0 5506 0 0 0 0 none 0 0 (by decide)
  rw [show (ftE ⟨#[87]⟩ 0 0 5506 0 0 0 0) = 0 by decide +kernel] at q
  exact q
theorem aw_halfW0 : Ca 54 #[.agg #[.string ⟨#[87]⟩, .int .i64 0, .int .i64 0, .int .i64 5506, .int .i64 0, .int .i64 0, .int .i64 0, .int .i64 0, .slice none 0 0]] (.int .i64 0) := by
  have q := fhalf ⟨#[87]⟩ 0 0 5506 0 0 0 0 none 0 0
  rw [show wrap64 ((wrap64 (0 + 1)).tdiv 2) = 0 by decide +kernel] at q
  exact q
theorem aw_bdW00 : Cg 51 #[.agg #[.string ⟨#[87]⟩, .int .i64 0, .int .i64 0, .int .i64 5506, .int .i64 0, .int .i64 0, .int .i64 0, .int .i64 0, .slice none 0 0], .int .i64 0] (.bool true) := fbounded ⟨#[87]⟩ 0 0 5506 0 0 0 0 none 0 0 0 (by decide)
theorem aw_bdW01 : Cg 51 #[.agg #[.string ⟨#[87]⟩, .int .i64 0, .int .i64 0, .int .i64 5506, .int .i64 0, .int .i64 0, .int .i64 0, .int .i64 0, .slice none 0 0], .int .i64 1] (.bool false) := fbounded ⟨#[87]⟩ 0 0 5506 0 0 0 0 none 0 0 1 (by decide)
theorem aw_bdW02 : Cg 51 #[.agg #[.string ⟨#[87]⟩, .int .i64 0, .int .i64 0, .int .i64 5506, .int .i64 0, .int .i64 0, .int .i64 0, .int .i64 0, .slice none 0 0], .int .i64 2] (.bool false) := fbounded ⟨#[87]⟩ 0 0 5506 0 0 0 0 none 0 0 2 (by decide)
theorem aw_al0 : Ca 50 #[.agg #[.string ⟨#[72]⟩, .int .i64 1, .int .i64 2, .int .i64 5000, .int .i64 0, .int .i64 0, .int .i64 1000, .int .i64 1011, .slice none 0 0], .int .i64 0] (.int .i64 0) := by
  have q := fcheckAlong ⟨#[72]⟩ 1 2 5000 0 0 1000 1011 none 0 0 0 (by decide)
  rw [show firstE [firstE [(ftE ⟨#[72]⟩ 1 2 5000 0 0 1000 1011)], firstE [axE 0]] = 0 by decide +kernel] at q
  exact q
theorem aw_al2 : Ca 50 #[.agg #[.string ⟨#[72]⟩, .int .i64 1, .int .i64 2, .int .i64 5000, .int .i64 0, .int .i64 0, .int .i64 1000, .int .i64 1011, .slice none 0 0], .int .i64 2] (.int .i64 0) := by
  have q := fcheckAlong ⟨#[72]⟩ 1 2 5000 0 0 1000 1011 none 0 0 2 (by decide)
  rw [show firstE [firstE [(ftE ⟨#[72]⟩ 1 2 5000 0 0 1000 1011)], firstE [axE 2]] = 0 by decide +kernel] at q
  exact q
theorem aw_max : Cg 14 #[.agg #[.string ⟨#[72]⟩, .int .i64 1, .int .i64 2, .int .i64 5000, .int .i64 0, .int .i64 0, .int .i64 1000, .int .i64 1011, .slice none 0 0]] (.tuple #[.int .i64 1000, .int .i64 0]) := by
  have q := fMaximum ⟨#[72]⟩ 1 2 5000 0 0 1000 1011 none 0 0 (by decide)
  rw [show szdE (ftE ⟨#[72]⟩ 1 2 5000 0 0 1000 1011) 1 = 0 by decide +kernel, zI_0] at q
  exact q
theorem aw_of : Ca 53 #[.int .i64 5000, .int .i64 (-506), .int .i64 506] (.tuple #[.agg #[.int .i64 4494, .int .i64 5506], .int .i64 0]) := by
  have h := dOf 5000 (-506) 506
  rw [show ofE 5000 (-506) 506 = 0 by decide +kernel, zI_0, zI_0, show wrap64 (5000 + -506) = 4494 by decide +kernel, show wrap64 (5000 + 506) = 5506 by decide +kernel] at h
  exact h
set_option maxRecDepth 100000 in
set_option maxHeartbeats 1000000 in
theorem aw_reach0_1 (w : World) (gl : Gl w)  : Calls Tryd.prog 20 #[.agg #[.string ⟨#[72]⟩, .int .i64 1, .int .i64 2, .int .i64 5000, .int .i64 0, .int .i64 0, .int .i64 1000, .int .i64 1011, .slice none 0 0], .int .i64 0] w fun r W' => r = .returned (.tuple #[.agg #[.int .i64 4494, .int .i64 5506], .int .i64 0]) ∧ Kb w W' := by
  have kx := Kb.refl w
  have gl0 := Lib.hid gl
  have j1 := ((Is.made w #[.string ⟨#[72]⟩, .int .i64 1, .int .i64 2, .int .i64 5000, .int .i64 0, .int .i64 0, .int .i64 1000, .int .i64 1011, .slice none 0 0] 28).alloc (.cells #[.int .i64 0, .int .i64 0] 25 (0, 0)))
  have f2 := j1.c (i := 0) rfl
  have f3 := j1.c (i := 1) rfl
  have f4 := j1.c (i := 2) rfl
  have f5 := j1.c (i := 3) rfl
  have f6 := j1.c (i := 4) rfl
  have f7 := j1.c (i := 5) rfl
  have f8 := j1.c (i := 6) rfl
  have f9 := j1.c (i := 7) rfl
  have f10 := j1.c (i := 8) rfl
  go_enter Tryd.func20, Tryd.ntmps20
  go_wp2_with fail
  clear f2 f3 f4 f5 f6 f7 f8 f9 f10
  have b1 := j1
  have b2 := Is.made (w.alloc (.cells #[.string ⟨#[72]⟩, .int .i64 1, .int .i64 2, .int .i64 5000, .int .i64 0, .int .i64 0, .int .i64 1000, .int .i64 1011, .slice none 0 0] 28 (0, 0))) #[.int .i64 0, .int .i64 0] 25
  simp only [World.size_alloc] at b2
  replace kx := (kx.alloc (.cells #[.string ⟨#[72]⟩, .int .i64 1, .int .i64 2, .int .i64 5000, .int .i64 0, .int .i64 0, .int .i64 1000, .int .i64 1011, .slice none 0 0] 28 (0, 0))).alloc (.cells #[.int .i64 0, .int .i64 0] 25 (0, 0))
  clear j1
  replace gl := gl0.out.kb kx
  (with_reducible refine ((Ca.o aw_al0 _)).mono ?_)
  rintro r w1 ⟨rfl, k1⟩
  replace gl := gl.kb k1
  replace b1 := b1.kb k1
  replace b2 := b2.kb k1
  replace kx := kx.trans k1
  have s1 := k1.size
  simp only [World.size_alloc] at s1
  clear k1
  have f11 := b1.c (i := 0) rfl
  have f12 := b1.c (i := 1) rfl
  have f13 := b1.c (i := 2) rfl
  have f14 := b1.c (i := 3) rfl
  have f15 := b1.c (i := 4) rfl
  have f16 := b1.c (i := 5) rfl
  have f17 := b1.c (i := 6) rfl
  have f18 := b1.c (i := 7) rfl
  have f19 := b1.c (i := 8) rfl
  go_wp2_with fail
  clear f11 f12 f13 f14 f15 f16 f17 f18 f19
  (with_reducible refine ((Cg.out aw_bdH0 _ gl)).mono ?_)
  rintro r w2 ⟨rfl, k2⟩
  replace gl := gl.kb k2
  replace b1 := b1.kb k2
  replace b2 := b2.kb k2
  replace kx := kx.trans k2
  have s2 := k2.size
  skip
  clear k2
  go_wp2_with fail
  (with_reducible refine (cCoord3_1 w.heap.size _).mono ?_)
  rintro r w3 ⟨g3, rfl, p3, i3, k3⟩
  replace gl := gl.kb k3
  replace b1 := b1.kb k3
  replace b2 := b2.kb k3
  replace kx := kx.trans k3
  have s3 := k3.size
  skip
  clear k3
  go_wp2_with fail
  replace gl := gl.drew
  replace b1 := b1.drew
  replace b2 := b2.drew
  replace p3 := p3.drew
  rw [oF_lit]
  refine o_law (⟨37, [some 26, some 27, some 28, some 29, some 30, some 31, some 32, some 33, some 34, some 35, some 36, none, some 5], [26, 27, 28, 29, 30, 31, 32, 33, 34, 35, 36, 4, 5], [[], [], [0, 1], [], [3], [4], [], [6], [2, 5, 7], [8], [8], [9], [10]], [[7], [1], [], [2], [], [], [2], [], [], [], [], [4], []]⟩ : OT) (Gz (w.heap.size + 1) #[.int .i64 0, .int .i64 0] #[.int .i64 4494, .int .i64 5506] 25) (RL [fun vv _ => vv = .func (.func 76) #[] #[.pointer (some ⟨g3, 0, none⟩)], fun vv _ => vv = .int .i64 0, fun vv _ => vv = .int .i64 5000, fun vv _ => vv = .agg #[.string ⟨#[72]⟩, .int .i64 1, .int .i64 2, .int .i64 5000, .int .i64 0, .int .i64 0, .int .i64 1000, .int .i64 1011, .slice none 0 0], fun vv _ => vv = .int .i64 506, fun vv _ => vv = .int .i64 (-506), fun vv _ => vv = .agg #[.string ⟨#[72]⟩, .int .i64 1, .int .i64 2, .int .i64 5000, .int .i64 0, .int .i64 0, .int .i64 1000, .int .i64 1011, .slice none 0 0], fun vv _ => vv = .int .i64 506, fun vv _ => vv = .tuple #[.agg #[.int .i64 4494, .int .i64 5506], .int .i64 0], fun vv _ => vv = .agg #[.int .i64 4494, .int .i64 5506], fun vv _ => vv = .int .i64 0, fun _ ww => Is ww (w.heap.size + 1) #[.int .i64 4494, .int .i64 5506] 25, fun vv _ => vv = .int .i64 0]) (by kernel_rfl) ?hk ?hR ?fin
  case hk => kernel_rfl
  case hR =>
    refine ⟨fun _ => (Gz.refl _ _ _ _ _), fun _ _ _ => Gz.trans, rl_stab ⟨fun _ _ _ _ h => h, fun _ _ _ _ h => h, fun _ _ _ _ h => h, fun _ _ _ _ h => h, fun _ _ _ _ h => h, fun _ _ _ _ h => h, fun _ _ _ _ h => h, fun _ _ _ _ h => h, fun _ _ _ _ h => h, fun _ _ _ _ h => h, fun _ _ _ _ h => h, (fun v w w' k h => k.2.1 h), fun _ _ _ _ h => h, trivial⟩, ?_⟩
    refine allO_cons ?_ (allO_cons ?_ (allO_cons ?_ (allO_cons ?_ (allO_cons ?_ (allO_cons ?_ (allO_cons ?_ (allO_cons ?_ (allO_cons ?_ (allO_cons ?_ (allO_cons ?_ (allO_cons ?_ (allO_cons ?_ (allO_nil)))))))))))))
    · intro T w9 hG hD hO Q
      have q0 := hO.1
      have e0 : (oF 37 T).eval (.tmp 7) = .func (.func 76) #[] #[.pointer (some ⟨g3, 0, none⟩)] := (oF_eval (by decide)).trans (show T 7 = _ from q0)
      refine og_none rfl ?_
      exact o_val (v := .func (.func 76) #[] #[.pointer (some ⟨g3, 0, none⟩)]) (w' := w9) (by generalize (oF 37 T).eval = rr at *; simp [execOp, go_sem, e0]) rfl rfl (Gz.refl _ _ _ _ _)
    · intro T w9 hG hD hO Q
      have q0 := hO.1
      have e0 : (oF 37 T).eval (.tmp 1) = .int .i64 0 := (oF_eval (by decide)).trans (show T 1 = _ from q0)
      refine og_none rfl ?_
      exact o_val (v := .int .i64 0) (w' := w9) (by generalize (oF 37 T).eval = rr at *; simp [execOp, go_sem, e0]) rfl rfl (Gz.refl _ _ _ _ _)
    · intro T w9 hG hD hO Q
      have d0 := hD.1
      have d1 := hD.2.1
      have e0 : (oF 37 T).eval (.tmp 26) = .func (.func 76) #[] #[.pointer (some ⟨g3, 0, none⟩)] := (oF_eval (by decide)).trans (show T 26 = _ from d0)
      have e1 : (oF 37 T).eval (.tmp 27) = .int .i64 0 := (oF_eval (by decide)).trans (show T 27 = _ from d1)
      refine og_none rfl ?_
      refine o_call (os1 (enters_of Tryd.func76 (by kernel_rfl) rfl) rfl e0 e1) rfl ?_
      exact (cRead_0 _ _ _ _ _ w9 (p3.kx hG.1 (by simp only [List.mem_singleton]; omega)) ((b1.kx hG.1 (by simp only [List.mem_singleton]; omega)).c (i := 3) rfl)).mono fun r W' h => ⟨_, h.1, rfl, h.2.gz⟩
    · intro T w9 hG hD hO Q
      have q0 := hO.1
      have e0 : (oF 37 T).eval (.tmp 2) = .pointer (some ⟨w.heap.size, 0, none⟩) := (oF_eval (by decide)).trans (show T 2 = _ from q0)
      refine og_none rfl ?_
      have im := b1.kx hG.1 (by simp only [List.mem_singleton]; omega)
      have m0 := im.c (i := 0) rfl
      have m1 := im.c (i := 1) rfl
      have m2 := im.c (i := 2) rfl
      have m3 := im.c (i := 3) rfl
      have m4 := im.c (i := 4) rfl
      have m5 := im.c (i := 5) rfl
      have m6 := im.c (i := 6) rfl
      have m7 := im.c (i := 7) rfl
      have m8 := im.c (i := 8) rfl
      clear im
      exact o_val (v := .agg #[.string ⟨#[72]⟩, .int .i64 1, .int .i64 2, .int .i64 5000, .int .i64 0, .int .i64 0, .int .i64 1000, .int .i64 1011, .slice none 0 0]) (w' := w9) (by generalize (oF 37 T).eval = rr at *; simp [execOp, go_sem, e0, m0, m1, m2, m3, m4, m5, m6, m7, m8]) rfl rfl (Gz.refl _ _ _ _ _)
    · intro T w9 hG hD hO Q
      have d0 := hD.1
      have e0 : (oF 37 T).eval (.func 54) = .func (.func 54) #[] #[] := rfl
      have e1 : (oF 37 T).eval (.tmp 29) = .agg #[.string ⟨#[72]⟩, .int .i64 1, .int .i64 2, .int .i64 5000, .int .i64 0, .int .i64 0, .int .i64 1000, .int .i64 1011, .slice none 0 0] := (oF_eval (by decide)).trans (show T 29 = _ from d0)
      refine og_none rfl ?_
      refine o_call (oc1 (enters_of Tryd.func54 (by kernel_rfl) rfl) rfl rfl e1) rfl ?_
      exact (Ca.o aw_halfH w9).mono fun r W' h => ⟨_, h.1, rfl, h.2.gz⟩
    · intro T w9 hG hD hO Q
      have d0 := hD.1
      have e0 : (oF 37 T).eval (.tmp 30) = .int .i64 506 := (oF_eval (by decide)).trans (show T 30 = _ from d0)
      refine og_none rfl ?_
      exact o_val (v := .int .i64 (-506)) (w' := w9) (by generalize (oF 37 T).eval = rr at *; simp [execOp, go_sem, e0, (show IntKind.i64.wrap ((-506) : Int) = (-506) by decide)]) rfl rfl (Gz.refl _ _ _ _ _)
    · intro T w9 hG hD hO Q
      have q0 := hO.1
      have e0 : (oF 37 T).eval (.tmp 2) = .pointer (some ⟨w.heap.size, 0, none⟩) := (oF_eval (by decide)).trans (show T 2 = _ from q0)
      refine og_none rfl ?_
      have im := b1.kx hG.1 (by simp only [List.mem_singleton]; omega)
      have m0 := im.c (i := 0) rfl
      have m1 := im.c (i := 1) rfl
      have m2 := im.c (i := 2) rfl
      have m3 := im.c (i := 3) rfl
      have m4 := im.c (i := 4) rfl
      have m5 := im.c (i := 5) rfl
      have m6 := im.c (i := 6) rfl
      have m7 := im.c (i := 7) rfl
      have m8 := im.c (i := 8) rfl
      clear im
      exact o_val (v := .agg #[.string ⟨#[72]⟩, .int .i64 1, .int .i64 2, .int .i64 5000, .int .i64 0, .int .i64 0, .int .i64 1000, .int .i64 1011, .slice none 0 0]) (w' := w9) (by generalize (oF 37 T).eval = rr at *; simp [execOp, go_sem, e0, m0, m1, m2, m3, m4, m5, m6, m7, m8]) rfl rfl (Gz.refl _ _ _ _ _)
    · intro T w9 hG hD hO Q
      have d0 := hD.1
      have e0 : (oF 37 T).eval (.func 54) = .func (.func 54) #[] #[] := rfl
      have e1 : (oF 37 T).eval (.tmp 32) = .agg #[.string ⟨#[72]⟩, .int .i64 1, .int .i64 2, .int .i64 5000, .int .i64 0, .int .i64 0, .int .i64 1000, .int .i64 1011, .slice none 0 0] := (oF_eval (by decide)).trans (show T 32 = _ from d0)
      refine og_none rfl ?_
      refine o_call (oc1 (enters_of Tryd.func54 (by kernel_rfl) rfl) rfl rfl e1) rfl ?_
      exact (Ca.o aw_halfH w9).mono fun r W' h => ⟨_, h.1, rfl, h.2.gz⟩
    · intro T w9 hG hD hO Q
      have d0 := hD.1
      have d1 := hD.2.1
      have d2 := hD.2.2.1
      have e0 : (oF 37 T).eval (.func 53) = .func (.func 53) #[] #[] := rfl
      have e1 : (oF 37 T).eval (.tmp 28) = .int .i64 5000 := (oF_eval (by decide)).trans (show T 28 = _ from d0)
      have e2 : (oF 37 T).eval (.tmp 31) = .int .i64 (-506) := (oF_eval (by decide)).trans (show T 31 = _ from d1)
      have e3 : (oF 37 T).eval (.tmp 33) = .int .i64 506 := (oF_eval (by decide)).trans (show T 33 = _ from d2)
      refine og_none rfl ?_
      refine o_call (oc3 (enters_of Tryd.func53 (by kernel_rfl) rfl) rfl rfl e1 e2 e3) rfl ?_
      exact (Ca.o aw_of w9).mono fun r W' h => ⟨_, h.1, rfl, h.2.gz⟩
    · intro T w9 hG hD hO Q
      have d0 := hD.1
      have e0 : (oF 37 T).eval (.tmp 34) = .tuple #[.agg #[.int .i64 4494, .int .i64 5506], .int .i64 0] := (oF_eval (by decide)).trans (show T 34 = _ from d0)
      refine og_none rfl ?_
      exact o_val (v := .agg #[.int .i64 4494, .int .i64 5506]) (w' := w9) (by generalize (oF 37 T).eval = rr at *; simp [execOp, go_sem, e0]) rfl rfl (Gz.refl _ _ _ _ _)
    · intro T w9 hG hD hO Q
      have d0 := hD.1
      have e0 : (oF 37 T).eval (.tmp 34) = .tuple #[.agg #[.int .i64 4494, .int .i64 5506], .int .i64 0] := (oF_eval (by decide)).trans (show T 34 = _ from d0)
      refine og_none rfl ?_
      exact o_val (v := .int .i64 0) (w' := w9) (by generalize (oF 37 T).eval = rr at *; simp [execOp, go_sem, e0]) rfl rfl (Gz.refl _ _ _ _ _)
    · intro T w9 hG hD hO Q
      have d0 := hD.1
      have q0 := hO.1
      have e0 : (oF 37 T).eval (.tmp 4) = .pointer (some ⟨w.heap.size + 1, 0, none⟩) := (oF_eval (by decide)).trans (show T 4 = _ from q0)
      have e1 : (oF 37 T).eval (.tmp 35) = .agg #[.int .i64 4494, .int .i64 5506] := (oF_eval (by decide)).trans (show T 35 = _ from d0)
      refine og_none rfl ?_
      have io : Is w9 (w.heap.size + 1) #[.int .i64 0, .int .i64 0] 25 ∨ Is w9 (w.heap.size + 1) #[.int .i64 4494, .int .i64 5506] 25 := hG.2.2 (.inl b2)
      rcases io with io | io
      · have zn := io
        replace zn : Is (w9.setCell ⟨w.heap.size + 1, 0, none⟩ (.int .i64 4494)) (w.heap.size + 1) #[.int .i64 4494, .int .i64 0] 25 := zn.set 0 _
        replace zn : Is ((w9.setCell ⟨w.heap.size + 1, 0, none⟩ (.int .i64 4494)).setCell ⟨w.heap.size + 1, 1, none⟩ (.int .i64 5506)) (w.heap.size + 1) #[.int .i64 4494, .int .i64 5506] 25 := zn.set 1 _
        have pt := (((Pt.refl (w.heap.size + 1) w9).set 0 (.int .i64 4494)).set 1 (.int .i64 5506))
        have m0 := io.c (i := 0) rfl
        have f0 := io.f 0
        have m1 := io.c (i := 1) rfl
        have f1 := io.f 1
        clear io
        exact o_skip (w' := ((w9.setCell ⟨w.heap.size + 1, 0, none⟩ (.int .i64 4494)).setCell ⟨w.heap.size + 1, 1, none⟩ (.int .i64 5506))) (by generalize (oF 37 T).eval = rr at *; simp [execOp, go_sem, e0, e1, m0, f0, m1, f1]) rfl zn (pt.gz zn)
      · have zn := io
        replace zn : Is (w9.setCell ⟨w.heap.size + 1, 0, none⟩ (.int .i64 4494)) (w.heap.size + 1) #[.int .i64 4494, .int .i64 5506] 25 := zn.set 0 _
        replace zn : Is ((w9.setCell ⟨w.heap.size + 1, 0, none⟩ (.int .i64 4494)).setCell ⟨w.heap.size + 1, 1, none⟩ (.int .i64 5506)) (w.heap.size + 1) #[.int .i64 4494, .int .i64 5506] 25 := zn.set 1 _
        have pt := (((Pt.refl (w.heap.size + 1) w9).set 0 (.int .i64 4494)).set 1 (.int .i64 5506))
        have m0 := io.c (i := 0) rfl
        have f0 := io.f 0
        have m1 := io.c (i := 1) rfl
        have f1 := io.f 1
        clear io
        exact o_skip (w' := ((w9.setCell ⟨w.heap.size + 1, 0, none⟩ (.int .i64 4494)).setCell ⟨w.heap.size + 1, 1, none⟩ (.int .i64 5506))) (by generalize (oF 37 T).eval = rr at *; simp [execOp, go_sem, e0, e1, m0, f0, m1, f1]) rfl zn (pt.gz zn)
    · intro T w9 hG hD hO Q
      have d0 := hD.1
      have e0 : (oF 37 T).eval (.tmp 36) = .int .i64 0 := (oF_eval (by decide)).trans (show T 36 = _ from d0)
      refine og_none rfl ?_
      exact o_val (v := .int .i64 0) (w' := w9) (by generalize (oF 37 T).eval = rr at *; simp [execOp, go_sem, e0]) rfl rfl (Gz.refl _ _ _ _ _)
  case fin =>
    intro T w4 hout hval hG
    have s4 := hG.1.2.2.2.1
    simp only [World.size_drew] at s4
    rw [show oF 37 T = (⟨#[T 0, T 1, T 2, T 3, T 4, T 5, T 6, T 7, T 8, T 9, T 10, T 11, T 12, T 13, T 14, T 15, T 16, T 17, T 18, T 19, T 20, T 21, T 22, T 23, T 24, T 25, T 26, T 27, T 28, T 29, T 30, T 31, T 32, T 33, T 34, T 35, T 36], []⟩ : Act) from oF_list 37 T]
    rw [show T 0 = .agg #[.string ⟨#[72]⟩, .int .i64 1, .int .i64 2, .int .i64 5000, .int .i64 0, .int .i64 0, .int .i64 1000, .int .i64 1011, .slice none 0 0] from hout 0 rfl]
    rw [show T 1 = .int .i64 0 from hout 1 rfl]
    rw [show T 2 = .pointer (some ⟨w.heap.size, 0, none⟩) from hout 2 rfl]
    rw [show T 4 = .pointer (some ⟨w.heap.size + 1, 0, none⟩) from hout 4 rfl]
    rw [show T 5 = .int .i64 0 from hval 12 (by decide : 12 < 13)]
    rw [show T 6 = .int .i64 0 from hout 6 rfl]
    rw [show T 9 = .agg #[.string ⟨#[72]⟩, .int .i64 1, .int .i64 2, .int .i64 5000, .int .i64 0, .int .i64 0, .int .i64 1000, .int .i64 1011, .slice none 0 0] from hout 9 rfl]
    rw [show T 10 = .int .i64 0 from hout 10 rfl]
    rw [show T 11 = .int .i64 0 from hout 11 rfl]
    rw [show T 12 = .int .i64 0 from hout 12 rfl]
    rw [show T 13 = .bool false from hout 13 rfl]
    rw [show T 16 = .agg #[.string ⟨#[72]⟩, .int .i64 1, .int .i64 2, .int .i64 5000, .int .i64 0, .int .i64 0, .int .i64 1000, .int .i64 1011, .slice none 0 0] from hout 16 rfl]
    rw [show T 17 = .int .i64 0 from hout 17 rfl]
    rw [show T 18 = .bool true from hout 18 rfl]
    rw [show T 19 = .bool false from hout 19 rfl]
    rw [show T 21 = .tuple #[.func (.func 76) #[] #[.pointer (some ⟨g3, 0, none⟩)], .func (.func 77) #[] #[.pointer (some ⟨g3, 0, none⟩)]] from hout 21 rfl]
    rw [show T 22 = .pointer (some ⟨w.heap.size, 3, none⟩) from hout 22 rfl]
    rw [show T 23 = .tuple #[.func (.func 76) #[] #[.pointer (some ⟨g3, 0, none⟩)], .func (.func 77) #[] #[.pointer (some ⟨g3, 0, none⟩)]] from hout 23 rfl]
    rw [show T 24 = .func (.func 76) #[] #[.pointer (some ⟨g3, 0, none⟩)] from hout 24 rfl]
    rw [show T 25 = .func (.func 77) #[] #[.pointer (some ⟨g3, 0, none⟩)] from hout 25 rfl]
    replace b1 := b1.kx hG.1 (by simp only [List.mem_singleton]; omega)
    replace p3 := p3.kx hG.1 (by simp only [List.mem_singleton]; omega)
    replace b2 := hval 11 (by decide)
    replace b2 : Is _ (w.heap.size + 1) #[.int .i64 4494, .int .i64 5506] 25 := b2
    replace kx := hG.1.old kx.drew (by intro x hx; simp only [List.mem_singleton] at hx; subst hx; omega)
    replace gl := gl0.out.kb kx
    clear hout hval hG
    go_wp2
    refine ret_row2 Tryd.results20 rfl rfl rfl b2 Tryd.underlying25 rfl (by kernel_rfl) ?_
    exact ⟨rfl, kx⟩
set_option maxRecDepth 100000 in
theorem aw_reach0_any     : Cg 20 #[.agg #[.string ⟨#[72]⟩, .int .i64 1, .int .i64 2, .int .i64 5000, .int .i64 0, .int .i64 0, .int .i64 1000, .int .i64 1011, .slice none 0 0], .int .i64 0] (.tuple #[.agg #[.int .i64 4494, .int .i64 5506], .int .i64 0]) := Lib.hid fun w gl => by
  exact aw_reach0_1  w gl
set_option maxRecDepth 100000 in
set_option maxHeartbeats 1000000 in
theorem aw_reach2_1 (w : World) (gl : Gl w)  : Calls Tryd.prog 20 #[.agg #[.string ⟨#[72]⟩, .int .i64 1, .int .i64 2, .int .i64 5000, .int .i64 0, .int .i64 0, .int .i64 1000, .int .i64 1011, .slice none 0 0], .int .i64 2] w fun r W' => r = .returned (.tuple #[.agg #[.int .i64 0, .int .i64 0], .int .i64 14]) ∧ Kb w W' := by
  have kx := Kb.refl w
  have gl0 := Lib.hid gl
  have j1 := ((Is.made w #[.string ⟨#[72]⟩, .int .i64 1, .int .i64 2, .int .i64 5000, .int .i64 0, .int .i64 0, .int .i64 1000, .int .i64 1011, .slice none 0 0] 28).alloc (.cells #[.int .i64 0, .int .i64 0] 25 (0, 0)))
  have f2 := j1.c (i := 0) rfl
  have f3 := j1.c (i := 1) rfl
  have f4 := j1.c (i := 2) rfl
  have f5 := j1.c (i := 3) rfl
  have f6 := j1.c (i := 4) rfl
  have f7 := j1.c (i := 5) rfl
  have f8 := j1.c (i := 6) rfl
  have f9 := j1.c (i := 7) rfl
  have f10 := j1.c (i := 8) rfl
  go_enter Tryd.func20, Tryd.ntmps20
  go_wp2_with fail
  clear f2 f3 f4 f5 f6 f7 f8 f9 f10
  have b1 := j1
  have b2 := Is.made (w.alloc (.cells #[.string ⟨#[72]⟩, .int .i64 1, .int .i64 2, .int .i64 5000, .int .i64 0, .int .i64 0, .int .i64 1000, .int .i64 1011, .slice none 0 0] 28 (0, 0))) #[.int .i64 0, .int .i64 0] 25
  simp only [World.size_alloc] at b2
  replace kx := (kx.alloc (.cells #[.string ⟨#[72]⟩, .int .i64 1, .int .i64 2, .int .i64 5000, .int .i64 0, .int .i64 0, .int .i64 1000, .int .i64 1011, .slice none 0 0] 28 (0, 0))).alloc (.cells #[.int .i64 0, .int .i64 0] 25 (0, 0))
  clear j1
  replace gl := gl0.out.kb kx
  (with_reducible refine ((Ca.o aw_al2 _)).mono ?_)
  rintro r w1 ⟨rfl, k1⟩
  replace gl := gl.kb k1
  replace b1 := b1.kb k1
  replace b2 := b2.kb k1
  replace kx := kx.trans k1
  have s1 := k1.size
  simp only [World.size_alloc] at s1
  clear k1
  have f11 := b1.c (i := 0) rfl
  have f12 := b1.c (i := 1) rfl
  have f13 := b1.c (i := 2) rfl
  have f14 := b1.c (i := 3) rfl
  have f15 := b1.c (i := 4) rfl
  have f16 := b1.c (i := 5) rfl
  have f17 := b1.c (i := 6) rfl
  have f18 := b1.c (i := 7) rfl
  have f19 := b1.c (i := 8) rfl
  go_wp2_with fail
  clear f11 f12 f13 f14 f15 f16 f17 f18 f19
  (with_reducible refine ((Cg.out aw_bdH2 _ gl)).mono ?_)
  rintro r w2 ⟨rfl, k2⟩
  replace gl := gl.kb k2
  replace b1 := b1.kb k2
  replace b2 := b2.kb k2
  replace kx := kx.trans k2
  have s2 := k2.size
  skip
  clear k2
  have f20 := b2.c (i := 0) rfl
  have f21 := b2.f 0
  have f22 := b2.c (i := 1) rfl
  have f23 := b2.f 1
  go_wp2
  clear f20 f21 f22 f23
  replace b2 : Is _ _ #[.int .i64 0, .int .i64 0] _ := b2.set 0 (.int .i64 0)
  replace b2 : Is _ _ #[.int .i64 0, .int .i64 0] _ := b2.set 1 (.int .i64 0)
  replace kx := (kx.setCell (p := ⟨w.heap.size + 1, 0, none⟩) (show w.heap.size ≤ w.heap.size + 1 by omega) (.int .i64 0)).setCell (p := ⟨w.heap.size + 1, 1, none⟩) (show w.heap.size ≤ w.heap.size + 1 by omega) (.int .i64 0)
  refine ret_row2 Tryd.results20 rfl rfl rfl b2 Tryd.underlying25 rfl (by kernel_rfl) ?_
  exact ⟨rfl, kx⟩
set_option maxRecDepth 100000 in
theorem aw_reach2_any     : Cg 20 #[.agg #[.string ⟨#[72]⟩, .int .i64 1, .int .i64 2, .int .i64 5000, .int .i64 0, .int .i64 0, .int .i64 1000, .int .i64 1011, .slice none 0 0], .int .i64 2] (.tuple #[.agg #[.int .i64 0, .int .i64 0], .int .i64 14]) := Lib.hid fun w gl => by
  exact aw_reach2_1  w gl
set_option maxRecDepth 100000 in
set_option maxHeartbeats 1000000 in
theorem aw_sepW1_1 (w : World) (gl : Gl w)  : Calls Tryd.prog 22 #[.agg #[.string ⟨#[72]⟩, .int .i64 1, .int .i64 2, .int .i64 5000, .int .i64 0, .int .i64 0, .int .i64 1000, .int .i64 1011, .slice none 0 0], .agg #[.string ⟨#[87]⟩, .int .i64 0, .int .i64 0, .int .i64 5507, .int .i64 0, .int .i64 0, .int .i64 0, .int .i64 0, .slice none 0 0]] w fun r W' => r = .returned (.tuple #[.bool true, .int .i64 0]) ∧ Kb w W' := by
  have kx := Kb.refl w
  have gl0 := Lib.hid gl
  have j1 := ((Is.made w #[.string ⟨#[72]⟩, .int .i64 1, .int .i64 2, .int .i64 5000, .int .i64 0, .int .i64 0, .int .i64 1000, .int .i64 1011, .slice none 0 0] 28).alloc (.cells #[.string ⟨#[87]⟩, .int .i64 0, .int .i64 0, .int .i64 5507, .int .i64 0, .int .i64 0, .int .i64 0, .int .i64 0, .slice none 0 0] 28 (0, 0)))
  have f2 := j1.c (i := 0) rfl
  have f3 := j1.c (i := 1) rfl
  have f4 := j1.c (i := 2) rfl
  have f5 := j1.c (i := 3) rfl
  have f6 := j1.c (i := 4) rfl
  have f7 := j1.c (i := 5) rfl
  have f8 := j1.c (i := 6) rfl
  have f9 := j1.c (i := 7) rfl
  have f10 := j1.c (i := 8) rfl
  have j11 := (Is.made (w.alloc (.cells #[.string ⟨#[72]⟩, .int .i64 1, .int .i64 2, .int .i64 5000, .int .i64 0, .int .i64 0, .int .i64 1000, .int .i64 1011, .slice none 0 0] 28 (0, 0))) #[.string ⟨#[87]⟩, .int .i64 0, .int .i64 0, .int .i64 5507, .int .i64 0, .int .i64 0, .int .i64 0, .int .i64 0, .slice none 0 0] 28)
  simp only [World.size_alloc] at j11
  have f12 := j11.c (i := 0) rfl
  have f13 := j11.c (i := 1) rfl
  have f14 := j11.c (i := 2) rfl
  have f15 := j11.c (i := 3) rfl
  have f16 := j11.c (i := 4) rfl
  have f17 := j11.c (i := 5) rfl
  have f18 := j11.c (i := 6) rfl
  have f19 := j11.c (i := 7) rfl
  have f20 := j11.c (i := 8) rfl
  go_enter Tryd.func22, Tryd.ntmps22
  go_wp2_with fail
  clear f2 f3 f4 f5 f6 f7 f8 f9 f10 f12 f13 f14 f15 f16 f17 f18 f19 f20
  have b1 := Is.made w #[.string ⟨#[72]⟩, .int .i64 1, .int .i64 2, .int .i64 5000, .int .i64 0, .int .i64 0, .int .i64 1000, .int .i64 1011, .slice none 0 0] 28
  replace b1 := ((b1.alloc (.cells #[.string ⟨#[87]⟩, .int .i64 0, .int .i64 0, .int .i64 5507, .int .i64 0, .int .i64 0, .int .i64 0, .int .i64 0, .slice none 0 0] 28 (0, 0))).alloc (.cells #[.string ⟨#[72]⟩, .int .i64 1, .int .i64 2, .int .i64 5000, .int .i64 0, .int .i64 0, .int .i64 1000, .int .i64 1011, .slice none 0 0, .string ⟨#[87]⟩, .int .i64 0, .int .i64 0, .int .i64 5507, .int .i64 0, .int .i64 0, .int .i64 0, .int .i64 0, .slice none 0 0] 28 (0, 0)))
  have b2 := Is.made (w.alloc (.cells #[.string ⟨#[72]⟩, .int .i64 1, .int .i64 2, .int .i64 5000, .int .i64 0, .int .i64 0, .int .i64 1000, .int .i64 1011, .slice none 0 0] 28 (0, 0))) #[.string ⟨#[87]⟩, .int .i64 0, .int .i64 0, .int .i64 5507, .int .i64 0, .int .i64 0, .int .i64 0, .int .i64 0, .slice none 0 0] 28
  simp only [World.size_alloc] at b2
  replace b2 := (b2.alloc (.cells #[.string ⟨#[72]⟩, .int .i64 1, .int .i64 2, .int .i64 5000, .int .i64 0, .int .i64 0, .int .i64 1000, .int .i64 1011, .slice none 0 0, .string ⟨#[87]⟩, .int .i64 0, .int .i64 0, .int .i64 5507, .int .i64 0, .int .i64 0, .int .i64 0, .int .i64 0, .slice none 0 0] 28 (0, 0)))
  have b3 := Is.made ((w.alloc (.cells #[.string ⟨#[72]⟩, .int .i64 1, .int .i64 2, .int .i64 5000, .int .i64 0, .int .i64 0, .int .i64 1000, .int .i64 1011, .slice none 0 0] 28 (0, 0))).alloc (.cells #[.string ⟨#[87]⟩, .int .i64 0, .int .i64 0, .int .i64 5507, .int .i64 0, .int .i64 0, .int .i64 0, .int .i64 0, .slice none 0 0] 28 (0, 0))) #[.string ⟨#[72]⟩, .int .i64 1, .int .i64 2, .int .i64 5000, .int .i64 0, .int .i64 0, .int .i64 1000, .int .i64 1011, .slice none 0 0, .string ⟨#[87]⟩, .int .i64 0, .int .i64 0, .int .i64 5507, .int .i64 0, .int .i64 0, .int .i64 0, .int .i64 0, .slice none 0 0] 28
  simp only [World.size_alloc] at b3
  replace kx := ((kx.alloc (.cells #[.string ⟨#[72]⟩, .int .i64 1, .int .i64 2, .int .i64 5000, .int .i64 0, .int .i64 0, .int .i64 1000, .int .i64 1011, .slice none 0 0] 28 (0, 0))).alloc (.cells #[.string ⟨#[87]⟩, .int .i64 0, .int .i64 0, .int .i64 5507, .int .i64 0, .int .i64 0, .int .i64 0, .int .i64 0, .slice none 0 0] 28 (0, 0))).alloc (.cells #[.string ⟨#[72]⟩, .int .i64 1, .int .i64 2, .int .i64 5000, .int .i64 0, .int .i64 0, .int .i64 1000, .int .i64 1011, .slice none 0 0, .string ⟨#[87]⟩, .int .i64 0, .int .i64 0, .int .i64 5507, .int .i64 0, .int .i64 0, .int .i64 0, .int .i64 0, .slice none 0 0] 28 (0, 0))
  clear j1 j11
  replace gl := gl0.out.kb kx
  have cc1 := cEach_Ftr [] 18 (⟨#[]⟩, 0, 0, 0, 0, 0, 0, 0, none, 0, 0) [(⟨#[72]⟩, 1, 2, 5000, 0, 0, 1000, 1011, none, 0, 0), (⟨#[87]⟩, 0, 0, 5507, 0, 0, 0, 0, none, 0, 0)] [0, 0] (.slice (some ⟨w.heap.size + 1 + 1, 0, none⟩) 2 2) (((w.alloc (.cells #[.string ⟨#[72]⟩, .int .i64 1, .int .i64 2, .int .i64 5000, .int .i64 0, .int .i64 0, .int .i64 1000, .int .i64 1011, .slice none 0 0] 28 (0, 0))).alloc (.cells #[.string ⟨#[87]⟩, .int .i64 0, .int .i64 0, .int .i64 5507, .int .i64 0, .int .i64 0, .int .i64 0, .int .i64 0, .slice none 0 0] 28 (0, 0))).alloc (.cells #[.string ⟨#[72]⟩, .int .i64 1, .int .i64 2, .int .i64 5000, .int .i64 0, .int .i64 0, .int .i64 1000, .int .i64 1011, .slice none 0 0, .string ⟨#[87]⟩, .int .i64 0, .int .i64 0, .int .i64 5507, .int .i64 0, .int .i64 0, .int .i64 0, .int .i64 0, .slice none 0 0] 28 (0, 0))) (fun x hx => by simp at hx) (by simp) rfl (sl_is b3 (by simp) rfl (rows_ok rfl rfl)) (enters_of Tryd.func18 (by kernel_rfl) rfl) (each_ok ⟨aw_checkH, aw_checkW1, trivial⟩ rfl)
  (with_reducible refine cc1.mono ?_)
  rintro r w1 ⟨_, rfl, ⟨F1, cp1, rfl, he1, hk1⟩, k1⟩
  clear cc1
  replace gl := gl.kb k1
  replace b1 := b1.kb k1
  replace b2 := b2.kb k1
  replace b3 := b3.kb k1
  replace kx := kx.trans k1
  have s1 := k1.size
  simp only [World.size_alloc] at s1
  clear k1
  have c1 : Ck [] (.func (.func F1) #[] cp1) (firstE [0, 0]) w1 := ⟨F1, cp1, rfl, he1, hk1⟩
  clear he1 hk1
  go_wp2_with fail
  replace b1 := (b1.alloc (.cells #[.func (.func F1) #[] cp1] 69 (0, 0)))
  replace b2 := (b2.alloc (.cells #[.func (.func F1) #[] cp1] 69 (0, 0)))
  replace b3 := (b3.alloc (.cells #[.func (.func F1) #[] cp1] 69 (0, 0)))
  have b4 := Is.made w1 #[.func (.func F1) #[] cp1] 69
  replace kx := kx.alloc (.cells #[.func (.func F1) #[] cp1] 69 (0, 0))
  replace gl := gl0.out.kb kx
  replace c1 := (c1.kx ((Kb.refl _).alloc (.cells #[.func (.func F1) #[] cp1] 69 (0, 0))).kx)
  have cc2 := (show Calls Tryd.prog 37 _ _ (fun r W' => r = .returned (.int .i64 0) ∧ Kb _ W') from cFirst [] [firstE [0, 0]] (.slice (some ⟨w1.heap.size, 0, none⟩) 1 1) (w1.alloc (.cells #[.func (.func F1) #[] cp1] 69 (0, 0))) ⟨[.func (.func F1) #[] cp1], rfl, sl_is b4 (by simp) rfl (rows_ok rfl rfl), cks_ok ⟨c1, trivial⟩ rfl⟩ (by simp))
  (with_reducible refine cc2.mono ?_)
  rintro r w2 ⟨rfl, k2⟩
  clear cc2
  replace gl := gl.kb k2
  replace b1 := b1.kb k2
  replace b2 := b2.kb k2
  replace b3 := b3.kb k2
  replace b4 := b4.kb k2
  replace c1 := c1.kx k2.kx
  replace kx := kx.trans k2
  have s2 := k2.size
  simp only [World.size_alloc] at s2
  clear k2
  clear c1
  go_wp2_with fail
  (with_reducible refine (cCoord3_1 w.heap.size _).mono ?_)
  rintro r w3 ⟨g3, rfl, p3, i3, k3⟩
  replace gl := gl.kb k3
  replace b1 := b1.kb k3
  replace b2 := b2.kb k3
  replace b3 := b3.kb k3
  replace b4 := b4.kb k3
  replace kx := kx.trans k3
  have s3 := k3.size
  skip
  clear k3
  go_wp2_with fail
  (with_reducible refine (cCoord3_1 (w.heap.size + 1) _).mono ?_)
  rintro r w4 ⟨g4, rfl, p4, i4, k4⟩
  replace gl := gl.kb k4
  replace b1 := b1.kb k4
  replace b2 := b2.kb k4
  replace b3 := b3.kb k4
  replace b4 := b4.kb k4
  replace p3 := p3.kb k4
  replace kx := kx.trans k4
  have s4 := k4.size
  skip
  clear k4
  go_wp2_with fail
  refine wp_loop_rounds 1 ?_
  rw [rounds_succ]
  have en1 := (enters_of Tryd.func76 (by kernel_rfl) rfl : ∀ args W, (callFunc 76 args).run Tryd.prog W = .ok (.enter 76 args) W)
  go_wp2_with fail
  (with_reducible refine (cRead_0 _ _ _ _ _ _ p3 (b1.c (i := 3) rfl)).mono ?_)
  rintro r w5 ⟨rfl, k5⟩
  replace gl := gl.kb k5
  replace b1 := b1.kb k5
  replace b2 := b2.kb k5
  replace b3 := b3.kb k5
  replace b4 := b4.kb k5
  replace p3 := p3.kb k5
  replace p4 := p4.kb k5
  replace kx := kx.trans k5
  have s5 := k5.size
  skip
  clear k5
  have en2 := (enters_of Tryd.func76 (by kernel_rfl) rfl : ∀ args W, (callFunc 76 args).run Tryd.prog W = .ok (.enter 76 args) W)
  go_wp2_with fail
  (with_reducible refine (cRead_0 _ _ _ _ _ _ p4 (b2.c (i := 3) rfl)).mono ?_)
  rintro r w6 ⟨rfl, k6⟩
  replace gl := gl.kb k6
  replace b1 := b1.kb k6
  replace b2 := b2.kb k6
  replace b3 := b3.kb k6
  replace b4 := b4.kb k6
  replace p3 := p3.kb k6
  replace p4 := p4.kb k6
  replace kx := kx.trans k6
  have s6 := k6.size
  skip
  clear k6
  go_wp2_with fail
  replace gl := gl.drew
  replace b1 := b1.drew
  replace b2 := b2.drew
  replace b3 := b3.drew
  replace b4 := b4.drew
  replace p3 := p3.drew
  replace p4 := p4.drew
  rw [oF_lit]
  refine o_law (⟨63, [some 42, some 43, some 44, some 45, some 46, some 47, some 48, some 49, some 50, some 51, some 52, some 53, some 54, some 55, some 56, some 57, some 58, some 59, some 60, some 61], [42, 43, 44, 45, 46, 47, 48, 49, 50, 51, 52, 53, 54, 55, 56, 57, 58, 59, 60, 61], [[], [], [0, 1], [2], [3], [3], [4, 5, 3], [3, 6], [7], [8], [8], [10, 8], [9, 11, 8], [8], [13, 8], [8], [15, 8], [14, 16, 8], [12, 17, 8], [8, 18]], [[2], [11], [], [], [3], [11], [], [], [], [12], [12], [], [], [2], [], [3], [], [], [], []]⟩ : OT) (Kx []) (RL [fun vv _ => vv = .agg #[.string ⟨#[72]⟩, .int .i64 1, .int .i64 2, .int .i64 5000, .int .i64 0, .int .i64 0, .int .i64 1000, .int .i64 1011, .slice none 0 0], fun vv _ => vv = .int .i64 0, fun vv _ => vv = .bool true, fun vv _ => vv = .bool true, fun vv _ => true = true → vv = .agg #[.string ⟨#[87]⟩, .int .i64 0, .int .i64 0, .int .i64 5507, .int .i64 0, .int .i64 0, .int .i64 0, .int .i64 0, .slice none 0 0], fun vv _ => true = true → vv = .int .i64 0, fun vv _ => true = true → vv = .bool true, fun vv _ => vv = .bool true, fun vv _ => vv = .bool true, fun vv _ => true = true → vv = .int .i64 (-507), fun vv _ => true = true → vv = .int .i64 (-507), fun vv _ => true = true → vv = .int .i64 507, fun vv _ => true = true → vv = .int .i64 507, fun vv _ => true = true → vv = .agg #[.string ⟨#[72]⟩, .int .i64 1, .int .i64 2, .int .i64 5000, .int .i64 0, .int .i64 0, .int .i64 1000, .int .i64 1011, .slice none 0 0], fun vv _ => true = true → vv = .int .i64 506, fun vv _ => true = true → vv = .agg #[.string ⟨#[87]⟩, .int .i64 0, .int .i64 0, .int .i64 5507, .int .i64 0, .int .i64 0, .int .i64 0, .int .i64 0, .slice none 0 0], fun vv _ => true = true → vv = .int .i64 0, fun vv _ => true = true → vv = .int .i64 506, fun vv _ => true = true → vv = .bool (decide (506 < 507)), fun vv _ => vv = .bool (decide (506 < 507))]) (by kernel_rfl) ?hk ?hR ?fin
  case hk => kernel_rfl
  case hR =>
    refine ⟨fun _ => (Kx.refl _ _), fun _ _ _ => Kx.trans, rl_stab ⟨fun _ _ _ _ h => h, fun _ _ _ _ h => h, fun _ _ _ _ h => h, fun _ _ _ _ h => h, fun _ _ _ _ h => h, fun _ _ _ _ h => h, fun _ _ _ _ h => h, fun _ _ _ _ h => h, fun _ _ _ _ h => h, fun _ _ _ _ h => h, fun _ _ _ _ h => h, fun _ _ _ _ h => h, fun _ _ _ _ h => h, fun _ _ _ _ h => h, fun _ _ _ _ h => h, fun _ _ _ _ h => h, fun _ _ _ _ h => h, fun _ _ _ _ h => h, fun _ _ _ _ h => h, fun _ _ _ _ h => h, trivial⟩, ?_⟩
    refine allO_cons ?_ (allO_cons ?_ (allO_cons ?_ (allO_cons ?_ (allO_cons ?_ (allO_cons ?_ (allO_cons ?_ (allO_cons ?_ (allO_cons ?_ (allO_cons ?_ (allO_cons ?_ (allO_cons ?_ (allO_cons ?_ (allO_cons ?_ (allO_cons ?_ (allO_cons ?_ (allO_cons ?_ (allO_cons ?_ (allO_cons ?_ (allO_cons ?_ (allO_nil))))))))))))))))))))
    · intro T w9 hG hD hO Q
      have q0 := hO.1
      have e0 : (oF 63 T).eval (.tmp 2) = .pointer (some ⟨w.heap.size, 0, none⟩) := (oF_eval (by decide)).trans (show T 2 = _ from q0)
      refine og_none rfl ?_
      have im := b1.kx hG (by simp)
      have m0 := im.c (i := 0) rfl
      have m1 := im.c (i := 1) rfl
      have m2 := im.c (i := 2) rfl
      have m3 := im.c (i := 3) rfl
      have m4 := im.c (i := 4) rfl
      have m5 := im.c (i := 5) rfl
      have m6 := im.c (i := 6) rfl
      have m7 := im.c (i := 7) rfl
      have m8 := im.c (i := 8) rfl
      clear im
      exact o_val (v := .agg #[.string ⟨#[72]⟩, .int .i64 1, .int .i64 2, .int .i64 5000, .int .i64 0, .int .i64 0, .int .i64 1000, .int .i64 1011, .slice none 0 0]) (w' := w9) (by generalize (oF 63 T).eval = rr at *; simp [execOp, go_sem, e0, m0, m1, m2, m3, m4, m5, m6, m7, m8]) rfl rfl (Kx.refl _ _)
    · intro T w9 hG hD hO Q
      have q0 := hO.1
      have e0 : (oF 63 T).eval (.tmp 11) = .int .i64 0 := (oF_eval (by decide)).trans (show T 11 = _ from q0)
      refine og_none rfl ?_
      exact o_val (v := .int .i64 0) (w' := w9) (by generalize (oF 63 T).eval = rr at *; simp [execOp, go_sem, e0]) rfl rfl (Kx.refl _ _)
    · intro T w9 hG hD hO Q
      have d0 := hD.1
      have d1 := hD.2.1
      have e0 : (oF 63 T).eval (.func 51) = .func (.func 51) #[] #[] := rfl
      have e1 : (oF 63 T).eval (.tmp 42) = .agg #[.string ⟨#[72]⟩, .int .i64 1, .int .i64 2, .int .i64 5000, .int .i64 0, .int .i64 0, .int .i64 1000, .int .i64 1011, .slice none 0 0] := (oF_eval (by decide)).trans (show T 42 = _ from d0)
      have e2 : (oF 63 T).eval (.tmp 43) = .int .i64 0 := (oF_eval (by decide)).trans (show T 43 = _ from d1)
      refine og_none rfl ?_
      refine o_call (oc2 (enters_of Tryd.func51 (by kernel_rfl) rfl) rfl rfl e1 e2) rfl ?_
      exact (Cg.out aw_bdH0 w9 (gl.kx hG (by simp))).mono fun r W' h => ⟨_, h.1, rfl, h.2.kx⟩
    · intro T w9 hG hD hO Q
      have d0 := hD.1
      have e0 : (oF 63 T).eval (.tmp 44) = .bool true := (oF_eval (by decide)).trans (show T 44 = _ from d0)
      refine og_none rfl ?_
      exact o_val (v := .bool true) (w' := w9) (by generalize (oF 63 T).eval = rr at *; simp [execOp, go_sem, e0]) rfl rfl (Kx.refl _ _)
    · intro T w9 hG hD hO Q
      have d0 := hD.1
      have q0 := hO.1
      have e0 : (oF 63 T).eval (.tmp 3) = .pointer (some ⟨w.heap.size + 1, 0, none⟩) := (oF_eval (by decide)).trans (show T 3 = _ from q0)
      refine og_some (b := true) (c := true) rfl (show T 45 = _ from d0) (fun hc => ?_) (fun hc h => absurd h hc)
      have im := b2.kx hG (by simp)
      have m0 := im.c (i := 0) rfl
      have m1 := im.c (i := 1) rfl
      have m2 := im.c (i := 2) rfl
      have m3 := im.c (i := 3) rfl
      have m4 := im.c (i := 4) rfl
      have m5 := im.c (i := 5) rfl
      have m6 := im.c (i := 6) rfl
      have m7 := im.c (i := 7) rfl
      have m8 := im.c (i := 8) rfl
      clear im
      exact o_val (v := .agg #[.string ⟨#[87]⟩, .int .i64 0, .int .i64 0, .int .i64 5507, .int .i64 0, .int .i64 0, .int .i64 0, .int .i64 0, .slice none 0 0]) (w' := w9) (by generalize (oF 63 T).eval = rr at *; simp [execOp, go_sem, e0, m0, m1, m2, m3, m4, m5, m6, m7, m8]) rfl (fun _ => rfl) (Kx.refl _ _)
    · intro T w9 hG hD hO Q
      have d0 := hD.1
      have q0 := hO.1
      have e0 : (oF 63 T).eval (.tmp 11) = .int .i64 0 := (oF_eval (by decide)).trans (show T 11 = _ from q0)
      refine og_some (b := true) (c := true) rfl (show T 45 = _ from d0) (fun hc => ?_) (fun hc h => absurd h hc)
      exact o_val (v := .int .i64 0) (w' := w9) (by generalize (oF 63 T).eval = rr at *; simp [execOp, go_sem, e0]) rfl (fun _ => rfl) (Kx.refl _ _)
    · intro T w9 hG hD hO Q
      have d0 := hD.1
      have d1 := hD.2.1
      have d2 := hD.2.2.1
      have e0 : (oF 63 T).eval (.func 51) = .func (.func 51) #[] #[] := rfl
      have G1 : true = true → T 46 = .agg #[.string ⟨#[87]⟩, .int .i64 0, .int .i64 0, .int .i64 5507, .int .i64 0, .int .i64 0, .int .i64 0, .int .i64 0, .slice none 0 0] := d0
      have G2 : true = true → T 47 = .int .i64 0 := d1
      refine og_some (b := true) (c := true) rfl (show T 45 = _ from d2) (fun hc => ?_) (fun hc h => absurd h hc)
      have e1 : (oF 63 T).eval (.tmp 46) = .agg #[.string ⟨#[87]⟩, .int .i64 0, .int .i64 0, .int .i64 5507, .int .i64 0, .int .i64 0, .int .i64 0, .int .i64 0, .slice none 0 0] := (oF_eval (by decide)).trans (G1 hc)
      have e2 : (oF 63 T).eval (.tmp 47) = .int .i64 0 := (oF_eval (by decide)).trans (G2 hc)
      refine o_call (oc2 (enters_of Tryd.func51 (by kernel_rfl) rfl) rfl rfl e1 e2) rfl ?_
      exact (Cg.out aw_bdW10 w9 (gl.kx hG (by simp))).mono fun r W' h => ⟨_, h.1, (fun _ => rfl), h.2.kx⟩
    · intro T w9 hG hD hO Q
      have d0 := hD.1
      have d1 := hD.2.1
      have e0 : (oF 63 T).eval (.tmp 45) = .bool true := (oF_eval (by decide)).trans (show T 45 = _ from d0)
      have G1 : true = true → T 48 = .bool true := d1
      have e1 : (oF 63 T).eval (.tmp 48) = T 48 := oF_eval (by decide)
      have e2 : (oF 63 T).eval (.const (.bool false)) = .bool false := rfl
      refine og_none rfl ?_
      rw [G1 rfl] at e1
      exact o_val (v := .bool true) (w' := w9) (by generalize (oF 63 T).eval = rr at *; simp [execOp, go_sem, e0, e1]) rfl rfl (Kx.refl _ _)
    · intro T w9 hG hD hO Q
      have d0 := hD.1
      have e0 : (oF 63 T).eval (.tmp 49) = .bool true := (oF_eval (by decide)).trans (show T 49 = _ from d0)
      refine og_none rfl ?_
      exact o_val (v := .bool true) (w' := w9) (by generalize (oF 63 T).eval = rr at *; simp [execOp, go_sem, e0]) rfl rfl (Kx.refl _ _)
    · intro T w9 hG hD hO Q
      have d0 := hD.1
      have q0 := hO.1
      have e0 : (oF 63 T).eval (.tmp 12) = .int .i64 (-507) := (oF_eval (by decide)).trans (show T 12 = _ from q0)
      refine og_some (b := true) (c := true) rfl (show T 50 = _ from d0) (fun hc => ?_) (fun hc h => absurd h hc)
      exact o_val (v := .int .i64 (-507)) (w' := w9) (by generalize (oF 63 T).eval = rr at *; simp [execOp, go_sem, e0]) rfl (fun _ => rfl) (Kx.refl _ _)
    · intro T w9 hG hD hO Q
      have d0 := hD.1
      have q0 := hO.1
      have e0 : (oF 63 T).eval (.tmp 12) = .int .i64 (-507) := (oF_eval (by decide)).trans (show T 12 = _ from q0)
      refine og_some (b := true) (c := true) rfl (show T 50 = _ from d0) (fun hc => ?_) (fun hc h => absurd h hc)
      exact o_val (v := .int .i64 (-507)) (w' := w9) (by generalize (oF 63 T).eval = rr at *; simp [execOp, go_sem, e0]) rfl (fun _ => rfl) (Kx.refl _ _)
    · intro T w9 hG hD hO Q
      have d0 := hD.1
      have d1 := hD.2.1
      have G0 : true = true → T 52 = .int .i64 (-507) := d0
      refine og_some (b := true) (c := true) rfl (show T 50 = _ from d1) (fun hc => ?_) (fun hc h => absurd h hc)
      have e0 : (oF 63 T).eval (.tmp 52) = .int .i64 (-507) := (oF_eval (by decide)).trans (G0 hc)
      exact o_val (v := .int .i64 507) (w' := w9) (by generalize (oF 63 T).eval = rr at *; simp [execOp, go_sem, e0, (show IntKind.i64.wrap (507 : Int) = 507 by decide)]) rfl (fun _ => rfl) (Kx.refl _ _)
    · intro T w9 hG hD hO Q
      have d0 := hD.1
      have d1 := hD.2.1
      have d2 := hD.2.2.1
      have G0 : true = true → T 51 = .int .i64 (-507) := d0
      have G1 : true = true → T 53 = .int .i64 507 := d1
      refine og_some (b := true) (c := true) rfl (show T 50 = _ from d2) (fun hc => ?_) (fun hc h => absurd h hc)
      have e0 : (oF 63 T).eval (.tmp 51) = .int .i64 (-507) := (oF_eval (by decide)).trans (G0 hc)
      have e1 : (oF 63 T).eval (.tmp 53) = .int .i64 507 := (oF_eval (by decide)).trans (G1 hc)
      exact o_val (v := .int .i64 507) (w' := w9) (by generalize (oF 63 T).eval = rr at *; simp [go_sem, e0, e1, (show max ((-507) : Int) 507 = 507 by decide)]) rfl (fun _ => rfl) (Kx.refl _ _)
    · intro T w9 hG hD hO Q
      have d0 := hD.1
      have q0 := hO.1
      have e0 : (oF 63 T).eval (.tmp 2) = .pointer (some ⟨w.heap.size, 0, none⟩) := (oF_eval (by decide)).trans (show T 2 = _ from q0)
      refine og_some (b := true) (c := true) rfl (show T 50 = _ from d0) (fun hc => ?_) (fun hc h => absurd h hc)
      have im := b1.kx hG (by simp)
      have m0 := im.c (i := 0) rfl
      have m1 := im.c (i := 1) rfl
      have m2 := im.c (i := 2) rfl
      have m3 := im.c (i := 3) rfl
      have m4 := im.c (i := 4) rfl
      have m5 := im.c (i := 5) rfl
      have m6 := im.c (i := 6) rfl
      have m7 := im.c (i := 7) rfl
      have m8 := im.c (i := 8) rfl
      clear im
      exact o_val (v := .agg #[.string ⟨#[72]⟩, .int .i64 1, .int .i64 2, .int .i64 5000, .int .i64 0, .int .i64 0, .int .i64 1000, .int .i64 1011, .slice none 0 0]) (w' := w9) (by generalize (oF 63 T).eval = rr at *; simp [execOp, go_sem, e0, m0, m1, m2, m3, m4, m5, m6, m7, m8]) rfl (fun _ => rfl) (Kx.refl _ _)
    · intro T w9 hG hD hO Q
      have d0 := hD.1
      have d1 := hD.2.1
      have e0 : (oF 63 T).eval (.func 54) = .func (.func 54) #[] #[] := rfl
      have G1 : true = true → T 55 = .agg #[.string ⟨#[72]⟩, .int .i64 1, .int .i64 2, .int .i64 5000, .int .i64 0, .int .i64 0, .int .i64 1000, .int .i64 1011, .slice none 0 0] := d0
      refine og_some (b := true) (c := true) rfl (show T 50 = _ from d1) (fun hc => ?_) (fun hc h => absurd h hc)
      have e1 : (oF 63 T).eval (.tmp 55) = .agg #[.string ⟨#[72]⟩, .int .i64 1, .int .i64 2, .int .i64 5000, .int .i64 0, .int .i64 0, .int .i64 1000, .int .i64 1011, .slice none 0 0] := (oF_eval (by decide)).trans (G1 hc)
      refine o_call (oc1 (enters_of Tryd.func54 (by kernel_rfl) rfl) rfl rfl e1) rfl ?_
      exact (Ca.o aw_halfH w9).mono fun r W' h => ⟨_, h.1, (fun _ => rfl), h.2.kx⟩
    · intro T w9 hG hD hO Q
      have d0 := hD.1
      have q0 := hO.1
      have e0 : (oF 63 T).eval (.tmp 3) = .pointer (some ⟨w.heap.size + 1, 0, none⟩) := (oF_eval (by decide)).trans (show T 3 = _ from q0)
      refine og_some (b := true) (c := true) rfl (show T 50 = _ from d0) (fun hc => ?_) (fun hc h => absurd h hc)
      have im := b2.kx hG (by simp)
      have m0 := im.c (i := 0) rfl
      have m1 := im.c (i := 1) rfl
      have m2 := im.c (i := 2) rfl
      have m3 := im.c (i := 3) rfl
      have m4 := im.c (i := 4) rfl
      have m5 := im.c (i := 5) rfl
      have m6 := im.c (i := 6) rfl
      have m7 := im.c (i := 7) rfl
      have m8 := im.c (i := 8) rfl
      clear im
      exact o_val (v := .agg #[.string ⟨#[87]⟩, .int .i64 0, .int .i64 0, .int .i64 5507, .int .i64 0, .int .i64 0, .int .i64 0, .int .i64 0, .slice none 0 0]) (w' := w9) (by generalize (oF 63 T).eval = rr at *; simp [execOp, go_sem, e0, m0, m1, m2, m3, m4, m5, m6, m7, m8]) rfl (fun _ => rfl) (Kx.refl _ _)
    · intro T w9 hG hD hO Q
      have d0 := hD.1
      have d1 := hD.2.1
      have e0 : (oF 63 T).eval (.func 54) = .func (.func 54) #[] #[] := rfl
      have G1 : true = true → T 57 = .agg #[.string ⟨#[87]⟩, .int .i64 0, .int .i64 0, .int .i64 5507, .int .i64 0, .int .i64 0, .int .i64 0, .int .i64 0, .slice none 0 0] := d0
      refine og_some (b := true) (c := true) rfl (show T 50 = _ from d1) (fun hc => ?_) (fun hc h => absurd h hc)
      have e1 : (oF 63 T).eval (.tmp 57) = .agg #[.string ⟨#[87]⟩, .int .i64 0, .int .i64 0, .int .i64 5507, .int .i64 0, .int .i64 0, .int .i64 0, .int .i64 0, .slice none 0 0] := (oF_eval (by decide)).trans (G1 hc)
      refine o_call (oc1 (enters_of Tryd.func54 (by kernel_rfl) rfl) rfl rfl e1) rfl ?_
      exact (Ca.o aw_halfW1 w9).mono fun r W' h => ⟨_, h.1, (fun _ => rfl), h.2.kx⟩
    · intro T w9 hG hD hO Q
      have d0 := hD.1
      have d1 := hD.2.1
      have d2 := hD.2.2.1
      have G0 : true = true → T 56 = .int .i64 506 := d0
      have G1 : true = true → T 58 = .int .i64 0 := d1
      refine og_some (b := true) (c := true) rfl (show T 50 = _ from d2) (fun hc => ?_) (fun hc h => absurd h hc)
      have e0 : (oF 63 T).eval (.tmp 56) = .int .i64 506 := (oF_eval (by decide)).trans (G0 hc)
      have e1 : (oF 63 T).eval (.tmp 58) = .int .i64 0 := (oF_eval (by decide)).trans (G1 hc)
      exact o_val (v := .int .i64 506) (w' := w9) (by generalize (oF 63 T).eval = rr at *; simp [execOp, go_sem, e0, e1, (show IntKind.i64.wrap (506 : Int) = 506 by decide)]) rfl (fun _ => rfl) (Kx.refl _ _)
    · intro T w9 hG hD hO Q
      have d0 := hD.1
      have d1 := hD.2.1
      have d2 := hD.2.2.1
      have G0 : true = true → T 54 = .int .i64 507 := d0
      have G1 : true = true → T 59 = .int .i64 506 := d1
      refine og_some (b := true) (c := true) rfl (show T 50 = _ from d2) (fun hc => ?_) (fun hc h => absurd h hc)
      have e0 : (oF 63 T).eval (.tmp 54) = .int .i64 507 := (oF_eval (by decide)).trans (G0 hc)
      have e1 : (oF 63 T).eval (.tmp 59) = .int .i64 506 := (oF_eval (by decide)).trans (G1 hc)
      exact o_val (v := .bool (decide (506 < 507))) (w' := w9) (by generalize (oF 63 T).eval = rr at *; simp [execOp, go_sem, e0, e1]) rfl (fun _ => rfl) (Kx.refl _ _)
    · intro T w9 hG hD hO Q
      have d0 := hD.1
      have d1 := hD.2.1
      have e0 : (oF 63 T).eval (.tmp 50) = .bool true := (oF_eval (by decide)).trans (show T 50 = _ from d0)
      have G1 : true = true → T 60 = .bool (decide (506 < 507)) := d1
      have e1 : (oF 63 T).eval (.tmp 60) = T 60 := oF_eval (by decide)
      have e2 : (oF 63 T).eval (.const (.bool false)) = .bool false := rfl
      refine og_none rfl ?_
      rw [G1 rfl] at e1
      exact o_val (v := .bool (decide (506 < 507))) (w' := w9) (by generalize (oF 63 T).eval = rr at *; simp [execOp, go_sem, e0, e1]) rfl rfl (Kx.refl _ _)
  case fin =>
    intro T w7 hout hval hG
    have s7 := hG.2.2.2.1
    simp only [World.size_drew] at s7
    rw [show oF 63 T = (⟨#[T 0, T 1, T 2, T 3, T 4, T 5, T 6, T 7, T 8, T 9, T 10, T 11, T 12, T 13, T 14, T 15, T 16, T 17, T 18, T 19, T 20, T 21, T 22, T 23, T 24, T 25, T 26, T 27, T 28, T 29, T 30, T 31, T 32, T 33, T 34, T 35, T 36, T 37, T 38, T 39, T 40, T 41, T 42, T 43, T 44, T 45, T 46, T 47, T 48, T 49, T 50, T 51, T 52, T 53, T 54, T 55, T 56, T 57, T 58, T 59, T 60, T 61, T 62], []⟩ : Act) from oF_list 63 T]
    rw [show T 0 = .agg #[.string ⟨#[72]⟩, .int .i64 1, .int .i64 2, .int .i64 5000, .int .i64 0, .int .i64 0, .int .i64 1000, .int .i64 1011, .slice none 0 0] from hout 0 rfl]
    rw [show T 1 = .agg #[.string ⟨#[87]⟩, .int .i64 0, .int .i64 0, .int .i64 5507, .int .i64 0, .int .i64 0, .int .i64 0, .int .i64 0, .slice none 0 0] from hout 1 rfl]
    rw [show T 2 = .pointer (some ⟨w.heap.size, 0, none⟩) from hout 2 rfl]
    rw [show T 3 = .pointer (some ⟨w.heap.size + 1, 0, none⟩) from hout 3 rfl]
    rw [show T 4 = .bool false from hout 4 rfl]
    rw [show T 5 = .int .i64 0 from hout 5 rfl]
    rw [show T 6 = .int .i64 0 from hout 6 rfl]
    rw [show T 7 = .func (.func 76) #[] #[.pointer (some ⟨g3, 0, none⟩)] from hout 7 rfl]
    rw [show T 9 = .func (.func 76) #[] #[.pointer (some ⟨g4, 0, none⟩)] from hout 9 rfl]
    rw [show T 11 = .int .i64 0 from hout 11 rfl]
    rw [show T 13 = .agg #[.string ⟨#[72]⟩, .int .i64 1, .int .i64 2, .int .i64 5000, .int .i64 0, .int .i64 0, .int .i64 1000, .int .i64 1011, .slice none 0 0] from hout 13 rfl]
    rw [show T 14 = .agg #[.string ⟨#[87]⟩, .int .i64 0, .int .i64 0, .int .i64 5507, .int .i64 0, .int .i64 0, .int .i64 0, .int .i64 0, .slice none 0 0] from hout 14 rfl]
    rw [show T 15 = .slice (some ⟨w.heap.size + 1 + 1, 0, none⟩) 2 2 from hout 15 rfl]
    rw [show T 16 = .func (.func F1) #[] cp1 from hout 16 rfl]
    rw [show T 17 = .slice (some ⟨w1.heap.size, 0, none⟩) 1 1 from hout 17 rfl]
    rw [show T 18 = .int .i64 0 from hout 18 rfl]
    rw [show T 19 = .int .i64 0 from hout 19 rfl]
    rw [show T 20 = .bool false from hout 20 rfl]
    rw [show T 22 = .tuple #[.func (.func 76) #[] #[.pointer (some ⟨g3, 0, none⟩)], .func (.func 77) #[] #[.pointer (some ⟨g3, 0, none⟩)]] from hout 22 rfl]
    rw [show T 23 = .pointer (some ⟨w.heap.size, 3, none⟩) from hout 23 rfl]
    rw [show T 24 = .tuple #[.func (.func 76) #[] #[.pointer (some ⟨g3, 0, none⟩)], .func (.func 77) #[] #[.pointer (some ⟨g3, 0, none⟩)]] from hout 24 rfl]
    rw [show T 25 = .func (.func 76) #[] #[.pointer (some ⟨g3, 0, none⟩)] from hout 25 rfl]
    rw [show T 26 = .func (.func 77) #[] #[.pointer (some ⟨g3, 0, none⟩)] from hout 26 rfl]
    rw [show T 27 = .tuple #[.func (.func 76) #[] #[.pointer (some ⟨g4, 0, none⟩)], .func (.func 77) #[] #[.pointer (some ⟨g4, 0, none⟩)]] from hout 27 rfl]
    rw [show T 28 = .pointer (some ⟨w.heap.size + 1, 3, none⟩) from hout 28 rfl]
    rw [show T 29 = .tuple #[.func (.func 76) #[] #[.pointer (some ⟨g4, 0, none⟩)], .func (.func 77) #[] #[.pointer (some ⟨g4, 0, none⟩)]] from hout 29 rfl]
    rw [show T 30 = .func (.func 76) #[] #[.pointer (some ⟨g4, 0, none⟩)] from hout 30 rfl]
    rw [show T 31 = .func (.func 77) #[] #[.pointer (some ⟨g4, 0, none⟩)] from hout 31 rfl]
    rw [show T 32 = .int .i64 0 from hout 32 rfl]
    rw [show T 33 = .bool true from hout 33 rfl]
    rw [show T 34 = .int .i64 0 from hout 34 rfl]
    rw [show T 35 = .func (.func 76) #[] #[.pointer (some ⟨g3, 0, none⟩)] from hout 35 rfl]
    rw [show T 36 = .int .i64 0 from hout 36 rfl]
    rw [show T 37 = .int .i64 5000 from hout 37 rfl]
    rw [show T 38 = .func (.func 76) #[] #[.pointer (some ⟨g4, 0, none⟩)] from hout 38 rfl]
    rw [show T 39 = .int .i64 0 from hout 39 rfl]
    rw [show T 40 = .int .i64 5507 from hout 40 rfl]
    rw [show T 41 = .int .i64 (-507) from hout 41 rfl]
    rw [show T 61 = .bool (decide (506 < 507)) from hval 19 (by decide : 19 < 20)]
    replace b1 := b1.kx hG (by simp)
    replace b2 := b2.kx hG (by simp)
    replace b3 := b3.kx hG (by simp)
    replace b4 := b4.kx hG (by simp)
    replace p3 := p3.kx hG (by simp)
    replace p4 := p4.kx hG (by simp)
    replace kx := (show Kb _ _ from kx.drew).trans hG.nil
    replace gl := gl0.out.kb kx
    clear hout hval hG
    go_wp2
    go_ret2
    exact ⟨rfl, kx⟩
set_option maxRecDepth 100000 in
theorem aw_sepW1_any     : Cg 22 #[.agg #[.string ⟨#[72]⟩, .int .i64 1, .int .i64 2, .int .i64 5000, .int .i64 0, .int .i64 0, .int .i64 1000, .int .i64 1011, .slice none 0 0], .agg #[.string ⟨#[87]⟩, .int .i64 0, .int .i64 0, .int .i64 5507, .int .i64 0, .int .i64 0, .int .i64 0, .int .i64 0, .slice none 0 0]] (.tuple #[.bool true, .int .i64 0]) := Lib.hid fun w gl => by
  exact aw_sepW1_1  w gl
set_option maxRecDepth 100000 in
set_option maxHeartbeats 1000000 in
theorem aw_sepW0_1 (w : World) (gl : Gl w)  : Calls Tryd.prog 22 #[.agg #[.string ⟨#[72]⟩, .int .i64 1, .int .i64 2, .int .i64 5000, .int .i64 0, .int .i64 0, .int .i64 1000, .int .i64 1011, .slice none 0 0], .agg #[.string ⟨#[87]⟩, .int .i64 0, .int .i64 0, .int .i64 5506, .int .i64 0, .int .i64 0, .int .i64 0, .int .i64 0, .slice none 0 0]] w fun r W' => r = .returned (.tuple #[.bool false, .int .i64 0]) ∧ Kb w W' := by
  have kx := Kb.refl w
  have gl0 := Lib.hid gl
  have j1 := ((Is.made w #[.string ⟨#[72]⟩, .int .i64 1, .int .i64 2, .int .i64 5000, .int .i64 0, .int .i64 0, .int .i64 1000, .int .i64 1011, .slice none 0 0] 28).alloc (.cells #[.string ⟨#[87]⟩, .int .i64 0, .int .i64 0, .int .i64 5506, .int .i64 0, .int .i64 0, .int .i64 0, .int .i64 0, .slice none 0 0] 28 (0, 0)))
  have f2 := j1.c (i := 0) rfl
  have f3 := j1.c (i := 1) rfl
  have f4 := j1.c (i := 2) rfl
  have f5 := j1.c (i := 3) rfl
  have f6 := j1.c (i := 4) rfl
  have f7 := j1.c (i := 5) rfl
  have f8 := j1.c (i := 6) rfl
  have f9 := j1.c (i := 7) rfl
  have f10 := j1.c (i := 8) rfl
  have j11 := (Is.made (w.alloc (.cells #[.string ⟨#[72]⟩, .int .i64 1, .int .i64 2, .int .i64 5000, .int .i64 0, .int .i64 0, .int .i64 1000, .int .i64 1011, .slice none 0 0] 28 (0, 0))) #[.string ⟨#[87]⟩, .int .i64 0, .int .i64 0, .int .i64 5506, .int .i64 0, .int .i64 0, .int .i64 0, .int .i64 0, .slice none 0 0] 28)
  simp only [World.size_alloc] at j11
  have f12 := j11.c (i := 0) rfl
  have f13 := j11.c (i := 1) rfl
  have f14 := j11.c (i := 2) rfl
  have f15 := j11.c (i := 3) rfl
  have f16 := j11.c (i := 4) rfl
  have f17 := j11.c (i := 5) rfl
  have f18 := j11.c (i := 6) rfl
  have f19 := j11.c (i := 7) rfl
  have f20 := j11.c (i := 8) rfl
  go_enter Tryd.func22, Tryd.ntmps22
  go_wp2_with fail
  clear f2 f3 f4 f5 f6 f7 f8 f9 f10 f12 f13 f14 f15 f16 f17 f18 f19 f20
  have b1 := Is.made w #[.string ⟨#[72]⟩, .int .i64 1, .int .i64 2, .int .i64 5000, .int .i64 0, .int .i64 0, .int .i64 1000, .int .i64 1011, .slice none 0 0] 28
  replace b1 := ((b1.alloc (.cells #[.string ⟨#[87]⟩, .int .i64 0, .int .i64 0, .int .i64 5506, .int .i64 0, .int .i64 0, .int .i64 0, .int .i64 0, .slice none 0 0] 28 (0, 0))).alloc (.cells #[.string ⟨#[72]⟩, .int .i64 1, .int .i64 2, .int .i64 5000, .int .i64 0, .int .i64 0, .int .i64 1000, .int .i64 1011, .slice none 0 0, .string ⟨#[87]⟩, .int .i64 0, .int .i64 0, .int .i64 5506, .int .i64 0, .int .i64 0, .int .i64 0, .int .i64 0, .slice none 0 0] 28 (0, 0)))
  have b2 := Is.made (w.alloc (.cells #[.string ⟨#[72]⟩, .int .i64 1, .int .i64 2, .int .i64 5000, .int .i64 0, .int .i64 0, .int .i64 1000, .int .i64 1011, .slice none 0 0] 28 (0, 0))) #[.string ⟨#[87]⟩, .int .i64 0, .int .i64 0, .int .i64 5506, .int .i64 0, .int .i64 0, .int .i64 0, .int .i64 0, .slice none 0 0] 28
  simp only [World.size_alloc] at b2
  replace b2 := (b2.alloc (.cells #[.string ⟨#[72]⟩, .int .i64 1, .int .i64 2, .int .i64 5000, .int .i64 0, .int .i64 0, .int .i64 1000, .int .i64 1011, .slice none 0 0, .string ⟨#[87]⟩, .int .i64 0, .int .i64 0, .int .i64 5506, .int .i64 0, .int .i64 0, .int .i64 0, .int .i64 0, .slice none 0 0] 28 (0, 0)))
  have b3 := Is.made ((w.alloc (.cells #[.string ⟨#[72]⟩, .int .i64 1, .int .i64 2, .int .i64 5000, .int .i64 0, .int .i64 0, .int .i64 1000, .int .i64 1011, .slice none 0 0] 28 (0, 0))).alloc (.cells #[.string ⟨#[87]⟩, .int .i64 0, .int .i64 0, .int .i64 5506, .int .i64 0, .int .i64 0, .int .i64 0, .int .i64 0, .slice none 0 0] 28 (0, 0))) #[.string ⟨#[72]⟩, .int .i64 1, .int .i64 2, .int .i64 5000, .int .i64 0, .int .i64 0, .int .i64 1000, .int .i64 1011, .slice none 0 0, .string ⟨#[87]⟩, .int .i64 0, .int .i64 0, .int .i64 5506, .int .i64 0, .int .i64 0, .int .i64 0, .int .i64 0, .slice none 0 0] 28
  simp only [World.size_alloc] at b3
  replace kx := ((kx.alloc (.cells #[.string ⟨#[72]⟩, .int .i64 1, .int .i64 2, .int .i64 5000, .int .i64 0, .int .i64 0, .int .i64 1000, .int .i64 1011, .slice none 0 0] 28 (0, 0))).alloc (.cells #[.string ⟨#[87]⟩, .int .i64 0, .int .i64 0, .int .i64 5506, .int .i64 0, .int .i64 0, .int .i64 0, .int .i64 0, .slice none 0 0] 28 (0, 0))).alloc (.cells #[.string ⟨#[72]⟩, .int .i64 1, .int .i64 2, .int .i64 5000, .int .i64 0, .int .i64 0, .int .i64 1000, .int .i64 1011, .slice none 0 0, .string ⟨#[87]⟩, .int .i64 0, .int .i64 0, .int .i64 5506, .int .i64 0, .int .i64 0, .int .i64 0, .int .i64 0, .slice none 0 0] 28 (0, 0))
  clear j1 j11
  replace gl := gl0.out.kb kx
  have cc1 := cEach_Ftr [] 18 (⟨#[]⟩, 0, 0, 0, 0, 0, 0, 0, none, 0, 0) [(⟨#[72]⟩, 1, 2, 5000, 0, 0, 1000, 1011, none, 0, 0), (⟨#[87]⟩, 0, 0, 5506, 0, 0, 0, 0, none, 0, 0)] [0, 0] (.slice (some ⟨w.heap.size + 1 + 1, 0, none⟩) 2 2) (((w.alloc (.cells #[.string ⟨#[72]⟩, .int .i64 1, .int .i64 2, .int .i64 5000, .int .i64 0, .int .i64 0, .int .i64 1000, .int .i64 1011, .slice none 0 0] 28 (0, 0))).alloc (.cells #[.string ⟨#[87]⟩, .int .i64 0, .int .i64 0, .int .i64 5506, .int .i64 0, .int .i64 0, .int .i64 0, .int .i64 0, .slice none 0 0] 28 (0, 0))).alloc (.cells #[.string ⟨#[72]⟩, .int .i64 1, .int .i64 2, .int .i64 5000, .int .i64 0, .int .i64 0, .int .i64 1000, .int .i64 1011, .slice none 0 0, .string ⟨#[87]⟩, .int .i64 0, .int .i64 0, .int .i64 5506, .int .i64 0, .int .i64 0, .int .i64 0, .int .i64 0, .slice none 0 0] 28 (0, 0))) (fun x hx => by simp at hx) (by simp) rfl (sl_is b3 (by simp) rfl (rows_ok rfl rfl)) (enters_of Tryd.func18 (by kernel_rfl) rfl) (each_ok ⟨aw_checkH, aw_checkW0, trivial⟩ rfl)
  (with_reducible refine cc1.mono ?_)
  rintro r w1 ⟨_, rfl, ⟨F1, cp1, rfl, he1, hk1⟩, k1⟩
  clear cc1
  replace gl := gl.kb k1
  replace b1 := b1.kb k1
  replace b2 := b2.kb k1
  replace b3 := b3.kb k1
  replace kx := kx.trans k1
  have s1 := k1.size
  simp only [World.size_alloc] at s1
  clear k1
  have c1 : Ck [] (.func (.func F1) #[] cp1) (firstE [0, 0]) w1 := ⟨F1, cp1, rfl, he1, hk1⟩
  clear he1 hk1
  go_wp2_with fail
  replace b1 := (b1.alloc (.cells #[.func (.func F1) #[] cp1] 69 (0, 0)))
  replace b2 := (b2.alloc (.cells #[.func (.func F1) #[] cp1] 69 (0, 0)))
  replace b3 := (b3.alloc (.cells #[.func (.func F1) #[] cp1] 69 (0, 0)))
  have b4 := Is.made w1 #[.func (.func F1) #[] cp1] 69
  replace kx := kx.alloc (.cells #[.func (.func F1) #[] cp1] 69 (0, 0))
  replace gl := gl0.out.kb kx
  replace c1 := (c1.kx ((Kb.refl _).alloc (.cells #[.func (.func F1) #[] cp1] 69 (0, 0))).kx)
  have cc2 := (show Calls Tryd.prog 37 _ _ (fun r W' => r = .returned (.int .i64 0) ∧ Kb _ W') from cFirst [] [firstE [0, 0]] (.slice (some ⟨w1.heap.size, 0, none⟩) 1 1) (w1.alloc (.cells #[.func (.func F1) #[] cp1] 69 (0, 0))) ⟨[.func (.func F1) #[] cp1], rfl, sl_is b4 (by simp) rfl (rows_ok rfl rfl), cks_ok ⟨c1, trivial⟩ rfl⟩ (by simp))
  (with_reducible refine cc2.mono ?_)
  rintro r w2 ⟨rfl, k2⟩
  clear cc2
  replace gl := gl.kb k2
  replace b1 := b1.kb k2
  replace b2 := b2.kb k2
  replace b3 := b3.kb k2
  replace b4 := b4.kb k2
  replace c1 := c1.kx k2.kx
  replace kx := kx.trans k2
  have s2 := k2.size
  simp only [World.size_alloc] at s2
  clear k2
  clear c1
  go_wp2_with fail
  (with_reducible refine (cCoord3_1 w.heap.size _).mono ?_)
  rintro r w3 ⟨g3, rfl, p3, i3, k3⟩
  replace gl := gl.kb k3
  replace b1 := b1.kb k3
  replace b2 := b2.kb k3
  replace b3 := b3.kb k3
  replace b4 := b4.kb k3
  replace kx := kx.trans k3
  have s3 := k3.size
  skip
  clear k3
  go_wp2_with fail
  (with_reducible refine (cCoord3_1 (w.heap.size + 1) _).mono ?_)
  rintro r w4 ⟨g4, rfl, p4, i4, k4⟩
  replace gl := gl.kb k4
  replace b1 := b1.kb k4
  replace b2 := b2.kb k4
  replace b3 := b3.kb k4
  replace b4 := b4.kb k4
  replace p3 := p3.kb k4
  replace kx := kx.trans k4
  have s4 := k4.size
  skip
  clear k4
  go_wp2_with fail
  refine wp_loop_rounds 4 ?_
  rw [rounds_succ]
  have en1 := (enters_of Tryd.func76 (by kernel_rfl) rfl : ∀ args W, (callFunc 76 args).run Tryd.prog W = .ok (.enter 76 args) W)
  go_wp2_with fail
  (with_reducible refine (cRead_0 _ _ _ _ _ _ p3 (b1.c (i := 3) rfl)).mono ?_)
  rintro r w5 ⟨rfl, k5⟩
  replace gl := gl.kb k5
  replace b1 := b1.kb k5
  replace b2 := b2.kb k5
  replace b3 := b3.kb k5
  replace b4 := b4.kb k5
  replace p3 := p3.kb k5
  replace p4 := p4.kb k5
  replace kx := kx.trans k5
  have s5 := k5.size
  skip
  clear k5
  have en2 := (enters_of Tryd.func76 (by kernel_rfl) rfl : ∀ args W, (callFunc 76 args).run Tryd.prog W = .ok (.enter 76 args) W)
  go_wp2_with fail
  (with_reducible refine (cRead_0 _ _ _ _ _ _ p4 (b2.c (i := 3) rfl)).mono ?_)
  rintro r w6 ⟨rfl, k6⟩
  replace gl := gl.kb k6
  replace b1 := b1.kb k6
  replace b2 := b2.kb k6
  replace b3 := b3.kb k6
  replace b4 := b4.kb k6
  replace p3 := p3.kb k6
  replace p4 := p4.kb k6
  replace kx := kx.trans k6
  have s6 := k6.size
  skip
  clear k6
  go_wp2_with fail
  replace gl := gl.drew
  replace b1 := b1.drew
  replace b2 := b2.drew
  replace b3 := b3.drew
  replace b4 := b4.drew
  replace p3 := p3.drew
  replace p4 := p4.drew
  rw [oF_lit]
  refine o_law (⟨63, [some 42, some 43, some 44, some 45, some 46, some 47, some 48, some 49, some 50, some 51, some 52, some 53, some 54, some 55, some 56, some 57, some 58, some 59, some 60, some 61], [42, 43, 44, 45, 46, 47, 48, 49, 50, 51, 52, 53, 54, 55, 56, 57, 58, 59, 60, 61], [[], [], [0, 1], [2], [3], [3], [4, 5, 3], [3, 6], [7], [8], [8], [10, 8], [9, 11, 8], [8], [13, 8], [8], [15, 8], [14, 16, 8], [12, 17, 8], [8, 18]], [[2], [11], [], [], [3], [11], [], [], [], [12], [12], [], [], [2], [], [3], [], [], [], []]⟩ : OT) (Kx []) (RL [fun vv _ => vv = .agg #[.string ⟨#[72]⟩, .int .i64 1, .int .i64 2, .int .i64 5000, .int .i64 0, .int .i64 0, .int .i64 1000, .int .i64 1011, .slice none 0 0], fun vv _ => vv = .int .i64 0, fun vv _ => vv = .bool true, fun vv _ => vv = .bool true, fun vv _ => true = true → vv = .agg #[.string ⟨#[87]⟩, .int .i64 0, .int .i64 0, .int .i64 5506, .int .i64 0, .int .i64 0, .int .i64 0, .int .i64 0, .slice none 0 0], fun vv _ => true = true → vv = .int .i64 0, fun vv _ => true = true → vv = .bool true, fun vv _ => vv = .bool true, fun vv _ => vv = .bool true, fun vv _ => true = true → vv = .int .i64 (-506), fun vv _ => true = true → vv = .int .i64 (-506), fun vv _ => true = true → vv = .int .i64 506, fun vv _ => true = true → vv = .int .i64 506, fun vv _ => true = true → vv = .agg #[.string ⟨#[72]⟩, .int .i64 1, .int .i64 2, .int .i64 5000, .int .i64 0, .int .i64 0, .int .i64 1000, .int .i64 1011, .slice none 0 0], fun vv _ => true = true → vv = .int .i64 506, fun vv _ => true = true → vv = .agg #[.string ⟨#[87]⟩, .int .i64 0, .int .i64 0, .int .i64 5506, .int .i64 0, .int .i64 0, .int .i64 0, .int .i64 0, .slice none 0 0], fun vv _ => true = true → vv = .int .i64 0, fun vv _ => true = true → vv = .int .i64 506, fun vv _ => true = true → vv = .bool (decide (506 < 506)), fun vv _ => vv = .bool (decide (506 < 506))]) (by kernel_rfl) ?hk ?hR ?fin
  case hk => kernel_rfl
  case hR =>
    refine ⟨fun _ => (Kx.refl _ _), fun _ _ _ => Kx.trans, rl_stab ⟨fun _ _ _ _ h => h, fun _ _ _ _ h => h, fun _ _ _ _ h => h, fun _ _ _ _ h => h, fun _ _ _ _ h => h, fun _ _ _ _ h => h, fun _ _ _ _ h => h, fun _ _ _ _ h => h, fun _ _ _ _ h => h, fun _ _ _ _ h => h, fun _ _ _ _ h => h, fun _ _ _ _ h => h, fun _ _ _ _ h => h, fun _ _ _ _ h => h, fun _ _ _ _ h => h, fun _ _ _ _ h => h, fun _ _ _ _ h => h, fun _ _ _ _ h => h, fun _ _ _ _ h => h, fun _ _ _ _ h => h, trivial⟩, ?_⟩
    refine allO_cons ?_ (allO_cons ?_ (allO_cons ?_ (allO_cons ?_ (allO_cons ?_ (allO_cons ?_ (allO_cons ?_ (allO_cons ?_ (allO_cons ?_ (allO_cons ?_ (allO_cons ?_ (allO_cons ?_ (allO_cons ?_ (allO_cons ?_ (allO_cons ?_ (allO_cons ?_ (allO_cons ?_ (allO_cons ?_ (allO_cons ?_ (allO_cons ?_ (allO_nil))))))))))))))))))))
    · intro T w9 hG hD hO Q
      have q0 := hO.1
      have e0 : (oF 63 T).eval (.tmp 2) = .pointer (some ⟨w.heap.size, 0, none⟩) := (oF_eval (by decide)).trans (show T 2 = _ from q0)
      refine og_none rfl ?_
      have im := b1.kx hG (by simp)
      have m0 := im.c (i := 0) rfl
      have m1 := im.c (i := 1) rfl
      have m2 := im.c (i := 2) rfl
      have m3 := im.c (i := 3) rfl
      have m4 := im.c (i := 4) rfl
      have m5 := im.c (i := 5) rfl
      have m6 := im.c (i := 6) rfl
      have m7 := im.c (i := 7) rfl
      have m8 := im.c (i := 8) rfl
      clear im
      exact o_val (v := .agg #[.string ⟨#[72]⟩, .int .i64 1, .int .i64 2, .int .i64 5000, .int .i64 0, .int .i64 0, .int .i64 1000, .int .i64 1011, .slice none 0 0]) (w' := w9) (by generalize (oF 63 T).eval = rr at *; simp [execOp, go_sem, e0, m0, m1, m2, m3, m4, m5, m6, m7, m8]) rfl rfl (Kx.refl _ _)
    · intro T w9 hG hD hO Q
      have q0 := hO.1
      have e0 : (oF 63 T).eval (.tmp 11) = .int .i64 0 := (oF_eval (by decide)).trans (show T 11 = _ from q0)
      refine og_none rfl ?_
      exact o_val (v := .int .i64 0) (w' := w9) (by generalize (oF 63 T).eval = rr at *; simp [execOp, go_sem, e0]) rfl rfl (Kx.refl _ _)
    · intro T w9 hG hD hO Q
      have d0 := hD.1
      have d1 := hD.2.1
      have e0 : (oF 63 T).eval (.func 51) = .func (.func 51) #[] #[] := rfl
      have e1 : (oF 63 T).eval (.tmp 42) = .agg #[.string ⟨#[72]⟩, .int .i64 1, .int .i64 2, .int .i64 5000, .int .i64 0, .int .i64 0, .int .i64 1000, .int .i64 1011, .slice none 0 0] := (oF_eval (by decide)).trans (show T 42 = _ from d0)
      have e2 : (oF 63 T).eval (.tmp 43) = .int .i64 0 := (oF_eval (by decide)).trans (show T 43 = _ from d1)
      refine og_none rfl ?_
      refine o_call (oc2 (enters_of Tryd.func51 (by kernel_rfl) rfl) rfl rfl e1 e2) rfl ?_
      exact (Cg.out aw_bdH0 w9 (gl.kx hG (by simp))).mono fun r W' h => ⟨_, h.1, rfl, h.2.kx⟩
    · intro T w9 hG hD hO Q
      have d0 := hD.1
      have e0 : (oF 63 T).eval (.tmp 44) = .bool true := (oF_eval (by decide)).trans (show T 44 = _ from d0)
      refine og_none rfl ?_
      exact o_val (v := .bool true) (w' := w9) (by generalize (oF 63 T).eval = rr at *; simp [execOp, go_sem, e0]) rfl rfl (Kx.refl _ _)
    · intro T w9 hG hD hO Q
      have d0 := hD.1
      have q0 := hO.1
      have e0 : (oF 63 T).eval (.tmp 3) = .pointer (some ⟨w.heap.size + 1, 0, none⟩) := (oF_eval (by decide)).trans (show T 3 = _ from q0)
      refine og_some (b := true) (c := true) rfl (show T 45 = _ from d0) (fun hc => ?_) (fun hc h => absurd h hc)
      have im := b2.kx hG (by simp)
      have m0 := im.c (i := 0) rfl
      have m1 := im.c (i := 1) rfl
      have m2 := im.c (i := 2) rfl
      have m3 := im.c (i := 3) rfl
      have m4 := im.c (i := 4) rfl
      have m5 := im.c (i := 5) rfl
      have m6 := im.c (i := 6) rfl
      have m7 := im.c (i := 7) rfl
      have m8 := im.c (i := 8) rfl
      clear im
      exact o_val (v := .agg #[.string ⟨#[87]⟩, .int .i64 0, .int .i64 0, .int .i64 5506, .int .i64 0, .int .i64 0, .int .i64 0, .int .i64 0, .slice none 0 0]) (w' := w9) (by generalize (oF 63 T).eval = rr at *; simp [execOp, go_sem, e0, m0, m1, m2, m3, m4, m5, m6, m7, m8]) rfl (fun _ => rfl) (Kx.refl _ _)
    · intro T w9 hG hD hO Q
      have d0 := hD.1
      have q0 := hO.1
      have e0 : (oF 63 T).eval (.tmp 11) = .int .i64 0 := (oF_eval (by decide)).trans (show T 11 = _ from q0)
      refine og_some (b := true) (c := true) rfl (show T 45 = _ from d0) (fun hc => ?_) (fun hc h => absurd h hc)
      exact o_val (v := .int .i64 0) (w' := w9) (by generalize (oF 63 T).eval = rr at *; simp [execOp, go_sem, e0]) rfl (fun _ => rfl) (Kx.refl _ _)
    · intro T w9 hG hD hO Q
      have d0 := hD.1
      have d1 := hD.2.1
      have d2 := hD.2.2.1
      have e0 : (oF 63 T).eval (.func 51) = .func (.func 51) #[] #[] := rfl
      have G1 : true = true → T 46 = .agg #[.string ⟨#[87]⟩, .int .i64 0, .int .i64 0, .int .i64 5506, .int .i64 0, .int .i64 0, .int .i64 0, .int .i64 0, .slice none 0 0] := d0
      have G2 : true = true → T 47 = .int .i64 0 := d1
      refine og_some (b := true) (c := true) rfl (show T 45 = _ from d2) (fun hc => ?_) (fun hc h => absurd h hc)
      have e1 : (oF 63 T).eval (.tmp 46) = .agg #[.string ⟨#[87]⟩, .int .i64 0, .int .i64 0, .int .i64 5506, .int .i64 0, .int .i64 0, .int .i64 0, .int .i64 0, .slice none 0 0] := (oF_eval (by decide)).trans (G1 hc)
      have e2 : (oF 63 T).eval (.tmp 47) = .int .i64 0 := (oF_eval (by decide)).trans (G2 hc)
      refine o_call (oc2 (enters_of Tryd.func51 (by kernel_rfl) rfl) rfl rfl e1 e2) rfl ?_
      exact (Cg.out aw_bdW00 w9 (gl.kx hG (by simp))).mono fun r W' h => ⟨_, h.1, (fun _ => rfl), h.2.kx⟩
    · intro T w9 hG hD hO Q
      have d0 := hD.1
      have d1 := hD.2.1
      have e0 : (oF 63 T).eval (.tmp 45) = .bool true := (oF_eval (by decide)).trans (show T 45 = _ from d0)
      have G1 : true = true → T 48 = .bool true := d1
      have e1 : (oF 63 T).eval (.tmp 48) = T 48 := oF_eval (by decide)
      have e2 : (oF 63 T).eval (.const (.bool false)) = .bool false := rfl
      refine og_none rfl ?_
      rw [G1 rfl] at e1
      exact o_val (v := .bool true) (w' := w9) (by generalize (oF 63 T).eval = rr at *; simp [execOp, go_sem, e0, e1]) rfl rfl (Kx.refl _ _)
    · intro T w9 hG hD hO Q
      have d0 := hD.1
      have e0 : (oF 63 T).eval (.tmp 49) = .bool true := (oF_eval (by decide)).trans (show T 49 = _ from d0)
      refine og_none rfl ?_
      exact o_val (v := .bool true) (w' := w9) (by generalize (oF 63 T).eval = rr at *; simp [execOp, go_sem, e0]) rfl rfl (Kx.refl _ _)
    · intro T w9 hG hD hO Q
      have d0 := hD.1
      have q0 := hO.1
      have e0 : (oF 63 T).eval (.tmp 12) = .int .i64 (-506) := (oF_eval (by decide)).trans (show T 12 = _ from q0)
      refine og_some (b := true) (c := true) rfl (show T 50 = _ from d0) (fun hc => ?_) (fun hc h => absurd h hc)
      exact o_val (v := .int .i64 (-506)) (w' := w9) (by generalize (oF 63 T).eval = rr at *; simp [execOp, go_sem, e0]) rfl (fun _ => rfl) (Kx.refl _ _)
    · intro T w9 hG hD hO Q
      have d0 := hD.1
      have q0 := hO.1
      have e0 : (oF 63 T).eval (.tmp 12) = .int .i64 (-506) := (oF_eval (by decide)).trans (show T 12 = _ from q0)
      refine og_some (b := true) (c := true) rfl (show T 50 = _ from d0) (fun hc => ?_) (fun hc h => absurd h hc)
      exact o_val (v := .int .i64 (-506)) (w' := w9) (by generalize (oF 63 T).eval = rr at *; simp [execOp, go_sem, e0]) rfl (fun _ => rfl) (Kx.refl _ _)
    · intro T w9 hG hD hO Q
      have d0 := hD.1
      have d1 := hD.2.1
      have G0 : true = true → T 52 = .int .i64 (-506) := d0
      refine og_some (b := true) (c := true) rfl (show T 50 = _ from d1) (fun hc => ?_) (fun hc h => absurd h hc)
      have e0 : (oF 63 T).eval (.tmp 52) = .int .i64 (-506) := (oF_eval (by decide)).trans (G0 hc)
      exact o_val (v := .int .i64 506) (w' := w9) (by generalize (oF 63 T).eval = rr at *; simp [execOp, go_sem, e0, (show IntKind.i64.wrap (506 : Int) = 506 by decide)]) rfl (fun _ => rfl) (Kx.refl _ _)
    · intro T w9 hG hD hO Q
      have d0 := hD.1
      have d1 := hD.2.1
      have d2 := hD.2.2.1
      have G0 : true = true → T 51 = .int .i64 (-506) := d0
      have G1 : true = true → T 53 = .int .i64 506 := d1
      refine og_some (b := true) (c := true) rfl (show T 50 = _ from d2) (fun hc => ?_) (fun hc h => absurd h hc)
      have e0 : (oF 63 T).eval (.tmp 51) = .int .i64 (-506) := (oF_eval (by decide)).trans (G0 hc)
      have e1 : (oF 63 T).eval (.tmp 53) = .int .i64 506 := (oF_eval (by decide)).trans (G1 hc)
      exact o_val (v := .int .i64 506) (w' := w9) (by generalize (oF 63 T).eval = rr at *; simp [go_sem, e0, e1, (show max ((-506) : Int) 506 = 506 by decide)]) rfl (fun _ => rfl) (Kx.refl _ _)
    · intro T w9 hG hD hO Q
      have d0 := hD.1
      have q0 := hO.1
      have e0 : (oF 63 T).eval (.tmp 2) = .pointer (some ⟨w.heap.size, 0, none⟩) := (oF_eval (by decide)).trans (show T 2 = _ from q0)
      refine og_some (b := true) (c := true) rfl (show T 50 = _ from d0) (fun hc => ?_) (fun hc h => absurd h hc)
      have im := b1.kx hG (by simp)
      have m0 := im.c (i := 0) rfl
      have m1 := im.c (i := 1) rfl
      have m2 := im.c (i := 2) rfl
      have m3 := im.c (i := 3) rfl
      have m4 := im.c (i := 4) rfl
      have m5 := im.c (i := 5) rfl
      have m6 := im.c (i := 6) rfl
      have m7 := im.c (i := 7) rfl
      have m8 := im.c (i := 8) rfl
      clear im
      exact o_val (v := .agg #[.string ⟨#[72]⟩, .int .i64 1, .int .i64 2, .int .i64 5000, .int .i64 0, .int .i64 0, .int .i64 1000, .int .i64 1011, .slice none 0 0]) (w' := w9) (by generalize (oF 63 T).eval = rr at *; simp [execOp, go_sem, e0, m0, m1, m2, m3, m4, m5, m6, m7, m8]) rfl (fun _ => rfl) (Kx.refl _ _)
    · intro T w9 hG hD hO Q
      have d0 := hD.1
      have d1 := hD.2.1
      have e0 : (oF 63 T).eval (.func 54) = .func (.func 54) #[] #[] := rfl
      have G1 : true = true → T 55 = .agg #[.string ⟨#[72]⟩, .int .i64 1, .int .i64 2, .int .i64 5000, .int .i64 0, .int .i64 0, .int .i64 1000, .int .i64 1011, .slice none 0 0] := d0
      refine og_some (b := true) (c := true) rfl (show T 50 = _ from d1) (fun hc => ?_) (fun hc h => absurd h hc)
      have e1 : (oF 63 T).eval (.tmp 55) = .agg #[.string ⟨#[72]⟩, .int .i64 1, .int .i64 2, .int .i64 5000, .int .i64 0, .int .i64 0, .int .i64 1000, .int .i64 1011, .slice none 0 0] := (oF_eval (by decide)).trans (G1 hc)
      refine o_call (oc1 (enters_of Tryd.func54 (by kernel_rfl) rfl) rfl rfl e1) rfl ?_
      exact (Ca.o aw_halfH w9).mono fun r W' h => ⟨_, h.1, (fun _ => rfl), h.2.kx⟩
    · intro T w9 hG hD hO Q
      have d0 := hD.1
      have q0 := hO.1
      have e0 : (oF 63 T).eval (.tmp 3) = .pointer (some ⟨w.heap.size + 1, 0, none⟩) := (oF_eval (by decide)).trans (show T 3 = _ from q0)
      refine og_some (b := true) (c := true) rfl (show T 50 = _ from d0) (fun hc => ?_) (fun hc h => absurd h hc)
      have im := b2.kx hG (by simp)
      have m0 := im.c (i := 0) rfl
      have m1 := im.c (i := 1) rfl
      have m2 := im.c (i := 2) rfl
      have m3 := im.c (i := 3) rfl
      have m4 := im.c (i := 4) rfl
      have m5 := im.c (i := 5) rfl
      have m6 := im.c (i := 6) rfl
      have m7 := im.c (i := 7) rfl
      have m8 := im.c (i := 8) rfl
      clear im
      exact o_val (v := .agg #[.string ⟨#[87]⟩, .int .i64 0, .int .i64 0, .int .i64 5506, .int .i64 0, .int .i64 0, .int .i64 0, .int .i64 0, .slice none 0 0]) (w' := w9) (by generalize (oF 63 T).eval = rr at *; simp [execOp, go_sem, e0, m0, m1, m2, m3, m4, m5, m6, m7, m8]) rfl (fun _ => rfl) (Kx.refl _ _)
    · intro T w9 hG hD hO Q
      have d0 := hD.1
      have d1 := hD.2.1
      have e0 : (oF 63 T).eval (.func 54) = .func (.func 54) #[] #[] := rfl
      have G1 : true = true → T 57 = .agg #[.string ⟨#[87]⟩, .int .i64 0, .int .i64 0, .int .i64 5506, .int .i64 0, .int .i64 0, .int .i64 0, .int .i64 0, .slice none 0 0] := d0
      refine og_some (b := true) (c := true) rfl (show T 50 = _ from d1) (fun hc => ?_) (fun hc h => absurd h hc)
      have e1 : (oF 63 T).eval (.tmp 57) = .agg #[.string ⟨#[87]⟩, .int .i64 0, .int .i64 0, .int .i64 5506, .int .i64 0, .int .i64 0, .int .i64 0, .int .i64 0, .slice none 0 0] := (oF_eval (by decide)).trans (G1 hc)
      refine o_call (oc1 (enters_of Tryd.func54 (by kernel_rfl) rfl) rfl rfl e1) rfl ?_
      exact (Ca.o aw_halfW0 w9).mono fun r W' h => ⟨_, h.1, (fun _ => rfl), h.2.kx⟩
    · intro T w9 hG hD hO Q
      have d0 := hD.1
      have d1 := hD.2.1
      have d2 := hD.2.2.1
      have G0 : true = true → T 56 = .int .i64 506 := d0
      have G1 : true = true → T 58 = .int .i64 0 := d1
      refine og_some (b := true) (c := true) rfl (show T 50 = _ from d2) (fun hc => ?_) (fun hc h => absurd h hc)
      have e0 : (oF 63 T).eval (.tmp 56) = .int .i64 506 := (oF_eval (by decide)).trans (G0 hc)
      have e1 : (oF 63 T).eval (.tmp 58) = .int .i64 0 := (oF_eval (by decide)).trans (G1 hc)
      exact o_val (v := .int .i64 506) (w' := w9) (by generalize (oF 63 T).eval = rr at *; simp [execOp, go_sem, e0, e1, (show IntKind.i64.wrap (506 : Int) = 506 by decide)]) rfl (fun _ => rfl) (Kx.refl _ _)
    · intro T w9 hG hD hO Q
      have d0 := hD.1
      have d1 := hD.2.1
      have d2 := hD.2.2.1
      have G0 : true = true → T 54 = .int .i64 506 := d0
      have G1 : true = true → T 59 = .int .i64 506 := d1
      refine og_some (b := true) (c := true) rfl (show T 50 = _ from d2) (fun hc => ?_) (fun hc h => absurd h hc)
      have e0 : (oF 63 T).eval (.tmp 54) = .int .i64 506 := (oF_eval (by decide)).trans (G0 hc)
      have e1 : (oF 63 T).eval (.tmp 59) = .int .i64 506 := (oF_eval (by decide)).trans (G1 hc)
      exact o_val (v := .bool (decide (506 < 506))) (w' := w9) (by generalize (oF 63 T).eval = rr at *; simp [execOp, go_sem, e0, e1]) rfl (fun _ => rfl) (Kx.refl _ _)
    · intro T w9 hG hD hO Q
      have d0 := hD.1
      have d1 := hD.2.1
      have e0 : (oF 63 T).eval (.tmp 50) = .bool true := (oF_eval (by decide)).trans (show T 50 = _ from d0)
      have G1 : true = true → T 60 = .bool (decide (506 < 506)) := d1
      have e1 : (oF 63 T).eval (.tmp 60) = T 60 := oF_eval (by decide)
      have e2 : (oF 63 T).eval (.const (.bool false)) = .bool false := rfl
      refine og_none rfl ?_
      rw [G1 rfl] at e1
      exact o_val (v := .bool (decide (506 < 506))) (w' := w9) (by generalize (oF 63 T).eval = rr at *; simp [execOp, go_sem, e0, e1]) rfl rfl (Kx.refl _ _)
  case fin =>
    intro T w7 hout hval hG
    have s7 := hG.2.2.2.1
    simp only [World.size_drew] at s7
    rw [show oF 63 T = (⟨#[T 0, T 1, T 2, T 3, T 4, T 5, T 6, T 7, T 8, T 9, T 10, T 11, T 12, T 13, T 14, T 15, T 16, T 17, T 18, T 19, T 20, T 21, T 22, T 23, T 24, T 25, T 26, T 27, T 28, T 29, T 30, T 31, T 32, T 33, T 34, T 35, T 36, T 37, T 38, T 39, T 40, T 41, T 42, T 43, T 44, T 45, T 46, T 47, T 48, T 49, T 50, T 51, T 52, T 53, T 54, T 55, T 56, T 57, T 58, T 59, T 60, T 61, T 62], []⟩ : Act) from oF_list 63 T]
    rw [show T 0 = .agg #[.string ⟨#[72]⟩, .int .i64 1, .int .i64 2, .int .i64 5000, .int .i64 0, .int .i64 0, .int .i64 1000, .int .i64 1011, .slice none 0 0] from hout 0 rfl]
    rw [show T 1 = .agg #[.string ⟨#[87]⟩, .int .i64 0, .int .i64 0, .int .i64 5506, .int .i64 0, .int .i64 0, .int .i64 0, .int .i64 0, .slice none 0 0] from hout 1 rfl]
    rw [show T 2 = .pointer (some ⟨w.heap.size, 0, none⟩) from hout 2 rfl]
    rw [show T 3 = .pointer (some ⟨w.heap.size + 1, 0, none⟩) from hout 3 rfl]
    rw [show T 4 = .bool false from hout 4 rfl]
    rw [show T 5 = .int .i64 0 from hout 5 rfl]
    rw [show T 6 = .int .i64 0 from hout 6 rfl]
    rw [show T 7 = .func (.func 76) #[] #[.pointer (some ⟨g3, 0, none⟩)] from hout 7 rfl]
    rw [show T 9 = .func (.func 76) #[] #[.pointer (some ⟨g4, 0, none⟩)] from hout 9 rfl]
    rw [show T 11 = .int .i64 0 from hout 11 rfl]
    rw [show T 13 = .agg #[.string ⟨#[72]⟩, .int .i64 1, .int .i64 2, .int .i64 5000, .int .i64 0, .int .i64 0, .int .i64 1000, .int .i64 1011, .slice none 0 0] from hout 13 rfl]
    rw [show T 14 = .agg #[.string ⟨#[87]⟩, .int .i64 0, .int .i64 0, .int .i64 5506, .int .i64 0, .int .i64 0, .int .i64 0, .int .i64 0, .slice none 0 0] from hout 14 rfl]
    rw [show T 15 = .slice (some ⟨w.heap.size + 1 + 1, 0, none⟩) 2 2 from hout 15 rfl]
    rw [show T 16 = .func (.func F1) #[] cp1 from hout 16 rfl]
    rw [show T 17 = .slice (some ⟨w1.heap.size, 0, none⟩) 1 1 from hout 17 rfl]
    rw [show T 18 = .int .i64 0 from hout 18 rfl]
    rw [show T 19 = .int .i64 0 from hout 19 rfl]
    rw [show T 20 = .bool false from hout 20 rfl]
    rw [show T 22 = .tuple #[.func (.func 76) #[] #[.pointer (some ⟨g3, 0, none⟩)], .func (.func 77) #[] #[.pointer (some ⟨g3, 0, none⟩)]] from hout 22 rfl]
    rw [show T 23 = .pointer (some ⟨w.heap.size, 3, none⟩) from hout 23 rfl]
    rw [show T 24 = .tuple #[.func (.func 76) #[] #[.pointer (some ⟨g3, 0, none⟩)], .func (.func 77) #[] #[.pointer (some ⟨g3, 0, none⟩)]] from hout 24 rfl]
    rw [show T 25 = .func (.func 76) #[] #[.pointer (some ⟨g3, 0, none⟩)] from hout 25 rfl]
    rw [show T 26 = .func (.func 77) #[] #[.pointer (some ⟨g3, 0, none⟩)] from hout 26 rfl]
    rw [show T 27 = .tuple #[.func (.func 76) #[] #[.pointer (some ⟨g4, 0, none⟩)], .func (.func 77) #[] #[.pointer (some ⟨g4, 0, none⟩)]] from hout 27 rfl]
    rw [show T 28 = .pointer (some ⟨w.heap.size + 1, 3, none⟩) from hout 28 rfl]
    rw [show T 29 = .tuple #[.func (.func 76) #[] #[.pointer (some ⟨g4, 0, none⟩)], .func (.func 77) #[] #[.pointer (some ⟨g4, 0, none⟩)]] from hout 29 rfl]
    rw [show T 30 = .func (.func 76) #[] #[.pointer (some ⟨g4, 0, none⟩)] from hout 30 rfl]
    rw [show T 31 = .func (.func 77) #[] #[.pointer (some ⟨g4, 0, none⟩)] from hout 31 rfl]
    rw [show T 32 = .int .i64 0 from hout 32 rfl]
    rw [show T 33 = .bool true from hout 33 rfl]
    rw [show T 34 = .int .i64 0 from hout 34 rfl]
    rw [show T 35 = .func (.func 76) #[] #[.pointer (some ⟨g3, 0, none⟩)] from hout 35 rfl]
    rw [show T 36 = .int .i64 0 from hout 36 rfl]
    rw [show T 37 = .int .i64 5000 from hout 37 rfl]
    rw [show T 38 = .func (.func 76) #[] #[.pointer (some ⟨g4, 0, none⟩)] from hout 38 rfl]
    rw [show T 39 = .int .i64 0 from hout 39 rfl]
    rw [show T 40 = .int .i64 5506 from hout 40 rfl]
    rw [show T 41 = .int .i64 (-506) from hout 41 rfl]
    rw [show T 61 = .bool (decide (506 < 506)) from hval 19 (by decide : 19 < 20)]
    replace b1 := b1.kx hG (by simp)
    replace b2 := b2.kx hG (by simp)
    replace b3 := b3.kx hG (by simp)
    replace b4 := b4.kx hG (by simp)
    replace p3 := p3.kx hG (by simp)
    replace p4 := p4.kx hG (by simp)
    replace kx := (show Kb _ _ from kx.drew).trans hG.nil
    replace gl := gl0.out.kb kx
    clear hout hval hG
    go_wp2_with fail
    rw [rounds_succ]
    have en3 := (enters_of Tryd.func76 (by kernel_rfl) rfl : ∀ args W, (callFunc 76 args).run Tryd.prog W = .ok (.enter 76 args) W)
    go_wp2_with fail
    (with_reducible refine (cRead_1 _ _ _ _ _ _ p3 (b1.c (i := 4) rfl)).mono ?_)
    rintro r w8 ⟨rfl, k8⟩
    replace gl := gl.kb k8
    replace b1 := b1.kb k8
    replace b2 := b2.kb k8
    replace b3 := b3.kb k8
    replace b4 := b4.kb k8
    replace p3 := p3.kb k8
    replace p4 := p4.kb k8
    replace kx := kx.trans k8
    have s8 := k8.size
    skip
    clear k8
    have en4 := (enters_of Tryd.func76 (by kernel_rfl) rfl : ∀ args W, (callFunc 76 args).run Tryd.prog W = .ok (.enter 76 args) W)
    go_wp2_with fail
    (with_reducible refine (cRead_1 _ _ _ _ _ _ p4 (b2.c (i := 4) rfl)).mono ?_)
    rintro r w9 ⟨rfl, k9⟩
    replace gl := gl.kb k9
    replace b1 := b1.kb k9
    replace b2 := b2.kb k9
    replace b3 := b3.kb k9
    replace b4 := b4.kb k9
    replace p3 := p3.kb k9
    replace p4 := p4.kb k9
    replace kx := kx.trans k9
    have s9 := k9.size
    skip
    clear k9
    go_wp2_with fail
    replace gl := gl.drew
    replace b1 := b1.drew
    replace b2 := b2.drew
    replace b3 := b3.drew
    replace b4 := b4.drew
    replace p3 := p3.drew
    replace p4 := p4.drew
    rw [oF_lit]
    refine o_law (⟨63, [some 42, some 43, some 44, some 45, some 46, some 47, some 48, some 49, some 50, some 51, some 52, some 53, some 54, some 55, some 56, some 57, some 58, some 59, some 60, some 61], [42, 43, 44, 45, 46, 47, 48, 49, 50, 51, 52, 53, 54, 55, 56, 57, 58, 59, 60, 61], [[], [], [0, 1], [2], [3], [3], [4, 5, 3], [3, 6], [7], [8], [8], [10, 8], [9, 11, 8], [8], [13, 8], [8], [15, 8], [14, 16, 8], [12, 17, 8], [8, 18]], [[2], [11], [], [], [3], [11], [], [], [], [12], [12], [], [], [2], [], [3], [], [], [], []]⟩ : OT) (Kx []) (RL [fun vv _ => vv = .agg #[.string ⟨#[72]⟩, .int .i64 1, .int .i64 2, .int .i64 5000, .int .i64 0, .int .i64 0, .int .i64 1000, .int .i64 1011, .slice none 0 0], fun vv _ => vv = .int .i64 1, fun vv _ => vv = .bool true, fun vv _ => vv = .bool true, fun vv _ => true = true → vv = .agg #[.string ⟨#[87]⟩, .int .i64 0, .int .i64 0, .int .i64 5506, .int .i64 0, .int .i64 0, .int .i64 0, .int .i64 0, .slice none 0 0], fun vv _ => true = true → vv = .int .i64 1, fun vv _ => true = true → vv = .bool false, fun vv _ => vv = .bool false, fun vv _ => vv = .bool false, fun vv _ => false = true → vv = .int .i64 0, fun vv _ => false = true → vv = .int .i64 0, fun vv _ => false = true → vv = .int .i64 0, fun vv _ => false = true → vv = .int .i64 0, fun vv _ => false = true → vv = .agg #[.string ⟨#[72]⟩, .int .i64 1, .int .i64 2, .int .i64 5000, .int .i64 0, .int .i64 0, .int .i64 1000, .int .i64 1011, .slice none 0 0], fun vv _ => false = true → vv = .int .i64 506, fun vv _ => false = true → vv = .agg #[.string ⟨#[87]⟩, .int .i64 0, .int .i64 0, .int .i64 5506, .int .i64 0, .int .i64 0, .int .i64 0, .int .i64 0, .slice none 0 0], fun vv _ => false = true → vv = .int .i64 0, fun vv _ => false = true → vv = .int .i64 506, fun vv _ => false = true → vv = .bool (decide (506 < 0)), fun vv _ => vv = .bool false]) (by kernel_rfl) ?hk ?hR ?fin
    case hk => kernel_rfl
    case hR =>
      refine ⟨fun _ => (Kx.refl _ _), fun _ _ _ => Kx.trans, rl_stab ⟨fun _ _ _ _ h => h, fun _ _ _ _ h => h, fun _ _ _ _ h => h, fun _ _ _ _ h => h, fun _ _ _ _ h => h, fun _ _ _ _ h => h, fun _ _ _ _ h => h, fun _ _ _ _ h => h, fun _ _ _ _ h => h, fun _ _ _ _ h => h, fun _ _ _ _ h => h, fun _ _ _ _ h => h, fun _ _ _ _ h => h, fun _ _ _ _ h => h, fun _ _ _ _ h => h, fun _ _ _ _ h => h, fun _ _ _ _ h => h, fun _ _ _ _ h => h, fun _ _ _ _ h => h, fun _ _ _ _ h => h, trivial⟩, ?_⟩
      refine allO_cons ?_ (allO_cons ?_ (allO_cons ?_ (allO_cons ?_ (allO_cons ?_ (allO_cons ?_ (allO_cons ?_ (allO_cons ?_ (allO_cons ?_ (allO_cons ?_ (allO_cons ?_ (allO_cons ?_ (allO_cons ?_ (allO_cons ?_ (allO_cons ?_ (allO_cons ?_ (allO_cons ?_ (allO_cons ?_ (allO_cons ?_ (allO_cons ?_ (allO_nil))))))))))))))))))))
      · intro T w9 hG hD hO Q
        have q0 := hO.1
        have e0 : (oF 63 T).eval (.tmp 2) = .pointer (some ⟨w.heap.size, 0, none⟩) := (oF_eval (by decide)).trans (show T 2 = _ from q0)
        refine og_none rfl ?_
        have im := b1.kx hG (by simp)
        have m0 := im.c (i := 0) rfl
        have m1 := im.c (i := 1) rfl
        have m2 := im.c (i := 2) rfl
        have m3 := im.c (i := 3) rfl
        have m4 := im.c (i := 4) rfl
        have m5 := im.c (i := 5) rfl
        have m6 := im.c (i := 6) rfl
        have m7 := im.c (i := 7) rfl
        have m8 := im.c (i := 8) rfl
        clear im
        exact o_val (v := .agg #[.string ⟨#[72]⟩, .int .i64 1, .int .i64 2, .int .i64 5000, .int .i64 0, .int .i64 0, .int .i64 1000, .int .i64 1011, .slice none 0 0]) (w' := w9) (by generalize (oF 63 T).eval = rr at *; simp [execOp, go_sem, e0, m0, m1, m2, m3, m4, m5, m6, m7, m8]) rfl rfl (Kx.refl _ _)
      · intro T w9 hG hD hO Q
        have q0 := hO.1
        have e0 : (oF 63 T).eval (.tmp 11) = .int .i64 1 := (oF_eval (by decide)).trans (show T 11 = _ from q0)
        refine og_none rfl ?_
        exact o_val (v := .int .i64 1) (w' := w9) (by generalize (oF 63 T).eval = rr at *; simp [execOp, go_sem, e0]) rfl rfl (Kx.refl _ _)
      · intro T w9 hG hD hO Q
        have d0 := hD.1
        have d1 := hD.2.1
        have e0 : (oF 63 T).eval (.func 51) = .func (.func 51) #[] #[] := rfl
        have e1 : (oF 63 T).eval (.tmp 42) = .agg #[.string ⟨#[72]⟩, .int .i64 1, .int .i64 2, .int .i64 5000, .int .i64 0, .int .i64 0, .int .i64 1000, .int .i64 1011, .slice none 0 0] := (oF_eval (by decide)).trans (show T 42 = _ from d0)
        have e2 : (oF 63 T).eval (.tmp 43) = .int .i64 1 := (oF_eval (by decide)).trans (show T 43 = _ from d1)
        refine og_none rfl ?_
        refine o_call (oc2 (enters_of Tryd.func51 (by kernel_rfl) rfl) rfl rfl e1 e2) rfl ?_
        exact (Cg.out aw_bdH1 w9 (gl.kx hG (by simp))).mono fun r W' h => ⟨_, h.1, rfl, h.2.kx⟩
      · intro T w9 hG hD hO Q
        have d0 := hD.1
        have e0 : (oF 63 T).eval (.tmp 44) = .bool true := (oF_eval (by decide)).trans (show T 44 = _ from d0)
        refine og_none rfl ?_
        exact o_val (v := .bool true) (w' := w9) (by generalize (oF 63 T).eval = rr at *; simp [execOp, go_sem, e0]) rfl rfl (Kx.refl _ _)
      · intro T w9 hG hD hO Q
        have d0 := hD.1
        have q0 := hO.1
        have e0 : (oF 63 T).eval (.tmp 3) = .pointer (some ⟨w.heap.size + 1, 0, none⟩) := (oF_eval (by decide)).trans (show T 3 = _ from q0)
        refine og_some (b := true) (c := true) rfl (show T 45 = _ from d0) (fun hc => ?_) (fun hc h => absurd h hc)
        have im := b2.kx hG (by simp)
        have m0 := im.c (i := 0) rfl
        have m1 := im.c (i := 1) rfl
        have m2 := im.c (i := 2) rfl
        have m3 := im.c (i := 3) rfl
        have m4 := im.c (i := 4) rfl
        have m5 := im.c (i := 5) rfl
        have m6 := im.c (i := 6) rfl
        have m7 := im.c (i := 7) rfl
        have m8 := im.c (i := 8) rfl
        clear im
        exact o_val (v := .agg #[.string ⟨#[87]⟩, .int .i64 0, .int .i64 0, .int .i64 5506, .int .i64 0, .int .i64 0, .int .i64 0, .int .i64 0, .slice none 0 0]) (w' := w9) (by generalize (oF 63 T).eval = rr at *; simp [execOp, go_sem, e0, m0, m1, m2, m3, m4, m5, m6, m7, m8]) rfl (fun _ => rfl) (Kx.refl _ _)
      · intro T w9 hG hD hO Q
        have d0 := hD.1
        have q0 := hO.1
        have e0 : (oF 63 T).eval (.tmp 11) = .int .i64 1 := (oF_eval (by decide)).trans (show T 11 = _ from q0)
        refine og_some (b := true) (c := true) rfl (show T 45 = _ from d0) (fun hc => ?_) (fun hc h => absurd h hc)
        exact o_val (v := .int .i64 1) (w' := w9) (by generalize (oF 63 T).eval = rr at *; simp [execOp, go_sem, e0]) rfl (fun _ => rfl) (Kx.refl _ _)
      · intro T w9 hG hD hO Q
        have d0 := hD.1
        have d1 := hD.2.1
        have d2 := hD.2.2.1
        have e0 : (oF 63 T).eval (.func 51) = .func (.func 51) #[] #[] := rfl
        have G1 : true = true → T 46 = .agg #[.string ⟨#[87]⟩, .int .i64 0, .int .i64 0, .int .i64 5506, .int .i64 0, .int .i64 0, .int .i64 0, .int .i64 0, .slice none 0 0] := d0
        have G2 : true = true → T 47 = .int .i64 1 := d1
        refine og_some (b := true) (c := true) rfl (show T 45 = _ from d2) (fun hc => ?_) (fun hc h => absurd h hc)
        have e1 : (oF 63 T).eval (.tmp 46) = .agg #[.string ⟨#[87]⟩, .int .i64 0, .int .i64 0, .int .i64 5506, .int .i64 0, .int .i64 0, .int .i64 0, .int .i64 0, .slice none 0 0] := (oF_eval (by decide)).trans (G1 hc)
        have e2 : (oF 63 T).eval (.tmp 47) = .int .i64 1 := (oF_eval (by decide)).trans (G2 hc)
        refine o_call (oc2 (enters_of Tryd.func51 (by kernel_rfl) rfl) rfl rfl e1 e2) rfl ?_
        exact (Cg.out aw_bdW01 w9 (gl.kx hG (by simp))).mono fun r W' h => ⟨_, h.1, (fun _ => rfl), h.2.kx⟩
      · intro T w9 hG hD hO Q
        have d0 := hD.1
        have d1 := hD.2.1
        have e0 : (oF 63 T).eval (.tmp 45) = .bool true := (oF_eval (by decide)).trans (show T 45 = _ from d0)
        have G1 : true = true → T 48 = .bool false := d1
        have e1 : (oF 63 T).eval (.tmp 48) = T 48 := oF_eval (by decide)
        have e2 : (oF 63 T).eval (.const (.bool false)) = .bool false := rfl
        refine og_none rfl ?_
        rw [G1 rfl] at e1
        exact o_val (v := .bool false) (w' := w9) (by generalize (oF 63 T).eval = rr at *; simp [execOp, go_sem, e0, e1]) rfl rfl (Kx.refl _ _)
      · intro T w9 hG hD hO Q
        have d0 := hD.1
        have e0 : (oF 63 T).eval (.tmp 49) = .bool false := (oF_eval (by decide)).trans (show T 49 = _ from d0)
        refine og_none rfl ?_
        exact o_val (v := .bool false) (w' := w9) (by generalize (oF 63 T).eval = rr at *; simp [execOp, go_sem, e0]) rfl rfl (Kx.refl _ _)
      · intro T w9 hG hD hO Q
        have d0 := hD.1
        have q0 := hO.1
        have e0 : (oF 63 T).eval (.tmp 12) = .int .i64 0 := (oF_eval (by decide)).trans (show T 12 = _ from q0)
        refine og_some (b := true) (c := false) rfl (show T 50 = _ from d0) (fun hc => ?_) (fun hc h => absurd h hc)
        exact o_val (v := .int .i64 0) (w' := w9) (by generalize (oF 63 T).eval = rr at *; simp [execOp, go_sem, e0]) rfl (fun _ => rfl) (Kx.refl _ _)
      · intro T w9 hG hD hO Q
        have d0 := hD.1
        have q0 := hO.1
        have e0 : (oF 63 T).eval (.tmp 12) = .int .i64 0 := (oF_eval (by decide)).trans (show T 12 = _ from q0)
        refine og_some (b := true) (c := false) rfl (show T 50 = _ from d0) (fun hc => ?_) (fun hc h => absurd h hc)
        exact o_val (v := .int .i64 0) (w' := w9) (by generalize (oF 63 T).eval = rr at *; simp [execOp, go_sem, e0]) rfl (fun _ => rfl) (Kx.refl _ _)
      · intro T w9 hG hD hO Q
        have d0 := hD.1
        have d1 := hD.2.1
        have G0 : false = true → T 52 = .int .i64 0 := d0
        refine og_some (b := true) (c := false) rfl (show T 50 = _ from d1) (fun hc => ?_) (fun hc h => absurd h hc)
        have e0 : (oF 63 T).eval (.tmp 52) = .int .i64 0 := (oF_eval (by decide)).trans (G0 hc)
        exact o_val (v := .int .i64 0) (w' := w9) (by generalize (oF 63 T).eval = rr at *; simp [execOp, go_sem, e0, (show IntKind.i64.wrap (0 : Int) = 0 by decide)]) rfl (fun _ => rfl) (Kx.refl _ _)
      · intro T w9 hG hD hO Q
        have d0 := hD.1
        have d1 := hD.2.1
        have d2 := hD.2.2.1
        have G0 : false = true → T 51 = .int .i64 0 := d0
        have G1 : false = true → T 53 = .int .i64 0 := d1
        refine og_some (b := true) (c := false) rfl (show T 50 = _ from d2) (fun hc => ?_) (fun hc h => absurd h hc)
        have e0 : (oF 63 T).eval (.tmp 51) = .int .i64 0 := (oF_eval (by decide)).trans (G0 hc)
        have e1 : (oF 63 T).eval (.tmp 53) = .int .i64 0 := (oF_eval (by decide)).trans (G1 hc)
        exact o_val (v := .int .i64 0) (w' := w9) (by generalize (oF 63 T).eval = rr at *; simp [go_sem, e0, e1, (show max (0 : Int) 0 = 0 by decide)]) rfl (fun _ => rfl) (Kx.refl _ _)
      · intro T w9 hG hD hO Q
        have d0 := hD.1
        have q0 := hO.1
        have e0 : (oF 63 T).eval (.tmp 2) = .pointer (some ⟨w.heap.size, 0, none⟩) := (oF_eval (by decide)).trans (show T 2 = _ from q0)
        refine og_some (b := true) (c := false) rfl (show T 50 = _ from d0) (fun hc => ?_) (fun hc h => absurd h hc)
        have im := b1.kx hG (by simp)
        have m0 := im.c (i := 0) rfl
        have m1 := im.c (i := 1) rfl
        have m2 := im.c (i := 2) rfl
        have m3 := im.c (i := 3) rfl
        have m4 := im.c (i := 4) rfl
        have m5 := im.c (i := 5) rfl
        have m6 := im.c (i := 6) rfl
        have m7 := im.c (i := 7) rfl
        have m8 := im.c (i := 8) rfl
        clear im
        exact o_val (v := .agg #[.string ⟨#[72]⟩, .int .i64 1, .int .i64 2, .int .i64 5000, .int .i64 0, .int .i64 0, .int .i64 1000, .int .i64 1011, .slice none 0 0]) (w' := w9) (by generalize (oF 63 T).eval = rr at *; simp [execOp, go_sem, e0, m0, m1, m2, m3, m4, m5, m6, m7, m8]) rfl (fun _ => rfl) (Kx.refl _ _)
      · intro T w9 hG hD hO Q
        have d0 := hD.1
        have d1 := hD.2.1
        have e0 : (oF 63 T).eval (.func 54) = .func (.func 54) #[] #[] := rfl
        have G1 : false = true → T 55 = .agg #[.string ⟨#[72]⟩, .int .i64 1, .int .i64 2, .int .i64 5000, .int .i64 0, .int .i64 0, .int .i64 1000, .int .i64 1011, .slice none 0 0] := d0
        refine og_some (b := true) (c := false) rfl (show T 50 = _ from d1) (fun hc => ?_) (fun hc h => absurd h hc)
        have e1 : (oF 63 T).eval (.tmp 55) = .agg #[.string ⟨#[72]⟩, .int .i64 1, .int .i64 2, .int .i64 5000, .int .i64 0, .int .i64 0, .int .i64 1000, .int .i64 1011, .slice none 0 0] := (oF_eval (by decide)).trans (G1 hc)
        refine o_call (oc1 (enters_of Tryd.func54 (by kernel_rfl) rfl) rfl rfl e1) rfl ?_
        exact (Ca.o aw_halfH w9).mono fun r W' h => ⟨_, h.1, (fun _ => rfl), h.2.kx⟩
      · intro T w9 hG hD hO Q
        have d0 := hD.1
        have q0 := hO.1
        have e0 : (oF 63 T).eval (.tmp 3) = .pointer (some ⟨w.heap.size + 1, 0, none⟩) := (oF_eval (by decide)).trans (show T 3 = _ from q0)
        refine og_some (b := true) (c := false) rfl (show T 50 = _ from d0) (fun hc => ?_) (fun hc h => absurd h hc)
        have im := b2.kx hG (by simp)
        have m0 := im.c (i := 0) rfl
        have m1 := im.c (i := 1) rfl
        have m2 := im.c (i := 2) rfl
        have m3 := im.c (i := 3) rfl
        have m4 := im.c (i := 4) rfl
        have m5 := im.c (i := 5) rfl
        have m6 := im.c (i := 6) rfl
        have m7 := im.c (i := 7) rfl
        have m8 := im.c (i := 8) rfl
        clear im
        exact o_val (v := .agg #[.string ⟨#[87]⟩, .int .i64 0, .int .i64 0, .int .i64 5506, .int .i64 0, .int .i64 0, .int .i64 0, .int .i64 0, .slice none 0 0]) (w' := w9) (by generalize (oF 63 T).eval = rr at *; simp [execOp, go_sem, e0, m0, m1, m2, m3, m4, m5, m6, m7, m8]) rfl (fun _ => rfl) (Kx.refl _ _)
      · intro T w9 hG hD hO Q
        have d0 := hD.1
        have d1 := hD.2.1
        have e0 : (oF 63 T).eval (.func 54) = .func (.func 54) #[] #[] := rfl
        have G1 : false = true → T 57 = .agg #[.string ⟨#[87]⟩, .int .i64 0, .int .i64 0, .int .i64 5506, .int .i64 0, .int .i64 0, .int .i64 0, .int .i64 0, .slice none 0 0] := d0
        refine og_some (b := true) (c := false) rfl (show T 50 = _ from d1) (fun hc => ?_) (fun hc h => absurd h hc)
        have e1 : (oF 63 T).eval (.tmp 57) = .agg #[.string ⟨#[87]⟩, .int .i64 0, .int .i64 0, .int .i64 5506, .int .i64 0, .int .i64 0, .int .i64 0, .int .i64 0, .slice none 0 0] := (oF_eval (by decide)).trans (G1 hc)
        refine o_call (oc1 (enters_of Tryd.func54 (by kernel_rfl) rfl) rfl rfl e1) rfl ?_
        exact (Ca.o aw_halfW0 w9).mono fun r W' h => ⟨_, h.1, (fun _ => rfl), h.2.kx⟩
      · intro T w9 hG hD hO Q
        have d0 := hD.1
        have d1 := hD.2.1
        have d2 := hD.2.2.1
        have G0 : false = true → T 56 = .int .i64 506 := d0
        have G1 : false = true → T 58 = .int .i64 0 := d1
        refine og_some (b := true) (c := false) rfl (show T 50 = _ from d2) (fun hc => ?_) (fun hc h => absurd h hc)
        have e0 : (oF 63 T).eval (.tmp 56) = .int .i64 506 := (oF_eval (by decide)).trans (G0 hc)
        have e1 : (oF 63 T).eval (.tmp 58) = .int .i64 0 := (oF_eval (by decide)).trans (G1 hc)
        exact o_val (v := .int .i64 506) (w' := w9) (by generalize (oF 63 T).eval = rr at *; simp [execOp, go_sem, e0, e1, (show IntKind.i64.wrap (506 : Int) = 506 by decide)]) rfl (fun _ => rfl) (Kx.refl _ _)
      · intro T w9 hG hD hO Q
        have d0 := hD.1
        have d1 := hD.2.1
        have d2 := hD.2.2.1
        have G0 : false = true → T 54 = .int .i64 0 := d0
        have G1 : false = true → T 59 = .int .i64 506 := d1
        refine og_some (b := true) (c := false) rfl (show T 50 = _ from d2) (fun hc => ?_) (fun hc h => absurd h hc)
        have e0 : (oF 63 T).eval (.tmp 54) = .int .i64 0 := (oF_eval (by decide)).trans (G0 hc)
        have e1 : (oF 63 T).eval (.tmp 59) = .int .i64 506 := (oF_eval (by decide)).trans (G1 hc)
        exact o_val (v := .bool (decide (506 < 0))) (w' := w9) (by generalize (oF 63 T).eval = rr at *; simp [execOp, go_sem, e0, e1]) rfl (fun _ => rfl) (Kx.refl _ _)
      · intro T w9 hG hD hO Q
        have d0 := hD.1
        have d1 := hD.2.1
        have e0 : (oF 63 T).eval (.tmp 50) = .bool false := (oF_eval (by decide)).trans (show T 50 = _ from d0)
        have G1 : false = true → T 60 = .bool (decide (506 < 0)) := d1
        have e1 : (oF 63 T).eval (.tmp 60) = T 60 := oF_eval (by decide)
        have e2 : (oF 63 T).eval (.const (.bool false)) = .bool false := rfl
        refine og_none rfl ?_
        exact o_val (v := .bool false) (w' := w9) (by generalize (oF 63 T).eval = rr at *; simp [execOp, go_sem, e0, e2]) rfl rfl (Kx.refl _ _)
    case fin =>
      intro T w10 hout hval hG
      have s10 := hG.2.2.2.1
      simp only [World.size_drew] at s10
      rw [show oF 63 T = (⟨#[T 0, T 1, T 2, T 3, T 4, T 5, T 6, T 7, T 8, T 9, T 10, T 11, T 12, T 13, T 14, T 15, T 16, T 17, T 18, T 19, T 20, T 21, T 22, T 23, T 24, T 25, T 26, T 27, T 28, T 29, T 30, T 31, T 32, T 33, T 34, T 35, T 36, T 37, T 38, T 39, T 40, T 41, T 42, T 43, T 44, T 45, T 46, T 47, T 48, T 49, T 50, T 51, T 52, T 53, T 54, T 55, T 56, T 57, T 58, T 59, T 60, T 61, T 62], []⟩ : Act) from oF_list 63 T]
      rw [show T 0 = .agg #[.string ⟨#[72]⟩, .int .i64 1, .int .i64 2, .int .i64 5000, .int .i64 0, .int .i64 0, .int .i64 1000, .int .i64 1011, .slice none 0 0] from hout 0 rfl]
      rw [show T 1 = .agg #[.string ⟨#[87]⟩, .int .i64 0, .int .i64 0, .int .i64 5506, .int .i64 0, .int .i64 0, .int .i64 0, .int .i64 0, .slice none 0 0] from hout 1 rfl]
      rw [show T 2 = .pointer (some ⟨w.heap.size, 0, none⟩) from hout 2 rfl]
      rw [show T 3 = .pointer (some ⟨w.heap.size + 1, 0, none⟩) from hout 3 rfl]
      rw [show T 4 = .bool false from hout 4 rfl]
      rw [show T 5 = .int .i64 0 from hout 5 rfl]
      rw [show T 6 = .int .i64 0 from hout 6 rfl]
      rw [show T 7 = .func (.func 76) #[] #[.pointer (some ⟨g3, 0, none⟩)] from hout 7 rfl]
      rw [show T 9 = .func (.func 76) #[] #[.pointer (some ⟨g4, 0, none⟩)] from hout 9 rfl]
      rw [show T 11 = .int .i64 1 from hout 11 rfl]
      rw [show T 13 = .agg #[.string ⟨#[72]⟩, .int .i64 1, .int .i64 2, .int .i64 5000, .int .i64 0, .int .i64 0, .int .i64 1000, .int .i64 1011, .slice none 0 0] from hout 13 rfl]
      rw [show T 14 = .agg #[.string ⟨#[87]⟩, .int .i64 0, .int .i64 0, .int .i64 5506, .int .i64 0, .int .i64 0, .int .i64 0, .int .i64 0, .slice none 0 0] from hout 14 rfl]
      rw [show T 15 = .slice (some ⟨w.heap.size + 1 + 1, 0, none⟩) 2 2 from hout 15 rfl]
      rw [show T 16 = .func (.func F1) #[] cp1 from hout 16 rfl]
      rw [show T 17 = .slice (some ⟨w1.heap.size, 0, none⟩) 1 1 from hout 17 rfl]
      rw [show T 18 = .int .i64 0 from hout 18 rfl]
      rw [show T 19 = .int .i64 0 from hout 19 rfl]
      rw [show T 20 = .bool false from hout 20 rfl]
      rw [show T 22 = .tuple #[.func (.func 76) #[] #[.pointer (some ⟨g3, 0, none⟩)], .func (.func 77) #[] #[.pointer (some ⟨g3, 0, none⟩)]] from hout 22 rfl]
      rw [show T 23 = .pointer (some ⟨w.heap.size, 3, none⟩) from hout 23 rfl]
      rw [show T 24 = .tuple #[.func (.func 76) #[] #[.pointer (some ⟨g3, 0, none⟩)], .func (.func 77) #[] #[.pointer (some ⟨g3, 0, none⟩)]] from hout 24 rfl]
      rw [show T 25 = .func (.func 76) #[] #[.pointer (some ⟨g3, 0, none⟩)] from hout 25 rfl]
      rw [show T 26 = .func (.func 77) #[] #[.pointer (some ⟨g3, 0, none⟩)] from hout 26 rfl]
      rw [show T 27 = .tuple #[.func (.func 76) #[] #[.pointer (some ⟨g4, 0, none⟩)], .func (.func 77) #[] #[.pointer (some ⟨g4, 0, none⟩)]] from hout 27 rfl]
      rw [show T 28 = .pointer (some ⟨w.heap.size + 1, 3, none⟩) from hout 28 rfl]
      rw [show T 29 = .tuple #[.func (.func 76) #[] #[.pointer (some ⟨g4, 0, none⟩)], .func (.func 77) #[] #[.pointer (some ⟨g4, 0, none⟩)]] from hout 29 rfl]
      rw [show T 30 = .func (.func 76) #[] #[.pointer (some ⟨g4, 0, none⟩)] from hout 30 rfl]
      rw [show T 31 = .func (.func 77) #[] #[.pointer (some ⟨g4, 0, none⟩)] from hout 31 rfl]
      rw [show T 32 = .int .i64 1 from hout 32 rfl]
      rw [show T 33 = .bool true from hout 33 rfl]
      rw [show T 34 = .int .i64 1 from hout 34 rfl]
      rw [show T 35 = .func (.func 76) #[] #[.pointer (some ⟨g3, 0, none⟩)] from hout 35 rfl]
      rw [show T 36 = .int .i64 1 from hout 36 rfl]
      rw [show T 37 = .int .i64 0 from hout 37 rfl]
      rw [show T 38 = .func (.func 76) #[] #[.pointer (some ⟨g4, 0, none⟩)] from hout 38 rfl]
      rw [show T 39 = .int .i64 1 from hout 39 rfl]
      rw [show T 40 = .int .i64 0 from hout 40 rfl]
      rw [show T 41 = .int .i64 0 from hout 41 rfl]
      rw [show T 61 = .bool false from hval 19 (by decide : 19 < 20)]
      rw [show T 62 = .int .i64 1 from hout 62 rfl]
      replace b1 := b1.kx hG (by simp)
      replace b2 := b2.kx hG (by simp)
      replace b3 := b3.kx hG (by simp)
      replace b4 := b4.kx hG (by simp)
      replace p3 := p3.kx hG (by simp)
      replace p4 := p4.kx hG (by simp)
      replace kx := (show Kb _ _ from kx.drew).trans hG.nil
      replace gl := gl0.out.kb kx
      clear hout hval hG
      go_wp2_with fail
      rw [rounds_succ]
      have en5 := (enters_of Tryd.func76 (by kernel_rfl) rfl : ∀ args W, (callFunc 76 args).run Tryd.prog W = .ok (.enter 76 args) W)
      go_wp2_with fail
      (with_reducible refine (cRead_2 _ _ _ _ _ _ p3 (b1.c (i := 5) rfl)).mono ?_)
      rintro r w11 ⟨rfl, k11⟩
      replace gl := gl.kb k11
      replace b1 := b1.kb k11
      replace b2 := b2.kb k11
      replace b3 := b3.kb k11
      replace b4 := b4.kb k11
      replace p3 := p3.kb k11
      replace p4 := p4.kb k11
      replace kx := kx.trans k11
      have s11 := k11.size
      skip
      clear k11
      have en6 := (enters_of Tryd.func76 (by kernel_rfl) rfl : ∀ args W, (callFunc 76 args).run Tryd.prog W = .ok (.enter 76 args) W)
      go_wp2_with fail
      (with_reducible refine (cRead_2 _ _ _ _ _ _ p4 (b2.c (i := 5) rfl)).mono ?_)
      rintro r w12 ⟨rfl, k12⟩
      replace gl := gl.kb k12
      replace b1 := b1.kb k12
      replace b2 := b2.kb k12
      replace b3 := b3.kb k12
      replace b4 := b4.kb k12
      replace p3 := p3.kb k12
      replace p4 := p4.kb k12
      replace kx := kx.trans k12
      have s12 := k12.size
      skip
      clear k12
      go_wp2_with fail
      replace gl := gl.drew
      replace b1 := b1.drew
      replace b2 := b2.drew
      replace b3 := b3.drew
      replace b4 := b4.drew
      replace p3 := p3.drew
      replace p4 := p4.drew
      rw [oF_lit]
      refine o_law (⟨63, [some 42, some 43, some 44, some 45, some 46, some 47, some 48, some 49, some 50, some 51, some 52, some 53, some 54, some 55, some 56, some 57, some 58, some 59, some 60, some 61], [42, 43, 44, 45, 46, 47, 48, 49, 50, 51, 52, 53, 54, 55, 56, 57, 58, 59, 60, 61], [[], [], [0, 1], [2], [3], [3], [4, 5, 3], [3, 6], [7], [8], [8], [10, 8], [9, 11, 8], [8], [13, 8], [8], [15, 8], [14, 16, 8], [12, 17, 8], [8, 18]], [[2], [11], [], [], [3], [11], [], [], [], [12], [12], [], [], [2], [], [3], [], [], [], []]⟩ : OT) (Kx []) (RL [fun vv _ => vv = .agg #[.string ⟨#[72]⟩, .int .i64 1, .int .i64 2, .int .i64 5000, .int .i64 0, .int .i64 0, .int .i64 1000, .int .i64 1011, .slice none 0 0], fun vv _ => vv = .int .i64 2, fun vv _ => vv = .bool false, fun vv _ => vv = .bool false, fun vv _ => false = true → vv = .agg #[.string ⟨#[87]⟩, .int .i64 0, .int .i64 0, .int .i64 5506, .int .i64 0, .int .i64 0, .int .i64 0, .int .i64 0, .slice none 0 0], fun vv _ => false = true → vv = .int .i64 2, fun vv _ => false = true → vv = .bool false, fun vv _ => vv = .bool false, fun vv _ => vv = .bool false, fun vv _ => false = true → vv = .int .i64 0, fun vv _ => false = true → vv = .int .i64 0, fun vv _ => false = true → vv = .int .i64 0, fun vv _ => false = true → vv = .int .i64 0, fun vv _ => false = true → vv = .agg #[.string ⟨#[72]⟩, .int .i64 1, .int .i64 2, .int .i64 5000, .int .i64 0, .int .i64 0, .int .i64 1000, .int .i64 1011, .slice none 0 0], fun vv _ => false = true → vv = .int .i64 506, fun vv _ => false = true → vv = .agg #[.string ⟨#[87]⟩, .int .i64 0, .int .i64 0, .int .i64 5506, .int .i64 0, .int .i64 0, .int .i64 0, .int .i64 0, .slice none 0 0], fun vv _ => false = true → vv = .int .i64 0, fun vv _ => false = true → vv = .int .i64 506, fun vv _ => false = true → vv = .bool (decide (506 < 0)), fun vv _ => vv = .bool false]) (by kernel_rfl) ?hk ?hR ?fin
      case hk => kernel_rfl
      case hR =>
        refine ⟨fun _ => (Kx.refl _ _), fun _ _ _ => Kx.trans, rl_stab ⟨fun _ _ _ _ h => h, fun _ _ _ _ h => h, fun _ _ _ _ h => h, fun _ _ _ _ h => h, fun _ _ _ _ h => h, fun _ _ _ _ h => h, fun _ _ _ _ h => h, fun _ _ _ _ h => h, fun _ _ _ _ h => h, fun _ _ _ _ h => h, fun _ _ _ _ h => h, fun _ _ _ _ h => h, fun _ _ _ _ h => h, fun _ _ _ _ h => h, fun _ _ _ _ h => h, fun _ _ _ _ h => h, fun _ _ _ _ h => h, fun _ _ _ _ h => h, fun _ _ _ _ h => h, fun _ _ _ _ h => h, trivial⟩, ?_⟩
        refine allO_cons ?_ (allO_cons ?_ (allO_cons ?_ (allO_cons ?_ (allO_cons ?_ (allO_cons ?_ (allO_cons ?_ (allO_cons ?_ (allO_cons ?_ (allO_cons ?_ (allO_cons ?_ (allO_cons ?_ (allO_cons ?_ (allO_cons ?_ (allO_cons ?_ (allO_cons ?_ (allO_cons ?_ (allO_cons ?_ (allO_cons ?_ (allO_cons ?_ (allO_nil))))))))))))))))))))
        · intro T w9 hG hD hO Q
          have q0 := hO.1
          have e0 : (oF 63 T).eval (.tmp 2) = .pointer (some ⟨w.heap.size, 0, none⟩) := (oF_eval (by decide)).trans (show T 2 = _ from q0)
          refine og_none rfl ?_
          have im := b1.kx hG (by simp)
          have m0 := im.c (i := 0) rfl
          have m1 := im.c (i := 1) rfl
          have m2 := im.c (i := 2) rfl
          have m3 := im.c (i := 3) rfl
          have m4 := im.c (i := 4) rfl
          have m5 := im.c (i := 5) rfl
          have m6 := im.c (i := 6) rfl
          have m7 := im.c (i := 7) rfl
          have m8 := im.c (i := 8) rfl
          clear im
          exact o_val (v := .agg #[.string ⟨#[72]⟩, .int .i64 1, .int .i64 2, .int .i64 5000, .int .i64 0, .int .i64 0, .int .i64 1000, .int .i64 1011, .slice none 0 0]) (w' := w9) (by generalize (oF 63 T).eval = rr at *; simp [execOp, go_sem, e0, m0, m1, m2, m3, m4, m5, m6, m7, m8]) rfl rfl (Kx.refl _ _)
        · intro T w9 hG hD hO Q
          have q0 := hO.1
          have e0 : (oF 63 T).eval (.tmp 11) = .int .i64 2 := (oF_eval (by decide)).trans (show T 11 = _ from q0)
          refine og_none rfl ?_
          exact o_val (v := .int .i64 2) (w' := w9) (by generalize (oF 63 T).eval = rr at *; simp [execOp, go_sem, e0]) rfl rfl (Kx.refl _ _)
        · intro T w9 hG hD hO Q
          have d0 := hD.1
          have d1 := hD.2.1
          have e0 : (oF 63 T).eval (.func 51) = .func (.func 51) #[] #[] := rfl
          have e1 : (oF 63 T).eval (.tmp 42) = .agg #[.string ⟨#[72]⟩, .int .i64 1, .int .i64 2, .int .i64 5000, .int .i64 0, .int .i64 0, .int .i64 1000, .int .i64 1011, .slice none 0 0] := (oF_eval (by decide)).trans (show T 42 = _ from d0)
          have e2 : (oF 63 T).eval (.tmp 43) = .int .i64 2 := (oF_eval (by decide)).trans (show T 43 = _ from d1)
          refine og_none rfl ?_
          refine o_call (oc2 (enters_of Tryd.func51 (by kernel_rfl) rfl) rfl rfl e1 e2) rfl ?_
          exact (Cg.out aw_bdH2 w9 (gl.kx hG (by simp))).mono fun r W' h => ⟨_, h.1, rfl, h.2.kx⟩
        · intro T w9 hG hD hO Q
          have d0 := hD.1
          have e0 : (oF 63 T).eval (.tmp 44) = .bool false := (oF_eval (by decide)).trans (show T 44 = _ from d0)
          refine og_none rfl ?_
          exact o_val (v := .bool false) (w' := w9) (by generalize (oF 63 T).eval = rr at *; simp [execOp, go_sem, e0]) rfl rfl (Kx.refl _ _)
        · intro T w9 hG hD hO Q
          have d0 := hD.1
          have q0 := hO.1
          have e0 : (oF 63 T).eval (.tmp 3) = .pointer (some ⟨w.heap.size + 1, 0, none⟩) := (oF_eval (by decide)).trans (show T 3 = _ from q0)
          refine og_some (b := true) (c := false) rfl (show T 45 = _ from d0) (fun hc => ?_) (fun hc h => absurd h hc)
          have im := b2.kx hG (by simp)
          have m0 := im.c (i := 0) rfl
          have m1 := im.c (i := 1) rfl
          have m2 := im.c (i := 2) rfl
          have m3 := im.c (i := 3) rfl
          have m4 := im.c (i := 4) rfl
          have m5 := im.c (i := 5) rfl
          have m6 := im.c (i := 6) rfl
          have m7 := im.c (i := 7) rfl
          have m8 := im.c (i := 8) rfl
          clear im
          exact o_val (v := .agg #[.string ⟨#[87]⟩, .int .i64 0, .int .i64 0, .int .i64 5506, .int .i64 0, .int .i64 0, .int .i64 0, .int .i64 0, .slice none 0 0]) (w' := w9) (by generalize (oF 63 T).eval = rr at *; simp [execOp, go_sem, e0, m0, m1, m2, m3, m4, m5, m6, m7, m8]) rfl (fun _ => rfl) (Kx.refl _ _)
        · intro T w9 hG hD hO Q
          have d0 := hD.1
          have q0 := hO.1
          have e0 : (oF 63 T).eval (.tmp 11) = .int .i64 2 := (oF_eval (by decide)).trans (show T 11 = _ from q0)
          refine og_some (b := true) (c := false) rfl (show T 45 = _ from d0) (fun hc => ?_) (fun hc h => absurd h hc)
          exact o_val (v := .int .i64 2) (w' := w9) (by generalize (oF 63 T).eval = rr at *; simp [execOp, go_sem, e0]) rfl (fun _ => rfl) (Kx.refl _ _)
        · intro T w9 hG hD hO Q
          have d0 := hD.1
          have d1 := hD.2.1
          have d2 := hD.2.2.1
          have e0 : (oF 63 T).eval (.func 51) = .func (.func 51) #[] #[] := rfl
          have G1 : false = true → T 46 = .agg #[.string ⟨#[87]⟩, .int .i64 0, .int .i64 0, .int .i64 5506, .int .i64 0, .int .i64 0, .int .i64 0, .int .i64 0, .slice none 0 0] := d0
          have G2 : false = true → T 47 = .int .i64 2 := d1
          refine og_some (b := true) (c := false) rfl (show T 45 = _ from d2) (fun hc => ?_) (fun hc h => absurd h hc)
          have e1 : (oF 63 T).eval (.tmp 46) = .agg #[.string ⟨#[87]⟩, .int .i64 0, .int .i64 0, .int .i64 5506, .int .i64 0, .int .i64 0, .int .i64 0, .int .i64 0, .slice none 0 0] := (oF_eval (by decide)).trans (G1 hc)
          have e2 : (oF 63 T).eval (.tmp 47) = .int .i64 2 := (oF_eval (by decide)).trans (G2 hc)
          refine o_call (oc2 (enters_of Tryd.func51 (by kernel_rfl) rfl) rfl rfl e1 e2) rfl ?_
          exact (Cg.out aw_bdW02 w9 (gl.kx hG (by simp))).mono fun r W' h => ⟨_, h.1, (fun _ => rfl), h.2.kx⟩
        · intro T w9 hG hD hO Q
          have d0 := hD.1
          have d1 := hD.2.1
          have e0 : (oF 63 T).eval (.tmp 45) = .bool false := (oF_eval (by decide)).trans (show T 45 = _ from d0)
          have G1 : false = true → T 48 = .bool false := d1
          have e1 : (oF 63 T).eval (.tmp 48) = T 48 := oF_eval (by decide)
          have e2 : (oF 63 T).eval (.const (.bool false)) = .bool false := rfl
          refine og_none rfl ?_
          exact o_val (v := .bool false) (w' := w9) (by generalize (oF 63 T).eval = rr at *; simp [execOp, go_sem, e0, e2]) rfl rfl (Kx.refl _ _)
        · intro T w9 hG hD hO Q
          have d0 := hD.1
          have e0 : (oF 63 T).eval (.tmp 49) = .bool false := (oF_eval (by decide)).trans (show T 49 = _ from d0)
          refine og_none rfl ?_
          exact o_val (v := .bool false) (w' := w9) (by generalize (oF 63 T).eval = rr at *; simp [execOp, go_sem, e0]) rfl rfl (Kx.refl _ _)
        · intro T w9 hG hD hO Q
          have d0 := hD.1
          have q0 := hO.1
          have e0 : (oF 63 T).eval (.tmp 12) = .int .i64 0 := (oF_eval (by decide)).trans (show T 12 = _ from q0)
          refine og_some (b := true) (c := false) rfl (show T 50 = _ from d0) (fun hc => ?_) (fun hc h => absurd h hc)
          exact o_val (v := .int .i64 0) (w' := w9) (by generalize (oF 63 T).eval = rr at *; simp [execOp, go_sem, e0]) rfl (fun _ => rfl) (Kx.refl _ _)
        · intro T w9 hG hD hO Q
          have d0 := hD.1
          have q0 := hO.1
          have e0 : (oF 63 T).eval (.tmp 12) = .int .i64 0 := (oF_eval (by decide)).trans (show T 12 = _ from q0)
          refine og_some (b := true) (c := false) rfl (show T 50 = _ from d0) (fun hc => ?_) (fun hc h => absurd h hc)
          exact o_val (v := .int .i64 0) (w' := w9) (by generalize (oF 63 T).eval = rr at *; simp [execOp, go_sem, e0]) rfl (fun _ => rfl) (Kx.refl _ _)
        · intro T w9 hG hD hO Q
          have d0 := hD.1
          have d1 := hD.2.1
          have G0 : false = true → T 52 = .int .i64 0 := d0
          refine og_some (b := true) (c := false) rfl (show T 50 = _ from d1) (fun hc => ?_) (fun hc h => absurd h hc)
          have e0 : (oF 63 T).eval (.tmp 52) = .int .i64 0 := (oF_eval (by decide)).trans (G0 hc)
          exact o_val (v := .int .i64 0) (w' := w9) (by generalize (oF 63 T).eval = rr at *; simp [execOp, go_sem, e0, (show IntKind.i64.wrap (0 : Int) = 0 by decide)]) rfl (fun _ => rfl) (Kx.refl _ _)
        · intro T w9 hG hD hO Q
          have d0 := hD.1
          have d1 := hD.2.1
          have d2 := hD.2.2.1
          have G0 : false = true → T 51 = .int .i64 0 := d0
          have G1 : false = true → T 53 = .int .i64 0 := d1
          refine og_some (b := true) (c := false) rfl (show T 50 = _ from d2) (fun hc => ?_) (fun hc h => absurd h hc)
          have e0 : (oF 63 T).eval (.tmp 51) = .int .i64 0 := (oF_eval (by decide)).trans (G0 hc)
          have e1 : (oF 63 T).eval (.tmp 53) = .int .i64 0 := (oF_eval (by decide)).trans (G1 hc)
          exact o_val (v := .int .i64 0) (w' := w9) (by generalize (oF 63 T).eval = rr at *; simp [go_sem, e0, e1, (show max (0 : Int) 0 = 0 by decide)]) rfl (fun _ => rfl) (Kx.refl _ _)
        · intro T w9 hG hD hO Q
          have d0 := hD.1
          have q0 := hO.1
          have e0 : (oF 63 T).eval (.tmp 2) = .pointer (some ⟨w.heap.size, 0, none⟩) := (oF_eval (by decide)).trans (show T 2 = _ from q0)
          refine og_some (b := true) (c := false) rfl (show T 50 = _ from d0) (fun hc => ?_) (fun hc h => absurd h hc)
          have im := b1.kx hG (by simp)
          have m0 := im.c (i := 0) rfl
          have m1 := im.c (i := 1) rfl
          have m2 := im.c (i := 2) rfl
          have m3 := im.c (i := 3) rfl
          have m4 := im.c (i := 4) rfl
          have m5 := im.c (i := 5) rfl
          have m6 := im.c (i := 6) rfl
          have m7 := im.c (i := 7) rfl
          have m8 := im.c (i := 8) rfl
          clear im
          exact o_val (v := .agg #[.string ⟨#[72]⟩, .int .i64 1, .int .i64 2, .int .i64 5000, .int .i64 0, .int .i64 0, .int .i64 1000, .int .i64 1011, .slice none 0 0]) (w' := w9) (by generalize (oF 63 T).eval = rr at *; simp [execOp, go_sem, e0, m0, m1, m2, m3, m4, m5, m6, m7, m8]) rfl (fun _ => rfl) (Kx.refl _ _)
        · intro T w9 hG hD hO Q
          have d0 := hD.1
          have d1 := hD.2.1
          have e0 : (oF 63 T).eval (.func 54) = .func (.func 54) #[] #[] := rfl
          have G1 : false = true → T 55 = .agg #[.string ⟨#[72]⟩, .int .i64 1, .int .i64 2, .int .i64 5000, .int .i64 0, .int .i64 0, .int .i64 1000, .int .i64 1011, .slice none 0 0] := d0
          refine og_some (b := true) (c := false) rfl (show T 50 = _ from d1) (fun hc => ?_) (fun hc h => absurd h hc)
          have e1 : (oF 63 T).eval (.tmp 55) = .agg #[.string ⟨#[72]⟩, .int .i64 1, .int .i64 2, .int .i64 5000, .int .i64 0, .int .i64 0, .int .i64 1000, .int .i64 1011, .slice none 0 0] := (oF_eval (by decide)).trans (G1 hc)
          refine o_call (oc1 (enters_of Tryd.func54 (by kernel_rfl) rfl) rfl rfl e1) rfl ?_
          exact (Ca.o aw_halfH w9).mono fun r W' h => ⟨_, h.1, (fun _ => rfl), h.2.kx⟩
        · intro T w9 hG hD hO Q
          have d0 := hD.1
          have q0 := hO.1
          have e0 : (oF 63 T).eval (.tmp 3) = .pointer (some ⟨w.heap.size + 1, 0, none⟩) := (oF_eval (by decide)).trans (show T 3 = _ from q0)
          refine og_some (b := true) (c := false) rfl (show T 50 = _ from d0) (fun hc => ?_) (fun hc h => absurd h hc)
          have im := b2.kx hG (by simp)
          have m0 := im.c (i := 0) rfl
          have m1 := im.c (i := 1) rfl
          have m2 := im.c (i := 2) rfl
          have m3 := im.c (i := 3) rfl
          have m4 := im.c (i := 4) rfl
          have m5 := im.c (i := 5) rfl
          have m6 := im.c (i := 6) rfl
          have m7 := im.c (i := 7) rfl
          have m8 := im.c (i := 8) rfl
          clear im
          exact o_val (v := .agg #[.string ⟨#[87]⟩, .int .i64 0, .int .i64 0, .int .i64 5506, .int .i64 0, .int .i64 0, .int .i64 0, .int .i64 0, .slice none 0 0]) (w' := w9) (by generalize (oF 63 T).eval = rr at *; simp [execOp, go_sem, e0, m0, m1, m2, m3, m4, m5, m6, m7, m8]) rfl (fun _ => rfl) (Kx.refl _ _)
        · intro T w9 hG hD hO Q
          have d0 := hD.1
          have d1 := hD.2.1
          have e0 : (oF 63 T).eval (.func 54) = .func (.func 54) #[] #[] := rfl
          have G1 : false = true → T 57 = .agg #[.string ⟨#[87]⟩, .int .i64 0, .int .i64 0, .int .i64 5506, .int .i64 0, .int .i64 0, .int .i64 0, .int .i64 0, .slice none 0 0] := d0
          refine og_some (b := true) (c := false) rfl (show T 50 = _ from d1) (fun hc => ?_) (fun hc h => absurd h hc)
          have e1 : (oF 63 T).eval (.tmp 57) = .agg #[.string ⟨#[87]⟩, .int .i64 0, .int .i64 0, .int .i64 5506, .int .i64 0, .int .i64 0, .int .i64 0, .int .i64 0, .slice none 0 0] := (oF_eval (by decide)).trans (G1 hc)
          refine o_call (oc1 (enters_of Tryd.func54 (by kernel_rfl) rfl) rfl rfl e1) rfl ?_
          exact (Ca.o aw_halfW0 w9).mono fun r W' h => ⟨_, h.1, (fun _ => rfl), h.2.kx⟩
        · intro T w9 hG hD hO Q
          have d0 := hD.1
          have d1 := hD.2.1
          have d2 := hD.2.2.1
          have G0 : false = true → T 56 = .int .i64 506 := d0
          have G1 : false = true → T 58 = .int .i64 0 := d1
          refine og_some (b := true) (c := false) rfl (show T 50 = _ from d2) (fun hc => ?_) (fun hc h => absurd h hc)
          have e0 : (oF 63 T).eval (.tmp 56) = .int .i64 506 := (oF_eval (by decide)).trans (G0 hc)
          have e1 : (oF 63 T).eval (.tmp 58) = .int .i64 0 := (oF_eval (by decide)).trans (G1 hc)
          exact o_val (v := .int .i64 506) (w' := w9) (by generalize (oF 63 T).eval = rr at *; simp [execOp, go_sem, e0, e1, (show IntKind.i64.wrap (506 : Int) = 506 by decide)]) rfl (fun _ => rfl) (Kx.refl _ _)
        · intro T w9 hG hD hO Q
          have d0 := hD.1
          have d1 := hD.2.1
          have d2 := hD.2.2.1
          have G0 : false = true → T 54 = .int .i64 0 := d0
          have G1 : false = true → T 59 = .int .i64 506 := d1
          refine og_some (b := true) (c := false) rfl (show T 50 = _ from d2) (fun hc => ?_) (fun hc h => absurd h hc)
          have e0 : (oF 63 T).eval (.tmp 54) = .int .i64 0 := (oF_eval (by decide)).trans (G0 hc)
          have e1 : (oF 63 T).eval (.tmp 59) = .int .i64 506 := (oF_eval (by decide)).trans (G1 hc)
          exact o_val (v := .bool (decide (506 < 0))) (w' := w9) (by generalize (oF 63 T).eval = rr at *; simp [execOp, go_sem, e0, e1]) rfl (fun _ => rfl) (Kx.refl _ _)
        · intro T w9 hG hD hO Q
          have d0 := hD.1
          have d1 := hD.2.1
          have e0 : (oF 63 T).eval (.tmp 50) = .bool false := (oF_eval (by decide)).trans (show T 50 = _ from d0)
          have G1 : false = true → T 60 = .bool (decide (506 < 0)) := d1
          have e1 : (oF 63 T).eval (.tmp 60) = T 60 := oF_eval (by decide)
          have e2 : (oF 63 T).eval (.const (.bool false)) = .bool false := rfl
          refine og_none rfl ?_
          exact o_val (v := .bool false) (w' := w9) (by generalize (oF 63 T).eval = rr at *; simp [execOp, go_sem, e0, e2]) rfl rfl (Kx.refl _ _)
      case fin =>
        intro T w13 hout hval hG
        have s13 := hG.2.2.2.1
        simp only [World.size_drew] at s13
        rw [show oF 63 T = (⟨#[T 0, T 1, T 2, T 3, T 4, T 5, T 6, T 7, T 8, T 9, T 10, T 11, T 12, T 13, T 14, T 15, T 16, T 17, T 18, T 19, T 20, T 21, T 22, T 23, T 24, T 25, T 26, T 27, T 28, T 29, T 30, T 31, T 32, T 33, T 34, T 35, T 36, T 37, T 38, T 39, T 40, T 41, T 42, T 43, T 44, T 45, T 46, T 47, T 48, T 49, T 50, T 51, T 52, T 53, T 54, T 55, T 56, T 57, T 58, T 59, T 60, T 61, T 62], []⟩ : Act) from oF_list 63 T]
        rw [show T 0 = .agg #[.string ⟨#[72]⟩, .int .i64 1, .int .i64 2, .int .i64 5000, .int .i64 0, .int .i64 0, .int .i64 1000, .int .i64 1011, .slice none 0 0] from hout 0 rfl]
        rw [show T 1 = .agg #[.string ⟨#[87]⟩, .int .i64 0, .int .i64 0, .int .i64 5506, .int .i64 0, .int .i64 0, .int .i64 0, .int .i64 0, .slice none 0 0] from hout 1 rfl]
        rw [show T 2 = .pointer (some ⟨w.heap.size, 0, none⟩) from hout 2 rfl]
        rw [show T 3 = .pointer (some ⟨w.heap.size + 1, 0, none⟩) from hout 3 rfl]
        rw [show T 4 = .bool false from hout 4 rfl]
        rw [show T 5 = .int .i64 0 from hout 5 rfl]
        rw [show T 6 = .int .i64 0 from hout 6 rfl]
        rw [show T 7 = .func (.func 76) #[] #[.pointer (some ⟨g3, 0, none⟩)] from hout 7 rfl]
        rw [show T 9 = .func (.func 76) #[] #[.pointer (some ⟨g4, 0, none⟩)] from hout 9 rfl]
        rw [show T 11 = .int .i64 2 from hout 11 rfl]
        rw [show T 13 = .agg #[.string ⟨#[72]⟩, .int .i64 1, .int .i64 2, .int .i64 5000, .int .i64 0, .int .i64 0, .int .i64 1000, .int .i64 1011, .slice none 0 0] from hout 13 rfl]
        rw [show T 14 = .agg #[.string ⟨#[87]⟩, .int .i64 0, .int .i64 0, .int .i64 5506, .int .i64 0, .int .i64 0, .int .i64 0, .int .i64 0, .slice none 0 0] from hout 14 rfl]
        rw [show T 15 = .slice (some ⟨w.heap.size + 1 + 1, 0, none⟩) 2 2 from hout 15 rfl]
        rw [show T 16 = .func (.func F1) #[] cp1 from hout 16 rfl]
        rw [show T 17 = .slice (some ⟨w1.heap.size, 0, none⟩) 1 1 from hout 17 rfl]
        rw [show T 18 = .int .i64 0 from hout 18 rfl]
        rw [show T 19 = .int .i64 0 from hout 19 rfl]
        rw [show T 20 = .bool false from hout 20 rfl]
        rw [show T 22 = .tuple #[.func (.func 76) #[] #[.pointer (some ⟨g3, 0, none⟩)], .func (.func 77) #[] #[.pointer (some ⟨g3, 0, none⟩)]] from hout 22 rfl]
        rw [show T 23 = .pointer (some ⟨w.heap.size, 3, none⟩) from hout 23 rfl]
        rw [show T 24 = .tuple #[.func (.func 76) #[] #[.pointer (some ⟨g3, 0, none⟩)], .func (.func 77) #[] #[.pointer (some ⟨g3, 0, none⟩)]] from hout 24 rfl]
        rw [show T 25 = .func (.func 76) #[] #[.pointer (some ⟨g3, 0, none⟩)] from hout 25 rfl]
        rw [show T 26 = .func (.func 77) #[] #[.pointer (some ⟨g3, 0, none⟩)] from hout 26 rfl]
        rw [show T 27 = .tuple #[.func (.func 76) #[] #[.pointer (some ⟨g4, 0, none⟩)], .func (.func 77) #[] #[.pointer (some ⟨g4, 0, none⟩)]] from hout 27 rfl]
        rw [show T 28 = .pointer (some ⟨w.heap.size + 1, 3, none⟩) from hout 28 rfl]
        rw [show T 29 = .tuple #[.func (.func 76) #[] #[.pointer (some ⟨g4, 0, none⟩)], .func (.func 77) #[] #[.pointer (some ⟨g4, 0, none⟩)]] from hout 29 rfl]
        rw [show T 30 = .func (.func 76) #[] #[.pointer (some ⟨g4, 0, none⟩)] from hout 30 rfl]
        rw [show T 31 = .func (.func 77) #[] #[.pointer (some ⟨g4, 0, none⟩)] from hout 31 rfl]
        rw [show T 32 = .int .i64 2 from hout 32 rfl]
        rw [show T 33 = .bool true from hout 33 rfl]
        rw [show T 34 = .int .i64 2 from hout 34 rfl]
        rw [show T 35 = .func (.func 76) #[] #[.pointer (some ⟨g3, 0, none⟩)] from hout 35 rfl]
        rw [show T 36 = .int .i64 2 from hout 36 rfl]
        rw [show T 37 = .int .i64 0 from hout 37 rfl]
        rw [show T 38 = .func (.func 76) #[] #[.pointer (some ⟨g4, 0, none⟩)] from hout 38 rfl]
        rw [show T 39 = .int .i64 2 from hout 39 rfl]
        rw [show T 40 = .int .i64 0 from hout 40 rfl]
        rw [show T 41 = .int .i64 0 from hout 41 rfl]
        rw [show T 61 = .bool false from hval 19 (by decide : 19 < 20)]
        rw [show T 62 = .int .i64 2 from hout 62 rfl]
        replace b1 := b1.kx hG (by simp)
        replace b2 := b2.kx hG (by simp)
        replace b3 := b3.kx hG (by simp)
        replace b4 := b4.kx hG (by simp)
        replace p3 := p3.kx hG (by simp)
        replace p4 := p4.kx hG (by simp)
        replace kx := (show Kb _ _ from kx.drew).trans hG.nil
        replace gl := gl0.out.kb kx
        clear hout hval hG
        go_wp2_with fail
        rw [rounds_succ]
        go_wp2
        go_ret2
        exact ⟨rfl, kx⟩
set_option maxRecDepth 100000 in
theorem aw_sepW0_any     : Cg 22 #[.agg #[.string ⟨#[72]⟩, .int .i64 1, .int .i64 2, .int .i64 5000, .int .i64 0, .int .i64 0, .int .i64 1000, .int .i64 1011, .slice none 0 0], .agg #[.string ⟨#[87]⟩, .int .i64 0, .int .i64 0, .int .i64 5506, .int .i64 0, .int .i64 0, .int .i64 0, .int .i64 0, .slice none 0 0]] (.tuple #[.bool false, .int .i64 0]) := Lib.hid fun w gl => by
  exact aw_sepW0_1  w gl
end Go.Proofs.YtdmfkgopalelgaaDoor
