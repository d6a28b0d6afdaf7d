/- Texts Upa: each says in its own first comment what it proves. -/
import Derived.Test.YtlimjohnimgnhaaGreatDoorM27
import Derived.Test.YtlimjohnimgnhaaGreatDoorM29
import Derived.Test.YtlimjohnimgnhaaGreatDoorM38
import Derived.Test.YtlimjohnimgnhaaGreatDoorM45
import Derived.Lib.MinMax
import Derived.Test.YtlimjohnimgnhaaGreatDoorM10
import Derived.Lib.SliceRun
/- Frames: the law FrameLists. -/
namespace Go.Proofs.YtlimjohnimgnhaaGreatDoor
open Go.RowKit

set_option maxRecDepth 100000 in
set_option maxHeartbeats 4000000 in
theorem llA_1 (w0 : World) (n : ByteArray) (k : Int) (a : Int) (x : Int) (y : Int) (z : Int) (lo : Int) (hi : Int) (fp : Option Addr) (fl : Nat) (fc : Nat)     (fs : List FrT) (hfr : FrP w0 (.slice fp fl fc) fs) (hfa : (fewB n fs) = false) (w : World) (gl : Gf w0 w)  : Calls Tryz.prog 4 #[.agg #[.string n, .int .i64 k, .int .i64 a, .int .i64 x, .int .i64 y, .int .i64 z, .int .i64 lo, .int .i64 hi, .slice fp fl fc]] w fun r W' => r = .returned (.bool true) ∧ Kb w W' := by
  have kx := Kb.refl w
  have gl0 := Lib.hid gl
  have j1 := (Is.made w #[.string n, .int .i64 k, .int .i64 a, .int .i64 x, .int .i64 y, .int .i64 z, .int .i64 lo, .int .i64 hi, .slice fp fl fc] 28)
  have f2 := j1.c (i := 0) rfl
  have f3 := j1.c (i := 1) rfl
  have f4 := j1.c (i := 2) rfl
  have f5 := j1.c (i := 3) rfl
  have f6 := j1.c (i := 4) rfl
  have f7 := j1.c (i := 5) rfl
  have f8 := j1.c (i := 6) rfl
  have f9 := j1.c (i := 7) rfl
  have f10 := j1.c (i := 8) rfl
  go_enter Tryz.func4, Tryz.ntmps4
  go_wp2_with fail
  clear f2 f3 f4 f5 f6 f7 f8 f9 f10
  have b1 := j1
  replace kx := kx.alloc (.cells #[.string n, .int .i64 k, .int .i64 a, .int .i64 x, .int .i64 y, .int .i64 z, .int .i64 lo, .int .i64 hi, .slice fp fl fc] 28 (0, 0))
  clear j1
  replace gl := gl0.out.kb kx
  (with_reducible refine ((Cf.out (cFew n k a x y z lo hi fp fl fc fs hfr.frs) _ gl)).mono ?_)
  rintro r w1 ⟨rfl, k1⟩
  replace gl := gl.kb k1
  replace b1 := b1.kb k1
  replace kx := kx.trans k1
  have s1 := k1.size
  simp only [World.size_alloc] at s1
  clear k1
  go_wp2_with fail
  (with_reducible refine ((Cf.out (fawakeC) _ gl)).mono ?_)
  rintro r w2 ⟨rfl, k2⟩
  replace gl := gl.kb k2
  replace b1 := b1.kb k2
  replace kx := kx.trans k2
  have s2 := k2.size
  skip
  clear k2
  go_wp2
  go_ret
  exact ⟨rfl, kx⟩
set_option maxRecDepth 100000 in
set_option maxHeartbeats 4000000 in
theorem llB_1 (w0 : World) (n : ByteArray) (k : Int) (a : Int) (x : Int) (y : Int) (z : Int) (lo : Int) (hi : Int) (fp : Option Addr) (fl : Nat) (fc : Nat)     (fs : List FrT) (hfr : FrP w0 (.slice fp fl fc) fs) (hfa : (fewB n fs) = true) (hnz : n.size ≤ 1000000) (hF : fl ≤ 12) (hz : ∀ f ∈ fs, f.ds.length ≤ 6 ∧ ∀ d ∈ f.ds, d.1.size ≤ 1000000) (hz2 : ∀ f ∈ fs, f.ds.length ≤ 100000 ∧ ∀ d ∈ f.ds, d.1.size ≤ 1000000) (hdl : (dtV n k a x y z lo hi fs).length ≤ 100000) (w : World) (gl : Gf w0 w)  : Calls Tryz.prog 4 #[.agg #[.string n, .int .i64 k, .int .i64 a, .int .i64 x, .int .i64 y, .int .i64 z, .int .i64 lo, .int .i64 hi, .slice fp fl fc]] w fun r W' => r = .returned (.bool true) ∧ Kb w W' := by
  have kx := Kb.refl w
  have gl0 := Lib.hid gl
  have j1 := (Is.made w #[.string n, .int .i64 k, .int .i64 a, .int .i64 x, .int .i64 y, .int .i64 z, .int .i64 lo, .int .i64 hi, .slice fp fl fc] 28)
  have f2 := j1.c (i := 0) rfl
  have f3 := j1.c (i := 1) rfl
  have f4 := j1.c (i := 2) rfl
  have f5 := j1.c (i := 3) rfl
  have f6 := j1.c (i := 4) rfl
  have f7 := j1.c (i := 5) rfl
  have f8 := j1.c (i := 6) rfl
  have f9 := j1.c (i := 7) rfl
  have f10 := j1.c (i := 8) rfl
  go_enter Tryz.func4, Tryz.ntmps4
  go_wp2_with fail
  clear f2 f3 f4 f5 f6 f7 f8 f9 f10
  have b1 := j1
  replace kx := kx.alloc (.cells #[.string n, .int .i64 k, .int .i64 a, .int .i64 x, .int .i64 y, .int .i64 z, .int .i64 lo, .int .i64 hi, .slice fp fl fc] 28 (0, 0))
  clear j1
  replace gl := gl0.out.kb kx
  (with_reducible refine ((Cf.out (cFew n k a x y z lo hi fp fl fc fs hfr.frs) _ gl)).mono ?_)
  rintro r w1 ⟨rfl, k1⟩
  replace gl := gl.kb k1
  replace b1 := b1.kb k1
  replace kx := kx.trans k1
  have s1 := k1.size
  simp only [World.size_alloc] at s1
  clear k1
  have f11 := b1.c (i := 0) rfl
  have f12 := b1.c (i := 1) rfl
  have f13 := b1.c (i := 2) rfl
  have f14 := b1.c (i := 3) rfl
  have f15 := b1.c (i := 4) rfl
  have f16 := b1.c (i := 5) rfl
  have f17 := b1.c (i := 6) rfl
  have f18 := b1.c (i := 7) rfl
  have f19 := b1.c (i := 8) rfl
  go_wp2_with fail
  clear f11 f12 f13 f14 f15 f16 f17 f18 f19
  (with_reducible refine (fDat n k a x y z lo hi fp fl fc fs hnz hfr hF hz _ gl).mono ?_)
  rintro r w2 ⟨⟨v1, rfl, hs1⟩, k2⟩
  replace gl := gl.kb k2
  replace b1 := b1.kb k2
  replace kx := kx.trans k2
  have s2 := k2.size
  skip
  clear k2
  have f20 := b1.c (i := 0) rfl
  have f21 := b1.c (i := 1) rfl
  have f22 := b1.c (i := 2) rfl
  have f23 := b1.c (i := 3) rfl
  have f24 := b1.c (i := 4) rfl
  have f25 := b1.c (i := 5) rfl
  have f26 := b1.c (i := 6) rfl
  have f27 := b1.c (i := 7) rfl
  have f28 := b1.c (i := 8) rfl
  go_wp2_with fail
  clear f20 f21 f22 f23 f24 f25 f26 f27 f28
  (with_reducible refine (rDat n k a x y z lo hi fp fl fc fs hnz hfr hF hz _ gl).mono ?_)
  rintro r w3 ⟨⟨v2, rfl, hs2⟩, k3⟩
  replace gl := gl.kb k3
  replace b1 := b1.kb k3
  replace hs1 := hs1.kb k3
  replace kx := kx.trans k3
  have s3 := k3.size
  skip
  clear k3
  go_wp2_with fail
  replace gl := gl.drew
  replace b1 := b1.drew
  replace hs1 := hs1.drew
  replace hs2 := hs2.drew
  rw [oF_lit]
  refine o_law (⟨39, [some 21, some 22, some 23, some 24, some 25, some 26, some 27, some 28, some 29, some 30, some 31, some 32, some 33, some 34, some 35, some 36, some 37, some 38, some 2], [21, 22, 23, 24, 25, 26, 27, 28, 29, 30, 31, 32, 33, 34, 35, 36, 37, 38, 2], [[], [0], [1], [2, 1], [1], [4, 1], [3, 5, 1], [1, 6], [7], [8], [8], [9, 10, 8], [8, 11], [12], [13], [13], [14, 15, 13], [13, 16], [17]], [[], [], [1], [], [1], [], [], [], [], [3], [5], [], [], [], [4], [6], [], [], []]⟩ : OT) (Kx []) (RL [fun vv _ => vv = .bool true, fun vv _ => vv = .bool true, fun vv _ => true = true → vv = .agg #[.string n, .int .i64 k, .int .i64 a, .int .i64 x, .int .i64 y, .int .i64 z, .int .i64 lo, .int .i64 hi, .slice fp fl fc], fun vv _ => true = true → vv = .int .i64 (alE n k a x y z lo hi fs), fun vv _ => true = true → vv = .agg #[.string n, .int .i64 k, .int .i64 a, .int .i64 x, .int .i64 y, .int .i64 z, .int .i64 lo, .int .i64 hi, .slice fp fl fc], fun vv _ => true = true → vv = .int .i64 (alE n k a x y z lo hi fs), fun vv _ => true = true → vv = .bool true, fun vv _ => vv = .bool true, fun vv _ => vv = .bool true, fun vv _ => true = true → vv = v1, fun vv _ => true = true → vv = v2, fun vv _ => true = true → vv = .bool true, fun vv _ => vv = .bool true, fun vv _ => vv = .bool true, fun vv _ => true = true → vv = .int .i64 (alE n k a x y z lo hi fs), fun vv _ => true = true → vv = .int .i64 (alE n k a x y z lo hi fs), fun vv _ => true = true → vv = .bool true, fun vv _ => vv = .bool true, fun vv _ => vv = .bool true]) (by kernel_rfl) ?hk ?hR ?fin
  case hk => kernel_rfl
  case hR =>
    refine ⟨fun _ => (Kx.refl _ _), fun _ _ _ => Kx.trans, rl_stab ⟨fun _ _ _ _ h => h, fun _ _ _ _ h => h, fun _ _ _ _ h => h, fun _ _ _ _ h => h, fun _ _ _ _ h => h, fun _ _ _ _ h => h, fun _ _ _ _ h => h, fun _ _ _ _ h => h, fun _ _ _ _ h => h, fun _ _ _ _ h => h, fun _ _ _ _ h => h, fun _ _ _ _ h => h, fun _ _ _ _ h => h, fun _ _ _ _ h => h, fun _ _ _ _ h => h, fun _ _ _ _ h => h, fun _ _ _ _ h => h, fun _ _ _ _ h => h, fun _ _ _ _ h => h, trivial⟩, ?_⟩
    refine allO_cons ?_ (allO_cons ?_ (allO_cons ?_ (allO_cons ?_ (allO_cons ?_ (allO_cons ?_ (allO_cons ?_ (allO_cons ?_ (allO_cons ?_ (allO_cons ?_ (allO_cons ?_ (allO_cons ?_ (allO_cons ?_ (allO_cons ?_ (allO_cons ?_ (allO_cons ?_ (allO_cons ?_ (allO_cons ?_ (allO_cons ?_ (allO_nil)))))))))))))))))))
    · intro T w9 hG hD hO Q
      have e0 : (oF 39 T).eval (.func 12) = .func (.func 12) #[] #[] := rfl
      refine og_none rfl ?_
      refine o_call (oc0 (enters_of Tryz.func12 (by kernel_rfl) rfl) rfl rfl ) rfl ?_
      exact (Cf.out (fawakeC) w9 (gl.kx hG (by simp))).mono fun r W' h => ⟨_, h.1, rfl, h.2.kx⟩
    · intro T w9 hG hD hO Q
      have d0 := hD.1
      have e0 : (oF 39 T).eval (.tmp 21) = .bool true := (oF_eval (by decide)).trans (show T 21 = _ from d0)
      refine og_none rfl ?_
      exact o_val (v := .bool true) (w' := w9) (by generalize (oF 39 T).eval = rr at *; simp [execOp, go_sem, e0]) rfl rfl (Kx.refl _ _)
    · intro T w9 hG hD hO Q
      have d0 := hD.1
      have q0 := hO.1
      have e0 : (oF 39 T).eval (.tmp 1) = .pointer (some ⟨w.heap.size, 0, none⟩) := (oF_eval (by decide)).trans (show T 1 = _ from q0)
      refine og_some (b := true) (c := true) rfl (show T 22 = _ from d0) (fun hc => ?_) (fun hc h => absurd h hc)
      have im := b1.kx hG (by simp)
      have m0 := im.c (i := 0) rfl
      have m1 := im.c (i := 1) rfl
      have m2 := im.c (i := 2) rfl
      have m3 := im.c (i := 3) rfl
      have m4 := im.c (i := 4) rfl
      have m5 := im.c (i := 5) rfl
      have m6 := im.c (i := 6) rfl
      have m7 := im.c (i := 7) rfl
      have m8 := im.c (i := 8) rfl
      clear im
      exact o_val (v := .agg #[.string n, .int .i64 k, .int .i64 a, .int .i64 x, .int .i64 y, .int .i64 z, .int .i64 lo, .int .i64 hi, .slice fp fl fc]) (w' := w9) (by generalize (oF 39 T).eval = rr at *; simp [execOp, go_sem, e0, m0, m1, m2, m3, m4, m5, m6, m7, m8]) rfl (fun _ => rfl) (Kx.refl _ _)
    · intro T w9 hG hD hO Q
      have d0 := hD.1
      have d1 := hD.2.1
      have e0 : (oF 39 T).eval (.func 19) = .func (.func 19) #[] #[] := rfl
      have G1 : true = true → T 23 = .agg #[.string n, .int .i64 k, .int .i64 a, .int .i64 x, .int .i64 y, .int .i64 z, .int .i64 lo, .int .i64 hi, .slice fp fl fc] := d0
      refine og_some (b := true) (c := true) rfl (show T 22 = _ from d1) (fun hc => ?_) (fun hc h => absurd h hc)
      have e1 : (oF 39 T).eval (.tmp 23) = .agg #[.string n, .int .i64 k, .int .i64 a, .int .i64 x, .int .i64 y, .int .i64 z, .int .i64 lo, .int .i64 hi, .slice fp fl fc] := (oF_eval (by decide)).trans (G1 hc)
      refine o_call (oc1 (enters_of Tryz.func19 (by kernel_rfl) rfl) rfl rfl e1) rfl ?_
      exact (Cf.out (frAll n k a x y z lo hi fp fl fc fs hnz hfr (by omega) hz2) w9 (gl.kx hG (by simp))).mono fun r W' h => ⟨_, h.1, (fun _ => rfl), h.2.kx⟩
    · intro T w9 hG hD hO Q
      have d0 := hD.1
      have q0 := hO.1
      have e0 : (oF 39 T).eval (.tmp 1) = .pointer (some ⟨w.heap.size, 0, none⟩) := (oF_eval (by decide)).trans (show T 1 = _ from q0)
      refine og_some (b := true) (c := true) rfl (show T 22 = _ from d0) (fun hc => ?_) (fun hc h => absurd h hc)
      have im := b1.kx hG (by simp)
      have m0 := im.c (i := 0) rfl
      have m1 := im.c (i := 1) rfl
      have m2 := im.c (i := 2) rfl
      have m3 := im.c (i := 3) rfl
      have m4 := im.c (i := 4) rfl
      have m5 := im.c (i := 5) rfl
      have m6 := im.c (i := 6) rfl
      have m7 := im.c (i := 7) rfl
      have m8 := im.c (i := 8) rfl
      clear im
      exact o_val (v := .agg #[.string n, .int .i64 k, .int .i64 a, .int .i64 x, .int .i64 y, .int .i64 z, .int .i64 lo, .int .i64 hi, .slice fp fl fc]) (w' := w9) (by generalize (oF 39 T).eval = rr at *; simp [execOp, go_sem, e0, m0, m1, m2, m3, m4, m5, m6, m7, m8]) rfl (fun _ => rfl) (Kx.refl _ _)
    · intro T w9 hG hD hO Q
      have d0 := hD.1
      have d1 := hD.2.1
      have e0 : (oF 39 T).eval (.func 20) = .func (.func 20) #[] #[] := rfl
      have G1 : true = true → T 25 = .agg #[.string n, .int .i64 k, .int .i64 a, .int .i64 x, .int .i64 y, .int .i64 z, .int .i64 lo, .int .i64 hi, .slice fp fl fc] := d0
      refine og_some (b := true) (c := true) rfl (show T 22 = _ from d1) (fun hc => ?_) (fun hc h => absurd h hc)
      have e1 : (oF 39 T).eval (.tmp 25) = .agg #[.string n, .int .i64 k, .int .i64 a, .int .i64 x, .int .i64 y, .int .i64 z, .int .i64 lo, .int .i64 hi, .slice fp fl fc] := (oF_eval (by decide)).trans (G1 hc)
      refine o_call (oc1 (enters_of Tryz.func20 (by kernel_rfl) rfl) rfl rfl e1) rfl ?_
      exact (Cf.out (rfrAll n k a x y z lo hi fp fl fc fs hnz hfr hz2) w9 (gl.kx hG (by simp))).mono fun r W' h => ⟨_, h.1, (fun _ => rfl), h.2.kx⟩
    · intro T w9 hG hD hO Q
      have d0 := hD.1
      have d1 := hD.2.1
      have d2 := hD.2.2.1
      have G0 : true = true → T 24 = .int .i64 (alE n k a x y z lo hi fs) := d0
      have G1 : true = true → T 26 = .int .i64 (alE n k a x y z lo hi fs) := d1
      refine og_some (b := true) (c := true) rfl (show T 22 = _ from d2) (fun hc => ?_) (fun hc h => absurd h hc)
      have e0 : (oF 39 T).eval (.tmp 24) = .int .i64 (alE n k a x y z lo hi fs) := (oF_eval (by decide)).trans (G0 hc)
      have e1 : (oF 39 T).eval (.tmp 26) = .int .i64 (alE n k a x y z lo hi fs) := (oF_eval (by decide)).trans (G1 hc)
      exact o_val (v := .bool true) (w' := w9) (by generalize (oF 39 T).eval = rr at *; simp [execOp, go_sem, e0, e1]) rfl (fun _ => rfl) (Kx.refl _ _)
    · intro T w9 hG hD hO Q
      have d0 := hD.1
      have d1 := hD.2.1
      have e0 : (oF 39 T).eval (.tmp 22) = .bool true := (oF_eval (by decide)).trans (show T 22 = _ from d0)
      have G1 : true = true → T 27 = .bool true := d1
      have e1 : (oF 39 T).eval (.tmp 27) = T 27 := oF_eval (by decide)
      have e2 : (oF 39 T).eval (.const (.bool false)) = .bool false := rfl
      refine og_none rfl ?_
      rw [G1 rfl] at e1
      exact o_val (v := .bool true) (w' := w9) (by generalize (oF 39 T).eval = rr at *; simp [execOp, go_sem, e0, e1]) rfl rfl (Kx.refl _ _)
    · intro T w9 hG hD hO Q
      have d0 := hD.1
      have e0 : (oF 39 T).eval (.tmp 28) = .bool true := (oF_eval (by decide)).trans (show T 28 = _ from d0)
      refine og_none rfl ?_
      exact o_val (v := .bool true) (w' := w9) (by generalize (oF 39 T).eval = rr at *; simp [execOp, go_sem, e0]) rfl rfl (Kx.refl _ _)
    · intro T w9 hG hD hO Q
      have d0 := hD.1
      have q0 := hO.1
      have e0 : (oF 39 T).eval (.tmp 3) = v1 := (oF_eval (by decide)).trans (show T 3 = _ from q0)
      refine og_some (b := true) (c := true) rfl (show T 29 = _ from d0) (fun hc => ?_) (fun hc h => absurd h hc)
      exact o_val (v := v1) (w' := w9) (by generalize (oF 39 T).eval = rr at *; simp [execOp, go_sem, e0]) rfl (fun _ => rfl) (Kx.refl _ _)
    · intro T w9 hG hD hO Q
      have d0 := hD.1
      have q0 := hO.1
      have e0 : (oF 39 T).eval (.tmp 5) = v2 := (oF_eval (by decide)).trans (show T 5 = _ from q0)
      refine og_some (b := true) (c := true) rfl (show T 29 = _ from d0) (fun hc => ?_) (fun hc h => absurd h hc)
      exact o_val (v := v2) (w' := w9) (by generalize (oF 39 T).eval = rr at *; simp [execOp, go_sem, e0]) rfl (fun _ => rfl) (Kx.refl _ _)
    · intro T w9 hG hD hO Q
      have d0 := hD.1
      have d1 := hD.2.1
      have d2 := hD.2.2.1
      have e0 : (oF 39 T).eval (.func 21) = .func (.func 21) #[] #[] := rfl
      have G1 : true = true → T 30 = v1 := d0
      have G2 : true = true → T 31 = v2 := d1
      refine og_some (b := true) (c := true) rfl (show T 29 = _ from d2) (fun hc => ?_) (fun hc h => absurd h hc)
      have e1 : (oF 39 T).eval (.tmp 30) = v1 := (oF_eval (by decide)).trans (G1 hc)
      have e2 : (oF 39 T).eval (.tmp 31) = v2 := (oF_eval (by decide)).trans (G2 hc)
      refine o_call (oc2 (enters_of Tryz.func21 (by kernel_rfl) rfl) rfl rfl e1 e2) rfl ?_
      exact (sEqual (hs1.kx hG) (hs2.kx hG) hdl).mono fun r W' h => ⟨_, h.1, (fun _ => rfl), h.2.kx⟩
    · intro T w9 hG hD hO Q
      have d0 := hD.1
      have d1 := hD.2.1
      have e0 : (oF 39 T).eval (.tmp 29) = .bool true := (oF_eval (by decide)).trans (show T 29 = _ from d0)
      have G1 : true = true → T 32 = .bool true := d1
      have e1 : (oF 39 T).eval (.tmp 32) = T 32 := oF_eval (by decide)
      have e2 : (oF 39 T).eval (.const (.bool false)) = .bool false := rfl
      refine og_none rfl ?_
      rw [G1 rfl] at e1
      exact o_val (v := .bool true) (w' := w9) (by generalize (oF 39 T).eval = rr at *; simp [execOp, go_sem, e0, e1]) rfl rfl (Kx.refl _ _)
    · intro T w9 hG hD hO Q
      have d0 := hD.1
      have e0 : (oF 39 T).eval (.tmp 33) = .bool true := (oF_eval (by decide)).trans (show T 33 = _ from d0)
      refine og_none rfl ?_
      exact o_val (v := .bool true) (w' := w9) (by generalize (oF 39 T).eval = rr at *; simp [execOp, go_sem, e0]) rfl rfl (Kx.refl _ _)
    · intro T w9 hG hD hO Q
      have d0 := hD.1
      have q0 := hO.1
      have e0 : (oF 39 T).eval (.tmp 4) = .int .i64 (alE n k a x y z lo hi fs) := (oF_eval (by decide)).trans (show T 4 = _ from q0)
      refine og_some (b := true) (c := true) rfl (show T 34 = _ from d0) (fun hc => ?_) (fun hc h => absurd h hc)
      exact o_val (v := .int .i64 (alE n k a x y z lo hi fs)) (w' := w9) (by generalize (oF 39 T).eval = rr at *; simp [execOp, go_sem, e0]) rfl (fun _ => rfl) (Kx.refl _ _)
    · intro T w9 hG hD hO Q
      have d0 := hD.1
      have q0 := hO.1
      have e0 : (oF 39 T).eval (.tmp 6) = .int .i64 (alE n k a x y z lo hi fs) := (oF_eval (by decide)).trans (show T 6 = _ from q0)
      refine og_some (b := true) (c := true) rfl (show T 34 = _ from d0) (fun hc => ?_) (fun hc h => absurd h hc)
      exact o_val (v := .int .i64 (alE n k a x y z lo hi fs)) (w' := w9) (by generalize (oF 39 T).eval = rr at *; simp [execOp, go_sem, e0]) rfl (fun _ => rfl) (Kx.refl _ _)
    · intro T w9 hG hD hO Q
      have d0 := hD.1
      have d1 := hD.2.1
      have d2 := hD.2.2.1
      have G0 : true = true → T 35 = .int .i64 (alE n k a x y z lo hi fs) := d0
      have G1 : true = true → T 36 = .int .i64 (alE n k a x y z lo hi fs) := d1
      refine og_some (b := true) (c := true) rfl (show T 34 = _ from d2) (fun hc => ?_) (fun hc h => absurd h hc)
      have e0 : (oF 39 T).eval (.tmp 35) = .int .i64 (alE n k a x y z lo hi fs) := (oF_eval (by decide)).trans (G0 hc)
      have e1 : (oF 39 T).eval (.tmp 36) = .int .i64 (alE n k a x y z lo hi fs) := (oF_eval (by decide)).trans (G1 hc)
      exact o_val (v := .bool true) (w' := w9) (by generalize (oF 39 T).eval = rr at *; simp [execOp, go_sem, e0, e1]) rfl (fun _ => rfl) (Kx.refl _ _)
    · intro T w9 hG hD hO Q
      have d0 := hD.1
      have d1 := hD.2.1
      have e0 : (oF 39 T).eval (.tmp 34) = .bool true := (oF_eval (by decide)).trans (show T 34 = _ from d0)
      have G1 : true = true → T 37 = .bool true := d1
      have e1 : (oF 39 T).eval (.tmp 37) = T 37 := oF_eval (by decide)
      have e2 : (oF 39 T).eval (.const (.bool false)) = .bool false := rfl
      refine og_none rfl ?_
      rw [G1 rfl] at e1
      exact o_val (v := .bool true) (w' := w9) (by generalize (oF 39 T).eval = rr at *; simp [execOp, go_sem, e0, e1]) rfl rfl (Kx.refl _ _)
    · intro T w9 hG hD hO Q
      have d0 := hD.1
      have e0 : (oF 39 T).eval (.tmp 38) = .bool true := (oF_eval (by decide)).trans (show T 38 = _ from d0)
      refine og_none rfl ?_
      exact o_val (v := .bool true) (w' := w9) (by generalize (oF 39 T).eval = rr at *; simp [execOp, go_sem, e0]) rfl rfl (Kx.refl _ _)
  case fin =>
    intro T w4 hout hval hG
    have s4 := hG.2.2.2.1
    simp only [World.size_drew] at s4
    rw [show oF 39 T = (⟨#[T 0, T 1, T 2, T 3, T 4, T 5, T 6, T 7, T 8, T 9, T 10, T 11, T 12, T 13, T 14, T 15, T 16, T 17, T 18, T 19, T 20, T 21, T 22, T 23, T 24, T 25, T 26, T 27, T 28, T 29, T 30, T 31, T 32, T 33, T 34, T 35, T 36, T 37, T 38], []⟩ : Act) from oF_list 39 T]
    rw [show T 0 = .agg #[.string n, .int .i64 k, .int .i64 a, .int .i64 x, .int .i64 y, .int .i64 z, .int .i64 lo, .int .i64 hi, .slice fp fl fc] from hout 0 rfl]
    rw [show T 1 = .pointer (some ⟨w.heap.size, 0, none⟩) from hout 1 rfl]
    rw [show T 2 = .bool true from hval 18 (by decide : 18 < 19)]
    rw [show T 7 = .agg #[.string n, .int .i64 k, .int .i64 a, .int .i64 x, .int .i64 y, .int .i64 z, .int .i64 lo, .int .i64 hi, .slice fp fl fc] from hout 7 rfl]
    rw [show T 8 = .bool true from hout 8 rfl]
    rw [show T 9 = .bool false from hout 9 rfl]
    rw [show T 11 = .tuple #[v1, .int .i64 (alE n k a x y z lo hi fs)] from hout 11 rfl]
    rw [show T 12 = .agg #[.string n, .int .i64 k, .int .i64 a, .int .i64 x, .int .i64 y, .int .i64 z, .int .i64 lo, .int .i64 hi, .slice fp fl fc] from hout 12 rfl]
    rw [show T 13 = .tuple #[v1, .int .i64 (alE n k a x y z lo hi fs)] from hout 13 rfl]
    rw [show T 14 = v1 from hout 14 rfl]
    rw [show T 15 = .int .i64 (alE n k a x y z lo hi fs) from hout 15 rfl]
    rw [show T 16 = .tuple #[v2, .int .i64 (alE n k a x y z lo hi fs)] from hout 16 rfl]
    rw [show T 17 = .agg #[.string n, .int .i64 k, .int .i64 a, .int .i64 x, .int .i64 y, .int .i64 z, .int .i64 lo, .int .i64 hi, .slice fp fl fc] from hout 17 rfl]
    rw [show T 18 = .tuple #[v2, .int .i64 (alE n k a x y z lo hi fs)] from hout 18 rfl]
    rw [show T 19 = v2 from hout 19 rfl]
    rw [show T 20 = .int .i64 (alE n k a x y z lo hi fs) from hout 20 rfl]
    replace b1 := b1.kx hG (by simp)
    replace hs1 := hs1.kx hG (by simp)
    replace hs2 := hs2.kx hG (by simp)
    replace kx := (show Kb _ _ from kx.drew).trans hG.nil
    replace gl := gl0.out.kb kx
    clear hout hval hG
    go_wp2
    go_ret
    exact ⟨rfl, kx⟩
theorem cFrameLists (n : ByteArray) (k a x y z lo hi : Int) (fp : Option Addr) (fl fc : Nat) (fs : List FrT) (w : World) (gl : Gf w w) (hfr : FrP w (.slice fp fl fc) fs) : Calls Tryz.prog 4 #[.agg #[.string n, .int .i64 k, .int .i64 a, .int .i64 x, .int .i64 y, .int .i64 z, .int .i64 lo, .int .i64 hi, .slice fp fl fc]] w fun r W' => r = .returned (.bool true) ∧ Kb w W' := by
  rcases Bool.eq_false_or_eq_true (fewB n fs) with h1 | h1
  · obtain ⟨h2, h3, h4⟩ := few_all h1
    exact llB_1 w n k a x y z lo hi fp fl fc fs hfr h1 h2 (by have := hfr.len; omega) h4 (fun f h => ⟨by have := (h4 f h).1; omega, (h4 f h).2⟩) (dtV_len h3 h4) w gl
  · exact llA_1 w n k a x y z lo hi fp fl fc fs hfr h1 w gl
end Go.Proofs.YtlimjohnimgnhaaGreatDoor
