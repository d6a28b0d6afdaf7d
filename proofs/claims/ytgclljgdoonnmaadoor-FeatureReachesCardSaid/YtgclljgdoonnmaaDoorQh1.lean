/- Features: walks of the laws Checks and Ends. -/
import Derived.Test.YtgclljgdoonnmaaDoorQg5
import Derived.Test.YtgclljgdoonnmaaDoorQg9
namespace Go.Proofs.YtgclljgdoonnmaaDoor
open Go.RowKit

set_option maxRecDepth 100000 in
set_option maxHeartbeats 4000000 in
theorem lwChecks_1 (n : ByteArray) (k : Int) (a : Int) (x : Int) (y : Int) (z : Int) (lo : Int) (hi : Int) (fp : Option Addr) (fl : Nat) (fc : Nat) (fs : List FrT) (o1 : Bool) (r2 : Int) (r3 : Int) (r4 : Int) (r5 : Int) (r6 : Int) (r7 : Int)   (q1 : Cg 12 #[.agg #[.string n, .int .i64 k, .int .i64 a, .int .i64 x, .int .i64 y, .int .i64 z, .int .i64 lo, .int .i64 hi, .slice fp fl fc]] (.tuple #[.bool o1, .int .i64 r2])) (q2 : Ca 13 #[.agg #[.string n, .int .i64 k, .int .i64 a, .int .i64 x, .int .i64 y, .int .i64 z, .int .i64 lo, .int .i64 hi, .slice fp fl fc]] (.tuple #[.bool o1, .int .i64 r2])) (q3 : Cg 14 #[.agg #[.string n, .int .i64 k, .int .i64 a, .int .i64 x, .int .i64 y, .int .i64 z, .int .i64 lo, .int .i64 hi, .slice fp fl fc]] (.tuple #[.int .i64 r3, .int .i64 r4])) (q4 : Ca 15 #[.agg #[.string n, .int .i64 k, .int .i64 a, .int .i64 x, .int .i64 y, .int .i64 z, .int .i64 lo, .int .i64 hi, .slice fp fl fc]] (.tuple #[.int .i64 r3, .int .i64 r4])) (q5 : Cg 16 #[.agg #[.string n, .int .i64 k, .int .i64 a, .int .i64 x, .int .i64 y, .int .i64 z, .int .i64 lo, .int .i64 hi, .slice fp fl fc]] (.tuple #[.int .i64 r5, .int .i64 r6])) (q6 : Ca 17 #[.agg #[.string n, .int .i64 k, .int .i64 a, .int .i64 x, .int .i64 y, .int .i64 z, .int .i64 lo, .int .i64 hi, .slice fp fl fc]] (.tuple #[.int .i64 r5, .int .i64 r6])) (q7 : Ca 18 #[.agg #[.string n, .int .i64 k, .int .i64 a, .int .i64 x, .int .i64 y, .int .i64 z, .int .i64 lo, .int .i64 hi, .slice fp fl fc]] (.int .i64 r7)) (q8 : Ca 19 #[.agg #[.string n, .int .i64 k, .int .i64 a, .int .i64 x, .int .i64 y, .int .i64 z, .int .i64 lo, .int .i64 hi, .slice fp fl fc]] (.int .i64 r7))  (h1 : (fewB n fs) = true) (w : World) (gl : Gl w) (fr : FrS w (.slice fp fl fc) fs)  : Calls Tryd.prog 3 #[.agg #[.string n, .int .i64 k, .int .i64 a, .int .i64 x, .int .i64 y, .int .i64 z, .int .i64 lo, .int .i64 hi, .slice fp fl fc]] w fun r W' => r = .returned (.bool true) ∧ Kb w W' := by
  have kx := Kb.refl w
  unfold Ca at q2 q4 q6 q7 q8
  unfold Cg at q1 q3 q5
  have f1 := (Is.made w #[.string n, .int .i64 k, .int .i64 a, .int .i64 x, .int .i64 y, .int .i64 z, .int .i64 lo, .int .i64 hi, .slice fp fl fc] 28).c (i := 0) rfl
  have f2 := (Is.made w #[.string n, .int .i64 k, .int .i64 a, .int .i64 x, .int .i64 y, .int .i64 z, .int .i64 lo, .int .i64 hi, .slice fp fl fc] 28).c (i := 1) rfl
  have f3 := (Is.made w #[.string n, .int .i64 k, .int .i64 a, .int .i64 x, .int .i64 y, .int .i64 z, .int .i64 lo, .int .i64 hi, .slice fp fl fc] 28).c (i := 2) rfl
  have f4 := (Is.made w #[.string n, .int .i64 k, .int .i64 a, .int .i64 x, .int .i64 y, .int .i64 z, .int .i64 lo, .int .i64 hi, .slice fp fl fc] 28).c (i := 3) rfl
  have f5 := (Is.made w #[.string n, .int .i64 k, .int .i64 a, .int .i64 x, .int .i64 y, .int .i64 z, .int .i64 lo, .int .i64 hi, .slice fp fl fc] 28).c (i := 4) rfl
  have f6 := (Is.made w #[.string n, .int .i64 k, .int .i64 a, .int .i64 x, .int .i64 y, .int .i64 z, .int .i64 lo, .int .i64 hi, .slice fp fl fc] 28).c (i := 5) rfl
  have f7 := (Is.made w #[.string n, .int .i64 k, .int .i64 a, .int .i64 x, .int .i64 y, .int .i64 z, .int .i64 lo, .int .i64 hi, .slice fp fl fc] 28).c (i := 6) rfl
  have f8 := (Is.made w #[.string n, .int .i64 k, .int .i64 a, .int .i64 x, .int .i64 y, .int .i64 z, .int .i64 lo, .int .i64 hi, .slice fp fl fc] 28).c (i := 7) rfl
  have f9 := (Is.made w #[.string n, .int .i64 k, .int .i64 a, .int .i64 x, .int .i64 y, .int .i64 z, .int .i64 lo, .int .i64 hi, .slice fp fl fc] 28).c (i := 8) rfl
  go_enter Tryd.func3, Tryd.ntmps3
  go_wp2_with fail
  clear f1 f2 f3 f4 f5 f6 f7 f8 f9
  replace fr := (fr.alloc (.cells #[.string n, .int .i64 k, .int .i64 a, .int .i64 x, .int .i64 y, .int .i64 z, .int .i64 lo, .int .i64 hi, .slice fp fl fc] 28 (0, 0)))
  replace gl := (gl.alloc (.cells #[.string n, .int .i64 k, .int .i64 a, .int .i64 x, .int .i64 y, .int .i64 z, .int .i64 lo, .int .i64 hi, .slice fp fl fc] 28 (0, 0)))
  have b1 := Is.made w #[.string n, .int .i64 k, .int .i64 a, .int .i64 x, .int .i64 y, .int .i64 z, .int .i64 lo, .int .i64 hi, .slice fp fl fc] 28
  replace kx := kx.alloc (.cells #[.string n, .int .i64 k, .int .i64 a, .int .i64 x, .int .i64 y, .int .i64 z, .int .i64 lo, .int .i64 hi, .slice fp fl fc] 28 (0, 0))
  (with_reducible refine (rFew n k a x y z lo hi fp fl fc fs _ fr).mono ?_)
  rintro r w1 ⟨rfl, k1⟩
  replace fr := fr.kb k1
  replace gl := gl.kb k1
  replace b1 := b1.kb k1
  replace kx := kx.trans k1
  have s1 := k1.size
  simp only [World.size_alloc] at s1
  clear k1
  have f10 := b1.c (i := 0) rfl
  have f11 := b1.c (i := 1) rfl
  have f12 := b1.c (i := 2) rfl
  have f13 := b1.c (i := 3) rfl
  have f14 := b1.c (i := 4) rfl
  have f15 := b1.c (i := 5) rfl
  have f16 := b1.c (i := 6) rfl
  have f17 := b1.c (i := 7) rfl
  have f18 := b1.c (i := 8) rfl
  go_wp2_with fail
  clear f10 f11 f12 f13 f14 f15 f16 f17 f18
  (with_reducible refine ((q1.out _ gl)).mono ?_)
  rintro r w2 ⟨rfl, k2⟩
  replace fr := fr.kb k2
  replace gl := gl.kb k2
  replace b1 := b1.kb k2
  replace kx := kx.trans k2
  have s2 := k2.size
  skip
  clear k2
  have f19 := b1.c (i := 0) rfl
  have f20 := b1.c (i := 1) rfl
  have f21 := b1.c (i := 2) rfl
  have f22 := b1.c (i := 3) rfl
  have f23 := b1.c (i := 4) rfl
  have f24 := b1.c (i := 5) rfl
  have f25 := b1.c (i := 6) rfl
  have f26 := b1.c (i := 7) rfl
  have f27 := b1.c (i := 8) rfl
  go_wp2_with fail
  clear f19 f20 f21 f22 f23 f24 f25 f26 f27
  (with_reducible refine (((q2).out _)).mono ?_)
  rintro r w3 ⟨rfl, k3⟩
  replace fr := fr.kb k3
  replace gl := gl.kb k3
  replace b1 := b1.kb k3
  replace kx := kx.trans k3
  have s3 := k3.size
  skip
  clear k3
  have f28 := b1.c (i := 0) rfl
  have f29 := b1.c (i := 1) rfl
  have f30 := b1.c (i := 2) rfl
  have f31 := b1.c (i := 3) rfl
  have f32 := b1.c (i := 4) rfl
  have f33 := b1.c (i := 5) rfl
  have f34 := b1.c (i := 6) rfl
  have f35 := b1.c (i := 7) rfl
  have f36 := b1.c (i := 8) rfl
  go_wp2_with fail
  clear f28 f29 f30 f31 f32 f33 f34 f35 f36
  (with_reducible refine ((q3.out _ gl)).mono ?_)
  rintro r w4 ⟨rfl, k4⟩
  replace fr := fr.kb k4
  replace gl := gl.kb k4
  replace b1 := b1.kb k4
  replace kx := kx.trans k4
  have s4 := k4.size
  skip
  clear k4
  have f37 := b1.c (i := 0) rfl
  have f38 := b1.c (i := 1) rfl
  have f39 := b1.c (i := 2) rfl
  have f40 := b1.c (i := 3) rfl
  have f41 := b1.c (i := 4) rfl
  have f42 := b1.c (i := 5) rfl
  have f43 := b1.c (i := 6) rfl
  have f44 := b1.c (i := 7) rfl
  have f45 := b1.c (i := 8) rfl
  go_wp2_with fail
  clear f37 f38 f39 f40 f41 f42 f43 f44 f45
  (with_reducible refine (((q4).out _)).mono ?_)
  rintro r w5 ⟨rfl, k5⟩
  replace fr := fr.kb k5
  replace gl := gl.kb k5
  replace b1 := b1.kb k5
  replace kx := kx.trans k5
  have s5 := k5.size
  skip
  clear k5
  have f46 := b1.c (i := 0) rfl
  have f47 := b1.c (i := 1) rfl
  have f48 := b1.c (i := 2) rfl
  have f49 := b1.c (i := 3) rfl
  have f50 := b1.c (i := 4) rfl
  have f51 := b1.c (i := 5) rfl
  have f52 := b1.c (i := 6) rfl
  have f53 := b1.c (i := 7) rfl
  have f54 := b1.c (i := 8) rfl
  go_wp2_with fail
  clear f46 f47 f48 f49 f50 f51 f52 f53 f54
  (with_reducible refine ((q5.out _ gl)).mono ?_)
  rintro r w6 ⟨rfl, k6⟩
  replace fr := fr.kb k6
  replace gl := gl.kb k6
  replace b1 := b1.kb k6
  replace kx := kx.trans k6
  have s6 := k6.size
  skip
  clear k6
  have f55 := b1.c (i := 0) rfl
  have f56 := b1.c (i := 1) rfl
  have f57 := b1.c (i := 2) rfl
  have f58 := b1.c (i := 3) rfl
  have f59 := b1.c (i := 4) rfl
  have f60 := b1.c (i := 5) rfl
  have f61 := b1.c (i := 6) rfl
  have f62 := b1.c (i := 7) rfl
  have f63 := b1.c (i := 8) rfl
  go_wp2_with fail
  clear f55 f56 f57 f58 f59 f60 f61 f62 f63
  (with_reducible refine (((q6).out _)).mono ?_)
  rintro r w7 ⟨rfl, k7⟩
  replace fr := fr.kb k7
  replace gl := gl.kb k7
  replace b1 := b1.kb k7
  replace kx := kx.trans k7
  have s7 := k7.size
  skip
  clear k7
  go_wp2_with fail
  replace fr := fr.drew
  replace gl := gl.drew
  replace b1 := b1.drew
  rw [oF_lit]
  refine o_law (⟨87, [some 49, some 50, some 51, some 52, some 53, some 54, some 55, some 56, some 57, some 58, some 59, some 60, some 61, some 62, some 63, some 64, some 65, some 66, some 67, some 68, some 69, some 70, some 71, some 72, some 73, some 74, some 75, some 76, some 77, some 78, some 79, some 80, some 81, some 82, some 83, some 84, some 85, some 86, some 2], [49, 50, 51, 52, 53, 54, 55, 56, 57, 58, 59, 60, 61, 62, 63, 64, 65, 66, 67, 68, 69, 70, 71, 72, 73, 74, 75, 76, 77, 78, 79, 80, 81, 82, 83, 84, 85, 86, 2], [[], [0], [1], [2, 1], [1], [4, 1], [3, 5, 1], [1, 6], [7], [8], [8], [9, 10, 8], [8, 11], [12], [13], [13], [14, 15, 13], [13, 16], [17], [18], [18], [19, 20, 18], [18, 21], [22], [23], [23], [24, 25, 23], [23, 26], [27], [28], [28], [29, 30, 28], [28, 31], [32], [33], [33], [34, 35, 33], [33, 36], [37]], [[], [], [1], [], [1], [], [], [], [], [3], [5], [], [], [], [4], [6], [], [], [], [7], [9], [], [], [], [8], [10], [], [], [], [11], [13], [], [], [], [12], [14], [], [], []]⟩ : OT) (Kx []) (RL [fun vv _ => vv = .bool true, fun vv _ => vv = .bool true, fun vv _ => true = true → vv = .agg #[.string n, .int .i64 k, .int .i64 a, .int .i64 x, .int .i64 y, .int .i64 z, .int .i64 lo, .int .i64 hi, .slice fp fl fc], fun vv _ => true = true → vv = .int .i64 r7, fun vv _ => true = true → vv = .agg #[.string n, .int .i64 k, .int .i64 a, .int .i64 x, .int .i64 y, .int .i64 z, .int .i64 lo, .int .i64 hi, .slice fp fl fc], fun vv _ => true = true → vv = .int .i64 r7, fun vv _ => true = true → vv = .bool true, fun vv _ => vv = .bool true, fun vv _ => vv = .bool true, fun vv _ => true = true → vv = .bool o1, fun vv _ => true = true → vv = .bool o1, fun vv _ => true = true → vv = .bool true, fun vv _ => vv = .bool true, fun vv _ => vv = .bool true, fun vv _ => true = true → vv = .int .i64 r2, fun vv _ => true = true → vv = .int .i64 r2, fun vv _ => true = true → vv = .bool true, fun vv _ => vv = .bool true, fun vv _ => vv = .bool true, fun vv _ => true = true → vv = .int .i64 r3, fun vv _ => true = true → vv = .int .i64 r3, fun vv _ => true = true → vv = .bool true, fun vv _ => vv = .bool true, fun vv _ => vv = .bool true, fun vv _ => true = true → vv = .int .i64 r4, fun vv _ => true = true → vv = .int .i64 r4, fun vv _ => true = true → vv = .bool true, fun vv _ => vv = .bool true, fun vv _ => vv = .bool true, fun vv _ => true = true → vv = .int .i64 r5, fun vv _ => true = true → vv = .int .i64 r5, fun vv _ => true = true → vv = .bool true, fun vv _ => vv = .bool true, fun vv _ => vv = .bool true, fun vv _ => true = true → vv = .int .i64 r6, fun vv _ => true = true → vv = .int .i64 r6, fun vv _ => true = true → vv = .bool true, fun vv _ => vv = .bool true, fun vv _ => vv = .bool true]) (by kernel_rfl) ?hk ?hR ?fin
  case hk => kernel_rfl
  case hR =>
    refine ⟨fun _ => (Kx.refl _ _), fun _ _ _ => Kx.trans, rl_stab ⟨fun _ _ _ _ h => h, fun _ _ _ _ h => h, fun _ _ _ _ h => h, fun _ _ _ _ h => h, fun _ _ _ _ h => h, fun _ _ _ _ h => h, fun _ _ _ _ h => h, fun _ _ _ _ h => h, fun _ _ _ _ h => h, fun _ _ _ _ h => h, fun _ _ _ _ h => h, fun _ _ _ _ h => h, fun _ _ _ _ h => h, fun _ _ _ _ h => h, fun _ _ _ _ h => h, fun _ _ _ _ h => h, fun _ _ _ _ h => h, fun _ _ _ _ h => h, fun _ _ _ _ h => h, fun _ _ _ _ h => h, fun _ _ _ _ h => h, fun _ _ _ _ h => h, fun _ _ _ _ h => h, fun _ _ _ _ h => h, fun _ _ _ _ h => h, fun _ _ _ _ h => h, fun _ _ _ _ h => h, fun _ _ _ _ h => h, fun _ _ _ _ h => h, fun _ _ _ _ h => h, fun _ _ _ _ h => h, fun _ _ _ _ h => h, fun _ _ _ _ h => h, fun _ _ _ _ h => h, fun _ _ _ _ h => h, fun _ _ _ _ h => h, fun _ _ _ _ h => h, fun _ _ _ _ h => h, fun _ _ _ _ h => h, trivial⟩, ?_⟩
    refine allO_cons ?_ (allO_cons ?_ (allO_cons ?_ (allO_cons ?_ (allO_cons ?_ (allO_cons ?_ (allO_cons ?_ (allO_cons ?_ (allO_cons ?_ (allO_cons ?_ (allO_cons ?_ (allO_cons ?_ (allO_cons ?_ (allO_cons ?_ (allO_cons ?_ (allO_cons ?_ (allO_cons ?_ (allO_cons ?_ (allO_cons ?_ (allO_cons ?_ (allO_cons ?_ (allO_cons ?_ (allO_cons ?_ (allO_cons ?_ (allO_cons ?_ (allO_cons ?_ (allO_cons ?_ (allO_cons ?_ (allO_cons ?_ (allO_cons ?_ (allO_cons ?_ (allO_cons ?_ (allO_cons ?_ (allO_cons ?_ (allO_cons ?_ (allO_cons ?_ (allO_cons ?_ (allO_cons ?_ (allO_cons ?_ (allO_nil)))))))))))))))))))))))))))))))))))))))
    · intro T w9 hG hD hO Q
      have e0 : (oF 87 T).eval (.func 11) = .func (.func 11) #[] #[] := rfl
      refine og_none rfl ?_
      refine o_call (oc0 (enters_of Tryd.func11 (by kernel_rfl) rfl) rfl rfl ) rfl ?_
      exact (Cg.out awake_any w9 (gl.kx hG (by simp))).mono fun r W' h => ⟨_, h.1, rfl, h.2.kx⟩
    · intro T w9 hG hD hO Q
      have d0 := hD.1
      have e0 : (oF 87 T).eval (.tmp 49) = .bool true := (oF_eval (by decide)).trans (show T 49 = _ from d0)
      refine og_none rfl ?_
      exact o_val (v := .bool true) (w' := w9) (by generalize (oF 87 T).eval = rr at *; simp [execOp, go_sem, e0]) rfl rfl (Kx.refl _ _)
    · intro T w9 hG hD hO Q
      have d0 := hD.1
      have q0 := hO.1
      have e0 : (oF 87 T).eval (.tmp 1) = .pointer (some ⟨w.heap.size, 0, none⟩) := (oF_eval (by decide)).trans (show T 1 = _ from q0)
      refine og_some (b := true) (c := true) rfl (show T 50 = _ from d0) (fun hc => ?_) (fun hc h => absurd h hc)
      have im := b1.kx hG (by simp)
      have m0 := im.c (i := 0) rfl
      have m1 := im.c (i := 1) rfl
      have m2 := im.c (i := 2) rfl
      have m3 := im.c (i := 3) rfl
      have m4 := im.c (i := 4) rfl
      have m5 := im.c (i := 5) rfl
      have m6 := im.c (i := 6) rfl
      have m7 := im.c (i := 7) rfl
      have m8 := im.c (i := 8) rfl
      clear im
      exact o_val (v := .agg #[.string n, .int .i64 k, .int .i64 a, .int .i64 x, .int .i64 y, .int .i64 z, .int .i64 lo, .int .i64 hi, .slice fp fl fc]) (w' := w9) (by generalize (oF 87 T).eval = rr at *; simp [execOp, go_sem, e0, m0, m1, m2, m3, m4, m5, m6, m7, m8]) rfl (fun _ => rfl) (Kx.refl _ _)
    · intro T w9 hG hD hO Q
      have d0 := hD.1
      have d1 := hD.2.1
      have e0 : (oF 87 T).eval (.func 18) = .func (.func 18) #[] #[] := rfl
      have G1 : true = true → T 51 = .agg #[.string n, .int .i64 k, .int .i64 a, .int .i64 x, .int .i64 y, .int .i64 z, .int .i64 lo, .int .i64 hi, .slice fp fl fc] := d0
      refine og_some (b := true) (c := true) rfl (show T 50 = _ from d1) (fun hc => ?_) (fun hc h => absurd h hc)
      have e1 : (oF 87 T).eval (.tmp 51) = .agg #[.string n, .int .i64 k, .int .i64 a, .int .i64 x, .int .i64 y, .int .i64 z, .int .i64 lo, .int .i64 hi, .slice fp fl fc] := (oF_eval (by decide)).trans (G1 hc)
      refine o_call (oc1 (enters_of Tryd.func18 (by kernel_rfl) rfl) rfl rfl e1) rfl ?_
      exact (q7.out w9).mono fun r W' h => ⟨_, h.1, (fun _ => rfl), h.2.kx⟩
    · intro T w9 hG hD hO Q
      have d0 := hD.1
      have q0 := hO.1
      have e0 : (oF 87 T).eval (.tmp 1) = .pointer (some ⟨w.heap.size, 0, none⟩) := (oF_eval (by decide)).trans (show T 1 = _ from q0)
      refine og_some (b := true) (c := true) rfl (show T 50 = _ from d0) (fun hc => ?_) (fun hc h => absurd h hc)
      have im := b1.kx hG (by simp)
      have m0 := im.c (i := 0) rfl
      have m1 := im.c (i := 1) rfl
      have m2 := im.c (i := 2) rfl
      have m3 := im.c (i := 3) rfl
      have m4 := im.c (i := 4) rfl
      have m5 := im.c (i := 5) rfl
      have m6 := im.c (i := 6) rfl
      have m7 := im.c (i := 7) rfl
      have m8 := im.c (i := 8) rfl
      clear im
      exact o_val (v := .agg #[.string n, .int .i64 k, .int .i64 a, .int .i64 x, .int .i64 y, .int .i64 z, .int .i64 lo, .int .i64 hi, .slice fp fl fc]) (w' := w9) (by generalize (oF 87 T).eval = rr at *; simp [execOp, go_sem, e0, m0, m1, m2, m3, m4, m5, m6, m7, m8]) rfl (fun _ => rfl) (Kx.refl _ _)
    · intro T w9 hG hD hO Q
      have d0 := hD.1
      have d1 := hD.2.1
      have e0 : (oF 87 T).eval (.func 19) = .func (.func 19) #[] #[] := rfl
      have G1 : true = true → T 53 = .agg #[.string n, .int .i64 k, .int .i64 a, .int .i64 x, .int .i64 y, .int .i64 z, .int .i64 lo, .int .i64 hi, .slice fp fl fc] := d0
      refine og_some (b := true) (c := true) rfl (show T 50 = _ from d1) (fun hc => ?_) (fun hc h => absurd h hc)
      have e1 : (oF 87 T).eval (.tmp 53) = .agg #[.string n, .int .i64 k, .int .i64 a, .int .i64 x, .int .i64 y, .int .i64 z, .int .i64 lo, .int .i64 hi, .slice fp fl fc] := (oF_eval (by decide)).trans (G1 hc)
      refine o_call (oc1 (enters_of Tryd.func19 (by kernel_rfl) rfl) rfl rfl e1) rfl ?_
      exact (q8.out w9).mono fun r W' h => ⟨_, h.1, (fun _ => rfl), h.2.kx⟩
    · intro T w9 hG hD hO Q
      have d0 := hD.1
      have d1 := hD.2.1
      have d2 := hD.2.2.1
      have G0 : true = true → T 52 = .int .i64 r7 := d0
      have G1 : true = true → T 54 = .int .i64 r7 := d1
      refine og_some (b := true) (c := true) rfl (show T 50 = _ from d2) (fun hc => ?_) (fun hc h => absurd h hc)
      have e0 : (oF 87 T).eval (.tmp 52) = .int .i64 r7 := (oF_eval (by decide)).trans (G0 hc)
      have e1 : (oF 87 T).eval (.tmp 54) = .int .i64 r7 := (oF_eval (by decide)).trans (G1 hc)
      exact o_val (v := .bool true) (w' := w9) (by generalize (oF 87 T).eval = rr at *; simp [execOp, go_sem, e0, e1]) rfl (fun _ => rfl) (Kx.refl _ _)
    · intro T w9 hG hD hO Q
      have d0 := hD.1
      have d1 := hD.2.1
      have e0 : (oF 87 T).eval (.tmp 50) = .bool true := (oF_eval (by decide)).trans (show T 50 = _ from d0)
      have G1 : true = true → T 55 = .bool true := d1
      have e1 : (oF 87 T).eval (.tmp 55) = T 55 := oF_eval (by decide)
      have e2 : (oF 87 T).eval (.const (.bool false)) = .bool false := rfl
      refine og_none rfl ?_
      rw [G1 rfl] at e1
      exact o_val (v := .bool true) (w' := w9) (by generalize (oF 87 T).eval = rr at *; simp [execOp, go_sem, e0, e1]) rfl rfl (Kx.refl _ _)
    · intro T w9 hG hD hO Q
      have d0 := hD.1
      have e0 : (oF 87 T).eval (.tmp 56) = .bool true := (oF_eval (by decide)).trans (show T 56 = _ from d0)
      refine og_none rfl ?_
      exact o_val (v := .bool true) (w' := w9) (by generalize (oF 87 T).eval = rr at *; simp [execOp, go_sem, e0]) rfl rfl (Kx.refl _ _)
    · intro T w9 hG hD hO Q
      have d0 := hD.1
      have q0 := hO.1
      have e0 : (oF 87 T).eval (.tmp 3) = .bool o1 := (oF_eval (by decide)).trans (show T 3 = _ from q0)
      refine og_some (b := true) (c := true) rfl (show T 57 = _ from d0) (fun hc => ?_) (fun hc h => absurd h hc)
      exact o_val (v := .bool o1) (w' := w9) (by generalize (oF 87 T).eval = rr at *; simp [execOp, go_sem, e0]) rfl (fun _ => rfl) (Kx.refl _ _)
    · intro T w9 hG hD hO Q
      have d0 := hD.1
      have q0 := hO.1
      have e0 : (oF 87 T).eval (.tmp 5) = .bool o1 := (oF_eval (by decide)).trans (show T 5 = _ from q0)
      refine og_some (b := true) (c := true) rfl (show T 57 = _ from d0) (fun hc => ?_) (fun hc h => absurd h hc)
      exact o_val (v := .bool o1) (w' := w9) (by generalize (oF 87 T).eval = rr at *; simp [execOp, go_sem, e0]) rfl (fun _ => rfl) (Kx.refl _ _)
    · intro T w9 hG hD hO Q
      have d0 := hD.1
      have d1 := hD.2.1
      have d2 := hD.2.2.1
      have G0 : true = true → T 58 = .bool o1 := d0
      have G1 : true = true → T 59 = .bool o1 := d1
      refine og_some (b := true) (c := true) rfl (show T 57 = _ from d2) (fun hc => ?_) (fun hc h => absurd h hc)
      have e0 : (oF 87 T).eval (.tmp 58) = .bool o1 := (oF_eval (by decide)).trans (G0 hc)
      have e1 : (oF 87 T).eval (.tmp 59) = .bool o1 := (oF_eval (by decide)).trans (G1 hc)
      exact o_val (v := .bool true) (w' := w9) (by generalize (oF 87 T).eval = rr at *; simp [execOp, go_sem, e0, e1]) rfl (fun _ => rfl) (Kx.refl _ _)
    · intro T w9 hG hD hO Q
      have d0 := hD.1
      have d1 := hD.2.1
      have e0 : (oF 87 T).eval (.tmp 57) = .bool true := (oF_eval (by decide)).trans (show T 57 = _ from d0)
      have G1 : true = true → T 60 = .bool true := d1
      have e1 : (oF 87 T).eval (.tmp 60) = T 60 := oF_eval (by decide)
      have e2 : (oF 87 T).eval (.const (.bool false)) = .bool false := rfl
      refine og_none rfl ?_
      rw [G1 rfl] at e1
      exact o_val (v := .bool true) (w' := w9) (by generalize (oF 87 T).eval = rr at *; simp [execOp, go_sem, e0, e1]) rfl rfl (Kx.refl _ _)
    · intro T w9 hG hD hO Q
      have d0 := hD.1
      have e0 : (oF 87 T).eval (.tmp 61) = .bool true := (oF_eval (by decide)).trans (show T 61 = _ from d0)
      refine og_none rfl ?_
      exact o_val (v := .bool true) (w' := w9) (by generalize (oF 87 T).eval = rr at *; simp [execOp, go_sem, e0]) rfl rfl (Kx.refl _ _)
    · intro T w9 hG hD hO Q
      have d0 := hD.1
      have q0 := hO.1
      have e0 : (oF 87 T).eval (.tmp 4) = .int .i64 r2 := (oF_eval (by decide)).trans (show T 4 = _ from q0)
      refine og_some (b := true) (c := true) rfl (show T 62 = _ from d0) (fun hc => ?_) (fun hc h => absurd h hc)
      exact o_val (v := .int .i64 r2) (w' := w9) (by generalize (oF 87 T).eval = rr at *; simp [execOp, go_sem, e0]) rfl (fun _ => rfl) (Kx.refl _ _)
    · intro T w9 hG hD hO Q
      have d0 := hD.1
      have q0 := hO.1
      have e0 : (oF 87 T).eval (.tmp 6) = .int .i64 r2 := (oF_eval (by decide)).trans (show T 6 = _ from q0)
      refine og_some (b := true) (c := true) rfl (show T 62 = _ from d0) (fun hc => ?_) (fun hc h => absurd h hc)
      exact o_val (v := .int .i64 r2) (w' := w9) (by generalize (oF 87 T).eval = rr at *; simp [execOp, go_sem, e0]) rfl (fun _ => rfl) (Kx.refl _ _)
    · intro T w9 hG hD hO Q
      have d0 := hD.1
      have d1 := hD.2.1
      have d2 := hD.2.2.1
      have G0 : true = true → T 63 = .int .i64 r2 := d0
      have G1 : true = true → T 64 = .int .i64 r2 := d1
      refine og_some (b := true) (c := true) rfl (show T 62 = _ from d2) (fun hc => ?_) (fun hc h => absurd h hc)
      have e0 : (oF 87 T).eval (.tmp 63) = .int .i64 r2 := (oF_eval (by decide)).trans (G0 hc)
      have e1 : (oF 87 T).eval (.tmp 64) = .int .i64 r2 := (oF_eval (by decide)).trans (G1 hc)
      exact o_val (v := .bool true) (w' := w9) (by generalize (oF 87 T).eval = rr at *; simp [execOp, go_sem, e0, e1]) rfl (fun _ => rfl) (Kx.refl _ _)
    · intro T w9 hG hD hO Q
      have d0 := hD.1
      have d1 := hD.2.1
      have e0 : (oF 87 T).eval (.tmp 62) = .bool true := (oF_eval (by decide)).trans (show T 62 = _ from d0)
      have G1 : true = true → T 65 = .bool true := d1
      have e1 : (oF 87 T).eval (.tmp 65) = T 65 := oF_eval (by decide)
      have e2 : (oF 87 T).eval (.const (.bool false)) = .bool false := rfl
      refine og_none rfl ?_
      rw [G1 rfl] at e1
      exact o_val (v := .bool true) (w' := w9) (by generalize (oF 87 T).eval = rr at *; simp [execOp, go_sem, e0, e1]) rfl rfl (Kx.refl _ _)
    · intro T w9 hG hD hO Q
      have d0 := hD.1
      have e0 : (oF 87 T).eval (.tmp 66) = .bool true := (oF_eval (by decide)).trans (show T 66 = _ from d0)
      refine og_none rfl ?_
      exact o_val (v := .bool true) (w' := w9) (by generalize (oF 87 T).eval = rr at *; simp [execOp, go_sem, e0]) rfl rfl (Kx.refl _ _)
    · intro T w9 hG hD hO Q
      have d0 := hD.1
      have q0 := hO.1
      have e0 : (oF 87 T).eval (.tmp 7) = .int .i64 r3 := (oF_eval (by decide)).trans (show T 7 = _ from q0)
      refine og_some (b := true) (c := true) rfl (show T 67 = _ from d0) (fun hc => ?_) (fun hc h => absurd h hc)
      exact o_val (v := .int .i64 r3) (w' := w9) (by generalize (oF 87 T).eval = rr at *; simp [execOp, go_sem, e0]) rfl (fun _ => rfl) (Kx.refl _ _)
    · intro T w9 hG hD hO Q
      have d0 := hD.1
      have q0 := hO.1
      have e0 : (oF 87 T).eval (.tmp 9) = .int .i64 r3 := (oF_eval (by decide)).trans (show T 9 = _ from q0)
      refine og_some (b := true) (c := true) rfl (show T 67 = _ from d0) (fun hc => ?_) (fun hc h => absurd h hc)
      exact o_val (v := .int .i64 r3) (w' := w9) (by generalize (oF 87 T).eval = rr at *; simp [execOp, go_sem, e0]) rfl (fun _ => rfl) (Kx.refl _ _)
    · intro T w9 hG hD hO Q
      have d0 := hD.1
      have d1 := hD.2.1
      have d2 := hD.2.2.1
      have G0 : true = true → T 68 = .int .i64 r3 := d0
      have G1 : true = true → T 69 = .int .i64 r3 := d1
      refine og_some (b := true) (c := true) rfl (show T 67 = _ from d2) (fun hc => ?_) (fun hc h => absurd h hc)
      have e0 : (oF 87 T).eval (.tmp 68) = .int .i64 r3 := (oF_eval (by decide)).trans (G0 hc)
      have e1 : (oF 87 T).eval (.tmp 69) = .int .i64 r3 := (oF_eval (by decide)).trans (G1 hc)
      exact o_val (v := .bool true) (w' := w9) (by generalize (oF 87 T).eval = rr at *; simp [execOp, go_sem, e0, e1]) rfl (fun _ => rfl) (Kx.refl _ _)
    · intro T w9 hG hD hO Q
      have d0 := hD.1
      have d1 := hD.2.1
      have e0 : (oF 87 T).eval (.tmp 67) = .bool true := (oF_eval (by decide)).trans (show T 67 = _ from d0)
      have G1 : true = true → T 70 = .bool true := d1
      have e1 : (oF 87 T).eval (.tmp 70) = T 70 := oF_eval (by decide)
      have e2 : (oF 87 T).eval (.const (.bool false)) = .bool false := rfl
      refine og_none rfl ?_
      rw [G1 rfl] at e1
      exact o_val (v := .bool true) (w' := w9) (by generalize (oF 87 T).eval = rr at *; simp [execOp, go_sem, e0, e1]) rfl rfl (Kx.refl _ _)
    · intro T w9 hG hD hO Q
      have d0 := hD.1
      have e0 : (oF 87 T).eval (.tmp 71) = .bool true := (oF_eval (by decide)).trans (show T 71 = _ from d0)
      refine og_none rfl ?_
      exact o_val (v := .bool true) (w' := w9) (by generalize (oF 87 T).eval = rr at *; simp [execOp, go_sem, e0]) rfl rfl (Kx.refl _ _)
    · intro T w9 hG hD hO Q
      have d0 := hD.1
      have q0 := hO.1
      have e0 : (oF 87 T).eval (.tmp 8) = .int .i64 r4 := (oF_eval (by decide)).trans (show T 8 = _ from q0)
      refine og_some (b := true) (c := true) rfl (show T 72 = _ from d0) (fun hc => ?_) (fun hc h => absurd h hc)
      exact o_val (v := .int .i64 r4) (w' := w9) (by generalize (oF 87 T).eval = rr at *; simp [execOp, go_sem, e0]) rfl (fun _ => rfl) (Kx.refl _ _)
    · intro T w9 hG hD hO Q
      have d0 := hD.1
      have q0 := hO.1
      have e0 : (oF 87 T).eval (.tmp 10) = .int .i64 r4 := (oF_eval (by decide)).trans (show T 10 = _ from q0)
      refine og_some (b := true) (c := true) rfl (show T 72 = _ from d0) (fun hc => ?_) (fun hc h => absurd h hc)
      exact o_val (v := .int .i64 r4) (w' := w9) (by generalize (oF 87 T).eval = rr at *; simp [execOp, go_sem, e0]) rfl (fun _ => rfl) (Kx.refl _ _)
    · intro T w9 hG hD hO Q
      have d0 := hD.1
      have d1 := hD.2.1
      have d2 := hD.2.2.1
      have G0 : true = true → T 73 = .int .i64 r4 := d0
      have G1 : true = true → T 74 = .int .i64 r4 := d1
      refine og_some (b := true) (c := true) rfl (show T 72 = _ from d2) (fun hc => ?_) (fun hc h => absurd h hc)
      have e0 : (oF 87 T).eval (.tmp 73) = .int .i64 r4 := (oF_eval (by decide)).trans (G0 hc)
      have e1 : (oF 87 T).eval (.tmp 74) = .int .i64 r4 := (oF_eval (by decide)).trans (G1 hc)
      exact o_val (v := .bool true) (w' := w9) (by generalize (oF 87 T).eval = rr at *; simp [execOp, go_sem, e0, e1]) rfl (fun _ => rfl) (Kx.refl _ _)
    · intro T w9 hG hD hO Q
      have d0 := hD.1
      have d1 := hD.2.1
      have e0 : (oF 87 T).eval (.tmp 72) = .bool true := (oF_eval (by decide)).trans (show T 72 = _ from d0)
      have G1 : true = true → T 75 = .bool true := d1
      have e1 : (oF 87 T).eval (.tmp 75) = T 75 := oF_eval (by decide)
      have e2 : (oF 87 T).eval (.const (.bool false)) = .bool false := rfl
      refine og_none rfl ?_
      rw [G1 rfl] at e1
      exact o_val (v := .bool true) (w' := w9) (by generalize (oF 87 T).eval = rr at *; simp [execOp, go_sem, e0, e1]) rfl rfl (Kx.refl _ _)
    · intro T w9 hG hD hO Q
      have d0 := hD.1
      have e0 : (oF 87 T).eval (.tmp 76) = .bool true := (oF_eval (by decide)).trans (show T 76 = _ from d0)
      refine og_none rfl ?_
      exact o_val (v := .bool true) (w' := w9) (by generalize (oF 87 T).eval = rr at *; simp [execOp, go_sem, e0]) rfl rfl (Kx.refl _ _)
    · intro T w9 hG hD hO Q
      have d0 := hD.1
      have q0 := hO.1
      have e0 : (oF 87 T).eval (.tmp 11) = .int .i64 r5 := (oF_eval (by decide)).trans (show T 11 = _ from q0)
      refine og_some (b := true) (c := true) rfl (show T 77 = _ from d0) (fun hc => ?_) (fun hc h => absurd h hc)
      exact o_val (v := .int .i64 r5) (w' := w9) (by generalize (oF 87 T).eval = rr at *; simp [execOp, go_sem, e0]) rfl (fun _ => rfl) (Kx.refl _ _)
    · intro T w9 hG hD hO Q
      have d0 := hD.1
      have q0 := hO.1
      have e0 : (oF 87 T).eval (.tmp 13) = .int .i64 r5 := (oF_eval (by decide)).trans (show T 13 = _ from q0)
      refine og_some (b := true) (c := true) rfl (show T 77 = _ from d0) (fun hc => ?_) (fun hc h => absurd h hc)
      exact o_val (v := .int .i64 r5) (w' := w9) (by generalize (oF 87 T).eval = rr at *; simp [execOp, go_sem, e0]) rfl (fun _ => rfl) (Kx.refl _ _)
    · intro T w9 hG hD hO Q
      have d0 := hD.1
      have d1 := hD.2.1
      have d2 := hD.2.2.1
      have G0 : true = true → T 78 = .int .i64 r5 := d0
      have G1 : true = true → T 79 = .int .i64 r5 := d1
      refine og_some (b := true) (c := true) rfl (show T 77 = _ from d2) (fun hc => ?_) (fun hc h => absurd h hc)
      have e0 : (oF 87 T).eval (.tmp 78) = .int .i64 r5 := (oF_eval (by decide)).trans (G0 hc)
      have e1 : (oF 87 T).eval (.tmp 79) = .int .i64 r5 := (oF_eval (by decide)).trans (G1 hc)
      exact o_val (v := .bool true) (w' := w9) (by generalize (oF 87 T).eval = rr at *; simp [execOp, go_sem, e0, e1]) rfl (fun _ => rfl) (Kx.refl _ _)
    · intro T w9 hG hD hO Q
      have d0 := hD.1
      have d1 := hD.2.1
      have e0 : (oF 87 T).eval (.tmp 77) = .bool true := (oF_eval (by decide)).trans (show T 77 = _ from d0)
      have G1 : true = true → T 80 = .bool true := d1
      have e1 : (oF 87 T).eval (.tmp 80) = T 80 := oF_eval (by decide)
      have e2 : (oF 87 T).eval (.const (.bool false)) = .bool false := rfl
      refine og_none rfl ?_
      rw [G1 rfl] at e1
      exact o_val (v := .bool true) (w' := w9) (by generalize (oF 87 T).eval = rr at *; simp [execOp, go_sem, e0, e1]) rfl rfl (Kx.refl _ _)
    · intro T w9 hG hD hO Q
      have d0 := hD.1
      have e0 : (oF 87 T).eval (.tmp 81) = .bool true := (oF_eval (by decide)).trans (show T 81 = _ from d0)
      refine og_none rfl ?_
      exact o_val (v := .bool true) (w' := w9) (by generalize (oF 87 T).eval = rr at *; simp [execOp, go_sem, e0]) rfl rfl (Kx.refl _ _)
    · intro T w9 hG hD hO Q
      have d0 := hD.1
      have q0 := hO.1
      have e0 : (oF 87 T).eval (.tmp 12) = .int .i64 r6 := (oF_eval (by decide)).trans (show T 12 = _ from q0)
      refine og_some (b := true) (c := true) rfl (show T 82 = _ from d0) (fun hc => ?_) (fun hc h => absurd h hc)
      exact o_val (v := .int .i64 r6) (w' := w9) (by generalize (oF 87 T).eval = rr at *; simp [execOp, go_sem, e0]) rfl (fun _ => rfl) (Kx.refl _ _)
    · intro T w9 hG hD hO Q
      have d0 := hD.1
      have q0 := hO.1
      have e0 : (oF 87 T).eval (.tmp 14) = .int .i64 r6 := (oF_eval (by decide)).trans (show T 14 = _ from q0)
      refine og_some (b := true) (c := true) rfl (show T 82 = _ from d0) (fun hc => ?_) (fun hc h => absurd h hc)
      exact o_val (v := .int .i64 r6) (w' := w9) (by generalize (oF 87 T).eval = rr at *; simp [execOp, go_sem, e0]) rfl (fun _ => rfl) (Kx.refl _ _)
    · intro T w9 hG hD hO Q
      have d0 := hD.1
      have d1 := hD.2.1
      have d2 := hD.2.2.1
      have G0 : true = true → T 83 = .int .i64 r6 := d0
      have G1 : true = true → T 84 = .int .i64 r6 := d1
      refine og_some (b := true) (c := true) rfl (show T 82 = _ from d2) (fun hc => ?_) (fun hc h => absurd h hc)
      have e0 : (oF 87 T).eval (.tmp 83) = .int .i64 r6 := (oF_eval (by decide)).trans (G0 hc)
      have e1 : (oF 87 T).eval (.tmp 84) = .int .i64 r6 := (oF_eval (by decide)).trans (G1 hc)
      exact o_val (v := .bool true) (w' := w9) (by generalize (oF 87 T).eval = rr at *; simp [execOp, go_sem, e0, e1]) rfl (fun _ => rfl) (Kx.refl _ _)
    · intro T w9 hG hD hO Q
      have d0 := hD.1
      have d1 := hD.2.1
      have e0 : (oF 87 T).eval (.tmp 82) = .bool true := (oF_eval (by decide)).trans (show T 82 = _ from d0)
      have G1 : true = true → T 85 = .bool true := d1
      have e1 : (oF 87 T).eval (.tmp 85) = T 85 := oF_eval (by decide)
      have e2 : (oF 87 T).eval (.const (.bool false)) = .bool false := rfl
      refine og_none rfl ?_
      rw [G1 rfl] at e1
      exact o_val (v := .bool true) (w' := w9) (by generalize (oF 87 T).eval = rr at *; simp [execOp, go_sem, e0, e1]) rfl rfl (Kx.refl _ _)
    · intro T w9 hG hD hO Q
      have d0 := hD.1
      have e0 : (oF 87 T).eval (.tmp 86) = .bool true := (oF_eval (by decide)).trans (show T 86 = _ from d0)
      refine og_none rfl ?_
      exact o_val (v := .bool true) (w' := w9) (by generalize (oF 87 T).eval = rr at *; simp [execOp, go_sem, e0]) rfl rfl (Kx.refl _ _)
  case fin =>
    intro T w8 hout hval hG
    have s8 := hG.2.2.2.1
    simp only [World.size_drew] at s8
    rw [show oF 87 T = (⟨#[T 0, T 1, T 2, T 3, T 4, T 5, T 6, T 7, T 8, T 9, T 10, T 11, T 12, T 13, T 14, T 15, T 16, T 17, T 18, T 19, T 20, T 21, T 22, T 23, T 24, T 25, T 26, T 27, T 28, T 29, T 30, T 31, T 32, T 33, T 34, T 35, T 36, T 37, T 38, T 39, T 40, T 41, T 42, T 43, T 44, T 45, T 46, T 47, T 48, T 49, T 50, T 51, T 52, T 53, T 54, T 55, T 56, T 57, T 58, T 59, T 60, T 61, T 62, T 63, T 64, T 65, T 66, T 67, T 68, T 69, T 70, T 71, T 72, T 73, T 74, T 75, T 76, T 77, T 78, T 79, T 80, T 81, T 82, T 83, T 84, T 85, T 86], []⟩ : Act) from oF_list 87 T]
    rw [show T 0 = .agg #[.string n, .int .i64 k, .int .i64 a, .int .i64 x, .int .i64 y, .int .i64 z, .int .i64 lo, .int .i64 hi, .slice fp fl fc] from hout 0 rfl]
    rw [show T 1 = .pointer (some ⟨w.heap.size, 0, none⟩) from hout 1 rfl]
    rw [show T 2 = .bool true from hval 38 (by decide : 38 < 39)]
    rw [show T 15 = .agg #[.string n, .int .i64 k, .int .i64 a, .int .i64 x, .int .i64 y, .int .i64 z, .int .i64 lo, .int .i64 hi, .slice fp fl fc] from hout 15 rfl]
    rw [show T 16 = .bool true from hout 16 rfl]
    rw [show T 17 = .bool false from hout 17 rfl]
    rw [show T 19 = .tuple #[.bool o1, .int .i64 r2] from hout 19 rfl]
    rw [show T 20 = .agg #[.string n, .int .i64 k, .int .i64 a, .int .i64 x, .int .i64 y, .int .i64 z, .int .i64 lo, .int .i64 hi, .slice fp fl fc] from hout 20 rfl]
    rw [show T 21 = .tuple #[.bool o1, .int .i64 r2] from hout 21 rfl]
    rw [show T 22 = .bool o1 from hout 22 rfl]
    rw [show T 23 = .int .i64 r2 from hout 23 rfl]
    rw [show T 24 = .tuple #[.bool o1, .int .i64 r2] from hout 24 rfl]
    rw [show T 25 = .agg #[.string n, .int .i64 k, .int .i64 a, .int .i64 x, .int .i64 y, .int .i64 z, .int .i64 lo, .int .i64 hi, .slice fp fl fc] from hout 25 rfl]
    rw [show T 26 = .tuple #[.bool o1, .int .i64 r2] from hout 26 rfl]
    rw [show T 27 = .bool o1 from hout 27 rfl]
    rw [show T 28 = .int .i64 r2 from hout 28 rfl]
    rw [show T 29 = .tuple #[.int .i64 r3, .int .i64 r4] from hout 29 rfl]
    rw [show T 30 = .agg #[.string n, .int .i64 k, .int .i64 a, .int .i64 x, .int .i64 y, .int .i64 z, .int .i64 lo, .int .i64 hi, .slice fp fl fc] from hout 30 rfl]
    rw [show T 31 = .tuple #[.int .i64 r3, .int .i64 r4] from hout 31 rfl]
    rw [show T 32 = .int .i64 r3 from hout 32 rfl]
    rw [show T 33 = .int .i64 r4 from hout 33 rfl]
    rw [show T 34 = .tuple #[.int .i64 r3, .int .i64 r4] from hout 34 rfl]
    rw [show T 35 = .agg #[.string n, .int .i64 k, .int .i64 a, .int .i64 x, .int .i64 y, .int .i64 z, .int .i64 lo, .int .i64 hi, .slice fp fl fc] from hout 35 rfl]
    rw [show T 36 = .tuple #[.int .i64 r3, .int .i64 r4] from hout 36 rfl]
    rw [show T 37 = .int .i64 r3 from hout 37 rfl]
    rw [show T 38 = .int .i64 r4 from hout 38 rfl]
    rw [show T 39 = .tuple #[.int .i64 r5, .int .i64 r6] from hout 39 rfl]
    rw [show T 40 = .agg #[.string n, .int .i64 k, .int .i64 a, .int .i64 x, .int .i64 y, .int .i64 z, .int .i64 lo, .int .i64 hi, .slice fp fl fc] from hout 40 rfl]
    rw [show T 41 = .tuple #[.int .i64 r5, .int .i64 r6] from hout 41 rfl]
    rw [show T 42 = .int .i64 r5 from hout 42 rfl]
    rw [show T 43 = .int .i64 r6 from hout 43 rfl]
    rw [show T 44 = .tuple #[.int .i64 r5, .int .i64 r6] from hout 44 rfl]
    rw [show T 45 = .agg #[.string n, .int .i64 k, .int .i64 a, .int .i64 x, .int .i64 y, .int .i64 z, .int .i64 lo, .int .i64 hi, .slice fp fl fc] from hout 45 rfl]
    rw [show T 46 = .tuple #[.int .i64 r5, .int .i64 r6] from hout 46 rfl]
    rw [show T 47 = .int .i64 r5 from hout 47 rfl]
    rw [show T 48 = .int .i64 r6 from hout 48 rfl]
    replace fr := fr.kx hG (by simp)
    replace gl := gl.kx hG (by simp)
    replace b1 := b1.kx hG (by simp)
    replace kx := (show Kb _ _ from kx.drew).trans hG.nil
    clear hout hval hG
    go_wp2
    go_ret
    exact ⟨rfl, kx⟩
set_option maxRecDepth 100000 in
set_option maxHeartbeats 4000000 in
theorem lwChecks_2 (n : ByteArray) (k : Int) (a : Int) (x : Int) (y : Int) (z : Int) (lo : Int) (hi : Int) (fp : Option Addr) (fl : Nat) (fc : Nat) (fs : List FrT)      (h1 : (fewB n fs) = false) (w : World) (gl : Gl w) (fr : FrS w (.slice fp fl fc) fs)  : Calls Tryd.prog 3 #[.agg #[.string n, .int .i64 k, .int .i64 a, .int .i64 x, .int .i64 y, .int .i64 z, .int .i64 lo, .int .i64 hi, .slice fp fl fc]] w fun r W' => r = .returned (.bool true) ∧ Kb w W' := by
  have kx := Kb.refl w
  have f1 := (Is.made w #[.string n, .int .i64 k, .int .i64 a, .int .i64 x, .int .i64 y, .int .i64 z, .int .i64 lo, .int .i64 hi, .slice fp fl fc] 28).c (i := 0) rfl
  have f2 := (Is.made w #[.string n, .int .i64 k, .int .i64 a, .int .i64 x, .int .i64 y, .int .i64 z, .int .i64 lo, .int .i64 hi, .slice fp fl fc] 28).c (i := 1) rfl
  have f3 := (Is.made w #[.string n, .int .i64 k, .int .i64 a, .int .i64 x, .int .i64 y, .int .i64 z, .int .i64 lo, .int .i64 hi, .slice fp fl fc] 28).c (i := 2) rfl
  have f4 := (Is.made w #[.string n, .int .i64 k, .int .i64 a, .int .i64 x, .int .i64 y, .int .i64 z, .int .i64 lo, .int .i64 hi, .slice fp fl fc] 28).c (i := 3) rfl
  have f5 := (Is.made w #[.string n, .int .i64 k, .int .i64 a, .int .i64 x, .int .i64 y, .int .i64 z, .int .i64 lo, .int .i64 hi, .slice fp fl fc] 28).c (i := 4) rfl
  have f6 := (Is.made w #[.string n, .int .i64 k, .int .i64 a, .int .i64 x, .int .i64 y, .int .i64 z, .int .i64 lo, .int .i64 hi, .slice fp fl fc] 28).c (i := 5) rfl
  have f7 := (Is.made w #[.string n, .int .i64 k, .int .i64 a, .int .i64 x, .int .i64 y, .int .i64 z, .int .i64 lo, .int .i64 hi, .slice fp fl fc] 28).c (i := 6) rfl
  have f8 := (Is.made w #[.string n, .int .i64 k, .int .i64 a, .int .i64 x, .int .i64 y, .int .i64 z, .int .i64 lo, .int .i64 hi, .slice fp fl fc] 28).c (i := 7) rfl
  have f9 := (Is.made w #[.string n, .int .i64 k, .int .i64 a, .int .i64 x, .int .i64 y, .int .i64 z, .int .i64 lo, .int .i64 hi, .slice fp fl fc] 28).c (i := 8) rfl
  go_enter Tryd.func3, Tryd.ntmps3
  go_wp2_with fail
  clear f1 f2 f3 f4 f5 f6 f7 f8 f9
  replace fr := (fr.alloc (.cells #[.string n, .int .i64 k, .int .i64 a, .int .i64 x, .int .i64 y, .int .i64 z, .int .i64 lo, .int .i64 hi, .slice fp fl fc] 28 (0, 0)))
  replace gl := (gl.alloc (.cells #[.string n, .int .i64 k, .int .i64 a, .int .i64 x, .int .i64 y, .int .i64 z, .int .i64 lo, .int .i64 hi, .slice fp fl fc] 28 (0, 0)))
  have b1 := Is.made w #[.string n, .int .i64 k, .int .i64 a, .int .i64 x, .int .i64 y, .int .i64 z, .int .i64 lo, .int .i64 hi, .slice fp fl fc] 28
  replace kx := kx.alloc (.cells #[.string n, .int .i64 k, .int .i64 a, .int .i64 x, .int .i64 y, .int .i64 z, .int .i64 lo, .int .i64 hi, .slice fp fl fc] 28 (0, 0))
  (with_reducible refine (rFew n k a x y z lo hi fp fl fc fs _ fr).mono ?_)
  rintro r w1 ⟨rfl, k1⟩
  replace fr := fr.kb k1
  replace gl := gl.kb k1
  replace b1 := b1.kb k1
  replace kx := kx.trans k1
  have s1 := k1.size
  simp only [World.size_alloc] at s1
  clear k1
  go_wp2_with fail
  (with_reducible refine ((Cg.out awake_any _ gl)).mono ?_)
  rintro r w2 ⟨rfl, k2⟩
  replace fr := fr.kb k2
  replace gl := gl.kb k2
  replace b1 := b1.kb k2
  replace kx := kx.trans k2
  have s2 := k2.size
  skip
  clear k2
  go_wp2
  go_ret
  exact ⟨rfl, kx⟩
set_option maxRecDepth 100000 in
set_option maxHeartbeats 1000000 in
theorem lwright_1 (n : ByteArray) (k : Int) (a : Int) (x : Int) (y : Int) (z : Int) (lo : Int) (hi : Int) (fp : Option Addr) (fl : Nat) (fc : Nat) (fs : List FrT) (r1 : Int)   (q1 : Ca 19 #[.agg #[.string n, .int .i64 k, .int .i64 a, .int .i64 x, .int .i64 y, .int .i64 z, .int .i64 lo, .int .i64 hi, .slice fp fl fc]] (.int .i64 r1))  (h1 : (fewB n fs) = true) (w : World) (fr : FrS w (.slice fp fl fc) fs)  : Calls Tryd.prog 32 #[.agg #[.string n, .int .i64 k, .int .i64 a, .int .i64 x, .int .i64 y, .int .i64 z, .int .i64 lo, .int .i64 hi, .slice fp fl fc]] w fun r W' => r = .returned (.bool (r1 == 0)) ∧ Kb w W' := by
  have kx := Kb.refl w
  unfold Ca at q1
  have f1 := (Is.made w #[.string n, .int .i64 k, .int .i64 a, .int .i64 x, .int .i64 y, .int .i64 z, .int .i64 lo, .int .i64 hi, .slice fp fl fc] 28).c (i := 0) rfl
  have f2 := (Is.made w #[.string n, .int .i64 k, .int .i64 a, .int .i64 x, .int .i64 y, .int .i64 z, .int .i64 lo, .int .i64 hi, .slice fp fl fc] 28).c (i := 1) rfl
  have f3 := (Is.made w #[.string n, .int .i64 k, .int .i64 a, .int .i64 x, .int .i64 y, .int .i64 z, .int .i64 lo, .int .i64 hi, .slice fp fl fc] 28).c (i := 2) rfl
  have f4 := (Is.made w #[.string n, .int .i64 k, .int .i64 a, .int .i64 x, .int .i64 y, .int .i64 z, .int .i64 lo, .int .i64 hi, .slice fp fl fc] 28).c (i := 3) rfl
  have f5 := (Is.made w #[.string n, .int .i64 k, .int .i64 a, .int .i64 x, .int .i64 y, .int .i64 z, .int .i64 lo, .int .i64 hi, .slice fp fl fc] 28).c (i := 4) rfl
  have f6 := (Is.made w #[.string n, .int .i64 k, .int .i64 a, .int .i64 x, .int .i64 y, .int .i64 z, .int .i64 lo, .int .i64 hi, .slice fp fl fc] 28).c (i := 5) rfl
  have f7 := (Is.made w #[.string n, .int .i64 k, .int .i64 a, .int .i64 x, .int .i64 y, .int .i64 z, .int .i64 lo, .int .i64 hi, .slice fp fl fc] 28).c (i := 6) rfl
  have f8 := (Is.made w #[.string n, .int .i64 k, .int .i64 a, .int .i64 x, .int .i64 y, .int .i64 z, .int .i64 lo, .int .i64 hi, .slice fp fl fc] 28).c (i := 7) rfl
  have f9 := (Is.made w #[.string n, .int .i64 k, .int .i64 a, .int .i64 x, .int .i64 y, .int .i64 z, .int .i64 lo, .int .i64 hi, .slice fp fl fc] 28).c (i := 8) rfl
  go_enter Tryd.func32, Tryd.ntmps32
  go_wp2_with fail
  clear f1 f2 f3 f4 f5 f6 f7 f8 f9
  replace fr := (fr.alloc (.cells #[.string n, .int .i64 k, .int .i64 a, .int .i64 x, .int .i64 y, .int .i64 z, .int .i64 lo, .int .i64 hi, .slice fp fl fc] 28 (0, 0)))
  have b1 := Is.made w #[.string n, .int .i64 k, .int .i64 a, .int .i64 x, .int .i64 y, .int .i64 z, .int .i64 lo, .int .i64 hi, .slice fp fl fc] 28
  replace kx := kx.alloc (.cells #[.string n, .int .i64 k, .int .i64 a, .int .i64 x, .int .i64 y, .int .i64 z, .int .i64 lo, .int .i64 hi, .slice fp fl fc] 28 (0, 0))
  (with_reducible refine (rFew n k a x y z lo hi fp fl fc fs _ fr).mono ?_)
  rintro r w1 ⟨rfl, k1⟩
  replace fr := fr.kb k1
  replace b1 := b1.kb k1
  replace kx := kx.trans k1
  have s1 := k1.size
  simp only [World.size_alloc] at s1
  clear k1
  have f10 := b1.c (i := 0) rfl
  have f11 := b1.c (i := 1) rfl
  have f12 := b1.c (i := 2) rfl
  have f13 := b1.c (i := 3) rfl
  have f14 := b1.c (i := 4) rfl
  have f15 := b1.c (i := 5) rfl
  have f16 := b1.c (i := 6) rfl
  have f17 := b1.c (i := 7) rfl
  have f18 := b1.c (i := 8) rfl
  go_wp2_with fail
  clear f10 f11 f12 f13 f14 f15 f16 f17 f18
  (with_reducible refine (((q1).out _)).mono ?_)
  rintro r w2 ⟨rfl, k2⟩
  replace fr := fr.kb k2
  replace b1 := b1.kb k2
  replace kx := kx.trans k2
  have s2 := k2.size
  skip
  clear k2
  go_wp2
  go_ret
  exact ⟨rfl, kx⟩
set_option maxRecDepth 100000 in
set_option maxHeartbeats 1000000 in
theorem lwright_2 (n : ByteArray) (k : Int) (a : Int) (x : Int) (y : Int) (z : Int) (lo : Int) (hi : Int) (fp : Option Addr) (fl : Nat) (fc : Nat) (fs : List FrT)      (h1 : (fewB n fs) = false) (w : World) (fr : FrS w (.slice fp fl fc) fs)  : Calls Tryd.prog 32 #[.agg #[.string n, .int .i64 k, .int .i64 a, .int .i64 x, .int .i64 y, .int .i64 z, .int .i64 lo, .int .i64 hi, .slice fp fl fc]] w fun r W' => r = .returned (.bool false) ∧ Kb w W' := by
  have kx := Kb.refl w
  have f1 := (Is.made w #[.string n, .int .i64 k, .int .i64 a, .int .i64 x, .int .i64 y, .int .i64 z, .int .i64 lo, .int .i64 hi, .slice fp fl fc] 28).c (i := 0) rfl
  have f2 := (Is.made w #[.string n, .int .i64 k, .int .i64 a, .int .i64 x, .int .i64 y, .int .i64 z, .int .i64 lo, .int .i64 hi, .slice fp fl fc] 28).c (i := 1) rfl
  have f3 := (Is.made w #[.string n, .int .i64 k, .int .i64 a, .int .i64 x, .int .i64 y, .int .i64 z, .int .i64 lo, .int .i64 hi, .slice fp fl fc] 28).c (i := 2) rfl
  have f4 := (Is.made w #[.string n, .int .i64 k, .int .i64 a, .int .i64 x, .int .i64 y, .int .i64 z, .int .i64 lo, .int .i64 hi, .slice fp fl fc] 28).c (i := 3) rfl
  have f5 := (Is.made w #[.string n, .int .i64 k, .int .i64 a, .int .i64 x, .int .i64 y, .int .i64 z, .int .i64 lo, .int .i64 hi, .slice fp fl fc] 28).c (i := 4) rfl
  have f6 := (Is.made w #[.string n, .int .i64 k, .int .i64 a, .int .i64 x, .int .i64 y, .int .i64 z, .int .i64 lo, .int .i64 hi, .slice fp fl fc] 28).c (i := 5) rfl
  have f7 := (Is.made w #[.string n, .int .i64 k, .int .i64 a, .int .i64 x, .int .i64 y, .int .i64 z, .int .i64 lo, .int .i64 hi, .slice fp fl fc] 28).c (i := 6) rfl
  have f8 := (Is.made w #[.string n, .int .i64 k, .int .i64 a, .int .i64 x, .int .i64 y, .int .i64 z, .int .i64 lo, .int .i64 hi, .slice fp fl fc] 28).c (i := 7) rfl
  have f9 := (Is.made w #[.string n, .int .i64 k, .int .i64 a, .int .i64 x, .int .i64 y, .int .i64 z, .int .i64 lo, .int .i64 hi, .slice fp fl fc] 28).c (i := 8) rfl
  go_enter Tryd.func32, Tryd.ntmps32
  go_wp2_with fail
  clear f1 f2 f3 f4 f5 f6 f7 f8 f9
  replace fr := (fr.alloc (.cells #[.string n, .int .i64 k, .int .i64 a, .int .i64 x, .int .i64 y, .int .i64 z, .int .i64 lo, .int .i64 hi, .slice fp fl fc] 28 (0, 0)))
  have b1 := Is.made w #[.string n, .int .i64 k, .int .i64 a, .int .i64 x, .int .i64 y, .int .i64 z, .int .i64 lo, .int .i64 hi, .slice fp fl fc] 28
  replace kx := kx.alloc (.cells #[.string n, .int .i64 k, .int .i64 a, .int .i64 x, .int .i64 y, .int .i64 z, .int .i64 lo, .int .i64 hi, .slice fp fl fc] 28 (0, 0))
  (with_reducible refine (rFew n k a x y z lo hi fp fl fc fs _ fr).mono ?_)
  rintro r w1 ⟨rfl, k1⟩
  replace fr := fr.kb k1
  replace b1 := b1.kb k1
  replace kx := kx.trans k1
  have s1 := k1.size
  simp only [World.size_alloc] at s1
  clear k1
  go_wp2
  go_ret
  exact ⟨rfl, kx⟩
set_option maxRecDepth 100000 in
set_option maxHeartbeats 4000000 in
theorem lwEndsT_1 (n : ByteArray) (k : Int) (a : Int) (x : Int) (y : Int) (z : Int) (lo : Int) (hi : Int) (fp : Option Addr) (fl : Nat) (fc : Nat) (fs : List FrT) (rt : Bool) (qr : Hid (∀ W : World, FrS W (.slice fp fl fc) fs → Calls Tryd.prog 32 #[.agg #[.string n, .int .i64 k, .int .i64 a, .int .i64 x, .int .i64 y, .int .i64 z, .int .i64 lo, .int .i64 hi, .slice fp fl fc]] W fun r w' => r = .returned (.bool rt) ∧ Kb W w'))      (h1 : (rt) = true) (h2 : (k == 0) = true) (w : World) (gl : Gl w) (fr : FrS w (.slice fp fl fc) fs)  : Calls Tryd.prog 7 #[.agg #[.string n, .int .i64 k, .int .i64 a, .int .i64 x, .int .i64 y, .int .i64 z, .int .i64 lo, .int .i64 hi, .slice fp fl fc]] w fun r W' => r = .returned (.bool true) ∧ Kb w W' := by
  have kx := Kb.refl w
  have f1 := (Is.made w #[.string n, .int .i64 k, .int .i64 a, .int .i64 x, .int .i64 y, .int .i64 z, .int .i64 lo, .int .i64 hi, .slice fp fl fc] 28).c (i := 0) rfl
  have f2 := (Is.made w #[.string n, .int .i64 k, .int .i64 a, .int .i64 x, .int .i64 y, .int .i64 z, .int .i64 lo, .int .i64 hi, .slice fp fl fc] 28).c (i := 1) rfl
  have f3 := (Is.made w #[.string n, .int .i64 k, .int .i64 a, .int .i64 x, .int .i64 y, .int .i64 z, .int .i64 lo, .int .i64 hi, .slice fp fl fc] 28).c (i := 2) rfl
  have f4 := (Is.made w #[.string n, .int .i64 k, .int .i64 a, .int .i64 x, .int .i64 y, .int .i64 z, .int .i64 lo, .int .i64 hi, .slice fp fl fc] 28).c (i := 3) rfl
  have f5 := (Is.made w #[.string n, .int .i64 k, .int .i64 a, .int .i64 x, .int .i64 y, .int .i64 z, .int .i64 lo, .int .i64 hi, .slice fp fl fc] 28).c (i := 4) rfl
  have f6 := (Is.made w #[.string n, .int .i64 k, .int .i64 a, .int .i64 x, .int .i64 y, .int .i64 z, .int .i64 lo, .int .i64 hi, .slice fp fl fc] 28).c (i := 5) rfl
  have f7 := (Is.made w #[.string n, .int .i64 k, .int .i64 a, .int .i64 x, .int .i64 y, .int .i64 z, .int .i64 lo, .int .i64 hi, .slice fp fl fc] 28).c (i := 6) rfl
  have f8 := (Is.made w #[.string n, .int .i64 k, .int .i64 a, .int .i64 x, .int .i64 y, .int .i64 z, .int .i64 lo, .int .i64 hi, .slice fp fl fc] 28).c (i := 7) rfl
  have f9 := (Is.made w #[.string n, .int .i64 k, .int .i64 a, .int .i64 x, .int .i64 y, .int .i64 z, .int .i64 lo, .int .i64 hi, .slice fp fl fc] 28).c (i := 8) rfl
  go_enter Tryd.func7, Tryd.ntmps7
  go_wp2_with fail
  clear f1 f2 f3 f4 f5 f6 f7 f8 f9
  replace fr := (fr.alloc (.cells #[.string n, .int .i64 k, .int .i64 a, .int .i64 x, .int .i64 y, .int .i64 z, .int .i64 lo, .int .i64 hi, .slice fp fl fc] 28 (0, 0)))
  replace gl := (gl.alloc (.cells #[.string n, .int .i64 k, .int .i64 a, .int .i64 x, .int .i64 y, .int .i64 z, .int .i64 lo, .int .i64 hi, .slice fp fl fc] 28 (0, 0)))
  have b1 := Is.made w #[.string n, .int .i64 k, .int .i64 a, .int .i64 x, .int .i64 y, .int .i64 z, .int .i64 lo, .int .i64 hi, .slice fp fl fc] 28
  replace kx := kx.alloc (.cells #[.string n, .int .i64 k, .int .i64 a, .int .i64 x, .int .i64 y, .int .i64 z, .int .i64 lo, .int .i64 hi, .slice fp fl fc] 28 (0, 0))
  (with_reducible refine (qr.out _ fr).mono ?_)
  rintro r w1 ⟨rfl, k1⟩
  replace fr := fr.kb k1
  replace gl := gl.kb k1
  replace b1 := b1.kb k1
  replace kx := kx.trans k1
  have s1 := k1.size
  simp only [World.size_alloc] at s1
  clear k1
  have f10 := b1.c (i := 1) rfl
  go_wp2_with fail
  clear f10
  (with_reducible refine ((Cg.out awake_any _ gl)).mono ?_)
  rintro r w2 ⟨rfl, k2⟩
  replace fr := fr.kb k2
  replace gl := gl.kb k2
  replace b1 := b1.kb k2
  replace kx := kx.trans k2
  have s2 := k2.size
  skip
  clear k2
  go_wp2
  go_ret
  exact ⟨rfl, kx⟩
set_option maxRecDepth 100000 in
set_option maxHeartbeats 4000000 in
theorem lwEndsT_2 (n : ByteArray) (k : Int) (a : Int) (x : Int) (y : Int) (z : Int) (lo : Int) (hi : Int) (fp : Option Addr) (fl : Nat) (fc : Nat) (fs : List FrT) (rt : Bool) (qr : Hid (∀ W : World, FrS W (.slice fp fl fc) fs → Calls Tryd.prog 32 #[.agg #[.string n, .int .i64 k, .int .i64 a, .int .i64 x, .int .i64 y, .int .i64 z, .int .i64 lo, .int .i64 hi, .slice fp fl fc]] W fun r w' => r = .returned (.bool rt) ∧ Kb W w'))    (q1 : Cg 14 #[.agg #[.string n, .int .i64 k, .int .i64 a, .int .i64 x, .int .i64 y, .int .i64 z, .int .i64 lo, .int .i64 hi, .slice fp fl fc]] (.tuple #[.int .i64 lo, .int .i64 0])) (q2 : Cg 16 #[.agg #[.string n, .int .i64 k, .int .i64 a, .int .i64 x, .int .i64 y, .int .i64 z, .int .i64 lo, .int .i64 hi, .slice fp fl fc]] (.tuple #[.int .i64 hi, .int .i64 0])) (q3 : Cg 12 #[.agg #[.string n, .int .i64 k, .int .i64 a, .int .i64 x, .int .i64 y, .int .i64 z, .int .i64 lo, .int .i64 hi, .slice fp fl fc]] (.tuple #[.bool true, .int .i64 0])) (hh : lo ≤ hi ∧ min lo hi = lo ∧ max lo hi = hi ∧ min hi lo = lo ∧ max hi lo = hi)  (h1 : (rt) = true) (h2 : (k == 0) = false) (h3 : (k == 1) = true) (h4 : hi ≤ lo) (w : World) (gl : Gl w) (fr : FrS w (.slice fp fl fc) fs)  : Calls Tryd.prog 7 #[.agg #[.string n, .int .i64 k, .int .i64 a, .int .i64 x, .int .i64 y, .int .i64 z, .int .i64 lo, .int .i64 hi, .slice fp fl fc]] w fun r W' => r = .returned (.bool true) ∧ Kb w W' := by
  have kx := Kb.refl w
  unfold Cg at q1 q2 q3
  obtain ⟨hle, hm1, hm2, hm3, hm4⟩ := hh
  have f1 := (Is.made w #[.string n, .int .i64 k, .int .i64 a, .int .i64 x, .int .i64 y, .int .i64 z, .int .i64 lo, .int .i64 hi, .slice fp fl fc] 28).c (i := 0) rfl
  have f2 := (Is.made w #[.string n, .int .i64 k, .int .i64 a, .int .i64 x, .int .i64 y, .int .i64 z, .int .i64 lo, .int .i64 hi, .slice fp fl fc] 28).c (i := 1) rfl
  have f3 := (Is.made w #[.string n, .int .i64 k, .int .i64 a, .int .i64 x, .int .i64 y, .int .i64 z, .int .i64 lo, .int .i64 hi, .slice fp fl fc] 28).c (i := 2) rfl
  have f4 := (Is.made w #[.string n, .int .i64 k, .int .i64 a, .int .i64 x, .int .i64 y, .int .i64 z, .int .i64 lo, .int .i64 hi, .slice fp fl fc] 28).c (i := 3) rfl
  have f5 := (Is.made w #[.string n, .int .i64 k, .int .i64 a, .int .i64 x, .int .i64 y, .int .i64 z, .int .i64 lo, .int .i64 hi, .slice fp fl fc] 28).c (i := 4) rfl
  have f6 := (Is.made w #[.string n, .int .i64 k, .int .i64 a, .int .i64 x, .int .i64 y, .int .i64 z, .int .i64 lo, .int .i64 hi, .slice fp fl fc] 28).c (i := 5) rfl
  have f7 := (Is.made w #[.string n, .int .i64 k, .int .i64 a, .int .i64 x, .int .i64 y, .int .i64 z, .int .i64 lo, .int .i64 hi, .slice fp fl fc] 28).c (i := 6) rfl
  have f8 := (Is.made w #[.string n, .int .i64 k, .int .i64 a, .int .i64 x, .int .i64 y, .int .i64 z, .int .i64 lo, .int .i64 hi, .slice fp fl fc] 28).c (i := 7) rfl
  have f9 := (Is.made w #[.string n, .int .i64 k, .int .i64 a, .int .i64 x, .int .i64 y, .int .i64 z, .int .i64 lo, .int .i64 hi, .slice fp fl fc] 28).c (i := 8) rfl
  go_enter Tryd.func7, Tryd.ntmps7
  go_wp2_with fail
  clear f1 f2 f3 f4 f5 f6 f7 f8 f9
  replace fr := (fr.alloc (.cells #[.string n, .int .i64 k, .int .i64 a, .int .i64 x, .int .i64 y, .int .i64 z, .int .i64 lo, .int .i64 hi, .slice fp fl fc] 28 (0, 0)))
  replace gl := (gl.alloc (.cells #[.string n, .int .i64 k, .int .i64 a, .int .i64 x, .int .i64 y, .int .i64 z, .int .i64 lo, .int .i64 hi, .slice fp fl fc] 28 (0, 0)))
  have b1 := Is.made w #[.string n, .int .i64 k, .int .i64 a, .int .i64 x, .int .i64 y, .int .i64 z, .int .i64 lo, .int .i64 hi, .slice fp fl fc] 28
  replace kx := kx.alloc (.cells #[.string n, .int .i64 k, .int .i64 a, .int .i64 x, .int .i64 y, .int .i64 z, .int .i64 lo, .int .i64 hi, .slice fp fl fc] 28 (0, 0))
  (with_reducible refine (qr.out _ fr).mono ?_)
  rintro r w1 ⟨rfl, k1⟩
  replace fr := fr.kb k1
  replace gl := gl.kb k1
  replace b1 := b1.kb k1
  replace kx := kx.trans k1
  have s1 := k1.size
  simp only [World.size_alloc] at s1
  clear k1
  have f10 := b1.c (i := 1) rfl
  have f11 := b1.c (i := 0) rfl
  have f12 := b1.c (i := 2) rfl
  have f13 := b1.c (i := 3) rfl
  have f14 := b1.c (i := 4) rfl
  have f15 := b1.c (i := 5) rfl
  have f16 := b1.c (i := 6) rfl
  have f17 := b1.c (i := 7) rfl
  have f18 := b1.c (i := 8) rfl
  go_wp2_with fail
  clear f10 f11 f12 f13 f14 f15 f16 f17 f18
  (with_reducible refine ((q1.out _ gl)).mono ?_)
  rintro r w2 ⟨rfl, k2⟩
  replace fr := fr.kb k2
  replace gl := gl.kb k2
  replace b1 := b1.kb k2
  replace kx := kx.trans k2
  have s2 := k2.size
  skip
  clear k2
  have f19 := b1.c (i := 0) rfl
  have f20 := b1.c (i := 1) rfl
  have f21 := b1.c (i := 2) rfl
  have f22 := b1.c (i := 3) rfl
  have f23 := b1.c (i := 4) rfl
  have f24 := b1.c (i := 5) rfl
  have f25 := b1.c (i := 6) rfl
  have f26 := b1.c (i := 7) rfl
  have f27 := b1.c (i := 8) rfl
  go_wp2_with fail
  clear f19 f20 f21 f22 f23 f24 f25 f26 f27
  (with_reducible refine ((q2.out _ gl)).mono ?_)
  rintro r w3 ⟨rfl, k3⟩
  replace fr := fr.kb k3
  replace gl := gl.kb k3
  replace b1 := b1.kb k3
  replace kx := kx.trans k3
  have s3 := k3.size
  skip
  clear k3
  have f28 := b1.c (i := 0) rfl
  have f29 := b1.c (i := 1) rfl
  have f30 := b1.c (i := 2) rfl
  have f31 := b1.c (i := 3) rfl
  have f32 := b1.c (i := 4) rfl
  have f33 := b1.c (i := 5) rfl
  have f34 := b1.c (i := 6) rfl
  have f35 := b1.c (i := 7) rfl
  have f36 := b1.c (i := 8) rfl
  go_wp2_with fail
  clear f28 f29 f30 f31 f32 f33 f34 f35 f36
  (with_reducible refine ((q3.out _ gl)).mono ?_)
  rintro r w4 ⟨rfl, k4⟩
  replace fr := fr.kb k4
  replace gl := gl.kb k4
  replace b1 := b1.kb k4
  replace kx := kx.trans k4
  have s4 := k4.size
  skip
  clear k4
  have f37 := b1.c (i := 1) rfl
  have f38 := b1.c (i := 6) rfl
  have f39 := b1.c (i := 7) rfl
  go_wp2_with fail
  clear f37 f38 f39
  (with_reducible refine ((Cg.out awake_any _ gl)).mono ?_)
  rintro r w5 ⟨rfl, k5⟩
  replace fr := fr.kb k5
  replace gl := gl.kb k5
  replace b1 := b1.kb k5
  replace kx := kx.trans k5
  have s5 := k5.size
  skip
  clear k5
  go_wp2
  go_ret
  exact ⟨rfl, kx⟩
set_option maxRecDepth 100000 in
set_option maxHeartbeats 4000000 in
theorem lwEndsT_3 (n : ByteArray) (k : Int) (a : Int) (x : Int) (y : Int) (z : Int) (lo : Int) (hi : Int) (fp : Option Addr) (fl : Nat) (fc : Nat) (fs : List FrT) (rt : Bool) (qr : Hid (∀ W : World, FrS W (.slice fp fl fc) fs → Calls Tryd.prog 32 #[.agg #[.string n, .int .i64 k, .int .i64 a, .int .i64 x, .int .i64 y, .int .i64 z, .int .i64 lo, .int .i64 hi, .slice fp fl fc]] W fun r w' => r = .returned (.bool rt) ∧ Kb W w'))    (q1 : Cg 14 #[.agg #[.string n, .int .i64 k, .int .i64 a, .int .i64 x, .int .i64 y, .int .i64 z, .int .i64 lo, .int .i64 hi, .slice fp fl fc]] (.tuple #[.int .i64 lo, .int .i64 0])) (q2 : Cg 16 #[.agg #[.string n, .int .i64 k, .int .i64 a, .int .i64 x, .int .i64 y, .int .i64 z, .int .i64 lo, .int .i64 hi, .slice fp fl fc]] (.tuple #[.int .i64 hi, .int .i64 0])) (q3 : Cg 12 #[.agg #[.string n, .int .i64 k, .int .i64 a, .int .i64 x, .int .i64 y, .int .i64 z, .int .i64 lo, .int .i64 hi, .slice fp fl fc]] (.tuple #[.bool true, .int .i64 0])) (hh : lo ≤ hi ∧ min lo hi = lo ∧ max lo hi = hi ∧ min hi lo = lo ∧ max hi lo = hi)  (h1 : (rt) = true) (h2 : (k == 0) = false) (h3 : (k == 1) = true) (h4 : ¬ hi ≤ lo) (w : World) (gl : Gl w) (fr : FrS w (.slice fp fl fc) fs)  : Calls Tryd.prog 7 #[.agg #[.string n, .int .i64 k, .int .i64 a, .int .i64 x, .int .i64 y, .int .i64 z, .int .i64 lo, .int .i64 hi, .slice fp fl fc]] w fun r W' => r = .returned (.bool true) ∧ Kb w W' := by
  have kx := Kb.refl w
  unfold Cg at q1 q2 q3
  obtain ⟨hle, hm1, hm2, hm3, hm4⟩ := hh
  have f1 := (Is.made w #[.string n, .int .i64 k, .int .i64 a, .int .i64 x, .int .i64 y, .int .i64 z, .int .i64 lo, .int .i64 hi, .slice fp fl fc] 28).c (i := 0) rfl
  have f2 := (Is.made w #[.string n, .int .i64 k, .int .i64 a, .int .i64 x, .int .i64 y, .int .i64 z, .int .i64 lo, .int .i64 hi, .slice fp fl fc] 28).c (i := 1) rfl
  have f3 := (Is.made w #[.string n, .int .i64 k, .int .i64 a, .int .i64 x, .int .i64 y, .int .i64 z, .int .i64 lo, .int .i64 hi, .slice fp fl fc] 28).c (i := 2) rfl
  have f4 := (Is.made w #[.string n, .int .i64 k, .int .i64 a, .int .i64 x, .int .i64 y, .int .i64 z, .int .i64 lo, .int .i64 hi, .slice fp fl fc] 28).c (i := 3) rfl
  have f5 := (Is.made w #[.string n, .int .i64 k, .int .i64 a, .int .i64 x, .int .i64 y, .int .i64 z, .int .i64 lo, .int .i64 hi, .slice fp fl fc] 28).c (i := 4) rfl
  have f6 := (Is.made w #[.string n, .int .i64 k, .int .i64 a, .int .i64 x, .int .i64 y, .int .i64 z, .int .i64 lo, .int .i64 hi, .slice fp fl fc] 28).c (i := 5) rfl
  have f7 := (Is.made w #[.string n, .int .i64 k, .int .i64 a, .int .i64 x, .int .i64 y, .int .i64 z, .int .i64 lo, .int .i64 hi, .slice fp fl fc] 28).c (i := 6) rfl
  have f8 := (Is.made w #[.string n, .int .i64 k, .int .i64 a, .int .i64 x, .int .i64 y, .int .i64 z, .int .i64 lo, .int .i64 hi, .slice fp fl fc] 28).c (i := 7) rfl
  have f9 := (Is.made w #[.string n, .int .i64 k, .int .i64 a, .int .i64 x, .int .i64 y, .int .i64 z, .int .i64 lo, .int .i64 hi, .slice fp fl fc] 28).c (i := 8) rfl
  go_enter Tryd.func7, Tryd.ntmps7
  go_wp2_with fail
  clear f1 f2 f3 f4 f5 f6 f7 f8 f9
  replace fr := (fr.alloc (.cells #[.string n, .int .i64 k, .int .i64 a, .int .i64 x, .int .i64 y, .int .i64 z, .int .i64 lo, .int .i64 hi, .slice fp fl fc] 28 (0, 0)))
  replace gl := (gl.alloc (.cells #[.string n, .int .i64 k, .int .i64 a, .int .i64 x, .int .i64 y, .int .i64 z, .int .i64 lo, .int .i64 hi, .slice fp fl fc] 28 (0, 0)))
  have b1 := Is.made w #[.string n, .int .i64 k, .int .i64 a, .int .i64 x, .int .i64 y, .int .i64 z, .int .i64 lo, .int .i64 hi, .slice fp fl fc] 28
  replace kx := kx.alloc (.cells #[.string n, .int .i64 k, .int .i64 a, .int .i64 x, .int .i64 y, .int .i64 z, .int .i64 lo, .int .i64 hi, .slice fp fl fc] 28 (0, 0))
  (with_reducible refine (qr.out _ fr).mono ?_)
  rintro r w1 ⟨rfl, k1⟩
  replace fr := fr.kb k1
  replace gl := gl.kb k1
  replace b1 := b1.kb k1
  replace kx := kx.trans k1
  have s1 := k1.size
  simp only [World.size_alloc] at s1
  clear k1
  have f10 := b1.c (i := 1) rfl
  have f11 := b1.c (i := 0) rfl
  have f12 := b1.c (i := 2) rfl
  have f13 := b1.c (i := 3) rfl
  have f14 := b1.c (i := 4) rfl
  have f15 := b1.c (i := 5) rfl
  have f16 := b1.c (i := 6) rfl
  have f17 := b1.c (i := 7) rfl
  have f18 := b1.c (i := 8) rfl
  go_wp2_with fail
  clear f10 f11 f12 f13 f14 f15 f16 f17 f18
  (with_reducible refine ((q1.out _ gl)).mono ?_)
  rintro r w2 ⟨rfl, k2⟩
  replace fr := fr.kb k2
  replace gl := gl.kb k2
  replace b1 := b1.kb k2
  replace kx := kx.trans k2
  have s2 := k2.size
  skip
  clear k2
  have f19 := b1.c (i := 0) rfl
  have f20 := b1.c (i := 1) rfl
  have f21 := b1.c (i := 2) rfl
  have f22 := b1.c (i := 3) rfl
  have f23 := b1.c (i := 4) rfl
  have f24 := b1.c (i := 5) rfl
  have f25 := b1.c (i := 6) rfl
  have f26 := b1.c (i := 7) rfl
  have f27 := b1.c (i := 8) rfl
  go_wp2_with fail
  clear f19 f20 f21 f22 f23 f24 f25 f26 f27
  (with_reducible refine ((q2.out _ gl)).mono ?_)
  rintro r w3 ⟨rfl, k3⟩
  replace fr := fr.kb k3
  replace gl := gl.kb k3
  replace b1 := b1.kb k3
  replace kx := kx.trans k3
  have s3 := k3.size
  skip
  clear k3
  have f28 := b1.c (i := 0) rfl
  have f29 := b1.c (i := 1) rfl
  have f30 := b1.c (i := 2) rfl
  have f31 := b1.c (i := 3) rfl
  have f32 := b1.c (i := 4) rfl
  have f33 := b1.c (i := 5) rfl
  have f34 := b1.c (i := 6) rfl
  have f35 := b1.c (i := 7) rfl
  have f36 := b1.c (i := 8) rfl
  go_wp2_with fail
  clear f28 f29 f30 f31 f32 f33 f34 f35 f36
  (with_reducible refine ((q3.out _ gl)).mono ?_)
  rintro r w4 ⟨rfl, k4⟩
  replace fr := fr.kb k4
  replace gl := gl.kb k4
  replace b1 := b1.kb k4
  replace kx := kx.trans k4
  have s4 := k4.size
  skip
  clear k4
  have f37 := b1.c (i := 1) rfl
  have f38 := b1.c (i := 6) rfl
  have f39 := b1.c (i := 7) rfl
  go_wp2_with fail
  clear f37 f38 f39
  (with_reducible refine ((Cg.out awake_any _ gl)).mono ?_)
  rintro r w5 ⟨rfl, k5⟩
  replace fr := fr.kb k5
  replace gl := gl.kb k5
  replace b1 := b1.kb k5
  replace kx := kx.trans k5
  have s5 := k5.size
  skip
  clear k5
  go_wp2
  go_ret
  exact ⟨rfl, kx⟩
set_option maxRecDepth 100000 in
set_option maxHeartbeats 4000000 in
theorem lwEndsT_4 (n : ByteArray) (k : Int) (a : Int) (x : Int) (y : Int) (z : Int) (lo : Int) (hi : Int) (fp : Option Addr) (fl : Nat) (fc : Nat) (fs : List FrT) (rt : Bool) (qr : Hid (∀ W : World, FrS W (.slice fp fl fc) fs → Calls Tryd.prog 32 #[.agg #[.string n, .int .i64 k, .int .i64 a, .int .i64 x, .int .i64 y, .int .i64 z, .int .i64 lo, .int .i64 hi, .slice fp fl fc]] W fun r w' => r = .returned (.bool rt) ∧ Kb W w'))    (q1 : Cg 14 #[.agg #[.string n, .int .i64 k, .int .i64 a, .int .i64 x, .int .i64 y, .int .i64 z, .int .i64 lo, .int .i64 hi, .slice fp fl fc]] (.tuple #[.int .i64 lo, .int .i64 0])) (q2 : Cg 16 #[.agg #[.string n, .int .i64 k, .int .i64 a, .int .i64 x, .int .i64 y, .int .i64 z, .int .i64 lo, .int .i64 hi, .slice fp fl fc]] (.tuple #[.int .i64 hi, .int .i64 0])) (q3 : Cg 12 #[.agg #[.string n, .int .i64 k, .int .i64 a, .int .i64 x, .int .i64 y, .int .i64 z, .int .i64 lo, .int .i64 hi, .slice fp fl fc]] (.tuple #[.bool true, .int .i64 0])) (hh : lo ≤ hi ∧ min lo hi = lo ∧ max lo hi = hi ∧ min hi lo = lo ∧ max hi lo = hi)  (h1 : (rt) = true) (h2 : (k == 0) = false) (h3 : (k == 1) = false) (h4 : (k == 3) = true) (h5 : hi ≤ lo) (w : World) (gl : Gl w) (fr : FrS w (.slice fp fl fc) fs)  : Calls Tryd.prog 7 #[.agg #[.string n, .int .i64 k, .int .i64 a, .int .i64 x, .int .i64 y, .int .i64 z, .int .i64 lo, .int .i64 hi, .slice fp fl fc]] w fun r W' => r = .returned (.bool true) ∧ Kb w W' := by
  have kx := Kb.refl w
  unfold Cg at q1 q2 q3
  obtain ⟨hle, hm1, hm2, hm3, hm4⟩ := hh
  have f1 := (Is.made w #[.string n, .int .i64 k, .int .i64 a, .int .i64 x, .int .i64 y, .int .i64 z, .int .i64 lo, .int .i64 hi, .slice fp fl fc] 28).c (i := 0) rfl
  have f2 := (Is.made w #[.string n, .int .i64 k, .int .i64 a, .int .i64 x, .int .i64 y, .int .i64 z, .int .i64 lo, .int .i64 hi, .slice fp fl fc] 28).c (i := 1) rfl
  have f3 := (Is.made w #[.string n, .int .i64 k, .int .i64 a, .int .i64 x, .int .i64 y, .int .i64 z, .int .i64 lo, .int .i64 hi, .slice fp fl fc] 28).c (i := 2) rfl
  have f4 := (Is.made w #[.string n, .int .i64 k, .int .i64 a, .int .i64 x, .int .i64 y, .int .i64 z, .int .i64 lo, .int .i64 hi, .slice fp fl fc] 28).c (i := 3) rfl
  have f5 := (Is.made w #[.string n, .int .i64 k, .int .i64 a, .int .i64 x, .int .i64 y, .int .i64 z, .int .i64 lo, .int .i64 hi, .slice fp fl fc] 28).c (i := 4) rfl
  have f6 := (Is.made w #[.string n, .int .i64 k, .int .i64 a, .int .i64 x, .int .i64 y, .int .i64 z, .int .i64 lo, .int .i64 hi, .slice fp fl fc] 28).c (i := 5) rfl
  have f7 := (Is.made w #[.string n, .int .i64 k, .int .i64 a, .int .i64 x, .int .i64 y, .int .i64 z, .int .i64 lo, .int .i64 hi, .slice fp fl fc] 28).c (i := 6) rfl
  have f8 := (Is.made w #[.string n, .int .i64 k, .int .i64 a, .int .i64 x, .int .i64 y, .int .i64 z, .int .i64 lo, .int .i64 hi, .slice fp fl fc] 28).c (i := 7) rfl
  have f9 := (Is.made w #[.string n, .int .i64 k, .int .i64 a, .int .i64 x, .int .i64 y, .int .i64 z, .int .i64 lo, .int .i64 hi, .slice fp fl fc] 28).c (i := 8) rfl
  go_enter Tryd.func7, Tryd.ntmps7
  go_wp2_with fail
  clear f1 f2 f3 f4 f5 f6 f7 f8 f9
  replace fr := (fr.alloc (.cells #[.string n, .int .i64 k, .int .i64 a, .int .i64 x, .int .i64 y, .int .i64 z, .int .i64 lo, .int .i64 hi, .slice fp fl fc] 28 (0, 0)))
  replace gl := (gl.alloc (.cells #[.string n, .int .i64 k, .int .i64 a, .int .i64 x, .int .i64 y, .int .i64 z, .int .i64 lo, .int .i64 hi, .slice fp fl fc] 28 (0, 0)))
  have b1 := Is.made w #[.string n, .int .i64 k, .int .i64 a, .int .i64 x, .int .i64 y, .int .i64 z, .int .i64 lo, .int .i64 hi, .slice fp fl fc] 28
  replace kx := kx.alloc (.cells #[.string n, .int .i64 k, .int .i64 a, .int .i64 x, .int .i64 y, .int .i64 z, .int .i64 lo, .int .i64 hi, .slice fp fl fc] 28 (0, 0))
  (with_reducible refine (qr.out _ fr).mono ?_)
  rintro r w1 ⟨rfl, k1⟩
  replace fr := fr.kb k1
  replace gl := gl.kb k1
  replace b1 := b1.kb k1
  replace kx := kx.trans k1
  have s1 := k1.size
  simp only [World.size_alloc] at s1
  clear k1
  have f10 := b1.c (i := 1) rfl
  have f11 := b1.c (i := 0) rfl
  have f12 := b1.c (i := 2) rfl
  have f13 := b1.c (i := 3) rfl
  have f14 := b1.c (i := 4) rfl
  have f15 := b1.c (i := 5) rfl
  have f16 := b1.c (i := 6) rfl
  have f17 := b1.c (i := 7) rfl
  have f18 := b1.c (i := 8) rfl
  go_wp2_with fail
  clear f10 f11 f12 f13 f14 f15 f16 f17 f18
  (with_reducible refine ((q1.out _ gl)).mono ?_)
  rintro r w2 ⟨rfl, k2⟩
  replace fr := fr.kb k2
  replace gl := gl.kb k2
  replace b1 := b1.kb k2
  replace kx := kx.trans k2
  have s2 := k2.size
  skip
  clear k2
  have f19 := b1.c (i := 0) rfl
  have f20 := b1.c (i := 1) rfl
  have f21 := b1.c (i := 2) rfl
  have f22 := b1.c (i := 3) rfl
  have f23 := b1.c (i := 4) rfl
  have f24 := b1.c (i := 5) rfl
  have f25 := b1.c (i := 6) rfl
  have f26 := b1.c (i := 7) rfl
  have f27 := b1.c (i := 8) rfl
  go_wp2_with fail
  clear f19 f20 f21 f22 f23 f24 f25 f26 f27
  (with_reducible refine ((q2.out _ gl)).mono ?_)
  rintro r w3 ⟨rfl, k3⟩
  replace fr := fr.kb k3
  replace gl := gl.kb k3
  replace b1 := b1.kb k3
  replace kx := kx.trans k3
  have s3 := k3.size
  skip
  clear k3
  have f28 := b1.c (i := 0) rfl
  have f29 := b1.c (i := 1) rfl
  have f30 := b1.c (i := 2) rfl
  have f31 := b1.c (i := 3) rfl
  have f32 := b1.c (i := 4) rfl
  have f33 := b1.c (i := 5) rfl
  have f34 := b1.c (i := 6) rfl
  have f35 := b1.c (i := 7) rfl
  have f36 := b1.c (i := 8) rfl
  go_wp2_with fail
  clear f28 f29 f30 f31 f32 f33 f34 f35 f36
  (with_reducible refine ((q3.out _ gl)).mono ?_)
  rintro r w4 ⟨rfl, k4⟩
  replace fr := fr.kb k4
  replace gl := gl.kb k4
  replace b1 := b1.kb k4
  replace kx := kx.trans k4
  have s4 := k4.size
  skip
  clear k4
  have f37 := b1.c (i := 1) rfl
  have f38 := b1.c (i := 6) rfl
  have f39 := b1.c (i := 7) rfl
  go_wp2_with fail
  clear f37 f38 f39
  (with_reducible refine ((Cg.out awake_any _ gl)).mono ?_)
  rintro r w5 ⟨rfl, k5⟩
  replace fr := fr.kb k5
  replace gl := gl.kb k5
  replace b1 := b1.kb k5
  replace kx := kx.trans k5
  have s5 := k5.size
  skip
  clear k5
  go_wp2
  go_ret
  exact ⟨rfl, kx⟩
set_option maxRecDepth 100000 in
set_option maxHeartbeats 4000000 in
theorem lwEndsT_5 (n : ByteArray) (k : Int) (a : Int) (x : Int) (y : Int) (z : Int) (lo : Int) (hi : Int) (fp : Option Addr) (fl : Nat) (fc : Nat) (fs : List FrT) (rt : Bool) (qr : Hid (∀ W : World, FrS W (.slice fp fl fc) fs → Calls Tryd.prog 32 #[.agg #[.string n, .int .i64 k, .int .i64 a, .int .i64 x, .int .i64 y, .int .i64 z, .int .i64 lo, .int .i64 hi, .slice fp fl fc]] W fun r w' => r = .returned (.bool rt) ∧ Kb W w'))    (q1 : Cg 14 #[.agg #[.string n, .int .i64 k, .int .i64 a, .int .i64 x, .int .i64 y, .int .i64 z, .int .i64 lo, .int .i64 hi, .slice fp fl fc]] (.tuple #[.int .i64 lo, .int .i64 0])) (q2 : Cg 16 #[.agg #[.string n, .int .i64 k, .int .i64 a, .int .i64 x, .int .i64 y, .int .i64 z, .int .i64 lo, .int .i64 hi, .slice fp fl fc]] (.tuple #[.int .i64 hi, .int .i64 0])) (q3 : Cg 12 #[.agg #[.string n, .int .i64 k, .int .i64 a, .int .i64 x, .int .i64 y, .int .i64 z, .int .i64 lo, .int .i64 hi, .slice fp fl fc]] (.tuple #[.bool true, .int .i64 0])) (hh : lo ≤ hi ∧ min lo hi = lo ∧ max lo hi = hi ∧ min hi lo = lo ∧ max hi lo = hi)  (h1 : (rt) = true) (h2 : (k == 0) = false) (h3 : (k == 1) = false) (h4 : (k == 3) = true) (h5 : ¬ hi ≤ lo) (w : World) (gl : Gl w) (fr : FrS w (.slice fp fl fc) fs)  : Calls Tryd.prog 7 #[.agg #[.string n, .int .i64 k, .int .i64 a, .int .i64 x, .int .i64 y, .int .i64 z, .int .i64 lo, .int .i64 hi, .slice fp fl fc]] w fun r W' => r = .returned (.bool true) ∧ Kb w W' := by
  have kx := Kb.refl w
  unfold Cg at q1 q2 q3
  obtain ⟨hle, hm1, hm2, hm3, hm4⟩ := hh
  have f1 := (Is.made w #[.string n, .int .i64 k, .int .i64 a, .int .i64 x, .int .i64 y, .int .i64 z, .int .i64 lo, .int .i64 hi, .slice fp fl fc] 28).c (i := 0) rfl
  have f2 := (Is.made w #[.string n, .int .i64 k, .int .i64 a, .int .i64 x, .int .i64 y, .int .i64 z, .int .i64 lo, .int .i64 hi, .slice fp fl fc] 28).c (i := 1) rfl
  have f3 := (Is.made w #[.string n, .int .i64 k, .int .i64 a, .int .i64 x, .int .i64 y, .int .i64 z, .int .i64 lo, .int .i64 hi, .slice fp fl fc] 28).c (i := 2) rfl
  have f4 := (Is.made w #[.string n, .int .i64 k, .int .i64 a, .int .i64 x, .int .i64 y, .int .i64 z, .int .i64 lo, .int .i64 hi, .slice fp fl fc] 28).c (i := 3) rfl
  have f5 := (Is.made w #[.string n, .int .i64 k, .int .i64 a, .int .i64 x, .int .i64 y, .int .i64 z, .int .i64 lo, .int .i64 hi, .slice fp fl fc] 28).c (i := 4) rfl
  have f6 := (Is.made w #[.string n, .int .i64 k, .int .i64 a, .int .i64 x, .int .i64 y, .int .i64 z, .int .i64 lo, .int .i64 hi, .slice fp fl fc] 28).c (i := 5) rfl
  have f7 := (Is.made w #[.string n, .int .i64 k, .int .i64 a, .int .i64 x, .int .i64 y, .int .i64 z, .int .i64 lo, .int .i64 hi, .slice fp fl fc] 28).c (i := 6) rfl
  have f8 := (Is.made w #[.string n, .int .i64 k, .int .i64 a, .int .i64 x, .int .i64 y, .int .i64 z, .int .i64 lo, .int .i64 hi, .slice fp fl fc] 28).c (i := 7) rfl
  have f9 := (Is.made w #[.string n, .int .i64 k, .int .i64 a, .int .i64 x, .int .i64 y, .int .i64 z, .int .i64 lo, .int .i64 hi, .slice fp fl fc] 28).c (i := 8) rfl
  go_enter Tryd.func7, Tryd.ntmps7
  go_wp2_with fail
  clear f1 f2 f3 f4 f5 f6 f7 f8 f9
  replace fr := (fr.alloc (.cells #[.string n, .int .i64 k, .int .i64 a, .int .i64 x, .int .i64 y, .int .i64 z, .int .i64 lo, .int .i64 hi, .slice fp fl fc] 28 (0, 0)))
  replace gl := (gl.alloc (.cells #[.string n, .int .i64 k, .int .i64 a, .int .i64 x, .int .i64 y, .int .i64 z, .int .i64 lo, .int .i64 hi, .slice fp fl fc] 28 (0, 0)))
  have b1 := Is.made w #[.string n, .int .i64 k, .int .i64 a, .int .i64 x, .int .i64 y, .int .i64 z, .int .i64 lo, .int .i64 hi, .slice fp fl fc] 28
  replace kx := kx.alloc (.cells #[.string n, .int .i64 k, .int .i64 a, .int .i64 x, .int .i64 y, .int .i64 z, .int .i64 lo, .int .i64 hi, .slice fp fl fc] 28 (0, 0))
  (with_reducible refine (qr.out _ fr).mono ?_)
  rintro r w1 ⟨rfl, k1⟩
  replace fr := fr.kb k1
  replace gl := gl.kb k1
  replace b1 := b1.kb k1
  replace kx := kx.trans k1
  have s1 := k1.size
  simp only [World.size_alloc] at s1
  clear k1
  have f10 := b1.c (i := 1) rfl
  have f11 := b1.c (i := 0) rfl
  have f12 := b1.c (i := 2) rfl
  have f13 := b1.c (i := 3) rfl
  have f14 := b1.c (i := 4) rfl
  have f15 := b1.c (i := 5) rfl
  have f16 := b1.c (i := 6) rfl
  have f17 := b1.c (i := 7) rfl
  have f18 := b1.c (i := 8) rfl
  go_wp2_with fail
  clear f10 f11 f12 f13 f14 f15 f16 f17 f18
  (with_reducible refine ((q1.out _ gl)).mono ?_)
  rintro r w2 ⟨rfl, k2⟩
  replace fr := fr.kb k2
  replace gl := gl.kb k2
  replace b1 := b1.kb k2
  replace kx := kx.trans k2
  have s2 := k2.size
  skip
  clear k2
  have f19 := b1.c (i := 0) rfl
  have f20 := b1.c (i := 1) rfl
  have f21 := b1.c (i := 2) rfl
  have f22 := b1.c (i := 3) rfl
  have f23 := b1.c (i := 4) rfl
  have f24 := b1.c (i := 5) rfl
  have f25 := b1.c (i := 6) rfl
  have f26 := b1.c (i := 7) rfl
  have f27 := b1.c (i := 8) rfl
  go_wp2_with fail
  clear f19 f20 f21 f22 f23 f24 f25 f26 f27
  (with_reducible refine ((q2.out _ gl)).mono ?_)
  rintro r w3 ⟨rfl, k3⟩
  replace fr := fr.kb k3
  replace gl := gl.kb k3
  replace b1 := b1.kb k3
  replace kx := kx.trans k3
  have s3 := k3.size
  skip
  clear k3
  have f28 := b1.c (i := 0) rfl
  have f29 := b1.c (i := 1) rfl
  have f30 := b1.c (i := 2) rfl
  have f31 := b1.c (i := 3) rfl
  have f32 := b1.c (i := 4) rfl
  have f33 := b1.c (i := 5) rfl
  have f34 := b1.c (i := 6) rfl
  have f35 := b1.c (i := 7) rfl
  have f36 := b1.c (i := 8) rfl
  go_wp2_with fail
  clear f28 f29 f30 f31 f32 f33 f34 f35 f36
  (with_reducible refine ((q3.out _ gl)).mono ?_)
  rintro r w4 ⟨rfl, k4⟩
  replace fr := fr.kb k4
  replace gl := gl.kb k4
  replace b1 := b1.kb k4
  replace kx := kx.trans k4
  have s4 := k4.size
  skip
  clear k4
  have f37 := b1.c (i := 1) rfl
  have f38 := b1.c (i := 6) rfl
  have f39 := b1.c (i := 7) rfl
  go_wp2_with fail
  clear f37 f38 f39
  (with_reducible refine ((Cg.out awake_any _ gl)).mono ?_)
  rintro r w5 ⟨rfl, k5⟩
  replace fr := fr.kb k5
  replace gl := gl.kb k5
  replace b1 := b1.kb k5
  replace kx := kx.trans k5
  have s5 := k5.size
  skip
  clear k5
  go_wp2
  go_ret
  exact ⟨rfl, kx⟩
set_option maxRecDepth 100000 in
set_option maxHeartbeats 4000000 in
theorem lwEndsT_6 (n : ByteArray) (k : Int) (a : Int) (x : Int) (y : Int) (z : Int) (lo : Int) (hi : Int) (fp : Option Addr) (fl : Nat) (fc : Nat) (fs : List FrT) (rt : Bool) (qr : Hid (∀ W : World, FrS W (.slice fp fl fc) fs → Calls Tryd.prog 32 #[.agg #[.string n, .int .i64 k, .int .i64 a, .int .i64 x, .int .i64 y, .int .i64 z, .int .i64 lo, .int .i64 hi, .slice fp fl fc]] W fun r w' => r = .returned (.bool rt) ∧ Kb W w'))    (q1 : Cg 14 #[.agg #[.string n, .int .i64 k, .int .i64 a, .int .i64 x, .int .i64 y, .int .i64 z, .int .i64 lo, .int .i64 hi, .slice fp fl fc]] (.tuple #[.int .i64 lo, .int .i64 0])) (q2 : Cg 16 #[.agg #[.string n, .int .i64 k, .int .i64 a, .int .i64 x, .int .i64 y, .int .i64 z, .int .i64 lo, .int .i64 hi, .slice fp fl fc]] (.tuple #[.int .i64 hi, .int .i64 0])) (q3 : Cg 12 #[.agg #[.string n, .int .i64 k, .int .i64 a, .int .i64 x, .int .i64 y, .int .i64 z, .int .i64 lo, .int .i64 hi, .slice fp fl fc]] (.tuple #[.bool true, .int .i64 0])) (hh : lo ≤ hi ∧ min lo hi = lo ∧ max lo hi = hi ∧ min hi lo = lo ∧ max hi lo = hi)  (h1 : (rt) = true) (h2 : (k == 0) = false) (h3 : (k == 1) = false) (h4 : (k == 3) = false) (w : World) (gl : Gl w) (fr : FrS w (.slice fp fl fc) fs)  : Calls Tryd.prog 7 #[.agg #[.string n, .int .i64 k, .int .i64 a, .int .i64 x, .int .i64 y, .int .i64 z, .int .i64 lo, .int .i64 hi, .slice fp fl fc]] w fun r W' => r = .returned (.bool false) ∧ Kb w W' := by
  have kx := Kb.refl w
  unfold Cg at q1 q2 q3
  obtain ⟨hle, hm1, hm2, hm3, hm4⟩ := hh
  have f1 := (Is.made w #[.string n, .int .i64 k, .int .i64 a, .int .i64 x, .int .i64 y, .int .i64 z, .int .i64 lo, .int .i64 hi, .slice fp fl fc] 28).c (i := 0) rfl
  have f2 := (Is.made w #[.string n, .int .i64 k, .int .i64 a, .int .i64 x, .int .i64 y, .int .i64 z, .int .i64 lo, .int .i64 hi, .slice fp fl fc] 28).c (i := 1) rfl
  have f3 := (Is.made w #[.string n, .int .i64 k, .int .i64 a, .int .i64 x, .int .i64 y, .int .i64 z, .int .i64 lo, .int .i64 hi, .slice fp fl fc] 28).c (i := 2) rfl
  have f4 := (Is.made w #[.string n, .int .i64 k, .int .i64 a, .int .i64 x, .int .i64 y, .int .i64 z, .int .i64 lo, .int .i64 hi, .slice fp fl fc] 28).c (i := 3) rfl
  have f5 := (Is.made w #[.string n, .int .i64 k, .int .i64 a, .int .i64 x, .int .i64 y, .int .i64 z, .int .i64 lo, .int .i64 hi, .slice fp fl fc] 28).c (i := 4) rfl
  have f6 := (Is.made w #[.string n, .int .i64 k, .int .i64 a, .int .i64 x, .int .i64 y, .int .i64 z, .int .i64 lo, .int .i64 hi, .slice fp fl fc] 28).c (i := 5) rfl
  have f7 := (Is.made w #[.string n, .int .i64 k, .int .i64 a, .int .i64 x, .int .i64 y, .int .i64 z, .int .i64 lo, .int .i64 hi, .slice fp fl fc] 28).c (i := 6) rfl
  have f8 := (Is.made w #[.string n, .int .i64 k, .int .i64 a, .int .i64 x, .int .i64 y, .int .i64 z, .int .i64 lo, .int .i64 hi, .slice fp fl fc] 28).c (i := 7) rfl
  have f9 := (Is.made w #[.string n, .int .i64 k, .int .i64 a, .int .i64 x, .int .i64 y, .int .i64 z, .int .i64 lo, .int .i64 hi, .slice fp fl fc] 28).c (i := 8) rfl
  go_enter Tryd.func7, Tryd.ntmps7
  go_wp2_with fail
  clear f1 f2 f3 f4 f5 f6 f7 f8 f9
  replace fr := (fr.alloc (.cells #[.string n, .int .i64 k, .int .i64 a, .int .i64 x, .int .i64 y, .int .i64 z, .int .i64 lo, .int .i64 hi, .slice fp fl fc] 28 (0, 0)))
  replace gl := (gl.alloc (.cells #[.string n, .int .i64 k, .int .i64 a, .int .i64 x, .int .i64 y, .int .i64 z, .int .i64 lo, .int .i64 hi, .slice fp fl fc] 28 (0, 0)))
  have b1 := Is.made w #[.string n, .int .i64 k, .int .i64 a, .int .i64 x, .int .i64 y, .int .i64 z, .int .i64 lo, .int .i64 hi, .slice fp fl fc] 28
  replace kx := kx.alloc (.cells #[.string n, .int .i64 k, .int .i64 a, .int .i64 x, .int .i64 y, .int .i64 z, .int .i64 lo, .int .i64 hi, .slice fp fl fc] 28 (0, 0))
  (with_reducible refine (qr.out _ fr).mono ?_)
  rintro r w1 ⟨rfl, k1⟩
  replace fr := fr.kb k1
  replace gl := gl.kb k1
  replace b1 := b1.kb k1
  replace kx := kx.trans k1
  have s1 := k1.size
  simp only [World.size_alloc] at s1
  clear k1
  have f10 := b1.c (i := 1) rfl
  have f11 := b1.c (i := 0) rfl
  have f12 := b1.c (i := 2) rfl
  have f13 := b1.c (i := 3) rfl
  have f14 := b1.c (i := 4) rfl
  have f15 := b1.c (i := 5) rfl
  have f16 := b1.c (i := 6) rfl
  have f17 := b1.c (i := 7) rfl
  have f18 := b1.c (i := 8) rfl
  go_wp2_with fail
  clear f10 f11 f12 f13 f14 f15 f16 f17 f18
  (with_reducible refine ((q1.out _ gl)).mono ?_)
  rintro r w2 ⟨rfl, k2⟩
  replace fr := fr.kb k2
  replace gl := gl.kb k2
  replace b1 := b1.kb k2
  replace kx := kx.trans k2
  have s2 := k2.size
  skip
  clear k2
  have f19 := b1.c (i := 0) rfl
  have f20 := b1.c (i := 1) rfl
  have f21 := b1.c (i := 2) rfl
  have f22 := b1.c (i := 3) rfl
  have f23 := b1.c (i := 4) rfl
  have f24 := b1.c (i := 5) rfl
  have f25 := b1.c (i := 6) rfl
  have f26 := b1.c (i := 7) rfl
  have f27 := b1.c (i := 8) rfl
  go_wp2_with fail
  clear f19 f20 f21 f22 f23 f24 f25 f26 f27
  (with_reducible refine ((q2.out _ gl)).mono ?_)
  rintro r w3 ⟨rfl, k3⟩
  replace fr := fr.kb k3
  replace gl := gl.kb k3
  replace b1 := b1.kb k3
  replace kx := kx.trans k3
  have s3 := k3.size
  skip
  clear k3
  have f28 := b1.c (i := 0) rfl
  have f29 := b1.c (i := 1) rfl
  have f30 := b1.c (i := 2) rfl
  have f31 := b1.c (i := 3) rfl
  have f32 := b1.c (i := 4) rfl
  have f33 := b1.c (i := 5) rfl
  have f34 := b1.c (i := 6) rfl
  have f35 := b1.c (i := 7) rfl
  have f36 := b1.c (i := 8) rfl
  go_wp2_with fail
  clear f28 f29 f30 f31 f32 f33 f34 f35 f36
  (with_reducible refine ((q3.out _ gl)).mono ?_)
  rintro r w4 ⟨rfl, k4⟩
  replace fr := fr.kb k4
  replace gl := gl.kb k4
  replace b1 := b1.kb k4
  replace kx := kx.trans k4
  have s4 := k4.size
  skip
  clear k4
  have f37 := b1.c (i := 1) rfl
  go_wp2
  go_ret
  clear f37
  exact ⟨rfl, kx⟩
set_option maxRecDepth 100000 in
set_option maxHeartbeats 4000000 in
theorem lwEndsT_7 (n : ByteArray) (k : Int) (a : Int) (x : Int) (y : Int) (z : Int) (lo : Int) (hi : Int) (fp : Option Addr) (fl : Nat) (fc : Nat) (fs : List FrT) (rt : Bool) (qr : Hid (∀ W : World, FrS W (.slice fp fl fc) fs → Calls Tryd.prog 32 #[.agg #[.string n, .int .i64 k, .int .i64 a, .int .i64 x, .int .i64 y, .int .i64 z, .int .i64 lo, .int .i64 hi, .slice fp fl fc]] W fun r w' => r = .returned (.bool rt) ∧ Kb W w'))      (h1 : (rt) = false) (w : World) (gl : Gl w) (fr : FrS w (.slice fp fl fc) fs)  : Calls Tryd.prog 7 #[.agg #[.string n, .int .i64 k, .int .i64 a, .int .i64 x, .int .i64 y, .int .i64 z, .int .i64 lo, .int .i64 hi, .slice fp fl fc]] w fun r W' => r = .returned (.bool true) ∧ Kb w W' := by
  have kx := Kb.refl w
  have f1 := (Is.made w #[.string n, .int .i64 k, .int .i64 a, .int .i64 x, .int .i64 y, .int .i64 z, .int .i64 lo, .int .i64 hi, .slice fp fl fc] 28).c (i := 0) rfl
  have f2 := (Is.made w #[.string n, .int .i64 k, .int .i64 a, .int .i64 x, .int .i64 y, .int .i64 z, .int .i64 lo, .int .i64 hi, .slice fp fl fc] 28).c (i := 1) rfl
  have f3 := (Is.made w #[.string n, .int .i64 k, .int .i64 a, .int .i64 x, .int .i64 y, .int .i64 z, .int .i64 lo, .int .i64 hi, .slice fp fl fc] 28).c (i := 2) rfl
  have f4 := (Is.made w #[.string n, .int .i64 k, .int .i64 a, .int .i64 x, .int .i64 y, .int .i64 z, .int .i64 lo, .int .i64 hi, .slice fp fl fc] 28).c (i := 3) rfl
  have f5 := (Is.made w #[.string n, .int .i64 k, .int .i64 a, .int .i64 x, .int .i64 y, .int .i64 z, .int .i64 lo, .int .i64 hi, .slice fp fl fc] 28).c (i := 4) rfl
  have f6 := (Is.made w #[.string n, .int .i64 k, .int .i64 a, .int .i64 x, .int .i64 y, .int .i64 z, .int .i64 lo, .int .i64 hi, .slice fp fl fc] 28).c (i := 5) rfl
  have f7 := (Is.made w #[.string n, .int .i64 k, .int .i64 a, .int .i64 x, .int .i64 y, .int .i64 z, .int .i64 lo, .int .i64 hi, .slice fp fl fc] 28).c (i := 6) rfl
  have f8 := (Is.made w #[.string n, .int .i64 k, .int .i64 a, .int .i64 x, .int .i64 y, .int .i64 z, .int .i64 lo, .int .i64 hi, .slice fp fl fc] 28).c (i := 7) rfl
  have f9 := (Is.made w #[.string n, .int .i64 k, .int .i64 a, .int .i64 x, .int .i64 y, .int .i64 z, .int .i64 lo, .int .i64 hi, .slice fp fl fc] 28).c (i := 8) rfl
  go_enter Tryd.func7, Tryd.ntmps7
  go_wp2_with fail
  clear f1 f2 f3 f4 f5 f6 f7 f8 f9
  replace fr := (fr.alloc (.cells #[.string n, .int .i64 k, .int .i64 a, .int .i64 x, .int .i64 y, .int .i64 z, .int .i64 lo, .int .i64 hi, .slice fp fl fc] 28 (0, 0)))
  replace gl := (gl.alloc (.cells #[.string n, .int .i64 k, .int .i64 a, .int .i64 x, .int .i64 y, .int .i64 z, .int .i64 lo, .int .i64 hi, .slice fp fl fc] 28 (0, 0)))
  have b1 := Is.made w #[.string n, .int .i64 k, .int .i64 a, .int .i64 x, .int .i64 y, .int .i64 z, .int .i64 lo, .int .i64 hi, .slice fp fl fc] 28
  replace kx := kx.alloc (.cells #[.string n, .int .i64 k, .int .i64 a, .int .i64 x, .int .i64 y, .int .i64 z, .int .i64 lo, .int .i64 hi, .slice fp fl fc] 28 (0, 0))
  (with_reducible refine (qr.out _ fr).mono ?_)
  rintro r w1 ⟨rfl, k1⟩
  replace fr := fr.kb k1
  replace gl := gl.kb k1
  replace b1 := b1.kb k1
  replace kx := kx.trans k1
  have s1 := k1.size
  simp only [World.size_alloc] at s1
  clear k1
  go_wp2_with fail
  (with_reducible refine ((Cg.out awake_any _ gl)).mono ?_)
  rintro r w2 ⟨rfl, k2⟩
  replace fr := fr.kb k2
  replace gl := gl.kb k2
  replace b1 := b1.kb k2
  replace kx := kx.trans k2
  have s2 := k2.size
  skip
  clear k2
  go_wp2
  go_ret
  exact ⟨rfl, kx⟩
set_option maxRecDepth 100000 in
set_option maxHeartbeats 4000000 in
theorem lwEndsF_1 (n : ByteArray) (k : Int) (a : Int) (x : Int) (y : Int) (z : Int) (lo : Int) (hi : Int) (fp : Option Addr) (fl : Nat) (fc : Nat) (fs : List FrT) (rt : Bool) (qr : Hid (∀ W : World, FrS W (.slice fp fl fc) fs → Calls Tryd.prog 32 #[.agg #[.string n, .int .i64 k, .int .i64 a, .int .i64 x, .int .i64 y, .int .i64 z, .int .i64 lo, .int .i64 hi, .slice fp fl fc]] W fun r w' => r = .returned (.bool rt) ∧ Kb W w'))      (h1 : (rt) = true) (h2 : (k == 0) = true) (w : World) (gl : Gl w) (fr : FrS w (.slice fp fl fc) fs)  : Calls Tryd.prog 7 #[.agg #[.string n, .int .i64 k, .int .i64 a, .int .i64 x, .int .i64 y, .int .i64 z, .int .i64 lo, .int .i64 hi, .slice fp fl fc]] w fun r W' => r = .returned (.bool true) ∧ Kb w W' := by
  have kx := Kb.refl w
  have f1 := (Is.made w #[.string n, .int .i64 k, .int .i64 a, .int .i64 x, .int .i64 y, .int .i64 z, .int .i64 lo, .int .i64 hi, .slice fp fl fc] 28).c (i := 0) rfl
  have f2 := (Is.made w #[.string n, .int .i64 k, .int .i64 a, .int .i64 x, .int .i64 y, .int .i64 z, .int .i64 lo, .int .i64 hi, .slice fp fl fc] 28).c (i := 1) rfl
  have f3 := (Is.made w #[.string n, .int .i64 k, .int .i64 a, .int .i64 x, .int .i64 y, .int .i64 z, .int .i64 lo, .int .i64 hi, .slice fp fl fc] 28).c (i := 2) rfl
  have f4 := (Is.made w #[.string n, .int .i64 k, .int .i64 a, .int .i64 x, .int .i64 y, .int .i64 z, .int .i64 lo, .int .i64 hi, .slice fp fl fc] 28).c (i := 3) rfl
  have f5 := (Is.made w #[.string n, .int .i64 k, .int .i64 a, .int .i64 x, .int .i64 y, .int .i64 z, .int .i64 lo, .int .i64 hi, .slice fp fl fc] 28).c (i := 4) rfl
  have f6 := (Is.made w #[.string n, .int .i64 k, .int .i64 a, .int .i64 x, .int .i64 y, .int .i64 z, .int .i64 lo, .int .i64 hi, .slice fp fl fc] 28).c (i := 5) rfl
  have f7 := (Is.made w #[.string n, .int .i64 k, .int .i64 a, .int .i64 x, .int .i64 y, .int .i64 z, .int .i64 lo, .int .i64 hi, .slice fp fl fc] 28).c (i := 6) rfl
  have f8 := (Is.made w #[.string n, .int .i64 k, .int .i64 a, .int .i64 x, .int .i64 y, .int .i64 z, .int .i64 lo, .int .i64 hi, .slice fp fl fc] 28).c (i := 7) rfl
  have f9 := (Is.made w #[.string n, .int .i64 k, .int .i64 a, .int .i64 x, .int .i64 y, .int .i64 z, .int .i64 lo, .int .i64 hi, .slice fp fl fc] 28).c (i := 8) rfl
  go_enter Tryd.func7, Tryd.ntmps7
  go_wp2_with fail
  clear f1 f2 f3 f4 f5 f6 f7 f8 f9
  replace fr := (fr.alloc (.cells #[.string n, .int .i64 k, .int .i64 a, .int .i64 x, .int .i64 y, .int .i64 z, .int .i64 lo, .int .i64 hi, .slice fp fl fc] 28 (0, 0)))
  replace gl := (gl.alloc (.cells #[.string n, .int .i64 k, .int .i64 a, .int .i64 x, .int .i64 y, .int .i64 z, .int .i64 lo, .int .i64 hi, .slice fp fl fc] 28 (0, 0)))
  have b1 := Is.made w #[.string n, .int .i64 k, .int .i64 a, .int .i64 x, .int .i64 y, .int .i64 z, .int .i64 lo, .int .i64 hi, .slice fp fl fc] 28
  replace kx := kx.alloc (.cells #[.string n, .int .i64 k, .int .i64 a, .int .i64 x, .int .i64 y, .int .i64 z, .int .i64 lo, .int .i64 hi, .slice fp fl fc] 28 (0, 0))
  (with_reducible refine (qr.out _ fr).mono ?_)
  rintro r w1 ⟨rfl, k1⟩
  replace fr := fr.kb k1
  replace gl := gl.kb k1
  replace b1 := b1.kb k1
  replace kx := kx.trans k1
  have s1 := k1.size
  simp only [World.size_alloc] at s1
  clear k1
  have f10 := b1.c (i := 1) rfl
  go_wp2_with fail
  clear f10
  (with_reducible refine ((Cg.out awake_any _ gl)).mono ?_)
  rintro r w2 ⟨rfl, k2⟩
  replace fr := fr.kb k2
  replace gl := gl.kb k2
  replace b1 := b1.kb k2
  replace kx := kx.trans k2
  have s2 := k2.size
  skip
  clear k2
  go_wp2
  go_ret
  exact ⟨rfl, kx⟩
set_option maxRecDepth 100000 in
set_option maxHeartbeats 4000000 in
theorem lwEndsF_2 (n : ByteArray) (k : Int) (a : Int) (x : Int) (y : Int) (z : Int) (lo : Int) (hi : Int) (fp : Option Addr) (fl : Nat) (fc : Nat) (fs : List FrT) (rt : Bool) (qr : Hid (∀ W : World, FrS W (.slice fp fl fc) fs → Calls Tryd.prog 32 #[.agg #[.string n, .int .i64 k, .int .i64 a, .int .i64 x, .int .i64 y, .int .i64 z, .int .i64 lo, .int .i64 hi, .slice fp fl fc]] W fun r w' => r = .returned (.bool rt) ∧ Kb W w'))    (q1 : Cg 14 #[.agg #[.string n, .int .i64 k, .int .i64 a, .int .i64 x, .int .i64 y, .int .i64 z, .int .i64 lo, .int .i64 hi, .slice fp fl fc]] (.tuple #[.int .i64 hi, .int .i64 0])) (q2 : Cg 16 #[.agg #[.string n, .int .i64 k, .int .i64 a, .int .i64 x, .int .i64 y, .int .i64 z, .int .i64 lo, .int .i64 hi, .slice fp fl fc]] (.tuple #[.int .i64 lo, .int .i64 0])) (q3 : Cg 12 #[.agg #[.string n, .int .i64 k, .int .i64 a, .int .i64 x, .int .i64 y, .int .i64 z, .int .i64 lo, .int .i64 hi, .slice fp fl fc]] (.tuple #[.bool false, .int .i64 0])) (hh : lo ≤ hi ∧ min lo hi = lo ∧ max lo hi = hi ∧ min hi lo = lo ∧ max hi lo = hi)  (h1 : (rt) = true) (h2 : (k == 0) = false) (h3 : (k == 1) = true) (w : World) (gl : Gl w) (fr : FrS w (.slice fp fl fc) fs)  : Calls Tryd.prog 7 #[.agg #[.string n, .int .i64 k, .int .i64 a, .int .i64 x, .int .i64 y, .int .i64 z, .int .i64 lo, .int .i64 hi, .slice fp fl fc]] w fun r W' => r = .returned (.bool false) ∧ Kb w W' := by
  have kx := Kb.refl w
  unfold Cg at q1 q2 q3
  obtain ⟨hle, hm1, hm2, hm3, hm4⟩ := hh
  have f1 := (Is.made w #[.string n, .int .i64 k, .int .i64 a, .int .i64 x, .int .i64 y, .int .i64 z, .int .i64 lo, .int .i64 hi, .slice fp fl fc] 28).c (i := 0) rfl
  have f2 := (Is.made w #[.string n, .int .i64 k, .int .i64 a, .int .i64 x, .int .i64 y, .int .i64 z, .int .i64 lo, .int .i64 hi, .slice fp fl fc] 28).c (i := 1) rfl
  have f3 := (Is.made w #[.string n, .int .i64 k, .int .i64 a, .int .i64 x, .int .i64 y, .int .i64 z, .int .i64 lo, .int .i64 hi, .slice fp fl fc] 28).c (i := 2) rfl
  have f4 := (Is.made w #[.string n, .int .i64 k, .int .i64 a, .int .i64 x, .int .i64 y, .int .i64 z, .int .i64 lo, .int .i64 hi, .slice fp fl fc] 28).c (i := 3) rfl
  have f5 := (Is.made w #[.string n, .int .i64 k, .int .i64 a, .int .i64 x, .int .i64 y, .int .i64 z, .int .i64 lo, .int .i64 hi, .slice fp fl fc] 28).c (i := 4) rfl
  have f6 := (Is.made w #[.string n, .int .i64 k, .int .i64 a, .int .i64 x, .int .i64 y, .int .i64 z, .int .i64 lo, .int .i64 hi, .slice fp fl fc] 28).c (i := 5) rfl
  have f7 := (Is.made w #[.string n, .int .i64 k, .int .i64 a, .int .i64 x, .int .i64 y, .int .i64 z, .int .i64 lo, .int .i64 hi, .slice fp fl fc] 28).c (i := 6) rfl
  have f8 := (Is.made w #[.string n, .int .i64 k, .int .i64 a, .int .i64 x, .int .i64 y, .int .i64 z, .int .i64 lo, .int .i64 hi, .slice fp fl fc] 28).c (i := 7) rfl
  have f9 := (Is.made w #[.string n, .int .i64 k, .int .i64 a, .int .i64 x, .int .i64 y, .int .i64 z, .int .i64 lo, .int .i64 hi, .slice fp fl fc] 28).c (i := 8) rfl
  go_enter Tryd.func7, Tryd.ntmps7
  go_wp2_with fail
  clear f1 f2 f3 f4 f5 f6 f7 f8 f9
  replace fr := (fr.alloc (.cells #[.string n, .int .i64 k, .int .i64 a, .int .i64 x, .int .i64 y, .int .i64 z, .int .i64 lo, .int .i64 hi, .slice fp fl fc] 28 (0, 0)))
  replace gl := (gl.alloc (.cells #[.string n, .int .i64 k, .int .i64 a, .int .i64 x, .int .i64 y, .int .i64 z, .int .i64 lo, .int .i64 hi, .slice fp fl fc] 28 (0, 0)))
  have b1 := Is.made w #[.string n, .int .i64 k, .int .i64 a, .int .i64 x, .int .i64 y, .int .i64 z, .int .i64 lo, .int .i64 hi, .slice fp fl fc] 28
  replace kx := kx.alloc (.cells #[.string n, .int .i64 k, .int .i64 a, .int .i64 x, .int .i64 y, .int .i64 z, .int .i64 lo, .int .i64 hi, .slice fp fl fc] 28 (0, 0))
  (with_reducible refine (qr.out _ fr).mono ?_)
  rintro r w1 ⟨rfl, k1⟩
  replace fr := fr.kb k1
  replace gl := gl.kb k1
  replace b1 := b1.kb k1
  replace kx := kx.trans k1
  have s1 := k1.size
  simp only [World.size_alloc] at s1
  clear k1
  have f10 := b1.c (i := 1) rfl
  have f11 := b1.c (i := 0) rfl
  have f12 := b1.c (i := 2) rfl
  have f13 := b1.c (i := 3) rfl
  have f14 := b1.c (i := 4) rfl
  have f15 := b1.c (i := 5) rfl
  have f16 := b1.c (i := 6) rfl
  have f17 := b1.c (i := 7) rfl
  have f18 := b1.c (i := 8) rfl
  go_wp2_with fail
  clear f10 f11 f12 f13 f14 f15 f16 f17 f18
  (with_reducible refine ((q1.out _ gl)).mono ?_)
  rintro r w2 ⟨rfl, k2⟩
  replace fr := fr.kb k2
  replace gl := gl.kb k2
  replace b1 := b1.kb k2
  replace kx := kx.trans k2
  have s2 := k2.size
  skip
  clear k2
  have f19 := b1.c (i := 0) rfl
  have f20 := b1.c (i := 1) rfl
  have f21 := b1.c (i := 2) rfl
  have f22 := b1.c (i := 3) rfl
  have f23 := b1.c (i := 4) rfl
  have f24 := b1.c (i := 5) rfl
  have f25 := b1.c (i := 6) rfl
  have f26 := b1.c (i := 7) rfl
  have f27 := b1.c (i := 8) rfl
  go_wp2_with fail
  clear f19 f20 f21 f22 f23 f24 f25 f26 f27
  (with_reducible refine ((q2.out _ gl)).mono ?_)
  rintro r w3 ⟨rfl, k3⟩
  replace fr := fr.kb k3
  replace gl := gl.kb k3
  replace b1 := b1.kb k3
  replace kx := kx.trans k3
  have s3 := k3.size
  skip
  clear k3
  have f28 := b1.c (i := 0) rfl
  have f29 := b1.c (i := 1) rfl
  have f30 := b1.c (i := 2) rfl
  have f31 := b1.c (i := 3) rfl
  have f32 := b1.c (i := 4) rfl
  have f33 := b1.c (i := 5) rfl
  have f34 := b1.c (i := 6) rfl
  have f35 := b1.c (i := 7) rfl
  have f36 := b1.c (i := 8) rfl
  go_wp2_with fail
  clear f28 f29 f30 f31 f32 f33 f34 f35 f36
  (with_reducible refine ((q3.out _ gl)).mono ?_)
  rintro r w4 ⟨rfl, k4⟩
  replace fr := fr.kb k4
  replace gl := gl.kb k4
  replace b1 := b1.kb k4
  replace kx := kx.trans k4
  have s4 := k4.size
  skip
  clear k4
  have f37 := b1.c (i := 1) rfl
  go_wp2
  go_ret
  clear f37
  exact ⟨rfl, kx⟩
set_option maxRecDepth 100000 in
set_option maxHeartbeats 4000000 in
theorem lwEndsF_3 (n : ByteArray) (k : Int) (a : Int) (x : Int) (y : Int) (z : Int) (lo : Int) (hi : Int) (fp : Option Addr) (fl : Nat) (fc : Nat) (fs : List FrT) (rt : Bool) (qr : Hid (∀ W : World, FrS W (.slice fp fl fc) fs → Calls Tryd.prog 32 #[.agg #[.string n, .int .i64 k, .int .i64 a, .int .i64 x, .int .i64 y, .int .i64 z, .int .i64 lo, .int .i64 hi, .slice fp fl fc]] W fun r w' => r = .returned (.bool rt) ∧ Kb W w'))    (q1 : Cg 14 #[.agg #[.string n, .int .i64 k, .int .i64 a, .int .i64 x, .int .i64 y, .int .i64 z, .int .i64 lo, .int .i64 hi, .slice fp fl fc]] (.tuple #[.int .i64 hi, .int .i64 0])) (q2 : Cg 16 #[.agg #[.string n, .int .i64 k, .int .i64 a, .int .i64 x, .int .i64 y, .int .i64 z, .int .i64 lo, .int .i64 hi, .slice fp fl fc]] (.tuple #[.int .i64 lo, .int .i64 0])) (q3 : Cg 12 #[.agg #[.string n, .int .i64 k, .int .i64 a, .int .i64 x, .int .i64 y, .int .i64 z, .int .i64 lo, .int .i64 hi, .slice fp fl fc]] (.tuple #[.bool false, .int .i64 0])) (hh : lo ≤ hi ∧ min lo hi = lo ∧ max lo hi = hi ∧ min hi lo = lo ∧ max hi lo = hi)  (h1 : (rt) = true) (h2 : (k == 0) = false) (h3 : (k == 1) = false) (h4 : (k == 3) = true) (w : World) (gl : Gl w) (fr : FrS w (.slice fp fl fc) fs)  : Calls Tryd.prog 7 #[.agg #[.string n, .int .i64 k, .int .i64 a, .int .i64 x, .int .i64 y, .int .i64 z, .int .i64 lo, .int .i64 hi, .slice fp fl fc]] w fun r W' => r = .returned (.bool false) ∧ Kb w W' := by
  have kx := Kb.refl w
  unfold Cg at q1 q2 q3
  obtain ⟨hle, hm1, hm2, hm3, hm4⟩ := hh
  have f1 := (Is.made w #[.string n, .int .i64 k, .int .i64 a, .int .i64 x, .int .i64 y, .int .i64 z, .int .i64 lo, .int .i64 hi, .slice fp fl fc] 28).c (i := 0) rfl
  have f2 := (Is.made w #[.string n, .int .i64 k, .int .i64 a, .int .i64 x, .int .i64 y, .int .i64 z, .int .i64 lo, .int .i64 hi, .slice fp fl fc] 28).c (i := 1) rfl
  have f3 := (Is.made w #[.string n, .int .i64 k, .int .i64 a, .int .i64 x, .int .i64 y, .int .i64 z, .int .i64 lo, .int .i64 hi, .slice fp fl fc] 28).c (i := 2) rfl
  have f4 := (Is.made w #[.string n, .int .i64 k, .int .i64 a, .int .i64 x, .int .i64 y, .int .i64 z, .int .i64 lo, .int .i64 hi, .slice fp fl fc] 28).c (i := 3) rfl
  have f5 := (Is.made w #[.string n, .int .i64 k, .int .i64 a, .int .i64 x, .int .i64 y, .int .i64 z, .int .i64 lo, .int .i64 hi, .slice fp fl fc] 28).c (i := 4) rfl
  have f6 := (Is.made w #[.string n, .int .i64 k, .int .i64 a, .int .i64 x, .int .i64 y, .int .i64 z, .int .i64 lo, .int .i64 hi, .slice fp fl fc] 28).c (i := 5) rfl
  have f7 := (Is.made w #[.string n, .int .i64 k, .int .i64 a, .int .i64 x, .int .i64 y, .int .i64 z, .int .i64 lo, .int .i64 hi, .slice fp fl fc] 28).c (i := 6) rfl
  have f8 := (Is.made w #[.string n, .int .i64 k, .int .i64 a, .int .i64 x, .int .i64 y, .int .i64 z, .int .i64 lo, .int .i64 hi, .slice fp fl fc] 28).c (i := 7) rfl
  have f9 := (Is.made w #[.string n, .int .i64 k, .int .i64 a, .int .i64 x, .int .i64 y, .int .i64 z, .int .i64 lo, .int .i64 hi, .slice fp fl fc] 28).c (i := 8) rfl
  go_enter Tryd.func7, Tryd.ntmps7
  go_wp2_with fail
  clear f1 f2 f3 f4 f5 f6 f7 f8 f9
  replace fr := (fr.alloc (.cells #[.string n, .int .i64 k, .int .i64 a, .int .i64 x, .int .i64 y, .int .i64 z, .int .i64 lo, .int .i64 hi, .slice fp fl fc] 28 (0, 0)))
  replace gl := (gl.alloc (.cells #[.string n, .int .i64 k, .int .i64 a, .int .i64 x, .int .i64 y, .int .i64 z, .int .i64 lo, .int .i64 hi, .slice fp fl fc] 28 (0, 0)))
  have b1 := Is.made w #[.string n, .int .i64 k, .int .i64 a, .int .i64 x, .int .i64 y, .int .i64 z, .int .i64 lo, .int .i64 hi, .slice fp fl fc] 28
  replace kx := kx.alloc (.cells #[.string n, .int .i64 k, .int .i64 a, .int .i64 x, .int .i64 y, .int .i64 z, .int .i64 lo, .int .i64 hi, .slice fp fl fc] 28 (0, 0))
  (with_reducible refine (qr.out _ fr).mono ?_)
  rintro r w1 ⟨rfl, k1⟩
  replace fr := fr.kb k1
  replace gl := gl.kb k1
  replace b1 := b1.kb k1
  replace kx := kx.trans k1
  have s1 := k1.size
  simp only [World.size_alloc] at s1
  clear k1
  have f10 := b1.c (i := 1) rfl
  have f11 := b1.c (i := 0) rfl
  have f12 := b1.c (i := 2) rfl
  have f13 := b1.c (i := 3) rfl
  have f14 := b1.c (i := 4) rfl
  have f15 := b1.c (i := 5) rfl
  have f16 := b1.c (i := 6) rfl
  have f17 := b1.c (i := 7) rfl
  have f18 := b1.c (i := 8) rfl
  go_wp2_with fail
  clear f10 f11 f12 f13 f14 f15 f16 f17 f18
  (with_reducible refine ((q1.out _ gl)).mono ?_)
  rintro r w2 ⟨rfl, k2⟩
  replace fr := fr.kb k2
  replace gl := gl.kb k2
  replace b1 := b1.kb k2
  replace kx := kx.trans k2
  have s2 := k2.size
  skip
  clear k2
  have f19 := b1.c (i := 0) rfl
  have f20 := b1.c (i := 1) rfl
  have f21 := b1.c (i := 2) rfl
  have f22 := b1.c (i := 3) rfl
  have f23 := b1.c (i := 4) rfl
  have f24 := b1.c (i := 5) rfl
  have f25 := b1.c (i := 6) rfl
  have f26 := b1.c (i := 7) rfl
  have f27 := b1.c (i := 8) rfl
  go_wp2_with fail
  clear f19 f20 f21 f22 f23 f24 f25 f26 f27
  (with_reducible refine ((q2.out _ gl)).mono ?_)
  rintro r w3 ⟨rfl, k3⟩
  replace fr := fr.kb k3
  replace gl := gl.kb k3
  replace b1 := b1.kb k3
  replace kx := kx.trans k3
  have s3 := k3.size
  skip
  clear k3
  have f28 := b1.c (i := 0) rfl
  have f29 := b1.c (i := 1) rfl
  have f30 := b1.c (i := 2) rfl
  have f31 := b1.c (i := 3) rfl
  have f32 := b1.c (i := 4) rfl
  have f33 := b1.c (i := 5) rfl
  have f34 := b1.c (i := 6) rfl
  have f35 := b1.c (i := 7) rfl
  have f36 := b1.c (i := 8) rfl
  go_wp2_with fail
  clear f28 f29 f30 f31 f32 f33 f34 f35 f36
  (with_reducible refine ((q3.out _ gl)).mono ?_)
  rintro r w4 ⟨rfl, k4⟩
  replace fr := fr.kb k4
  replace gl := gl.kb k4
  replace b1 := b1.kb k4
  replace kx := kx.trans k4
  have s4 := k4.size
  skip
  clear k4
  have f37 := b1.c (i := 1) rfl
  go_wp2
  go_ret
  clear f37
  exact ⟨rfl, kx⟩
set_option maxRecDepth 100000 in
set_option maxHeartbeats 4000000 in
theorem lwEndsF_4 (n : ByteArray) (k : Int) (a : Int) (x : Int) (y : Int) (z : Int) (lo : Int) (hi : Int) (fp : Option Addr) (fl : Nat) (fc : Nat) (fs : List FrT) (rt : Bool) (qr : Hid (∀ W : World, FrS W (.slice fp fl fc) fs → Calls Tryd.prog 32 #[.agg #[.string n, .int .i64 k, .int .i64 a, .int .i64 x, .int .i64 y, .int .i64 z, .int .i64 lo, .int .i64 hi, .slice fp fl fc]] W fun r w' => r = .returned (.bool rt) ∧ Kb W w'))    (q1 : Cg 14 #[.agg #[.string n, .int .i64 k, .int .i64 a, .int .i64 x, .int .i64 y, .int .i64 z, .int .i64 lo, .int .i64 hi, .slice fp fl fc]] (.tuple #[.int .i64 hi, .int .i64 0])) (q2 : Cg 16 #[.agg #[.string n, .int .i64 k, .int .i64 a, .int .i64 x, .int .i64 y, .int .i64 z, .int .i64 lo, .int .i64 hi, .slice fp fl fc]] (.tuple #[.int .i64 lo, .int .i64 0])) (q3 : Cg 12 #[.agg #[.string n, .int .i64 k, .int .i64 a, .int .i64 x, .int .i64 y, .int .i64 z, .int .i64 lo, .int .i64 hi, .slice fp fl fc]] (.tuple #[.bool false, .int .i64 0])) (hh : lo ≤ hi ∧ min lo hi = lo ∧ max lo hi = hi ∧ min hi lo = lo ∧ max hi lo = hi)  (h1 : (rt) = true) (h2 : (k == 0) = false) (h3 : (k == 1) = false) (h4 : (k == 3) = false) (h5 : hi ≤ lo) (w : World) (gl : Gl w) (fr : FrS w (.slice fp fl fc) fs)  : Calls Tryd.prog 7 #[.agg #[.string n, .int .i64 k, .int .i64 a, .int .i64 x, .int .i64 y, .int .i64 z, .int .i64 lo, .int .i64 hi, .slice fp fl fc]] w fun r W' => r = .returned (.bool true) ∧ Kb w W' := by
  have kx := Kb.refl w
  unfold Cg at q1 q2 q3
  obtain ⟨hle, hm1, hm2, hm3, hm4⟩ := hh
  have f1 := (Is.made w #[.string n, .int .i64 k, .int .i64 a, .int .i64 x, .int .i64 y, .int .i64 z, .int .i64 lo, .int .i64 hi, .slice fp fl fc] 28).c (i := 0) rfl
  have f2 := (Is.made w #[.string n, .int .i64 k, .int .i64 a, .int .i64 x, .int .i64 y, .int .i64 z, .int .i64 lo, .int .i64 hi, .slice fp fl fc] 28).c (i := 1) rfl
  have f3 := (Is.made w #[.string n, .int .i64 k, .int .i64 a, .int .i64 x, .int .i64 y, .int .i64 z, .int .i64 lo, .int .i64 hi, .slice fp fl fc] 28).c (i := 2) rfl
  have f4 := (Is.made w #[.string n, .int .i64 k, .int .i64 a, .int .i64 x, .int .i64 y, .int .i64 z, .int .i64 lo, .int .i64 hi, .slice fp fl fc] 28).c (i := 3) rfl
  have f5 := (Is.made w #[.string n, .int .i64 k, .int .i64 a, .int .i64 x, .int .i64 y, .int .i64 z, .int .i64 lo, .int .i64 hi, .slice fp fl fc] 28).c (i := 4) rfl
  have f6 := (Is.made w #[.string n, .int .i64 k, .int .i64 a, .int .i64 x, .int .i64 y, .int .i64 z, .int .i64 lo, .int .i64 hi, .slice fp fl fc] 28).c (i := 5) rfl
  have f7 := (Is.made w #[.string n, .int .i64 k, .int .i64 a, .int .i64 x, .int .i64 y, .int .i64 z, .int .i64 lo, .int .i64 hi, .slice fp fl fc] 28).c (i := 6) rfl
  have f8 := (Is.made w #[.string n, .int .i64 k, .int .i64 a, .int .i64 x, .int .i64 y, .int .i64 z, .int .i64 lo, .int .i64 hi, .slice fp fl fc] 28).c (i := 7) rfl
  have f9 := (Is.made w #[.string n, .int .i64 k, .int .i64 a, .int .i64 x, .int .i64 y, .int .i64 z, .int .i64 lo, .int .i64 hi, .slice fp fl fc] 28).c (i := 8) rfl
  go_enter Tryd.func7, Tryd.ntmps7
  go_wp2_with fail
  clear f1 f2 f3 f4 f5 f6 f7 f8 f9
  replace fr := (fr.alloc (.cells #[.string n, .int .i64 k, .int .i64 a, .int .i64 x, .int .i64 y, .int .i64 z, .int .i64 lo, .int .i64 hi, .slice fp fl fc] 28 (0, 0)))
  replace gl := (gl.alloc (.cells #[.string n, .int .i64 k, .int .i64 a, .int .i64 x, .int .i64 y, .int .i64 z, .int .i64 lo, .int .i64 hi, .slice fp fl fc] 28 (0, 0)))
  have b1 := Is.made w #[.string n, .int .i64 k, .int .i64 a, .int .i64 x, .int .i64 y, .int .i64 z, .int .i64 lo, .int .i64 hi, .slice fp fl fc] 28
  replace kx := kx.alloc (.cells #[.string n, .int .i64 k, .int .i64 a, .int .i64 x, .int .i64 y, .int .i64 z, .int .i64 lo, .int .i64 hi, .slice fp fl fc] 28 (0, 0))
  (with_reducible refine (qr.out _ fr).mono ?_)
  rintro r w1 ⟨rfl, k1⟩
  replace fr := fr.kb k1
  replace gl := gl.kb k1
  replace b1 := b1.kb k1
  replace kx := kx.trans k1
  have s1 := k1.size
  simp only [World.size_alloc] at s1
  clear k1
  have f10 := b1.c (i := 1) rfl
  have f11 := b1.c (i := 0) rfl
  have f12 := b1.c (i := 2) rfl
  have f13 := b1.c (i := 3) rfl
  have f14 := b1.c (i := 4) rfl
  have f15 := b1.c (i := 5) rfl
  have f16 := b1.c (i := 6) rfl
  have f17 := b1.c (i := 7) rfl
  have f18 := b1.c (i := 8) rfl
  go_wp2_with fail
  clear f10 f11 f12 f13 f14 f15 f16 f17 f18
  (with_reducible refine ((q1.out _ gl)).mono ?_)
  rintro r w2 ⟨rfl, k2⟩
  replace fr := fr.kb k2
  replace gl := gl.kb k2
  replace b1 := b1.kb k2
  replace kx := kx.trans k2
  have s2 := k2.size
  skip
  clear k2
  have f19 := b1.c (i := 0) rfl
  have f20 := b1.c (i := 1) rfl
  have f21 := b1.c (i := 2) rfl
  have f22 := b1.c (i := 3) rfl
  have f23 := b1.c (i := 4) rfl
  have f24 := b1.c (i := 5) rfl
  have f25 := b1.c (i := 6) rfl
  have f26 := b1.c (i := 7) rfl
  have f27 := b1.c (i := 8) rfl
  go_wp2_with fail
  clear f19 f20 f21 f22 f23 f24 f25 f26 f27
  (with_reducible refine ((q2.out _ gl)).mono ?_)
  rintro r w3 ⟨rfl, k3⟩
  replace fr := fr.kb k3
  replace gl := gl.kb k3
  replace b1 := b1.kb k3
  replace kx := kx.trans k3
  have s3 := k3.size
  skip
  clear k3
  have f28 := b1.c (i := 0) rfl
  have f29 := b1.c (i := 1) rfl
  have f30 := b1.c (i := 2) rfl
  have f31 := b1.c (i := 3) rfl
  have f32 := b1.c (i := 4) rfl
  have f33 := b1.c (i := 5) rfl
  have f34 := b1.c (i := 6) rfl
  have f35 := b1.c (i := 7) rfl
  have f36 := b1.c (i := 8) rfl
  go_wp2_with fail
  clear f28 f29 f30 f31 f32 f33 f34 f35 f36
  (with_reducible refine ((q3.out _ gl)).mono ?_)
  rintro r w4 ⟨rfl, k4⟩
  replace fr := fr.kb k4
  replace gl := gl.kb k4
  replace b1 := b1.kb k4
  replace kx := kx.trans k4
  have s4 := k4.size
  skip
  clear k4
  have f37 := b1.c (i := 1) rfl
  have f38 := b1.c (i := 6) rfl
  have f39 := b1.c (i := 7) rfl
  go_wp2_with fail
  clear f37 f38 f39
  (with_reducible refine ((Cg.out awake_any _ gl)).mono ?_)
  rintro r w5 ⟨rfl, k5⟩
  replace fr := fr.kb k5
  replace gl := gl.kb k5
  replace b1 := b1.kb k5
  replace kx := kx.trans k5
  have s5 := k5.size
  skip
  clear k5
  go_wp2
  go_ret
  exact ⟨rfl, kx⟩
set_option maxRecDepth 100000 in
set_option maxHeartbeats 4000000 in
theorem lwEndsF_5 (n : ByteArray) (k : Int) (a : Int) (x : Int) (y : Int) (z : Int) (lo : Int) (hi : Int) (fp : Option Addr) (fl : Nat) (fc : Nat) (fs : List FrT) (rt : Bool) (qr : Hid (∀ W : World, FrS W (.slice fp fl fc) fs → Calls Tryd.prog 32 #[.agg #[.string n, .int .i64 k, .int .i64 a, .int .i64 x, .int .i64 y, .int .i64 z, .int .i64 lo, .int .i64 hi, .slice fp fl fc]] W fun r w' => r = .returned (.bool rt) ∧ Kb W w'))    (q1 : Cg 14 #[.agg #[.string n, .int .i64 k, .int .i64 a, .int .i64 x, .int .i64 y, .int .i64 z, .int .i64 lo, .int .i64 hi, .slice fp fl fc]] (.tuple #[.int .i64 hi, .int .i64 0])) (q2 : Cg 16 #[.agg #[.string n, .int .i64 k, .int .i64 a, .int .i64 x, .int .i64 y, .int .i64 z, .int .i64 lo, .int .i64 hi, .slice fp fl fc]] (.tuple #[.int .i64 lo, .int .i64 0])) (q3 : Cg 12 #[.agg #[.string n, .int .i64 k, .int .i64 a, .int .i64 x, .int .i64 y, .int .i64 z, .int .i64 lo, .int .i64 hi, .slice fp fl fc]] (.tuple #[.bool false, .int .i64 0])) (hh : lo ≤ hi ∧ min lo hi = lo ∧ max lo hi = hi ∧ min hi lo = lo ∧ max hi lo = hi)  (h1 : (rt) = true) (h2 : (k == 0) = false) (h3 : (k == 1) = false) (h4 : (k == 3) = false) (h5 : ¬ hi ≤ lo) (w : World) (gl : Gl w) (fr : FrS w (.slice fp fl fc) fs)  : Calls Tryd.prog 7 #[.agg #[.string n, .int .i64 k, .int .i64 a, .int .i64 x, .int .i64 y, .int .i64 z, .int .i64 lo, .int .i64 hi, .slice fp fl fc]] w fun r W' => r = .returned (.bool true) ∧ Kb w W' := by
  have kx := Kb.refl w
  unfold Cg at q1 q2 q3
  obtain ⟨hle, hm1, hm2, hm3, hm4⟩ := hh
  have f1 := (Is.made w #[.string n, .int .i64 k, .int .i64 a, .int .i64 x, .int .i64 y, .int .i64 z, .int .i64 lo, .int .i64 hi, .slice fp fl fc] 28).c (i := 0) rfl
  have f2 := (Is.made w #[.string n, .int .i64 k, .int .i64 a, .int .i64 x, .int .i64 y, .int .i64 z, .int .i64 lo, .int .i64 hi, .slice fp fl fc] 28).c (i := 1) rfl
  have f3 := (Is.made w #[.string n, .int .i64 k, .int .i64 a, .int .i64 x, .int .i64 y, .int .i64 z, .int .i64 lo, .int .i64 hi, .slice fp fl fc] 28).c (i := 2) rfl
  have f4 := (Is.made w #[.string n, .int .i64 k, .int .i64 a, .int .i64 x, .int .i64 y, .int .i64 z, .int .i64 lo, .int .i64 hi, .slice fp fl fc] 28).c (i := 3) rfl
  have f5 := (Is.made w #[.string n, .int .i64 k, .int .i64 a, .int .i64 x, .int .i64 y, .int .i64 z, .int .i64 lo, .int .i64 hi, .slice fp fl fc] 28).c (i := 4) rfl
  have f6 := (Is.made w #[.string n, .int .i64 k, .int .i64 a, .int .i64 x, .int .i64 y, .int .i64 z, .int .i64 lo, .int .i64 hi, .slice fp fl fc] 28).c (i := 5) rfl
  have f7 := (Is.made w #[.string n, .int .i64 k, .int .i64 a, .int .i64 x, .int .i64 y, .int .i64 z, .int .i64 lo, .int .i64 hi, .slice fp fl fc] 28).c (i := 6) rfl
  have f8 := (Is.made w #[.string n, .int .i64 k, .int .i64 a, .int .i64 x, .int .i64 y, .int .i64 z, .int .i64 lo, .int .i64 hi, .slice fp fl fc] 28).c (i := 7) rfl
  have f9 := (Is.made w #[.string n, .int .i64 k, .int .i64 a, .int .i64 x, .int .i64 y, .int .i64 z, .int .i64 lo, .int .i64 hi, .slice fp fl fc] 28).c (i := 8) rfl
  go_enter Tryd.func7, Tryd.ntmps7
  go_wp2_with fail
  clear f1 f2 f3 f4 f5 f6 f7 f8 f9
  replace fr := (fr.alloc (.cells #[.string n, .int .i64 k, .int .i64 a, .int .i64 x, .int .i64 y, .int .i64 z, .int .i64 lo, .int .i64 hi, .slice fp fl fc] 28 (0, 0)))
  replace gl := (gl.alloc (.cells #[.string n, .int .i64 k, .int .i64 a, .int .i64 x, .int .i64 y, .int .i64 z, .int .i64 lo, .int .i64 hi, .slice fp fl fc] 28 (0, 0)))
  have b1 := Is.made w #[.string n, .int .i64 k, .int .i64 a, .int .i64 x, .int .i64 y, .int .i64 z, .int .i64 lo, .int .i64 hi, .slice fp fl fc] 28
  replace kx := kx.alloc (.cells #[.string n, .int .i64 k, .int .i64 a, .int .i64 x, .int .i64 y, .int .i64 z, .int .i64 lo, .int .i64 hi, .slice fp fl fc] 28 (0, 0))
  (with_reducible refine (qr.out _ fr).mono ?_)
  rintro r w1 ⟨rfl, k1⟩
  replace fr := fr.kb k1
  replace gl := gl.kb k1
  replace b1 := b1.kb k1
  replace kx := kx.trans k1
  have s1 := k1.size
  simp only [World.size_alloc] at s1
  clear k1
  have f10 := b1.c (i := 1) rfl
  have f11 := b1.c (i := 0) rfl
  have f12 := b1.c (i := 2) rfl
  have f13 := b1.c (i := 3) rfl
  have f14 := b1.c (i := 4) rfl
  have f15 := b1.c (i := 5) rfl
  have f16 := b1.c (i := 6) rfl
  have f17 := b1.c (i := 7) rfl
  have f18 := b1.c (i := 8) rfl
  go_wp2_with fail
  clear f10 f11 f12 f13 f14 f15 f16 f17 f18
  (with_reducible refine ((q1.out _ gl)).mono ?_)
  rintro r w2 ⟨rfl, k2⟩
  replace fr := fr.kb k2
  replace gl := gl.kb k2
  replace b1 := b1.kb k2
  replace kx := kx.trans k2
  have s2 := k2.size
  skip
  clear k2
  have f19 := b1.c (i := 0) rfl
  have f20 := b1.c (i := 1) rfl
  have f21 := b1.c (i := 2) rfl
  have f22 := b1.c (i := 3) rfl
  have f23 := b1.c (i := 4) rfl
  have f24 := b1.c (i := 5) rfl
  have f25 := b1.c (i := 6) rfl
  have f26 := b1.c (i := 7) rfl
  have f27 := b1.c (i := 8) rfl
  go_wp2_with fail
  clear f19 f20 f21 f22 f23 f24 f25 f26 f27
  (with_reducible refine ((q2.out _ gl)).mono ?_)
  rintro r w3 ⟨rfl, k3⟩
  replace fr := fr.kb k3
  replace gl := gl.kb k3
  replace b1 := b1.kb k3
  replace kx := kx.trans k3
  have s3 := k3.size
  skip
  clear k3
  have f28 := b1.c (i := 0) rfl
  have f29 := b1.c (i := 1) rfl
  have f30 := b1.c (i := 2) rfl
  have f31 := b1.c (i := 3) rfl
  have f32 := b1.c (i := 4) rfl
  have f33 := b1.c (i := 5) rfl
  have f34 := b1.c (i := 6) rfl
  have f35 := b1.c (i := 7) rfl
  have f36 := b1.c (i := 8) rfl
  go_wp2_with fail
  clear f28 f29 f30 f31 f32 f33 f34 f35 f36
  (with_reducible refine ((q3.out _ gl)).mono ?_)
  rintro r w4 ⟨rfl, k4⟩
  replace fr := fr.kb k4
  replace gl := gl.kb k4
  replace b1 := b1.kb k4
  replace kx := kx.trans k4
  have s4 := k4.size
  skip
  clear k4
  have f37 := b1.c (i := 1) rfl
  have f38 := b1.c (i := 6) rfl
  have f39 := b1.c (i := 7) rfl
  go_wp2_with fail
  clear f37 f38 f39
  (with_reducible refine ((Cg.out awake_any _ gl)).mono ?_)
  rintro r w5 ⟨rfl, k5⟩
  replace fr := fr.kb k5
  replace gl := gl.kb k5
  replace b1 := b1.kb k5
  replace kx := kx.trans k5
  have s5 := k5.size
  skip
  clear k5
  go_wp2
  go_ret
  exact ⟨rfl, kx⟩
set_option maxRecDepth 100000 in
set_option maxHeartbeats 4000000 in
theorem lwEndsF_6 (n : ByteArray) (k : Int) (a : Int) (x : Int) (y : Int) (z : Int) (lo : Int) (hi : Int) (fp : Option Addr) (fl : Nat) (fc : Nat) (fs : List FrT) (rt : Bool) (qr : Hid (∀ W : World, FrS W (.slice fp fl fc) fs → Calls Tryd.prog 32 #[.agg #[.string n, .int .i64 k, .int .i64 a, .int .i64 x, .int .i64 y, .int .i64 z, .int .i64 lo, .int .i64 hi, .slice fp fl fc]] W fun r w' => r = .returned (.bool rt) ∧ Kb W w'))      (h1 : (rt) = false) (w : World) (gl : Gl w) (fr : FrS w (.slice fp fl fc) fs)  : Calls Tryd.prog 7 #[.agg #[.string n, .int .i64 k, .int .i64 a, .int .i64 x, .int .i64 y, .int .i64 z, .int .i64 lo, .int .i64 hi, .slice fp fl fc]] w fun r W' => r = .returned (.bool true) ∧ Kb w W' := by
  have kx := Kb.refl w
  have f1 := (Is.made w #[.string n, .int .i64 k, .int .i64 a, .int .i64 x, .int .i64 y, .int .i64 z, .int .i64 lo, .int .i64 hi, .slice fp fl fc] 28).c (i := 0) rfl
  have f2 := (Is.made w #[.string n, .int .i64 k, .int .i64 a, .int .i64 x, .int .i64 y, .int .i64 z, .int .i64 lo, .int .i64 hi, .slice fp fl fc] 28).c (i := 1) rfl
  have f3 := (Is.made w #[.string n, .int .i64 k, .int .i64 a, .int .i64 x, .int .i64 y, .int .i64 z, .int .i64 lo, .int .i64 hi, .slice fp fl fc] 28).c (i := 2) rfl
  have f4 := (Is.made w #[.string n, .int .i64 k, .int .i64 a, .int .i64 x, .int .i64 y, .int .i64 z, .int .i64 lo, .int .i64 hi, .slice fp fl fc] 28).c (i := 3) rfl
  have f5 := (Is.made w #[.string n, .int .i64 k, .int .i64 a, .int .i64 x, .int .i64 y, .int .i64 z, .int .i64 lo, .int .i64 hi, .slice fp fl fc] 28).c (i := 4) rfl
  have f6 := (Is.made w #[.string n, .int .i64 k, .int .i64 a, .int .i64 x, .int .i64 y, .int .i64 z, .int .i64 lo, .int .i64 hi, .slice fp fl fc] 28).c (i := 5) rfl
  have f7 := (Is.made w #[.string n, .int .i64 k, .int .i64 a, .int .i64 x, .int .i64 y, .int .i64 z, .int .i64 lo, .int .i64 hi, .slice fp fl fc] 28).c (i := 6) rfl
  have f8 := (Is.made w #[.string n, .int .i64 k, .int .i64 a, .int .i64 x, .int .i64 y, .int .i64 z, .int .i64 lo, .int .i64 hi, .slice fp fl fc] 28).c (i := 7) rfl
  have f9 := (Is.made w #[.string n, .int .i64 k, .int .i64 a, .int .i64 x, .int .i64 y, .int .i64 z, .int .i64 lo, .int .i64 hi, .slice fp fl fc] 28).c (i := 8) rfl
  go_enter Tryd.func7, Tryd.ntmps7
  go_wp2_with fail
  clear f1 f2 f3 f4 f5 f6 f7 f8 f9
  replace fr := (fr.alloc (.cells #[.string n, .int .i64 k, .int .i64 a, .int .i64 x, .int .i64 y, .int .i64 z, .int .i64 lo, .int .i64 hi, .slice fp fl fc] 28 (0, 0)))
  replace gl := (gl.alloc (.cells #[.string n, .int .i64 k, .int .i64 a, .int .i64 x, .int .i64 y, .int .i64 z, .int .i64 lo, .int .i64 hi, .slice fp fl fc] 28 (0, 0)))
  have b1 := Is.made w #[.string n, .int .i64 k, .int .i64 a, .int .i64 x, .int .i64 y, .int .i64 z, .int .i64 lo, .int .i64 hi, .slice fp fl fc] 28
  replace kx := kx.alloc (.cells #[.string n, .int .i64 k, .int .i64 a, .int .i64 x, .int .i64 y, .int .i64 z, .int .i64 lo, .int .i64 hi, .slice fp fl fc] 28 (0, 0))
  (with_reducible refine (qr.out _ fr).mono ?_)
  rintro r w1 ⟨rfl, k1⟩
  replace fr := fr.kb k1
  replace gl := gl.kb k1
  replace b1 := b1.kb k1
  replace kx := kx.trans k1
  have s1 := k1.size
  simp only [World.size_alloc] at s1
  clear k1
  go_wp2_with fail
  (with_reducible refine ((Cg.out awake_any _ gl)).mono ?_)
  rintro r w2 ⟨rfl, k2⟩
  replace fr := fr.kb k2
  replace gl := gl.kb k2
  replace b1 := b1.kb k2
  replace kx := kx.trans k2
  have s2 := k2.size
  skip
  clear k2
  go_wp2
  go_ret
  exact ⟨rfl, kx⟩
end Go.Proofs.YtgclljgdoonnmaaDoor
