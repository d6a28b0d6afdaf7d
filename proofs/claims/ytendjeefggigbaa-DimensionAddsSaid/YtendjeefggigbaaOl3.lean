/- Laws of package dimension: walks of Adds. -/
import Derived.Test.YtendjeefggigbaaOd6
import Derived.Test.YtendjeefggigbaaOf3
namespace Go.Proofs.Ytendjeefggigbaa
open Go.RowKit

set_option maxRecDepth 100000 in
set_option maxHeartbeats 1000000 in
theorem adds_o1 (l h m k p q e : Int) (he : (e != 0) = true) (q1 : Ca 17 #[.agg #[.int .i64 l, .int .i64 h]] (.int .i64 e)) (qa : Ca 11 #[] (.bool true)) (w : World) : Calls Try.prog 9 #[.agg #[.int .i64 l, .int .i64 h], .agg #[.int .i64 m, .int .i64 k], .agg #[.int .u16 p, .int .u16 q]] w fun r W' => r = .returned (.bool true) ∧ Kb w W' := by
  have kx := Kb.refl w
  unfold Ca at *
  have b0 := Is.made w #[.int .i64 l, .int .i64 h] 23
  replace kx := kx.alloc (.cells #[.int .i64 l, .int .i64 h] 23 (0, 0))
  replace b0 := b0.alloc (.cells #[.int .i64 m, .int .i64 k] 23 (0, 0))
  have b1 := Is.made (w.alloc (.cells #[.int .i64 l, .int .i64 h] 23 (0, 0))) #[.int .i64 m, .int .i64 k] 23
  replace kx := kx.alloc (.cells #[.int .i64 m, .int .i64 k] 23 (0, 0))
  replace b0 := b0.alloc (.cells #[.int .u16 p, .int .u16 q] 64 (0, 0))
  replace b1 := b1.alloc (.cells #[.int .u16 p, .int .u16 q] 64 (0, 0))
  have b2 := Is.made ((w.alloc (.cells #[.int .i64 l, .int .i64 h] 23 (0, 0))).alloc (.cells #[.int .i64 m, .int .i64 k] 23 (0, 0))) #[.int .u16 p, .int .u16 q] 64
  replace kx := kx.alloc (.cells #[.int .u16 p, .int .u16 q] 64 (0, 0))
  rw [World.size_alloc] at b1
  rw [World.size_alloc, World.size_alloc] at b2
  have b0_0 := b0.c (i := 0) rfl
  have b0_1 := b0.c (i := 1) rfl
  have b1_0 := b1.c (i := 0) rfl
  have b1_1 := b1.c (i := 1) rfl
  have b2_0 := b2.c (i := 0) rfl
  have b2_1 := b2.c (i := 1) rfl
  go_enter Try.func9, Try.ntmps9
  go_wp2_with fail
  (with_reducible refine (q1.out _).mono ?_)
  rintro r w1 ⟨rfl, k1⟩
  clear b0_0 b0_1 b1_0 b1_1 b2_0 b2_1
  replace b0 := b0.kb k1
  replace b1 := b1.kb k1
  replace b2 := b2.kb k1
  replace kx := kx.trans k1
  clear k1
  have b0_0 := b0.c (i := 0) rfl
  have b0_1 := b0.c (i := 1) rfl
  have b1_0 := b1.c (i := 0) rfl
  have b1_1 := b1.c (i := 1) rfl
  have b2_0 := b2.c (i := 0) rfl
  have b2_1 := b2.c (i := 1) rfl
  go_wp2_with fail
  (with_reducible refine (qa.out _).mono ?_)
  rintro r w2 ⟨rfl, k2⟩
  clear b0_0 b0_1 b1_0 b1_1 b2_0 b2_1
  replace b0 := b0.kb k2
  replace b1 := b1.kb k2
  replace b2 := b2.kb k2
  replace kx := kx.trans k2
  clear k2
  have b0_0 := b0.c (i := 0) rfl
  have b0_1 := b0.c (i := 1) rfl
  have b1_0 := b1.c (i := 0) rfl
  have b1_1 := b1.c (i := 1) rfl
  have b2_0 := b2.c (i := 0) rfl
  have b2_1 := b2.c (i := 1) rfl
  go_wp2
  go_ret
  exact ⟨rfl, kx⟩
set_option maxRecDepth 100000 in
set_option maxHeartbeats 1000000 in
theorem adds_o2 (l h m k p q e : Int) (he : (e != 0) = true) (q1 : Ca 17 #[.agg #[.int .i64 l, .int .i64 h]] (.int .i64 0)) (q2 : Ca 17 #[.agg #[.int .i64 m, .int .i64 k]] (.int .i64 e)) (qa : Ca 11 #[] (.bool true)) (w : World) : Calls Try.prog 9 #[.agg #[.int .i64 l, .int .i64 h], .agg #[.int .i64 m, .int .i64 k], .agg #[.int .u16 p, .int .u16 q]] w fun r W' => r = .returned (.bool true) ∧ Kb w W' := by
  have kx := Kb.refl w
  unfold Ca at *
  have b0 := Is.made w #[.int .i64 l, .int .i64 h] 23
  replace kx := kx.alloc (.cells #[.int .i64 l, .int .i64 h] 23 (0, 0))
  replace b0 := b0.alloc (.cells #[.int .i64 m, .int .i64 k] 23 (0, 0))
  have b1 := Is.made (w.alloc (.cells #[.int .i64 l, .int .i64 h] 23 (0, 0))) #[.int .i64 m, .int .i64 k] 23
  replace kx := kx.alloc (.cells #[.int .i64 m, .int .i64 k] 23 (0, 0))
  replace b0 := b0.alloc (.cells #[.int .u16 p, .int .u16 q] 64 (0, 0))
  replace b1 := b1.alloc (.cells #[.int .u16 p, .int .u16 q] 64 (0, 0))
  have b2 := Is.made ((w.alloc (.cells #[.int .i64 l, .int .i64 h] 23 (0, 0))).alloc (.cells #[.int .i64 m, .int .i64 k] 23 (0, 0))) #[.int .u16 p, .int .u16 q] 64
  replace kx := kx.alloc (.cells #[.int .u16 p, .int .u16 q] 64 (0, 0))
  rw [World.size_alloc] at b1
  rw [World.size_alloc, World.size_alloc] at b2
  have b0_0 := b0.c (i := 0) rfl
  have b0_1 := b0.c (i := 1) rfl
  have b1_0 := b1.c (i := 0) rfl
  have b1_1 := b1.c (i := 1) rfl
  have b2_0 := b2.c (i := 0) rfl
  have b2_1 := b2.c (i := 1) rfl
  go_enter Try.func9, Try.ntmps9
  go_wp2_with fail
  (with_reducible refine (q1.out _).mono ?_)
  rintro r w1 ⟨rfl, k1⟩
  clear b0_0 b0_1 b1_0 b1_1 b2_0 b2_1
  replace b0 := b0.kb k1
  replace b1 := b1.kb k1
  replace b2 := b2.kb k1
  replace kx := kx.trans k1
  clear k1
  have b0_0 := b0.c (i := 0) rfl
  have b0_1 := b0.c (i := 1) rfl
  have b1_0 := b1.c (i := 0) rfl
  have b1_1 := b1.c (i := 1) rfl
  have b2_0 := b2.c (i := 0) rfl
  have b2_1 := b2.c (i := 1) rfl
  go_wp2_with fail
  (with_reducible refine (q2.out _).mono ?_)
  rintro r w2 ⟨rfl, k2⟩
  clear b0_0 b0_1 b1_0 b1_1 b2_0 b2_1
  replace b0 := b0.kb k2
  replace b1 := b1.kb k2
  replace b2 := b2.kb k2
  replace kx := kx.trans k2
  clear k2
  have b0_0 := b0.c (i := 0) rfl
  have b0_1 := b0.c (i := 1) rfl
  have b1_0 := b1.c (i := 0) rfl
  have b1_1 := b1.c (i := 1) rfl
  have b2_0 := b2.c (i := 0) rfl
  have b2_1 := b2.c (i := 1) rfl
  go_wp2_with fail
  (with_reducible refine (qa.out _).mono ?_)
  rintro r w3 ⟨rfl, k3⟩
  clear b0_0 b0_1 b1_0 b1_1 b2_0 b2_1
  replace b0 := b0.kb k3
  replace b1 := b1.kb k3
  replace b2 := b2.kb k3
  replace kx := kx.trans k3
  clear k3
  have b0_0 := b0.c (i := 0) rfl
  have b0_1 := b0.c (i := 1) rfl
  have b1_0 := b1.c (i := 0) rfl
  have b1_1 := b1.c (i := 1) rfl
  have b2_0 := b2.c (i := 0) rfl
  have b2_1 := b2.c (i := 1) rfl
  go_wp2
  go_ret
  exact ⟨rfl, kx⟩
set_option maxRecDepth 100000 in
set_option maxHeartbeats 1000000 in
theorem adds_zo (l h m k p q nl nh : Int) (zn z : Int) (q1 : Ca 17 #[.agg #[.int .i64 l, .int .i64 h]] (.int .i64 0)) (q2 : Ca 17 #[.agg #[.int .i64 m, .int .i64 k]] (.int .i64 0)) (q3 : Ca 22 #[.agg #[.int .i64 l, .int .i64 h]] (.tuple #[.agg #[.int .i64 nl, .int .i64 nh], .int .i64 0])) (z1 : zn ≤ 0) (z2 : 0 ≤ z) (z3 : wrap64 (-zn) = z) (q4 : Ca 26 #[.agg #[.int .i64 l, .int .i64 h], .agg #[.int .i64 nl, .int .i64 nh]] (.tuple #[.agg #[.int .i64 zn, .int .i64 z], .int .i64 0])) (x y da db r1 r2 v u s : Int) (fw1 : IntKind.i64.wrap (h - l) = da) (fw2 : IntKind.i64.wrap (da + 1) = da + 1) (fw3 : ¬ da + 1 = 0) (fw4 : p.tmod (da + 1) = r1) (fw5 : IntKind.i64.wrap (l + r1) = v) (fw6 : IntKind.i64.wrap (k - m) = db) (fw7 : IntKind.i64.wrap (db + 1) = db + 1) (fw8 : ¬ db + 1 = 0) (fw9_ : q.tmod (db + 1) = r2) (fw10 : IntKind.i64.wrap (m + r2) = u) (fw11 : IntKind.i64.wrap p = p) (fw12 : IntKind.i64.wrap q = q) (fw15 : wrap64 (v + u) = s) (fw16 : wrap64 (l + m) = x) (fw17 : wrap64 (h + k) = y) (q5 : Ca 26 #[.agg #[.int .i64 l, .int .i64 h], .agg #[.int .i64 m, .int .i64 k]] (.tuple #[.agg #[.int .i64 x, .int .i64 y], .int .i64 0])) (q6 : Ca 18 #[.agg #[.int .i64 x, .int .i64 y], .int .i64 s] (.tuple #[.bool true, .int .i64 0])) (qa : Ca 11 #[] (.bool true)) (w : World) : Calls Try.prog 9 #[.agg #[.int .i64 l, .int .i64 h], .agg #[.int .i64 m, .int .i64 k], .agg #[.int .u16 p, .int .u16 q]] w fun r W' => r = .returned (.bool true) ∧ Kb w W' := by
  have kx := Kb.refl w
  unfold Ca at *
  have b0 := Is.made w #[.int .i64 l, .int .i64 h] 23
  replace kx := kx.alloc (.cells #[.int .i64 l, .int .i64 h] 23 (0, 0))
  replace b0 := b0.alloc (.cells #[.int .i64 m, .int .i64 k] 23 (0, 0))
  have b1 := Is.made (w.alloc (.cells #[.int .i64 l, .int .i64 h] 23 (0, 0))) #[.int .i64 m, .int .i64 k] 23
  replace kx := kx.alloc (.cells #[.int .i64 m, .int .i64 k] 23 (0, 0))
  replace b0 := b0.alloc (.cells #[.int .u16 p, .int .u16 q] 64 (0, 0))
  replace b1 := b1.alloc (.cells #[.int .u16 p, .int .u16 q] 64 (0, 0))
  have b2 := Is.made ((w.alloc (.cells #[.int .i64 l, .int .i64 h] 23 (0, 0))).alloc (.cells #[.int .i64 m, .int .i64 k] 23 (0, 0))) #[.int .u16 p, .int .u16 q] 64
  replace kx := kx.alloc (.cells #[.int .u16 p, .int .u16 q] 64 (0, 0))
  rw [World.size_alloc] at b1
  rw [World.size_alloc, World.size_alloc] at b2
  have b0_0 := b0.c (i := 0) rfl
  have b0_1 := b0.c (i := 1) rfl
  have b1_0 := b1.c (i := 0) rfl
  have b1_1 := b1.c (i := 1) rfl
  have b2_0 := b2.c (i := 0) rfl
  have b2_1 := b2.c (i := 1) rfl
  go_enter Try.func9, Try.ntmps9
  go_wp2_with fail
  (with_reducible refine (q1.out _).mono ?_)
  rintro r w1 ⟨rfl, k1⟩
  clear b0_0 b0_1 b1_0 b1_1 b2_0 b2_1
  replace b0 := b0.kb k1
  replace b1 := b1.kb k1
  replace b2 := b2.kb k1
  replace kx := kx.trans k1
  clear k1
  have b0_0 := b0.c (i := 0) rfl
  have b0_1 := b0.c (i := 1) rfl
  have b1_0 := b1.c (i := 0) rfl
  have b1_1 := b1.c (i := 1) rfl
  have b2_0 := b2.c (i := 0) rfl
  have b2_1 := b2.c (i := 1) rfl
  go_wp2_with fail
  (with_reducible refine (q2.out _).mono ?_)
  rintro r w2 ⟨rfl, k2⟩
  clear b0_0 b0_1 b1_0 b1_1 b2_0 b2_1
  replace b0 := b0.kb k2
  replace b1 := b1.kb k2
  replace b2 := b2.kb k2
  replace kx := kx.trans k2
  clear k2
  have b0_0 := b0.c (i := 0) rfl
  have b0_1 := b0.c (i := 1) rfl
  have b1_0 := b1.c (i := 0) rfl
  have b1_1 := b1.c (i := 1) rfl
  have b2_0 := b2.c (i := 0) rfl
  have b2_1 := b2.c (i := 1) rfl
  go_wp2_with fail
  (with_reducible refine (q3.out _).mono ?_)
  rintro r w3 ⟨rfl, k3⟩
  clear b0_0 b0_1 b1_0 b1_1 b2_0 b2_1
  replace b0 := b0.kb k3
  replace b1 := b1.kb k3
  replace b2 := b2.kb k3
  replace kx := kx.trans k3
  clear k3
  replace b0 := b0.alloc (.cells #[.int .i64 nl, .int .i64 nh] 23 (0, 0))
  replace b1 := b1.alloc (.cells #[.int .i64 nl, .int .i64 nh] 23 (0, 0))
  replace b2 := b2.alloc (.cells #[.int .i64 nl, .int .i64 nh] 23 (0, 0))
  have p7 := Is.made w3 #[.int .i64 nl, .int .i64 nh] 23
  replace kx := kx.alloc (.cells #[.int .i64 nl, .int .i64 nh] 23 (0, 0))
  have b0_0 := b0.c (i := 0) rfl
  have b0_1 := b0.c (i := 1) rfl
  have b1_0 := b1.c (i := 0) rfl
  have b1_1 := b1.c (i := 1) rfl
  have b2_0 := b2.c (i := 0) rfl
  have b2_1 := b2.c (i := 1) rfl
  have p7_0 := p7.c (i := 0) rfl
  have p7_1 := p7.c (i := 1) rfl
  go_wp2_with fail
  (with_reducible refine (q4.out _).mono ?_)
  rintro r w4 ⟨rfl, k4⟩
  clear b0_0 b0_1 b1_0 b1_1 b2_0 b2_1 p7_0 p7_1
  replace b0 := b0.kb k4
  replace b1 := b1.kb k4
  replace b2 := b2.kb k4
  replace p7 := p7.kb k4
  replace kx := kx.trans k4
  clear k4
  replace b0 := b0.alloc (.cells #[.int .i64 zn, .int .i64 z] 23 (0, 0))
  replace b1 := b1.alloc (.cells #[.int .i64 zn, .int .i64 z] 23 (0, 0))
  replace b2 := b2.alloc (.cells #[.int .i64 zn, .int .i64 z] 23 (0, 0))
  replace p7 := p7.alloc (.cells #[.int .i64 zn, .int .i64 z] 23 (0, 0))
  have p9 := Is.made w4 #[.int .i64 zn, .int .i64 z] 23
  replace kx := kx.alloc (.cells #[.int .i64 zn, .int .i64 z] 23 (0, 0))
  have b0_0 := b0.c (i := 0) rfl
  have b0_1 := b0.c (i := 1) rfl
  have b1_0 := b1.c (i := 0) rfl
  have b1_1 := b1.c (i := 1) rfl
  have b2_0 := b2.c (i := 0) rfl
  have b2_1 := b2.c (i := 1) rfl
  have p7_0 := p7.c (i := 0) rfl
  have p7_1 := p7.c (i := 1) rfl
  have p9_0 := p9.c (i := 0) rfl
  have p9_1 := p9.c (i := 1) rfl
  go_wp2_with fail
  (with_reducible refine (q5.out _).mono ?_)
  rintro r w5 ⟨rfl, k5⟩
  clear b0_0 b0_1 b1_0 b1_1 b2_0 b2_1 p7_0 p7_1 p9_0 p9_1
  replace b0 := b0.kb k5
  replace b1 := b1.kb k5
  replace b2 := b2.kb k5
  replace p7 := p7.kb k5
  replace p9 := p9.kb k5
  replace kx := kx.trans k5
  clear k5
  replace b0 := b0.alloc (.cells #[.int .i64 x, .int .i64 y] 23 (0, 0))
  replace b1 := b1.alloc (.cells #[.int .i64 x, .int .i64 y] 23 (0, 0))
  replace b2 := b2.alloc (.cells #[.int .i64 x, .int .i64 y] 23 (0, 0))
  replace p7 := p7.alloc (.cells #[.int .i64 x, .int .i64 y] 23 (0, 0))
  replace p9 := p9.alloc (.cells #[.int .i64 x, .int .i64 y] 23 (0, 0))
  have p11 := Is.made w5 #[.int .i64 x, .int .i64 y] 23
  replace kx := kx.alloc (.cells #[.int .i64 x, .int .i64 y] 23 (0, 0))
  have b0_0 := b0.c (i := 0) rfl
  have b0_1 := b0.c (i := 1) rfl
  have b1_0 := b1.c (i := 0) rfl
  have b1_1 := b1.c (i := 1) rfl
  have b2_0 := b2.c (i := 0) rfl
  have b2_1 := b2.c (i := 1) rfl
  have p7_0 := p7.c (i := 0) rfl
  have p7_1 := p7.c (i := 1) rfl
  have p9_0 := p9.c (i := 0) rfl
  have p9_1 := p9.c (i := 1) rfl
  have p11_0 := p11.c (i := 0) rfl
  have p11_1 := p11.c (i := 1) rfl
  go_wp2_with fail
  clear b0_0 b0_1 b1_0 b1_1 b2_0 b2_1 p7_0 p7_1 p9_0 p9_1 p11_0 p11_1
  replace b0 := b0.drew
  replace b1 := b1.drew
  replace b2 := b2.drew
  replace p7 := p7.drew
  replace p9 := p9.drew
  replace p11 := p11.drew
  rw [oF_lit]
  refine o_law (⟨134, [some 72, some 73, some 74, some 75, some 76, some 77, some 78, some 79, some 80, some 81, some 82, some 83, some 84, some 85, some 86, some 87, some 88, some 89, some 90, some 91, some 92, some 93, some 94, some 95, some 96, some 97, some 12, some 13], [72, 73, 74, 75, 76, 77, 78, 79, 80, 81, 82, 83, 84, 85, 86, 87, 88, 89, 90, 91, 92, 93, 94, 95, 96, 97, 12, 13], [[], [0], [], [2], [3], [], [5], [], [7], [6, 8], [9], [4, 10], [1, 11], [], [13], [], [15], [16], [], [18], [], [20], [19, 21], [22], [17, 23], [14, 24], [12], [25]], [[3], [], [5], [], [], [3], [], [3], [], [], [], [], [], [4], [], [5], [], [], [4], [], [4], [], [], [], [], [], [], []]⟩ : OT) (Kx []) (RL [fun vv _ => vv = .pointer (some ⟨w.heap.size, 0, none⟩), fun vv _ => vv = .int .i64 l, fun vv _ => vv = .pointer (some ⟨w.heap.size + 1 + 1, 0, none⟩), fun vv _ => vv = .int .u16 p, fun vv _ => vv = .int .i64 p, fun vv _ => vv = .pointer (some ⟨w.heap.size, 1, none⟩), fun vv _ => vv = .int .i64 h, fun vv _ => vv = .pointer (some ⟨w.heap.size, 0, none⟩), fun vv _ => vv = .int .i64 l, fun vv _ => vv = .int .i64 da, fun vv _ => vv = .int .i64 (da + 1), fun vv _ => vv = .int .i64 r1, fun vv _ => vv = .int .i64 v, fun vv _ => vv = .pointer (some ⟨w.heap.size + 1, 0, none⟩), fun vv _ => vv = .int .i64 m, fun vv _ => vv = .pointer (some ⟨w.heap.size + 1 + 1, 1, none⟩), fun vv _ => vv = .int .u16 q, fun vv _ => vv = .int .i64 q, fun vv _ => vv = .pointer (some ⟨w.heap.size + 1, 1, none⟩), fun vv _ => vv = .int .i64 k, fun vv _ => vv = .pointer (some ⟨w.heap.size + 1, 0, none⟩), fun vv _ => vv = .int .i64 m, fun vv _ => vv = .int .i64 db, fun vv _ => vv = .int .i64 (db + 1), fun vv _ => vv = .int .i64 r2, fun vv _ => vv = .int .i64 u, fun vv _ => vv = .int .i64 v, fun vv _ => vv = .int .i64 u]) (by kernel_rfl) ?hk ?hR ?fin
  case hk => kernel_rfl
  case hR =>
    refine ⟨fun _ => (Kx.refl _ _), fun _ _ _ => Kx.trans, rl_stab ⟨fun _ _ _ _ h => h, fun _ _ _ _ h => h, fun _ _ _ _ h => h, fun _ _ _ _ h => h, fun _ _ _ _ h => h, fun _ _ _ _ h => h, fun _ _ _ _ h => h, fun _ _ _ _ h => h, fun _ _ _ _ h => h, fun _ _ _ _ h => h, fun _ _ _ _ h => h, fun _ _ _ _ h => h, fun _ _ _ _ h => h, fun _ _ _ _ h => h, fun _ _ _ _ h => h, fun _ _ _ _ h => h, fun _ _ _ _ h => h, fun _ _ _ _ h => h, fun _ _ _ _ h => h, fun _ _ _ _ h => h, fun _ _ _ _ h => h, fun _ _ _ _ h => h, fun _ _ _ _ h => h, fun _ _ _ _ h => h, fun _ _ _ _ h => h, fun _ _ _ _ h => h, fun _ _ _ _ h => h, fun _ _ _ _ h => h, trivial⟩, ?_⟩
    refine allO_cons ?_ (allO_cons ?_ (allO_cons ?_ (allO_cons ?_ (allO_cons ?_ (allO_cons ?_ (allO_cons ?_ (allO_cons ?_ (allO_cons ?_ (allO_cons ?_ (allO_cons ?_ (allO_cons ?_ (allO_cons ?_ (allO_cons ?_ (allO_cons ?_ (allO_cons ?_ (allO_cons ?_ (allO_cons ?_ (allO_cons ?_ (allO_cons ?_ (allO_cons ?_ (allO_cons ?_ (allO_cons ?_ (allO_cons ?_ (allO_cons ?_ (allO_cons ?_ (allO_cons ?_ (allO_cons ?_ (allO_nil))))))))))))))))))))))))))))
    · intro T w9 hG hD hO Q
      have q0 := hO.1
      have e0 : (oF 134 T).eval (.tmp 3) = .pointer (some ⟨w.heap.size, 0, none⟩) := (oF_eval (by decide)).trans (show T 3 = _ from q0)
      refine og_none rfl ?_
      exact o_val (v := .pointer (some ⟨w.heap.size, 0, none⟩)) (w' := w9) (by generalize (oF 134 T).eval = rr at *; simp [execOp, go_sem, e0]) rfl rfl (Kx.refl _ _)
    · intro T w9 hG hD hO Q
      have d0 := hD.1
      have e0 : (oF 134 T).eval (.tmp 72) = .pointer (some ⟨w.heap.size, 0, none⟩) := (oF_eval (by decide)).trans (show T 72 = _ from d0)
      refine og_none rfl ?_
      have im := b0.kx hG (by simp)
      have m0 := im.c (i := 0) rfl
      clear im
      exact o_val (v := .int .i64 l) (w' := w9) (by generalize (oF 134 T).eval = rr at *; simp [execOp, go_sem, e0, m0]) rfl rfl (Kx.refl _ _)
    · intro T w9 hG hD hO Q
      have q0 := hO.1
      have e0 : (oF 134 T).eval (.tmp 5) = .pointer (some ⟨w.heap.size + 1 + 1, 0, none⟩) := (oF_eval (by decide)).trans (show T 5 = _ from q0)
      have e1 : (oF 134 T).eval (.const (.int .i64 0)) = .int .i64 0 := rfl
      refine og_none rfl ?_
      exact o_val (v := .pointer (some ⟨w.heap.size + 1 + 1, 0, none⟩)) (w' := w9) (by generalize (oF 134 T).eval = rr at *; simp [execOp, go_sem, e0, e1]) rfl rfl (Kx.refl _ _)
    · intro T w9 hG hD hO Q
      have d0 := hD.1
      have e0 : (oF 134 T).eval (.tmp 74) = .pointer (some ⟨w.heap.size + 1 + 1, 0, none⟩) := (oF_eval (by decide)).trans (show T 74 = _ from d0)
      refine og_none rfl ?_
      have im := b2.kx hG (by simp)
      have m0 := im.c (i := 0) rfl
      clear im
      exact o_val (v := .int .u16 p) (w' := w9) (by generalize (oF 134 T).eval = rr at *; simp [execOp, go_sem, e0, m0]) rfl rfl (Kx.refl _ _)
    · intro T w9 hG hD hO Q
      have d0 := hD.1
      have e0 : (oF 134 T).eval (.tmp 75) = .int .u16 p := (oF_eval (by decide)).trans (show T 75 = _ from d0)
      refine og_none rfl ?_
      exact o_val (v := .int .i64 p) (w' := w9) (by generalize (oF 134 T).eval = rr at *; simp [execOp, go_sem, e0, fw11]) rfl rfl (Kx.refl _ _)
    · intro T w9 hG hD hO Q
      have q0 := hO.1
      have e0 : (oF 134 T).eval (.tmp 3) = .pointer (some ⟨w.heap.size, 0, none⟩) := (oF_eval (by decide)).trans (show T 3 = _ from q0)
      refine og_none rfl ?_
      exact o_val (v := .pointer (some ⟨w.heap.size, 1, none⟩)) (w' := w9) (by generalize (oF 134 T).eval = rr at *; simp [execOp, go_sem, e0]) rfl rfl (Kx.refl _ _)
    · intro T w9 hG hD hO Q
      have d0 := hD.1
      have e0 : (oF 134 T).eval (.tmp 77) = .pointer (some ⟨w.heap.size, 1, none⟩) := (oF_eval (by decide)).trans (show T 77 = _ from d0)
      refine og_none rfl ?_
      have im := b0.kx hG (by simp)
      have m0 := im.c (i := 1) rfl
      clear im
      exact o_val (v := .int .i64 h) (w' := w9) (by generalize (oF 134 T).eval = rr at *; simp [execOp, go_sem, e0, m0]) rfl rfl (Kx.refl _ _)
    · intro T w9 hG hD hO Q
      have q0 := hO.1
      have e0 : (oF 134 T).eval (.tmp 3) = .pointer (some ⟨w.heap.size, 0, none⟩) := (oF_eval (by decide)).trans (show T 3 = _ from q0)
      refine og_none rfl ?_
      exact o_val (v := .pointer (some ⟨w.heap.size, 0, none⟩)) (w' := w9) (by generalize (oF 134 T).eval = rr at *; simp [execOp, go_sem, e0]) rfl rfl (Kx.refl _ _)
    · intro T w9 hG hD hO Q
      have d0 := hD.1
      have e0 : (oF 134 T).eval (.tmp 79) = .pointer (some ⟨w.heap.size, 0, none⟩) := (oF_eval (by decide)).trans (show T 79 = _ from d0)
      refine og_none rfl ?_
      have im := b0.kx hG (by simp)
      have m0 := im.c (i := 0) rfl
      clear im
      exact o_val (v := .int .i64 l) (w' := w9) (by generalize (oF 134 T).eval = rr at *; simp [execOp, go_sem, e0, m0]) rfl rfl (Kx.refl _ _)
    · intro T w9 hG hD hO Q
      have d0 := hD.1
      have d1 := hD.2.1
      have e0 : (oF 134 T).eval (.tmp 78) = .int .i64 h := (oF_eval (by decide)).trans (show T 78 = _ from d0)
      have e1 : (oF 134 T).eval (.tmp 80) = .int .i64 l := (oF_eval (by decide)).trans (show T 80 = _ from d1)
      refine og_none rfl ?_
      exact o_val (v := .int .i64 da) (w' := w9) (by generalize (oF 134 T).eval = rr at *; simp [execOp, go_sem, e0, e1, fw1]) rfl rfl (Kx.refl _ _)
    · intro T w9 hG hD hO Q
      have d0 := hD.1
      have e0 : (oF 134 T).eval (.tmp 81) = .int .i64 da := (oF_eval (by decide)).trans (show T 81 = _ from d0)
      have e1 : (oF 134 T).eval (.const (.int .i64 1)) = .int .i64 1 := rfl
      refine og_none rfl ?_
      exact o_val (v := .int .i64 (da + 1)) (w' := w9) (by generalize (oF 134 T).eval = rr at *; simp [execOp, go_sem, e0, e1, fw2]) rfl rfl (Kx.refl _ _)
    · intro T w9 hG hD hO Q
      have d0 := hD.1
      have d1 := hD.2.1
      have e0 : (oF 134 T).eval (.tmp 76) = .int .i64 p := (oF_eval (by decide)).trans (show T 76 = _ from d0)
      have e1 : (oF 134 T).eval (.tmp 82) = .int .i64 (da + 1) := (oF_eval (by decide)).trans (show T 82 = _ from d1)
      refine og_none rfl ?_
      exact o_val (v := .int .i64 r1) (w' := w9) (by generalize (oF 134 T).eval = rr at *; simp [execOp, go_sem, e0, e1, fw3, fw4]) rfl rfl (Kx.refl _ _)
    · intro T w9 hG hD hO Q
      have d0 := hD.1
      have d1 := hD.2.1
      have e0 : (oF 134 T).eval (.tmp 73) = .int .i64 l := (oF_eval (by decide)).trans (show T 73 = _ from d0)
      have e1 : (oF 134 T).eval (.tmp 83) = .int .i64 r1 := (oF_eval (by decide)).trans (show T 83 = _ from d1)
      refine og_none rfl ?_
      exact o_val (v := .int .i64 v) (w' := w9) (by generalize (oF 134 T).eval = rr at *; simp [execOp, go_sem, e0, e1, fw5]) rfl rfl (Kx.refl _ _)
    · intro T w9 hG hD hO Q
      have q0 := hO.1
      have e0 : (oF 134 T).eval (.tmp 4) = .pointer (some ⟨w.heap.size + 1, 0, none⟩) := (oF_eval (by decide)).trans (show T 4 = _ from q0)
      refine og_none rfl ?_
      exact o_val (v := .pointer (some ⟨w.heap.size + 1, 0, none⟩)) (w' := w9) (by generalize (oF 134 T).eval = rr at *; simp [execOp, go_sem, e0]) rfl rfl (Kx.refl _ _)
    · intro T w9 hG hD hO Q
      have d0 := hD.1
      have e0 : (oF 134 T).eval (.tmp 85) = .pointer (some ⟨w.heap.size + 1, 0, none⟩) := (oF_eval (by decide)).trans (show T 85 = _ from d0)
      refine og_none rfl ?_
      have im := b1.kx hG (by simp)
      have m0 := im.c (i := 0) rfl
      clear im
      exact o_val (v := .int .i64 m) (w' := w9) (by generalize (oF 134 T).eval = rr at *; simp [execOp, go_sem, e0, m0]) rfl rfl (Kx.refl _ _)
    · intro T w9 hG hD hO Q
      have q0 := hO.1
      have e0 : (oF 134 T).eval (.tmp 5) = .pointer (some ⟨w.heap.size + 1 + 1, 0, none⟩) := (oF_eval (by decide)).trans (show T 5 = _ from q0)
      have e1 : (oF 134 T).eval (.const (.int .i64 1)) = .int .i64 1 := rfl
      refine og_none rfl ?_
      exact o_val (v := .pointer (some ⟨w.heap.size + 1 + 1, 1, none⟩)) (w' := w9) (by generalize (oF 134 T).eval = rr at *; simp [execOp, go_sem, e0, e1]) rfl rfl (Kx.refl _ _)
    · intro T w9 hG hD hO Q
      have d0 := hD.1
      have e0 : (oF 134 T).eval (.tmp 87) = .pointer (some ⟨w.heap.size + 1 + 1, 1, none⟩) := (oF_eval (by decide)).trans (show T 87 = _ from d0)
      refine og_none rfl ?_
      have im := b2.kx hG (by simp)
      have m0 := im.c (i := 1) rfl
      clear im
      exact o_val (v := .int .u16 q) (w' := w9) (by generalize (oF 134 T).eval = rr at *; simp [execOp, go_sem, e0, m0]) rfl rfl (Kx.refl _ _)
    · intro T w9 hG hD hO Q
      have d0 := hD.1
      have e0 : (oF 134 T).eval (.tmp 88) = .int .u16 q := (oF_eval (by decide)).trans (show T 88 = _ from d0)
      refine og_none rfl ?_
      exact o_val (v := .int .i64 q) (w' := w9) (by generalize (oF 134 T).eval = rr at *; simp [execOp, go_sem, e0, fw12]) rfl rfl (Kx.refl _ _)
    · intro T w9 hG hD hO Q
      have q0 := hO.1
      have e0 : (oF 134 T).eval (.tmp 4) = .pointer (some ⟨w.heap.size + 1, 0, none⟩) := (oF_eval (by decide)).trans (show T 4 = _ from q0)
      refine og_none rfl ?_
      exact o_val (v := .pointer (some ⟨w.heap.size + 1, 1, none⟩)) (w' := w9) (by generalize (oF 134 T).eval = rr at *; simp [execOp, go_sem, e0]) rfl rfl (Kx.refl _ _)
    · intro T w9 hG hD hO Q
      have d0 := hD.1
      have e0 : (oF 134 T).eval (.tmp 90) = .pointer (some ⟨w.heap.size + 1, 1, none⟩) := (oF_eval (by decide)).trans (show T 90 = _ from d0)
      refine og_none rfl ?_
      have im := b1.kx hG (by simp)
      have m0 := im.c (i := 1) rfl
      clear im
      exact o_val (v := .int .i64 k) (w' := w9) (by generalize (oF 134 T).eval = rr at *; simp [execOp, go_sem, e0, m0]) rfl rfl (Kx.refl _ _)
    · intro T w9 hG hD hO Q
      have q0 := hO.1
      have e0 : (oF 134 T).eval (.tmp 4) = .pointer (some ⟨w.heap.size + 1, 0, none⟩) := (oF_eval (by decide)).trans (show T 4 = _ from q0)
      refine og_none rfl ?_
      exact o_val (v := .pointer (some ⟨w.heap.size + 1, 0, none⟩)) (w' := w9) (by generalize (oF 134 T).eval = rr at *; simp [execOp, go_sem, e0]) rfl rfl (Kx.refl _ _)
    · intro T w9 hG hD hO Q
      have d0 := hD.1
      have e0 : (oF 134 T).eval (.tmp 92) = .pointer (some ⟨w.heap.size + 1, 0, none⟩) := (oF_eval (by decide)).trans (show T 92 = _ from d0)
      refine og_none rfl ?_
      have im := b1.kx hG (by simp)
      have m0 := im.c (i := 0) rfl
      clear im
      exact o_val (v := .int .i64 m) (w' := w9) (by generalize (oF 134 T).eval = rr at *; simp [execOp, go_sem, e0, m0]) rfl rfl (Kx.refl _ _)
    · intro T w9 hG hD hO Q
      have d0 := hD.1
      have d1 := hD.2.1
      have e0 : (oF 134 T).eval (.tmp 91) = .int .i64 k := (oF_eval (by decide)).trans (show T 91 = _ from d0)
      have e1 : (oF 134 T).eval (.tmp 93) = .int .i64 m := (oF_eval (by decide)).trans (show T 93 = _ from d1)
      refine og_none rfl ?_
      exact o_val (v := .int .i64 db) (w' := w9) (by generalize (oF 134 T).eval = rr at *; simp [execOp, go_sem, e0, e1, fw6]) rfl rfl (Kx.refl _ _)
    · intro T w9 hG hD hO Q
      have d0 := hD.1
      have e0 : (oF 134 T).eval (.tmp 94) = .int .i64 db := (oF_eval (by decide)).trans (show T 94 = _ from d0)
      have e1 : (oF 134 T).eval (.const (.int .i64 1)) = .int .i64 1 := rfl
      refine og_none rfl ?_
      exact o_val (v := .int .i64 (db + 1)) (w' := w9) (by generalize (oF 134 T).eval = rr at *; simp [execOp, go_sem, e0, e1, fw7]) rfl rfl (Kx.refl _ _)
    · intro T w9 hG hD hO Q
      have d0 := hD.1
      have d1 := hD.2.1
      have e0 : (oF 134 T).eval (.tmp 89) = .int .i64 q := (oF_eval (by decide)).trans (show T 89 = _ from d0)
      have e1 : (oF 134 T).eval (.tmp 95) = .int .i64 (db + 1) := (oF_eval (by decide)).trans (show T 95 = _ from d1)
      refine og_none rfl ?_
      exact o_val (v := .int .i64 r2) (w' := w9) (by generalize (oF 134 T).eval = rr at *; simp [execOp, go_sem, e0, e1, fw8, fw9_]) rfl rfl (Kx.refl _ _)
    · intro T w9 hG hD hO Q
      have d0 := hD.1
      have d1 := hD.2.1
      have e0 : (oF 134 T).eval (.tmp 86) = .int .i64 m := (oF_eval (by decide)).trans (show T 86 = _ from d0)
      have e1 : (oF 134 T).eval (.tmp 96) = .int .i64 r2 := (oF_eval (by decide)).trans (show T 96 = _ from d1)
      refine og_none rfl ?_
      exact o_val (v := .int .i64 u) (w' := w9) (by generalize (oF 134 T).eval = rr at *; simp [execOp, go_sem, e0, e1, fw10]) rfl rfl (Kx.refl _ _)
    · intro T w9 hG hD hO Q
      have d0 := hD.1
      have e0 : (oF 134 T).eval (.tmp 84) = .int .i64 v := (oF_eval (by decide)).trans (show T 84 = _ from d0)
      refine og_none rfl ?_
      exact o_val (v := .int .i64 v) (w' := w9) (by generalize (oF 134 T).eval = rr at *; simp [execOp, go_sem, e0]) rfl rfl (Kx.refl _ _)
    · intro T w9 hG hD hO Q
      have d0 := hD.1
      have e0 : (oF 134 T).eval (.tmp 97) = .int .i64 u := (oF_eval (by decide)).trans (show T 97 = _ from d0)
      refine og_none rfl ?_
      exact o_val (v := .int .i64 u) (w' := w9) (by generalize (oF 134 T).eval = rr at *; simp [execOp, go_sem, e0]) rfl rfl (Kx.refl _ _)
  case fin =>
    intro T w6 hout hval hG
    rw [show oF 134 T = (⟨#[T 0, T 1, T 2, T 3, T 4, T 5, T 6, T 7, T 8, T 9, T 10, T 11, T 12, T 13, T 14, T 15, T 16, T 17, T 18, T 19, T 20, T 21, T 22, T 23, T 24, T 25, T 26, T 27, T 28, T 29, T 30, T 31, T 32, T 33, T 34, T 35, T 36, T 37, T 38, T 39, T 40, T 41, T 42, T 43, T 44, T 45, T 46, T 47, T 48, T 49, T 50, T 51, T 52, T 53, T 54, T 55, T 56, T 57, T 58, T 59, T 60, T 61, T 62, T 63, T 64, T 65, T 66, T 67, T 68, T 69, T 70, T 71, T 72, T 73, T 74, T 75, T 76, T 77, T 78, T 79, T 80, T 81, T 82, T 83, T 84, T 85, T 86, T 87, T 88, T 89, T 90, T 91, T 92, T 93, T 94, T 95, T 96, T 97, T 98, T 99, T 100, T 101, T 102, T 103, T 104, T 105, T 106, T 107, T 108, T 109, T 110, T 111, T 112, T 113, T 114, T 115, T 116, T 117, T 118, T 119, T 120, T 121, T 122, T 123, T 124, T 125, T 126, T 127, T 128, T 129, T 130, T 131, T 132, T 133], []⟩ : Act) from oF_list 134 T]
    rw [show T 3 = .pointer (some ⟨w.heap.size, 0, none⟩) from hout 3 rfl]
    rw [show T 4 = .pointer (some ⟨w.heap.size + 1, 0, none⟩) from hout 4 rfl]
    rw [show T 11 = .pointer (some ⟨w5.heap.size, 0, none⟩) from hout 11 rfl]
    rw [show T 12 = .int .i64 v from hval 26 (by decide : 26 < 28)]
    rw [show T 13 = .int .i64 u from hval 27 (by decide : 27 < 28)]
    replace b0 := b0.kx hG (by simp)
    replace b1 := b1.kx hG (by simp)
    replace b2 := b2.kx hG (by simp)
    replace p7 := p7.kx hG (by simp)
    replace p9 := p9.kx hG (by simp)
    replace p11 := p11.kx hG (by simp)
    replace kx := (show Kb _ _ from kx.drew).trans hG.nil
    clear hout hval hG
    have b0_0 := b0.c (i := 0) rfl
    have b0_1 := b0.c (i := 1) rfl
    have b1_0 := b1.c (i := 0) rfl
    have b1_1 := b1.c (i := 1) rfl
    have b2_0 := b2.c (i := 0) rfl
    have b2_1 := b2.c (i := 1) rfl
    have p7_0 := p7.c (i := 0) rfl
    have p7_1 := p7.c (i := 1) rfl
    have p9_0 := p9.c (i := 0) rfl
    have p9_1 := p9.c (i := 1) rfl
    have p11_0 := p11.c (i := 0) rfl
    have p11_1 := p11.c (i := 1) rfl
    go_wp2_with fail
    (with_reducible refine (q6.out _).mono ?_)
    rintro r w7 ⟨rfl, k7⟩
    clear b0_0 b0_1 b1_0 b1_1 b2_0 b2_1 p7_0 p7_1 p9_0 p9_1 p11_0 p11_1
    replace b0 := b0.kb k7
    replace b1 := b1.kb k7
    replace b2 := b2.kb k7
    replace p7 := p7.kb k7
    replace p9 := p9.kb k7
    replace p11 := p11.kb k7
    replace kx := kx.trans k7
    clear k7
    have b0_0 := b0.c (i := 0) rfl
    have b0_1 := b0.c (i := 1) rfl
    have b1_0 := b1.c (i := 0) rfl
    have b1_1 := b1.c (i := 1) rfl
    have b2_0 := b2.c (i := 0) rfl
    have b2_1 := b2.c (i := 1) rfl
    have p7_0 := p7.c (i := 0) rfl
    have p7_1 := p7.c (i := 1) rfl
    have p9_0 := p9.c (i := 0) rfl
    have p9_1 := p9.c (i := 1) rfl
    have p11_0 := p11.c (i := 0) rfl
    have p11_1 := p11.c (i := 1) rfl
    go_wp2_with fail
    (with_reducible refine (qa.out _).mono ?_)
    rintro r w8 ⟨rfl, k8⟩
    clear b0_0 b0_1 b1_0 b1_1 b2_0 b2_1 p7_0 p7_1 p9_0 p9_1 p11_0 p11_1
    replace b0 := b0.kb k8
    replace b1 := b1.kb k8
    replace b2 := b2.kb k8
    replace p7 := p7.kb k8
    replace p9 := p9.kb k8
    replace p11 := p11.kb k8
    replace kx := kx.trans k8
    clear k8
    have b0_0 := b0.c (i := 0) rfl
    have b0_1 := b0.c (i := 1) rfl
    have b1_0 := b1.c (i := 0) rfl
    have b1_1 := b1.c (i := 1) rfl
    have b2_0 := b2.c (i := 0) rfl
    have b2_1 := b2.c (i := 1) rfl
    have p7_0 := p7.c (i := 0) rfl
    have p7_1 := p7.c (i := 1) rfl
    have p9_0 := p9.c (i := 0) rfl
    have p9_1 := p9.c (i := 1) rfl
    have p11_0 := p11.c (i := 0) rfl
    have p11_1 := p11.c (i := 1) rfl
    go_wp2
    go_ret
    exact ⟨rfl, kx⟩
set_option maxRecDepth 100000 in
set_option maxHeartbeats 1000000 in
theorem adds_ze (l h m k p q nl nh : Int) (zn z : Int) (q1 : Ca 17 #[.agg #[.int .i64 l, .int .i64 h]] (.int .i64 0)) (q2 : Ca 17 #[.agg #[.int .i64 m, .int .i64 k]] (.int .i64 0)) (q3 : Ca 22 #[.agg #[.int .i64 l, .int .i64 h]] (.tuple #[.agg #[.int .i64 nl, .int .i64 nh], .int .i64 0])) (z1 : zn ≤ 0) (z2 : 0 ≤ z) (z3 : wrap64 (-zn) = z) (q4 : Ca 26 #[.agg #[.int .i64 l, .int .i64 h], .agg #[.int .i64 nl, .int .i64 nh]] (.tuple #[.agg #[.int .i64 zn, .int .i64 z], .int .i64 0])) (q5 : Ca 26 #[.agg #[.int .i64 l, .int .i64 h], .agg #[.int .i64 m, .int .i64 k]] (.tuple #[.agg #[.int .i64 0, .int .i64 0], .int .i64 2])) (qa : Ca 11 #[] (.bool true)) (w : World) : Calls Try.prog 9 #[.agg #[.int .i64 l, .int .i64 h], .agg #[.int .i64 m, .int .i64 k], .agg #[.int .u16 p, .int .u16 q]] w fun r W' => r = .returned (.bool true) ∧ Kb w W' := by
  have kx := Kb.refl w
  unfold Ca at *
  have b0 := Is.made w #[.int .i64 l, .int .i64 h] 23
  replace kx := kx.alloc (.cells #[.int .i64 l, .int .i64 h] 23 (0, 0))
  replace b0 := b0.alloc (.cells #[.int .i64 m, .int .i64 k] 23 (0, 0))
  have b1 := Is.made (w.alloc (.cells #[.int .i64 l, .int .i64 h] 23 (0, 0))) #[.int .i64 m, .int .i64 k] 23
  replace kx := kx.alloc (.cells #[.int .i64 m, .int .i64 k] 23 (0, 0))
  replace b0 := b0.alloc (.cells #[.int .u16 p, .int .u16 q] 64 (0, 0))
  replace b1 := b1.alloc (.cells #[.int .u16 p, .int .u16 q] 64 (0, 0))
  have b2 := Is.made ((w.alloc (.cells #[.int .i64 l, .int .i64 h] 23 (0, 0))).alloc (.cells #[.int .i64 m, .int .i64 k] 23 (0, 0))) #[.int .u16 p, .int .u16 q] 64
  replace kx := kx.alloc (.cells #[.int .u16 p, .int .u16 q] 64 (0, 0))
  rw [World.size_alloc] at b1
  rw [World.size_alloc, World.size_alloc] at b2
  have b0_0 := b0.c (i := 0) rfl
  have b0_1 := b0.c (i := 1) rfl
  have b1_0 := b1.c (i := 0) rfl
  have b1_1 := b1.c (i := 1) rfl
  have b2_0 := b2.c (i := 0) rfl
  have b2_1 := b2.c (i := 1) rfl
  go_enter Try.func9, Try.ntmps9
  go_wp2_with fail
  (with_reducible refine (q1.out _).mono ?_)
  rintro r w1 ⟨rfl, k1⟩
  clear b0_0 b0_1 b1_0 b1_1 b2_0 b2_1
  replace b0 := b0.kb k1
  replace b1 := b1.kb k1
  replace b2 := b2.kb k1
  replace kx := kx.trans k1
  clear k1
  have b0_0 := b0.c (i := 0) rfl
  have b0_1 := b0.c (i := 1) rfl
  have b1_0 := b1.c (i := 0) rfl
  have b1_1 := b1.c (i := 1) rfl
  have b2_0 := b2.c (i := 0) rfl
  have b2_1 := b2.c (i := 1) rfl
  go_wp2_with fail
  (with_reducible refine (q2.out _).mono ?_)
  rintro r w2 ⟨rfl, k2⟩
  clear b0_0 b0_1 b1_0 b1_1 b2_0 b2_1
  replace b0 := b0.kb k2
  replace b1 := b1.kb k2
  replace b2 := b2.kb k2
  replace kx := kx.trans k2
  clear k2
  have b0_0 := b0.c (i := 0) rfl
  have b0_1 := b0.c (i := 1) rfl
  have b1_0 := b1.c (i := 0) rfl
  have b1_1 := b1.c (i := 1) rfl
  have b2_0 := b2.c (i := 0) rfl
  have b2_1 := b2.c (i := 1) rfl
  go_wp2_with fail
  (with_reducible refine (q3.out _).mono ?_)
  rintro r w3 ⟨rfl, k3⟩
  clear b0_0 b0_1 b1_0 b1_1 b2_0 b2_1
  replace b0 := b0.kb k3
  replace b1 := b1.kb k3
  replace b2 := b2.kb k3
  replace kx := kx.trans k3
  clear k3
  replace b0 := b0.alloc (.cells #[.int .i64 nl, .int .i64 nh] 23 (0, 0))
  replace b1 := b1.alloc (.cells #[.int .i64 nl, .int .i64 nh] 23 (0, 0))
  replace b2 := b2.alloc (.cells #[.int .i64 nl, .int .i64 nh] 23 (0, 0))
  have p7 := Is.made w3 #[.int .i64 nl, .int .i64 nh] 23
  replace kx := kx.alloc (.cells #[.int .i64 nl, .int .i64 nh] 23 (0, 0))
  have b0_0 := b0.c (i := 0) rfl
  have b0_1 := b0.c (i := 1) rfl
  have b1_0 := b1.c (i := 0) rfl
  have b1_1 := b1.c (i := 1) rfl
  have b2_0 := b2.c (i := 0) rfl
  have b2_1 := b2.c (i := 1) rfl
  have p7_0 := p7.c (i := 0) rfl
  have p7_1 := p7.c (i := 1) rfl
  go_wp2_with fail
  (with_reducible refine (q4.out _).mono ?_)
  rintro r w4 ⟨rfl, k4⟩
  clear b0_0 b0_1 b1_0 b1_1 b2_0 b2_1 p7_0 p7_1
  replace b0 := b0.kb k4
  replace b1 := b1.kb k4
  replace b2 := b2.kb k4
  replace p7 := p7.kb k4
  replace kx := kx.trans k4
  clear k4
  replace b0 := b0.alloc (.cells #[.int .i64 zn, .int .i64 z] 23 (0, 0))
  replace b1 := b1.alloc (.cells #[.int .i64 zn, .int .i64 z] 23 (0, 0))
  replace b2 := b2.alloc (.cells #[.int .i64 zn, .int .i64 z] 23 (0, 0))
  replace p7 := p7.alloc (.cells #[.int .i64 zn, .int .i64 z] 23 (0, 0))
  have p9 := Is.made w4 #[.int .i64 zn, .int .i64 z] 23
  replace kx := kx.alloc (.cells #[.int .i64 zn, .int .i64 z] 23 (0, 0))
  have b0_0 := b0.c (i := 0) rfl
  have b0_1 := b0.c (i := 1) rfl
  have b1_0 := b1.c (i := 0) rfl
  have b1_1 := b1.c (i := 1) rfl
  have b2_0 := b2.c (i := 0) rfl
  have b2_1 := b2.c (i := 1) rfl
  have p7_0 := p7.c (i := 0) rfl
  have p7_1 := p7.c (i := 1) rfl
  have p9_0 := p9.c (i := 0) rfl
  have p9_1 := p9.c (i := 1) rfl
  go_wp2_with fail
  (with_reducible refine (q5.out _).mono ?_)
  rintro r w5 ⟨rfl, k5⟩
  clear b0_0 b0_1 b1_0 b1_1 b2_0 b2_1 p7_0 p7_1 p9_0 p9_1
  replace b0 := b0.kb k5
  replace b1 := b1.kb k5
  replace b2 := b2.kb k5
  replace p7 := p7.kb k5
  replace p9 := p9.kb k5
  replace kx := kx.trans k5
  clear k5
  replace b0 := b0.alloc (.cells #[.int .i64 0, .int .i64 0] 23 (0, 0))
  replace b1 := b1.alloc (.cells #[.int .i64 0, .int .i64 0] 23 (0, 0))
  replace b2 := b2.alloc (.cells #[.int .i64 0, .int .i64 0] 23 (0, 0))
  replace p7 := p7.alloc (.cells #[.int .i64 0, .int .i64 0] 23 (0, 0))
  replace p9 := p9.alloc (.cells #[.int .i64 0, .int .i64 0] 23 (0, 0))
  have p11 := Is.made w5 #[.int .i64 0, .int .i64 0] 23
  replace kx := kx.alloc (.cells #[.int .i64 0, .int .i64 0] 23 (0, 0))
  have b0_0 := b0.c (i := 0) rfl
  have b0_1 := b0.c (i := 1) rfl
  have b1_0 := b1.c (i := 0) rfl
  have b1_1 := b1.c (i := 1) rfl
  have b2_0 := b2.c (i := 0) rfl
  have b2_1 := b2.c (i := 1) rfl
  have p7_0 := p7.c (i := 0) rfl
  have p7_1 := p7.c (i := 1) rfl
  have p9_0 := p9.c (i := 0) rfl
  have p9_1 := p9.c (i := 1) rfl
  have p11_0 := p11.c (i := 0) rfl
  have p11_1 := p11.c (i := 1) rfl
  go_wp2_with fail
  (with_reducible refine (qa.out _).mono ?_)
  rintro r w6 ⟨rfl, k6⟩
  clear b0_0 b0_1 b1_0 b1_1 b2_0 b2_1 p7_0 p7_1 p9_0 p9_1 p11_0 p11_1
  replace b0 := b0.kb k6
  replace b1 := b1.kb k6
  replace b2 := b2.kb k6
  replace p7 := p7.kb k6
  replace p9 := p9.kb k6
  replace p11 := p11.kb k6
  replace kx := kx.trans k6
  clear k6
  have b0_0 := b0.c (i := 0) rfl
  have b0_1 := b0.c (i := 1) rfl
  have b1_0 := b1.c (i := 0) rfl
  have b1_1 := b1.c (i := 1) rfl
  have b2_0 := b2.c (i := 0) rfl
  have b2_1 := b2.c (i := 1) rfl
  have p7_0 := p7.c (i := 0) rfl
  have p7_1 := p7.c (i := 1) rfl
  have p9_0 := p9.c (i := 0) rfl
  have p9_1 := p9.c (i := 1) rfl
  have p11_0 := p11.c (i := 0) rfl
  have p11_1 := p11.c (i := 1) rfl
  go_wp2
  go_ret
  exact ⟨rfl, kx⟩
set_option maxRecDepth 100000 in
set_option maxHeartbeats 1000000 in
theorem adds_eo (l h m k p q nl nh : Int) (e3 : Int) (q1 : Ca 17 #[.agg #[.int .i64 l, .int .i64 h]] (.int .i64 0)) (q2 : Ca 17 #[.agg #[.int .i64 m, .int .i64 k]] (.int .i64 0)) (q3 : Ca 22 #[.agg #[.int .i64 l, .int .i64 h]] (.tuple #[.agg #[.int .i64 nl, .int .i64 nh], .int .i64 0])) (he3 : (e3 == 0) = false) (q4 : Ca 26 #[.agg #[.int .i64 l, .int .i64 h], .agg #[.int .i64 nl, .int .i64 nh]] (.tuple #[.agg #[.int .i64 0, .int .i64 0], .int .i64 e3])) (x y da db r1 r2 v u s : Int) (fw1 : IntKind.i64.wrap (h - l) = da) (fw2 : IntKind.i64.wrap (da + 1) = da + 1) (fw3 : ¬ da + 1 = 0) (fw4 : p.tmod (da + 1) = r1) (fw5 : IntKind.i64.wrap (l + r1) = v) (fw6 : IntKind.i64.wrap (k - m) = db) (fw7 : IntKind.i64.wrap (db + 1) = db + 1) (fw8 : ¬ db + 1 = 0) (fw9_ : q.tmod (db + 1) = r2) (fw10 : IntKind.i64.wrap (m + r2) = u) (fw11 : IntKind.i64.wrap p = p) (fw12 : IntKind.i64.wrap q = q) (fw15 : wrap64 (v + u) = s) (fw16 : wrap64 (l + m) = x) (fw17 : wrap64 (h + k) = y) (q5 : Ca 26 #[.agg #[.int .i64 l, .int .i64 h], .agg #[.int .i64 m, .int .i64 k]] (.tuple #[.agg #[.int .i64 x, .int .i64 y], .int .i64 0])) (q6 : Ca 18 #[.agg #[.int .i64 x, .int .i64 y], .int .i64 s] (.tuple #[.bool true, .int .i64 0])) (qa : Ca 11 #[] (.bool true)) (w : World) : Calls Try.prog 9 #[.agg #[.int .i64 l, .int .i64 h], .agg #[.int .i64 m, .int .i64 k], .agg #[.int .u16 p, .int .u16 q]] w fun r W' => r = .returned (.bool true) ∧ Kb w W' := by
  have kx := Kb.refl w
  unfold Ca at *
  have b0 := Is.made w #[.int .i64 l, .int .i64 h] 23
  replace kx := kx.alloc (.cells #[.int .i64 l, .int .i64 h] 23 (0, 0))
  replace b0 := b0.alloc (.cells #[.int .i64 m, .int .i64 k] 23 (0, 0))
  have b1 := Is.made (w.alloc (.cells #[.int .i64 l, .int .i64 h] 23 (0, 0))) #[.int .i64 m, .int .i64 k] 23
  replace kx := kx.alloc (.cells #[.int .i64 m, .int .i64 k] 23 (0, 0))
  replace b0 := b0.alloc (.cells #[.int .u16 p, .int .u16 q] 64 (0, 0))
  replace b1 := b1.alloc (.cells #[.int .u16 p, .int .u16 q] 64 (0, 0))
  have b2 := Is.made ((w.alloc (.cells #[.int .i64 l, .int .i64 h] 23 (0, 0))).alloc (.cells #[.int .i64 m, .int .i64 k] 23 (0, 0))) #[.int .u16 p, .int .u16 q] 64
  replace kx := kx.alloc (.cells #[.int .u16 p, .int .u16 q] 64 (0, 0))
  rw [World.size_alloc] at b1
  rw [World.size_alloc, World.size_alloc] at b2
  have b0_0 := b0.c (i := 0) rfl
  have b0_1 := b0.c (i := 1) rfl
  have b1_0 := b1.c (i := 0) rfl
  have b1_1 := b1.c (i := 1) rfl
  have b2_0 := b2.c (i := 0) rfl
  have b2_1 := b2.c (i := 1) rfl
  go_enter Try.func9, Try.ntmps9
  go_wp2_with fail
  (with_reducible refine (q1.out _).mono ?_)
  rintro r w1 ⟨rfl, k1⟩
  clear b0_0 b0_1 b1_0 b1_1 b2_0 b2_1
  replace b0 := b0.kb k1
  replace b1 := b1.kb k1
  replace b2 := b2.kb k1
  replace kx := kx.trans k1
  clear k1
  have b0_0 := b0.c (i := 0) rfl
  have b0_1 := b0.c (i := 1) rfl
  have b1_0 := b1.c (i := 0) rfl
  have b1_1 := b1.c (i := 1) rfl
  have b2_0 := b2.c (i := 0) rfl
  have b2_1 := b2.c (i := 1) rfl
  go_wp2_with fail
  (with_reducible refine (q2.out _).mono ?_)
  rintro r w2 ⟨rfl, k2⟩
  clear b0_0 b0_1 b1_0 b1_1 b2_0 b2_1
  replace b0 := b0.kb k2
  replace b1 := b1.kb k2
  replace b2 := b2.kb k2
  replace kx := kx.trans k2
  clear k2
  have b0_0 := b0.c (i := 0) rfl
  have b0_1 := b0.c (i := 1) rfl
  have b1_0 := b1.c (i := 0) rfl
  have b1_1 := b1.c (i := 1) rfl
  have b2_0 := b2.c (i := 0) rfl
  have b2_1 := b2.c (i := 1) rfl
  go_wp2_with fail
  (with_reducible refine (q3.out _).mono ?_)
  rintro r w3 ⟨rfl, k3⟩
  clear b0_0 b0_1 b1_0 b1_1 b2_0 b2_1
  replace b0 := b0.kb k3
  replace b1 := b1.kb k3
  replace b2 := b2.kb k3
  replace kx := kx.trans k3
  clear k3
  replace b0 := b0.alloc (.cells #[.int .i64 nl, .int .i64 nh] 23 (0, 0))
  replace b1 := b1.alloc (.cells #[.int .i64 nl, .int .i64 nh] 23 (0, 0))
  replace b2 := b2.alloc (.cells #[.int .i64 nl, .int .i64 nh] 23 (0, 0))
  have p7 := Is.made w3 #[.int .i64 nl, .int .i64 nh] 23
  replace kx := kx.alloc (.cells #[.int .i64 nl, .int .i64 nh] 23 (0, 0))
  have b0_0 := b0.c (i := 0) rfl
  have b0_1 := b0.c (i := 1) rfl
  have b1_0 := b1.c (i := 0) rfl
  have b1_1 := b1.c (i := 1) rfl
  have b2_0 := b2.c (i := 0) rfl
  have b2_1 := b2.c (i := 1) rfl
  have p7_0 := p7.c (i := 0) rfl
  have p7_1 := p7.c (i := 1) rfl
  go_wp2_with fail
  (with_reducible refine (q4.out _).mono ?_)
  rintro r w4 ⟨rfl, k4⟩
  clear b0_0 b0_1 b1_0 b1_1 b2_0 b2_1 p7_0 p7_1
  replace b0 := b0.kb k4
  replace b1 := b1.kb k4
  replace b2 := b2.kb k4
  replace p7 := p7.kb k4
  replace kx := kx.trans k4
  clear k4
  replace b0 := b0.alloc (.cells #[.int .i64 0, .int .i64 0] 23 (0, 0))
  replace b1 := b1.alloc (.cells #[.int .i64 0, .int .i64 0] 23 (0, 0))
  replace b2 := b2.alloc (.cells #[.int .i64 0, .int .i64 0] 23 (0, 0))
  replace p7 := p7.alloc (.cells #[.int .i64 0, .int .i64 0] 23 (0, 0))
  have p9 := Is.made w4 #[.int .i64 0, .int .i64 0] 23
  replace kx := kx.alloc (.cells #[.int .i64 0, .int .i64 0] 23 (0, 0))
  have b0_0 := b0.c (i := 0) rfl
  have b0_1 := b0.c (i := 1) rfl
  have b1_0 := b1.c (i := 0) rfl
  have b1_1 := b1.c (i := 1) rfl
  have b2_0 := b2.c (i := 0) rfl
  have b2_1 := b2.c (i := 1) rfl
  have p7_0 := p7.c (i := 0) rfl
  have p7_1 := p7.c (i := 1) rfl
  have p9_0 := p9.c (i := 0) rfl
  have p9_1 := p9.c (i := 1) rfl
  go_wp2_with fail
  (with_reducible refine (q5.out _).mono ?_)
  rintro r w5 ⟨rfl, k5⟩
  clear b0_0 b0_1 b1_0 b1_1 b2_0 b2_1 p7_0 p7_1 p9_0 p9_1
  replace b0 := b0.kb k5
  replace b1 := b1.kb k5
  replace b2 := b2.kb k5
  replace p7 := p7.kb k5
  replace p9 := p9.kb k5
  replace kx := kx.trans k5
  clear k5
  replace b0 := b0.alloc (.cells #[.int .i64 x, .int .i64 y] 23 (0, 0))
  replace b1 := b1.alloc (.cells #[.int .i64 x, .int .i64 y] 23 (0, 0))
  replace b2 := b2.alloc (.cells #[.int .i64 x, .int .i64 y] 23 (0, 0))
  replace p7 := p7.alloc (.cells #[.int .i64 x, .int .i64 y] 23 (0, 0))
  replace p9 := p9.alloc (.cells #[.int .i64 x, .int .i64 y] 23 (0, 0))
  have p11 := Is.made w5 #[.int .i64 x, .int .i64 y] 23
  replace kx := kx.alloc (.cells #[.int .i64 x, .int .i64 y] 23 (0, 0))
  have b0_0 := b0.c (i := 0) rfl
  have b0_1 := b0.c (i := 1) rfl
  have b1_0 := b1.c (i := 0) rfl
  have b1_1 := b1.c (i := 1) rfl
  have b2_0 := b2.c (i := 0) rfl
  have b2_1 := b2.c (i := 1) rfl
  have p7_0 := p7.c (i := 0) rfl
  have p7_1 := p7.c (i := 1) rfl
  have p9_0 := p9.c (i := 0) rfl
  have p9_1 := p9.c (i := 1) rfl
  have p11_0 := p11.c (i := 0) rfl
  have p11_1 := p11.c (i := 1) rfl
  go_wp2_with fail
  clear b0_0 b0_1 b1_0 b1_1 b2_0 b2_1 p7_0 p7_1 p9_0 p9_1 p11_0 p11_1
  replace b0 := b0.drew
  replace b1 := b1.drew
  replace b2 := b2.drew
  replace p7 := p7.drew
  replace p9 := p9.drew
  replace p11 := p11.drew
  rw [oF_lit]
  refine o_law (⟨134, [some 72, some 73, some 74, some 75, some 76, some 77, some 78, some 79, some 80, some 81, some 82, some 83, some 84, some 85, some 86, some 87, some 88, some 89, some 90, some 91, some 92, some 93, some 94, some 95, some 96, some 97, some 12, some 13], [72, 73, 74, 75, 76, 77, 78, 79, 80, 81, 82, 83, 84, 85, 86, 87, 88, 89, 90, 91, 92, 93, 94, 95, 96, 97, 12, 13], [[], [0], [], [2], [3], [], [5], [], [7], [6, 8], [9], [4, 10], [1, 11], [], [13], [], [15], [16], [], [18], [], [20], [19, 21], [22], [17, 23], [14, 24], [12], [25]], [[3], [], [5], [], [], [3], [], [3], [], [], [], [], [], [4], [], [5], [], [], [4], [], [4], [], [], [], [], [], [], []]⟩ : OT) (Kx []) (RL [fun vv _ => vv = .pointer (some ⟨w.heap.size, 0, none⟩), fun vv _ => vv = .int .i64 l, fun vv _ => vv = .pointer (some ⟨w.heap.size + 1 + 1, 0, none⟩), fun vv _ => vv = .int .u16 p, fun vv _ => vv = .int .i64 p, fun vv _ => vv = .pointer (some ⟨w.heap.size, 1, none⟩), fun vv _ => vv = .int .i64 h, fun vv _ => vv = .pointer (some ⟨w.heap.size, 0, none⟩), fun vv _ => vv = .int .i64 l, fun vv _ => vv = .int .i64 da, fun vv _ => vv = .int .i64 (da + 1), fun vv _ => vv = .int .i64 r1, fun vv _ => vv = .int .i64 v, fun vv _ => vv = .pointer (some ⟨w.heap.size + 1, 0, none⟩), fun vv _ => vv = .int .i64 m, fun vv _ => vv = .pointer (some ⟨w.heap.size + 1 + 1, 1, none⟩), fun vv _ => vv = .int .u16 q, fun vv _ => vv = .int .i64 q, fun vv _ => vv = .pointer (some ⟨w.heap.size + 1, 1, none⟩), fun vv _ => vv = .int .i64 k, fun vv _ => vv = .pointer (some ⟨w.heap.size + 1, 0, none⟩), fun vv _ => vv = .int .i64 m, fun vv _ => vv = .int .i64 db, fun vv _ => vv = .int .i64 (db + 1), fun vv _ => vv = .int .i64 r2, fun vv _ => vv = .int .i64 u, fun vv _ => vv = .int .i64 v, fun vv _ => vv = .int .i64 u]) (by kernel_rfl) ?hk ?hR ?fin
  case hk => kernel_rfl
  case hR =>
    refine ⟨fun _ => (Kx.refl _ _), fun _ _ _ => Kx.trans, rl_stab ⟨fun _ _ _ _ h => h, fun _ _ _ _ h => h, fun _ _ _ _ h => h, fun _ _ _ _ h => h, fun _ _ _ _ h => h, fun _ _ _ _ h => h, fun _ _ _ _ h => h, fun _ _ _ _ h => h, fun _ _ _ _ h => h, fun _ _ _ _ h => h, fun _ _ _ _ h => h, fun _ _ _ _ h => h, fun _ _ _ _ h => h, fun _ _ _ _ h => h, fun _ _ _ _ h => h, fun _ _ _ _ h => h, fun _ _ _ _ h => h, fun _ _ _ _ h => h, fun _ _ _ _ h => h, fun _ _ _ _ h => h, fun _ _ _ _ h => h, fun _ _ _ _ h => h, fun _ _ _ _ h => h, fun _ _ _ _ h => h, fun _ _ _ _ h => h, fun _ _ _ _ h => h, fun _ _ _ _ h => h, fun _ _ _ _ h => h, trivial⟩, ?_⟩
    refine allO_cons ?_ (allO_cons ?_ (allO_cons ?_ (allO_cons ?_ (allO_cons ?_ (allO_cons ?_ (allO_cons ?_ (allO_cons ?_ (allO_cons ?_ (allO_cons ?_ (allO_cons ?_ (allO_cons ?_ (allO_cons ?_ (allO_cons ?_ (allO_cons ?_ (allO_cons ?_ (allO_cons ?_ (allO_cons ?_ (allO_cons ?_ (allO_cons ?_ (allO_cons ?_ (allO_cons ?_ (allO_cons ?_ (allO_cons ?_ (allO_cons ?_ (allO_cons ?_ (allO_cons ?_ (allO_cons ?_ (allO_nil))))))))))))))))))))))))))))
    · intro T w9 hG hD hO Q
      have q0 := hO.1
      have e0 : (oF 134 T).eval (.tmp 3) = .pointer (some ⟨w.heap.size, 0, none⟩) := (oF_eval (by decide)).trans (show T 3 = _ from q0)
      refine og_none rfl ?_
      exact o_val (v := .pointer (some ⟨w.heap.size, 0, none⟩)) (w' := w9) (by generalize (oF 134 T).eval = rr at *; simp [execOp, go_sem, e0]) rfl rfl (Kx.refl _ _)
    · intro T w9 hG hD hO Q
      have d0 := hD.1
      have e0 : (oF 134 T).eval (.tmp 72) = .pointer (some ⟨w.heap.size, 0, none⟩) := (oF_eval (by decide)).trans (show T 72 = _ from d0)
      refine og_none rfl ?_
      have im := b0.kx hG (by simp)
      have m0 := im.c (i := 0) rfl
      clear im
      exact o_val (v := .int .i64 l) (w' := w9) (by generalize (oF 134 T).eval = rr at *; simp [execOp, go_sem, e0, m0]) rfl rfl (Kx.refl _ _)
    · intro T w9 hG hD hO Q
      have q0 := hO.1
      have e0 : (oF 134 T).eval (.tmp 5) = .pointer (some ⟨w.heap.size + 1 + 1, 0, none⟩) := (oF_eval (by decide)).trans (show T 5 = _ from q0)
      have e1 : (oF 134 T).eval (.const (.int .i64 0)) = .int .i64 0 := rfl
      refine og_none rfl ?_
      exact o_val (v := .pointer (some ⟨w.heap.size + 1 + 1, 0, none⟩)) (w' := w9) (by generalize (oF 134 T).eval = rr at *; simp [execOp, go_sem, e0, e1]) rfl rfl (Kx.refl _ _)
    · intro T w9 hG hD hO Q
      have d0 := hD.1
      have e0 : (oF 134 T).eval (.tmp 74) = .pointer (some ⟨w.heap.size + 1 + 1, 0, none⟩) := (oF_eval (by decide)).trans (show T 74 = _ from d0)
      refine og_none rfl ?_
      have im := b2.kx hG (by simp)
      have m0 := im.c (i := 0) rfl
      clear im
      exact o_val (v := .int .u16 p) (w' := w9) (by generalize (oF 134 T).eval = rr at *; simp [execOp, go_sem, e0, m0]) rfl rfl (Kx.refl _ _)
    · intro T w9 hG hD hO Q
      have d0 := hD.1
      have e0 : (oF 134 T).eval (.tmp 75) = .int .u16 p := (oF_eval (by decide)).trans (show T 75 = _ from d0)
      refine og_none rfl ?_
      exact o_val (v := .int .i64 p) (w' := w9) (by generalize (oF 134 T).eval = rr at *; simp [execOp, go_sem, e0, fw11]) rfl rfl (Kx.refl _ _)
    · intro T w9 hG hD hO Q
      have q0 := hO.1
      have e0 : (oF 134 T).eval (.tmp 3) = .pointer (some ⟨w.heap.size, 0, none⟩) := (oF_eval (by decide)).trans (show T 3 = _ from q0)
      refine og_none rfl ?_
      exact o_val (v := .pointer (some ⟨w.heap.size, 1, none⟩)) (w' := w9) (by generalize (oF 134 T).eval = rr at *; simp [execOp, go_sem, e0]) rfl rfl (Kx.refl _ _)
    · intro T w9 hG hD hO Q
      have d0 := hD.1
      have e0 : (oF 134 T).eval (.tmp 77) = .pointer (some ⟨w.heap.size, 1, none⟩) := (oF_eval (by decide)).trans (show T 77 = _ from d0)
      refine og_none rfl ?_
      have im := b0.kx hG (by simp)
      have m0 := im.c (i := 1) rfl
      clear im
      exact o_val (v := .int .i64 h) (w' := w9) (by generalize (oF 134 T).eval = rr at *; simp [execOp, go_sem, e0, m0]) rfl rfl (Kx.refl _ _)
    · intro T w9 hG hD hO Q
      have q0 := hO.1
      have e0 : (oF 134 T).eval (.tmp 3) = .pointer (some ⟨w.heap.size, 0, none⟩) := (oF_eval (by decide)).trans (show T 3 = _ from q0)
      refine og_none rfl ?_
      exact o_val (v := .pointer (some ⟨w.heap.size, 0, none⟩)) (w' := w9) (by generalize (oF 134 T).eval = rr at *; simp [execOp, go_sem, e0]) rfl rfl (Kx.refl _ _)
    · intro T w9 hG hD hO Q
      have d0 := hD.1
      have e0 : (oF 134 T).eval (.tmp 79) = .pointer (some ⟨w.heap.size, 0, none⟩) := (oF_eval (by decide)).trans (show T 79 = _ from d0)
      refine og_none rfl ?_
      have im := b0.kx hG (by simp)
      have m0 := im.c (i := 0) rfl
      clear im
      exact o_val (v := .int .i64 l) (w' := w9) (by generalize (oF 134 T).eval = rr at *; simp [execOp, go_sem, e0, m0]) rfl rfl (Kx.refl _ _)
    · intro T w9 hG hD hO Q
      have d0 := hD.1
      have d1 := hD.2.1
      have e0 : (oF 134 T).eval (.tmp 78) = .int .i64 h := (oF_eval (by decide)).trans (show T 78 = _ from d0)
      have e1 : (oF 134 T).eval (.tmp 80) = .int .i64 l := (oF_eval (by decide)).trans (show T 80 = _ from d1)
      refine og_none rfl ?_
      exact o_val (v := .int .i64 da) (w' := w9) (by generalize (oF 134 T).eval = rr at *; simp [execOp, go_sem, e0, e1, fw1]) rfl rfl (Kx.refl _ _)
    · intro T w9 hG hD hO Q
      have d0 := hD.1
      have e0 : (oF 134 T).eval (.tmp 81) = .int .i64 da := (oF_eval (by decide)).trans (show T 81 = _ from d0)
      have e1 : (oF 134 T).eval (.const (.int .i64 1)) = .int .i64 1 := rfl
      refine og_none rfl ?_
      exact o_val (v := .int .i64 (da + 1)) (w' := w9) (by generalize (oF 134 T).eval = rr at *; simp [execOp, go_sem, e0, e1, fw2]) rfl rfl (Kx.refl _ _)
    · intro T w9 hG hD hO Q
      have d0 := hD.1
      have d1 := hD.2.1
      have e0 : (oF 134 T).eval (.tmp 76) = .int .i64 p := (oF_eval (by decide)).trans (show T 76 = _ from d0)
      have e1 : (oF 134 T).eval (.tmp 82) = .int .i64 (da + 1) := (oF_eval (by decide)).trans (show T 82 = _ from d1)
      refine og_none rfl ?_
      exact o_val (v := .int .i64 r1) (w' := w9) (by generalize (oF 134 T).eval = rr at *; simp [execOp, go_sem, e0, e1, fw3, fw4]) rfl rfl (Kx.refl _ _)
    · intro T w9 hG hD hO Q
      have d0 := hD.1
      have d1 := hD.2.1
      have e0 : (oF 134 T).eval (.tmp 73) = .int .i64 l := (oF_eval (by decide)).trans (show T 73 = _ from d0)
      have e1 : (oF 134 T).eval (.tmp 83) = .int .i64 r1 := (oF_eval (by decide)).trans (show T 83 = _ from d1)
      refine og_none rfl ?_
      exact o_val (v := .int .i64 v) (w' := w9) (by generalize (oF 134 T).eval = rr at *; simp [execOp, go_sem, e0, e1, fw5]) rfl rfl (Kx.refl _ _)
    · intro T w9 hG hD hO Q
      have q0 := hO.1
      have e0 : (oF 134 T).eval (.tmp 4) = .pointer (some ⟨w.heap.size + 1, 0, none⟩) := (oF_eval (by decide)).trans (show T 4 = _ from q0)
      refine og_none rfl ?_
      exact o_val (v := .pointer (some ⟨w.heap.size + 1, 0, none⟩)) (w' := w9) (by generalize (oF 134 T).eval = rr at *; simp [execOp, go_sem, e0]) rfl rfl (Kx.refl _ _)
    · intro T w9 hG hD hO Q
      have d0 := hD.1
      have e0 : (oF 134 T).eval (.tmp 85) = .pointer (some ⟨w.heap.size + 1, 0, none⟩) := (oF_eval (by decide)).trans (show T 85 = _ from d0)
      refine og_none rfl ?_
      have im := b1.kx hG (by simp)
      have m0 := im.c (i := 0) rfl
      clear im
      exact o_val (v := .int .i64 m) (w' := w9) (by generalize (oF 134 T).eval = rr at *; simp [execOp, go_sem, e0, m0]) rfl rfl (Kx.refl _ _)
    · intro T w9 hG hD hO Q
      have q0 := hO.1
      have e0 : (oF 134 T).eval (.tmp 5) = .pointer (some ⟨w.heap.size + 1 + 1, 0, none⟩) := (oF_eval (by decide)).trans (show T 5 = _ from q0)
      have e1 : (oF 134 T).eval (.const (.int .i64 1)) = .int .i64 1 := rfl
      refine og_none rfl ?_
      exact o_val (v := .pointer (some ⟨w.heap.size + 1 + 1, 1, none⟩)) (w' := w9) (by generalize (oF 134 T).eval = rr at *; simp [execOp, go_sem, e0, e1]) rfl rfl (Kx.refl _ _)
    · intro T w9 hG hD hO Q
      have d0 := hD.1
      have e0 : (oF 134 T).eval (.tmp 87) = .pointer (some ⟨w.heap.size + 1 + 1, 1, none⟩) := (oF_eval (by decide)).trans (show T 87 = _ from d0)
      refine og_none rfl ?_
      have im := b2.kx hG (by simp)
      have m0 := im.c (i := 1) rfl
      clear im
      exact o_val (v := .int .u16 q) (w' := w9) (by generalize (oF 134 T).eval = rr at *; simp [execOp, go_sem, e0, m0]) rfl rfl (Kx.refl _ _)
    · intro T w9 hG hD hO Q
      have d0 := hD.1
      have e0 : (oF 134 T).eval (.tmp 88) = .int .u16 q := (oF_eval (by decide)).trans (show T 88 = _ from d0)
      refine og_none rfl ?_
      exact o_val (v := .int .i64 q) (w' := w9) (by generalize (oF 134 T).eval = rr at *; simp [execOp, go_sem, e0, fw12]) rfl rfl (Kx.refl _ _)
    · intro T w9 hG hD hO Q
      have q0 := hO.1
      have e0 : (oF 134 T).eval (.tmp 4) = .pointer (some ⟨w.heap.size + 1, 0, none⟩) := (oF_eval (by decide)).trans (show T 4 = _ from q0)
      refine og_none rfl ?_
      exact o_val (v := .pointer (some ⟨w.heap.size + 1, 1, none⟩)) (w' := w9) (by generalize (oF 134 T).eval = rr at *; simp [execOp, go_sem, e0]) rfl rfl (Kx.refl _ _)
    · intro T w9 hG hD hO Q
      have d0 := hD.1
      have e0 : (oF 134 T).eval (.tmp 90) = .pointer (some ⟨w.heap.size + 1, 1, none⟩) := (oF_eval (by decide)).trans (show T 90 = _ from d0)
      refine og_none rfl ?_
      have im := b1.kx hG (by simp)
      have m0 := im.c (i := 1) rfl
      clear im
      exact o_val (v := .int .i64 k) (w' := w9) (by generalize (oF 134 T).eval = rr at *; simp [execOp, go_sem, e0, m0]) rfl rfl (Kx.refl _ _)
    · intro T w9 hG hD hO Q
      have q0 := hO.1
      have e0 : (oF 134 T).eval (.tmp 4) = .pointer (some ⟨w.heap.size + 1, 0, none⟩) := (oF_eval (by decide)).trans (show T 4 = _ from q0)
      refine og_none rfl ?_
      exact o_val (v := .pointer (some ⟨w.heap.size + 1, 0, none⟩)) (w' := w9) (by generalize (oF 134 T).eval = rr at *; simp [execOp, go_sem, e0]) rfl rfl (Kx.refl _ _)
    · intro T w9 hG hD hO Q
      have d0 := hD.1
      have e0 : (oF 134 T).eval (.tmp 92) = .pointer (some ⟨w.heap.size + 1, 0, none⟩) := (oF_eval (by decide)).trans (show T 92 = _ from d0)
      refine og_none rfl ?_
      have im := b1.kx hG (by simp)
      have m0 := im.c (i := 0) rfl
      clear im
      exact o_val (v := .int .i64 m) (w' := w9) (by generalize (oF 134 T).eval = rr at *; simp [execOp, go_sem, e0, m0]) rfl rfl (Kx.refl _ _)
    · intro T w9 hG hD hO Q
      have d0 := hD.1
      have d1 := hD.2.1
      have e0 : (oF 134 T).eval (.tmp 91) = .int .i64 k := (oF_eval (by decide)).trans (show T 91 = _ from d0)
      have e1 : (oF 134 T).eval (.tmp 93) = .int .i64 m := (oF_eval (by decide)).trans (show T 93 = _ from d1)
      refine og_none rfl ?_
      exact o_val (v := .int .i64 db) (w' := w9) (by generalize (oF 134 T).eval = rr at *; simp [execOp, go_sem, e0, e1, fw6]) rfl rfl (Kx.refl _ _)
    · intro T w9 hG hD hO Q
      have d0 := hD.1
      have e0 : (oF 134 T).eval (.tmp 94) = .int .i64 db := (oF_eval (by decide)).trans (show T 94 = _ from d0)
      have e1 : (oF 134 T).eval (.const (.int .i64 1)) = .int .i64 1 := rfl
      refine og_none rfl ?_
      exact o_val (v := .int .i64 (db + 1)) (w' := w9) (by generalize (oF 134 T).eval = rr at *; simp [execOp, go_sem, e0, e1, fw7]) rfl rfl (Kx.refl _ _)
    · intro T w9 hG hD hO Q
      have d0 := hD.1
      have d1 := hD.2.1
      have e0 : (oF 134 T).eval (.tmp 89) = .int .i64 q := (oF_eval (by decide)).trans (show T 89 = _ from d0)
      have e1 : (oF 134 T).eval (.tmp 95) = .int .i64 (db + 1) := (oF_eval (by decide)).trans (show T 95 = _ from d1)
      refine og_none rfl ?_
      exact o_val (v := .int .i64 r2) (w' := w9) (by generalize (oF 134 T).eval = rr at *; simp [execOp, go_sem, e0, e1, fw8, fw9_]) rfl rfl (Kx.refl _ _)
    · intro T w9 hG hD hO Q
      have d0 := hD.1
      have d1 := hD.2.1
      have e0 : (oF 134 T).eval (.tmp 86) = .int .i64 m := (oF_eval (by decide)).trans (show T 86 = _ from d0)
      have e1 : (oF 134 T).eval (.tmp 96) = .int .i64 r2 := (oF_eval (by decide)).trans (show T 96 = _ from d1)
      refine og_none rfl ?_
      exact o_val (v := .int .i64 u) (w' := w9) (by generalize (oF 134 T).eval = rr at *; simp [execOp, go_sem, e0, e1, fw10]) rfl rfl (Kx.refl _ _)
    · intro T w9 hG hD hO Q
      have d0 := hD.1
      have e0 : (oF 134 T).eval (.tmp 84) = .int .i64 v := (oF_eval (by decide)).trans (show T 84 = _ from d0)
      refine og_none rfl ?_
      exact o_val (v := .int .i64 v) (w' := w9) (by generalize (oF 134 T).eval = rr at *; simp [execOp, go_sem, e0]) rfl rfl (Kx.refl _ _)
    · intro T w9 hG hD hO Q
      have d0 := hD.1
      have e0 : (oF 134 T).eval (.tmp 97) = .int .i64 u := (oF_eval (by decide)).trans (show T 97 = _ from d0)
      refine og_none rfl ?_
      exact o_val (v := .int .i64 u) (w' := w9) (by generalize (oF 134 T).eval = rr at *; simp [execOp, go_sem, e0]) rfl rfl (Kx.refl _ _)
  case fin =>
    intro T w6 hout hval hG
    rw [show oF 134 T = (⟨#[T 0, T 1, T 2, T 3, T 4, T 5, T 6, T 7, T 8, T 9, T 10, T 11, T 12, T 13, T 14, T 15, T 16, T 17, T 18, T 19, T 20, T 21, T 22, T 23, T 24, T 25, T 26, T 27, T 28, T 29, T 30, T 31, T 32, T 33, T 34, T 35, T 36, T 37, T 38, T 39, T 40, T 41, T 42, T 43, T 44, T 45, T 46, T 47, T 48, T 49, T 50, T 51, T 52, T 53, T 54, T 55, T 56, T 57, T 58, T 59, T 60, T 61, T 62, T 63, T 64, T 65, T 66, T 67, T 68, T 69, T 70, T 71, T 72, T 73, T 74, T 75, T 76, T 77, T 78, T 79, T 80, T 81, T 82, T 83, T 84, T 85, T 86, T 87, T 88, T 89, T 90, T 91, T 92, T 93, T 94, T 95, T 96, T 97, T 98, T 99, T 100, T 101, T 102, T 103, T 104, T 105, T 106, T 107, T 108, T 109, T 110, T 111, T 112, T 113, T 114, T 115, T 116, T 117, T 118, T 119, T 120, T 121, T 122, T 123, T 124, T 125, T 126, T 127, T 128, T 129, T 130, T 131, T 132, T 133], []⟩ : Act) from oF_list 134 T]
    rw [show T 3 = .pointer (some ⟨w.heap.size, 0, none⟩) from hout 3 rfl]
    rw [show T 4 = .pointer (some ⟨w.heap.size + 1, 0, none⟩) from hout 4 rfl]
    rw [show T 11 = .pointer (some ⟨w5.heap.size, 0, none⟩) from hout 11 rfl]
    rw [show T 12 = .int .i64 v from hval 26 (by decide : 26 < 28)]
    rw [show T 13 = .int .i64 u from hval 27 (by decide : 27 < 28)]
    replace b0 := b0.kx hG (by simp)
    replace b1 := b1.kx hG (by simp)
    replace b2 := b2.kx hG (by simp)
    replace p7 := p7.kx hG (by simp)
    replace p9 := p9.kx hG (by simp)
    replace p11 := p11.kx hG (by simp)
    replace kx := (show Kb _ _ from kx.drew).trans hG.nil
    clear hout hval hG
    have b0_0 := b0.c (i := 0) rfl
    have b0_1 := b0.c (i := 1) rfl
    have b1_0 := b1.c (i := 0) rfl
    have b1_1 := b1.c (i := 1) rfl
    have b2_0 := b2.c (i := 0) rfl
    have b2_1 := b2.c (i := 1) rfl
    have p7_0 := p7.c (i := 0) rfl
    have p7_1 := p7.c (i := 1) rfl
    have p9_0 := p9.c (i := 0) rfl
    have p9_1 := p9.c (i := 1) rfl
    have p11_0 := p11.c (i := 0) rfl
    have p11_1 := p11.c (i := 1) rfl
    go_wp2_with fail
    (with_reducible refine (q6.out _).mono ?_)
    rintro r w7 ⟨rfl, k7⟩
    clear b0_0 b0_1 b1_0 b1_1 b2_0 b2_1 p7_0 p7_1 p9_0 p9_1 p11_0 p11_1
    replace b0 := b0.kb k7
    replace b1 := b1.kb k7
    replace b2 := b2.kb k7
    replace p7 := p7.kb k7
    replace p9 := p9.kb k7
    replace p11 := p11.kb k7
    replace kx := kx.trans k7
    clear k7
    have b0_0 := b0.c (i := 0) rfl
    have b0_1 := b0.c (i := 1) rfl
    have b1_0 := b1.c (i := 0) rfl
    have b1_1 := b1.c (i := 1) rfl
    have b2_0 := b2.c (i := 0) rfl
    have b2_1 := b2.c (i := 1) rfl
    have p7_0 := p7.c (i := 0) rfl
    have p7_1 := p7.c (i := 1) rfl
    have p9_0 := p9.c (i := 0) rfl
    have p9_1 := p9.c (i := 1) rfl
    have p11_0 := p11.c (i := 0) rfl
    have p11_1 := p11.c (i := 1) rfl
    go_wp2_with fail
    (with_reducible refine (qa.out _).mono ?_)
    rintro r w8 ⟨rfl, k8⟩
    clear b0_0 b0_1 b1_0 b1_1 b2_0 b2_1 p7_0 p7_1 p9_0 p9_1 p11_0 p11_1
    replace b0 := b0.kb k8
    replace b1 := b1.kb k8
    replace b2 := b2.kb k8
    replace p7 := p7.kb k8
    replace p9 := p9.kb k8
    replace p11 := p11.kb k8
    replace kx := kx.trans k8
    clear k8
    have b0_0 := b0.c (i := 0) rfl
    have b0_1 := b0.c (i := 1) rfl
    have b1_0 := b1.c (i := 0) rfl
    have b1_1 := b1.c (i := 1) rfl
    have b2_0 := b2.c (i := 0) rfl
    have b2_1 := b2.c (i := 1) rfl
    have p7_0 := p7.c (i := 0) rfl
    have p7_1 := p7.c (i := 1) rfl
    have p9_0 := p9.c (i := 0) rfl
    have p9_1 := p9.c (i := 1) rfl
    have p11_0 := p11.c (i := 0) rfl
    have p11_1 := p11.c (i := 1) rfl
    go_wp2
    go_ret
    exact ⟨rfl, kx⟩
set_option maxRecDepth 100000 in
set_option maxHeartbeats 1000000 in
theorem adds_ee (l h m k p q nl nh : Int) (e3 : Int) (q1 : Ca 17 #[.agg #[.int .i64 l, .int .i64 h]] (.int .i64 0)) (q2 : Ca 17 #[.agg #[.int .i64 m, .int .i64 k]] (.int .i64 0)) (q3 : Ca 22 #[.agg #[.int .i64 l, .int .i64 h]] (.tuple #[.agg #[.int .i64 nl, .int .i64 nh], .int .i64 0])) (he3 : (e3 == 0) = false) (q4 : Ca 26 #[.agg #[.int .i64 l, .int .i64 h], .agg #[.int .i64 nl, .int .i64 nh]] (.tuple #[.agg #[.int .i64 0, .int .i64 0], .int .i64 e3])) (q5 : Ca 26 #[.agg #[.int .i64 l, .int .i64 h], .agg #[.int .i64 m, .int .i64 k]] (.tuple #[.agg #[.int .i64 0, .int .i64 0], .int .i64 2])) (qa : Ca 11 #[] (.bool true)) (w : World) : Calls Try.prog 9 #[.agg #[.int .i64 l, .int .i64 h], .agg #[.int .i64 m, .int .i64 k], .agg #[.int .u16 p, .int .u16 q]] w fun r W' => r = .returned (.bool true) ∧ Kb w W' := by
  have kx := Kb.refl w
  unfold Ca at *
  have b0 := Is.made w #[.int .i64 l, .int .i64 h] 23
  replace kx := kx.alloc (.cells #[.int .i64 l, .int .i64 h] 23 (0, 0))
  replace b0 := b0.alloc (.cells #[.int .i64 m, .int .i64 k] 23 (0, 0))
  have b1 := Is.made (w.alloc (.cells #[.int .i64 l, .int .i64 h] 23 (0, 0))) #[.int .i64 m, .int .i64 k] 23
  replace kx := kx.alloc (.cells #[.int .i64 m, .int .i64 k] 23 (0, 0))
  replace b0 := b0.alloc (.cells #[.int .u16 p, .int .u16 q] 64 (0, 0))
  replace b1 := b1.alloc (.cells #[.int .u16 p, .int .u16 q] 64 (0, 0))
  have b2 := Is.made ((w.alloc (.cells #[.int .i64 l, .int .i64 h] 23 (0, 0))).alloc (.cells #[.int .i64 m, .int .i64 k] 23 (0, 0))) #[.int .u16 p, .int .u16 q] 64
  replace kx := kx.alloc (.cells #[.int .u16 p, .int .u16 q] 64 (0, 0))
  rw [World.size_alloc] at b1
  rw [World.size_alloc, World.size_alloc] at b2
  have b0_0 := b0.c (i := 0) rfl
  have b0_1 := b0.c (i := 1) rfl
  have b1_0 := b1.c (i := 0) rfl
  have b1_1 := b1.c (i := 1) rfl
  have b2_0 := b2.c (i := 0) rfl
  have b2_1 := b2.c (i := 1) rfl
  go_enter Try.func9, Try.ntmps9
  go_wp2_with fail
  (with_reducible refine (q1.out _).mono ?_)
  rintro r w1 ⟨rfl, k1⟩
  clear b0_0 b0_1 b1_0 b1_1 b2_0 b2_1
  replace b0 := b0.kb k1
  replace b1 := b1.kb k1
  replace b2 := b2.kb k1
  replace kx := kx.trans k1
  clear k1
  have b0_0 := b0.c (i := 0) rfl
  have b0_1 := b0.c (i := 1) rfl
  have b1_0 := b1.c (i := 0) rfl
  have b1_1 := b1.c (i := 1) rfl
  have b2_0 := b2.c (i := 0) rfl
  have b2_1 := b2.c (i := 1) rfl
  go_wp2_with fail
  (with_reducible refine (q2.out _).mono ?_)
  rintro r w2 ⟨rfl, k2⟩
  clear b0_0 b0_1 b1_0 b1_1 b2_0 b2_1
  replace b0 := b0.kb k2
  replace b1 := b1.kb k2
  replace b2 := b2.kb k2
  replace kx := kx.trans k2
  clear k2
  have b0_0 := b0.c (i := 0) rfl
  have b0_1 := b0.c (i := 1) rfl
  have b1_0 := b1.c (i := 0) rfl
  have b1_1 := b1.c (i := 1) rfl
  have b2_0 := b2.c (i := 0) rfl
  have b2_1 := b2.c (i := 1) rfl
  go_wp2_with fail
  (with_reducible refine (q3.out _).mono ?_)
  rintro r w3 ⟨rfl, k3⟩
  clear b0_0 b0_1 b1_0 b1_1 b2_0 b2_1
  replace b0 := b0.kb k3
  replace b1 := b1.kb k3
  replace b2 := b2.kb k3
  replace kx := kx.trans k3
  clear k3
  replace b0 := b0.alloc (.cells #[.int .i64 nl, .int .i64 nh] 23 (0, 0))
  replace b1 := b1.alloc (.cells #[.int .i64 nl, .int .i64 nh] 23 (0, 0))
  replace b2 := b2.alloc (.cells #[.int .i64 nl, .int .i64 nh] 23 (0, 0))
  have p7 := Is.made w3 #[.int .i64 nl, .int .i64 nh] 23
  replace kx := kx.alloc (.cells #[.int .i64 nl, .int .i64 nh] 23 (0, 0))
  have b0_0 := b0.c (i := 0) rfl
  have b0_1 := b0.c (i := 1) rfl
  have b1_0 := b1.c (i := 0) rfl
  have b1_1 := b1.c (i := 1) rfl
  have b2_0 := b2.c (i := 0) rfl
  have b2_1 := b2.c (i := 1) rfl
  have p7_0 := p7.c (i := 0) rfl
  have p7_1 := p7.c (i := 1) rfl
  go_wp2_with fail
  (with_reducible refine (q4.out _).mono ?_)
  rintro r w4 ⟨rfl, k4⟩
  clear b0_0 b0_1 b1_0 b1_1 b2_0 b2_1 p7_0 p7_1
  replace b0 := b0.kb k4
  replace b1 := b1.kb k4
  replace b2 := b2.kb k4
  replace p7 := p7.kb k4
  replace kx := kx.trans k4
  clear k4
  replace b0 := b0.alloc (.cells #[.int .i64 0, .int .i64 0] 23 (0, 0))
  replace b1 := b1.alloc (.cells #[.int .i64 0, .int .i64 0] 23 (0, 0))
  replace b2 := b2.alloc (.cells #[.int .i64 0, .int .i64 0] 23 (0, 0))
  replace p7 := p7.alloc (.cells #[.int .i64 0, .int .i64 0] 23 (0, 0))
  have p9 := Is.made w4 #[.int .i64 0, .int .i64 0] 23
  replace kx := kx.alloc (.cells #[.int .i64 0, .int .i64 0] 23 (0, 0))
  have b0_0 := b0.c (i := 0) rfl
  have b0_1 := b0.c (i := 1) rfl
  have b1_0 := b1.c (i := 0) rfl
  have b1_1 := b1.c (i := 1) rfl
  have b2_0 := b2.c (i := 0) rfl
  have b2_1 := b2.c (i := 1) rfl
  have p7_0 := p7.c (i := 0) rfl
  have p7_1 := p7.c (i := 1) rfl
  have p9_0 := p9.c (i := 0) rfl
  have p9_1 := p9.c (i := 1) rfl
  go_wp2_with fail
  (with_reducible refine (q5.out _).mono ?_)
  rintro r w5 ⟨rfl, k5⟩
  clear b0_0 b0_1 b1_0 b1_1 b2_0 b2_1 p7_0 p7_1 p9_0 p9_1
  replace b0 := b0.kb k5
  replace b1 := b1.kb k5
  replace b2 := b2.kb k5
  replace p7 := p7.kb k5
  replace p9 := p9.kb k5
  replace kx := kx.trans k5
  clear k5
  replace b0 := b0.alloc (.cells #[.int .i64 0, .int .i64 0] 23 (0, 0))
  replace b1 := b1.alloc (.cells #[.int .i64 0, .int .i64 0] 23 (0, 0))
  replace b2 := b2.alloc (.cells #[.int .i64 0, .int .i64 0] 23 (0, 0))
  replace p7 := p7.alloc (.cells #[.int .i64 0, .int .i64 0] 23 (0, 0))
  replace p9 := p9.alloc (.cells #[.int .i64 0, .int .i64 0] 23 (0, 0))
  have p11 := Is.made w5 #[.int .i64 0, .int .i64 0] 23
  replace kx := kx.alloc (.cells #[.int .i64 0, .int .i64 0] 23 (0, 0))
  have b0_0 := b0.c (i := 0) rfl
  have b0_1 := b0.c (i := 1) rfl
  have b1_0 := b1.c (i := 0) rfl
  have b1_1 := b1.c (i := 1) rfl
  have b2_0 := b2.c (i := 0) rfl
  have b2_1 := b2.c (i := 1) rfl
  have p7_0 := p7.c (i := 0) rfl
  have p7_1 := p7.c (i := 1) rfl
  have p9_0 := p9.c (i := 0) rfl
  have p9_1 := p9.c (i := 1) rfl
  have p11_0 := p11.c (i := 0) rfl
  have p11_1 := p11.c (i := 1) rfl
  go_wp2_with fail
  (with_reducible refine (qa.out _).mono ?_)
  rintro r w6 ⟨rfl, k6⟩
  clear b0_0 b0_1 b1_0 b1_1 b2_0 b2_1 p7_0 p7_1 p9_0 p9_1 p11_0 p11_1
  replace b0 := b0.kb k6
  replace b1 := b1.kb k6
  replace b2 := b2.kb k6
  replace p7 := p7.kb k6
  replace p9 := p9.kb k6
  replace p11 := p11.kb k6
  replace kx := kx.trans k6
  clear k6
  have b0_0 := b0.c (i := 0) rfl
  have b0_1 := b0.c (i := 1) rfl
  have b1_0 := b1.c (i := 0) rfl
  have b1_1 := b1.c (i := 1) rfl
  have b2_0 := b2.c (i := 0) rfl
  have b2_1 := b2.c (i := 1) rfl
  have p7_0 := p7.c (i := 0) rfl
  have p7_1 := p7.c (i := 1) rfl
  have p9_0 := p9.c (i := 0) rfl
  have p9_1 := p9.c (i := 1) rfl
  have p11_0 := p11.c (i := 0) rfl
  have p11_1 := p11.c (i := 1) rfl
  go_wp2
  go_ret
  exact ⟨rfl, kx⟩
end Go.Proofs.Ytendjeefggigbaa
