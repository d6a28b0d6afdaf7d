/- Features: Separate. -/
import Derived.Test.YtdmfkgopalelgaaDoorQi1
import Derived.Lib.MinMax
namespace Go.Proofs.YtdmfkgopalelgaaDoor
open Go.RowKit

/-- coordinates by number -/
def co3 (x y z : Int) (i : Nat) : Int := if i = 0 then x else if i = 1 then y else z
theorem cReadN (g b : Nat) (i : Nat) (hi : i < 3) (c0 c1 c2 : Value) (x y z : Int) (c6 c7 c8 : Value) (T T2 : TypeId) (w : World) (hg : Is w g #[.pointer (some ⟨b, 3, none⟩), .pointer (some ⟨b, 4, none⟩), .pointer (some ⟨b, 5, none⟩)] 110) (hb : Is w b #[c0, c1, c2, .int .i64 x, .int .i64 y, .int .i64 z, c6, c7, c8] T2) (_ : T = T) : Calls Tryd.prog 76 #[.int .i64 i, .pointer (some ⟨g, 0, none⟩)] w fun r W' => r = .returned (.int .i64 (co3 x y z i)) ∧ Kb w W' := by
  have h3 : i = 0 ∨ i = 1 ∨ i = 2 := by omega
  rcases h3 with rfl | rfl | rfl
  · exact cRead_0 g _ _ _ x w hg (hb.c (i := 3) rfl)
  · exact cRead_1 g _ _ _ y w hg (hb.c (i := 4) rfl)
  · exact cRead_2 g _ _ _ z w hg (hb.c (i := 5) rfl)
def fpR (oa ob : Nat → Bool) (am : Nat → Int) (sm : Int) (i : Nat) : Bool := oa i && ob i && decide (sm < am i)
set_option maxRecDepth 100000 in
set_option maxHeartbeats 4000000 in
theorem fSeparate_2 (n : ByteArray) (k : Int) (a : Int) (x : Int) (y : Int) (z : Int) (lo : Int) (hi : Int) (fp : Option Addr) (fl : Nat) (fc : Nat) (n2 : ByteArray) (k2 : Int) (a2 : Int) (x2 : Int) (y2 : Int) (z2 : Int) (lo2 : Int) (hi2 : Int) (fp2 : Option Addr) (fl2 : Nat) (fc2 : Nat) (r1 : Int) (r2 : Int) (ra : Int) (rb : Int)   (q1 : Ca 18 #[.agg #[.string n, .int .i64 k, .int .i64 a, .int .i64 x, .int .i64 y, .int .i64 z, .int .i64 lo, .int .i64 hi, .slice fp fl fc]] (.int .i64 r1)) (q2 : Ca 18 #[.agg #[.string n2, .int .i64 k2, .int .i64 a2, .int .i64 x2, .int .i64 y2, .int .i64 z2, .int .i64 lo2, .int .i64 hi2, .slice fp2 fl2 fc2]] (.int .i64 r2)) (q3 : Ca 54 #[.agg #[.string n, .int .i64 k, .int .i64 a, .int .i64 x, .int .i64 y, .int .i64 z, .int .i64 lo, .int .i64 hi, .slice fp fl fc]] (.int .i64 ra)) (q4 : Ca 54 #[.agg #[.string n2, .int .i64 k2, .int .i64 a2, .int .i64 x2, .int .i64 y2, .int .i64 z2, .int .i64 lo2, .int .i64 hi2, .slice fp2 fl2 fc2]] (.int .i64 rb)) (sm : Int) (ap : Nat → Int) (an : Nat → Int) (am : Nat → Int) (oa : Nat → Bool) (ob : Nat → Bool) (hap : ∀ j, wrap64 (co3 x y z j - co3 x2 y2 z2 j) = ap j) (han : ∀ j, wrap64 (-(ap j)) = an j) (ham : ∀ j, max (ap j) (an j) = am j) (hsm : wrap64 (ra + rb) = sm) (qa : ∀ c : Nat, c < 3 → Cg 51 #[.agg #[.string n, .int .i64 k, .int .i64 a, .int .i64 x, .int .i64 y, .int .i64 z, .int .i64 lo, .int .i64 hi, .slice fp fl fc], .int .i64 c] (.bool (oa c))) (qb : ∀ c : Nat, c < 3 → Cg 51 #[.agg #[.string n2, .int .i64 k2, .int .i64 a2, .int .i64 x2, .int .i64 y2, .int .i64 z2, .int .i64 lo2, .int .i64 hi2, .slice fp2 fl2 fc2], .int .i64 c] (.bool (ob c)))  (h1 : ((firstE [firstE [r1, r2]]) != 0) = false) (w : World) (gl : Gl w)  : Calls Tryd.prog 22 #[.agg #[.string n, .int .i64 k, .int .i64 a, .int .i64 x, .int .i64 y, .int .i64 z, .int .i64 lo, .int .i64 hi, .slice fp fl fc], .agg #[.string n2, .int .i64 k2, .int .i64 a2, .int .i64 x2, .int .i64 y2, .int .i64 z2, .int .i64 lo2, .int .i64 hi2, .slice fp2 fl2 fc2]] w fun r W' => r = .returned (.tuple #[.bool (any3 (fpR oa ob am sm)), .int .i64 0]) ∧ Kb w W' := by
  have kx := Kb.refl w
  unfold Ca at q1 q2 q3 q4
  have gl0 := Lib.hid gl
  have j1 := ((Is.made w #[.string n, .int .i64 k, .int .i64 a, .int .i64 x, .int .i64 y, .int .i64 z, .int .i64 lo, .int .i64 hi, .slice fp fl fc] 28).alloc (.cells #[.string n2, .int .i64 k2, .int .i64 a2, .int .i64 x2, .int .i64 y2, .int .i64 z2, .int .i64 lo2, .int .i64 hi2, .slice fp2 fl2 fc2] 28 (0, 0)))
  have f2 := j1.c (i := 0) rfl
  have f3 := j1.c (i := 1) rfl
  have f4 := j1.c (i := 2) rfl
  have f5 := j1.c (i := 3) rfl
  have f6 := j1.c (i := 4) rfl
  have f7 := j1.c (i := 5) rfl
  have f8 := j1.c (i := 6) rfl
  have f9 := j1.c (i := 7) rfl
  have f10 := j1.c (i := 8) rfl
  have j11 := (Is.made (w.alloc (.cells #[.string n, .int .i64 k, .int .i64 a, .int .i64 x, .int .i64 y, .int .i64 z, .int .i64 lo, .int .i64 hi, .slice fp fl fc] 28 (0, 0))) #[.string n2, .int .i64 k2, .int .i64 a2, .int .i64 x2, .int .i64 y2, .int .i64 z2, .int .i64 lo2, .int .i64 hi2, .slice fp2 fl2 fc2] 28)
  simp only [World.size_alloc] at j11
  have f12 := j11.c (i := 0) rfl
  have f13 := j11.c (i := 1) rfl
  have f14 := j11.c (i := 2) rfl
  have f15 := j11.c (i := 3) rfl
  have f16 := j11.c (i := 4) rfl
  have f17 := j11.c (i := 5) rfl
  have f18 := j11.c (i := 6) rfl
  have f19 := j11.c (i := 7) rfl
  have f20 := j11.c (i := 8) rfl
  go_enter Tryd.func22, Tryd.ntmps22
  go_wp2_with fail
  clear f2 f3 f4 f5 f6 f7 f8 f9 f10 f12 f13 f14 f15 f16 f17 f18 f19 f20
  have b1 := Is.made w #[.string n, .int .i64 k, .int .i64 a, .int .i64 x, .int .i64 y, .int .i64 z, .int .i64 lo, .int .i64 hi, .slice fp fl fc] 28
  replace b1 := ((b1.alloc (.cells #[.string n2, .int .i64 k2, .int .i64 a2, .int .i64 x2, .int .i64 y2, .int .i64 z2, .int .i64 lo2, .int .i64 hi2, .slice fp2 fl2 fc2] 28 (0, 0))).alloc (.cells #[.string n, .int .i64 k, .int .i64 a, .int .i64 x, .int .i64 y, .int .i64 z, .int .i64 lo, .int .i64 hi, .slice fp fl fc, .string n2, .int .i64 k2, .int .i64 a2, .int .i64 x2, .int .i64 y2, .int .i64 z2, .int .i64 lo2, .int .i64 hi2, .slice fp2 fl2 fc2] 28 (0, 0)))
  have b2 := Is.made (w.alloc (.cells #[.string n, .int .i64 k, .int .i64 a, .int .i64 x, .int .i64 y, .int .i64 z, .int .i64 lo, .int .i64 hi, .slice fp fl fc] 28 (0, 0))) #[.string n2, .int .i64 k2, .int .i64 a2, .int .i64 x2, .int .i64 y2, .int .i64 z2, .int .i64 lo2, .int .i64 hi2, .slice fp2 fl2 fc2] 28
  simp only [World.size_alloc] at b2
  replace b2 := (b2.alloc (.cells #[.string n, .int .i64 k, .int .i64 a, .int .i64 x, .int .i64 y, .int .i64 z, .int .i64 lo, .int .i64 hi, .slice fp fl fc, .string n2, .int .i64 k2, .int .i64 a2, .int .i64 x2, .int .i64 y2, .int .i64 z2, .int .i64 lo2, .int .i64 hi2, .slice fp2 fl2 fc2] 28 (0, 0)))
  have b3 := Is.made ((w.alloc (.cells #[.string n, .int .i64 k, .int .i64 a, .int .i64 x, .int .i64 y, .int .i64 z, .int .i64 lo, .int .i64 hi, .slice fp fl fc] 28 (0, 0))).alloc (.cells #[.string n2, .int .i64 k2, .int .i64 a2, .int .i64 x2, .int .i64 y2, .int .i64 z2, .int .i64 lo2, .int .i64 hi2, .slice fp2 fl2 fc2] 28 (0, 0))) #[.string n, .int .i64 k, .int .i64 a, .int .i64 x, .int .i64 y, .int .i64 z, .int .i64 lo, .int .i64 hi, .slice fp fl fc, .string n2, .int .i64 k2, .int .i64 a2, .int .i64 x2, .int .i64 y2, .int .i64 z2, .int .i64 lo2, .int .i64 hi2, .slice fp2 fl2 fc2] 28
  simp only [World.size_alloc] at b3
  replace kx := ((kx.alloc (.cells #[.string n, .int .i64 k, .int .i64 a, .int .i64 x, .int .i64 y, .int .i64 z, .int .i64 lo, .int .i64 hi, .slice fp fl fc] 28 (0, 0))).alloc (.cells #[.string n2, .int .i64 k2, .int .i64 a2, .int .i64 x2, .int .i64 y2, .int .i64 z2, .int .i64 lo2, .int .i64 hi2, .slice fp2 fl2 fc2] 28 (0, 0))).alloc (.cells #[.string n, .int .i64 k, .int .i64 a, .int .i64 x, .int .i64 y, .int .i64 z, .int .i64 lo, .int .i64 hi, .slice fp fl fc, .string n2, .int .i64 k2, .int .i64 a2, .int .i64 x2, .int .i64 y2, .int .i64 z2, .int .i64 lo2, .int .i64 hi2, .slice fp2 fl2 fc2] 28 (0, 0))
  clear j1 j11
  replace gl := gl0.out.kb kx
  have cc1 := cEach_Ftr [] 18 (⟨#[]⟩, 0, 0, 0, 0, 0, 0, 0, none, 0, 0) [(n, k, a, x, y, z, lo, hi, fp, fl, fc), (n2, k2, a2, x2, y2, z2, lo2, hi2, fp2, fl2, fc2)] [r1, r2] (.slice (some ⟨w.heap.size + 1 + 1, 0, none⟩) 2 2) (((w.alloc (.cells #[.string n, .int .i64 k, .int .i64 a, .int .i64 x, .int .i64 y, .int .i64 z, .int .i64 lo, .int .i64 hi, .slice fp fl fc] 28 (0, 0))).alloc (.cells #[.string n2, .int .i64 k2, .int .i64 a2, .int .i64 x2, .int .i64 y2, .int .i64 z2, .int .i64 lo2, .int .i64 hi2, .slice fp2 fl2 fc2] 28 (0, 0))).alloc (.cells #[.string n, .int .i64 k, .int .i64 a, .int .i64 x, .int .i64 y, .int .i64 z, .int .i64 lo, .int .i64 hi, .slice fp fl fc, .string n2, .int .i64 k2, .int .i64 a2, .int .i64 x2, .int .i64 y2, .int .i64 z2, .int .i64 lo2, .int .i64 hi2, .slice fp2 fl2 fc2] 28 (0, 0))) (fun x hx => by simp at hx) (by simp) rfl (sl_is b3 (by simp) rfl (rows_ok rfl rfl)) (enters_of Tryd.func18 (by kernel_rfl) rfl) (each_ok ⟨q1, q2, trivial⟩ rfl)
  (with_reducible refine cc1.mono ?_)
  rintro r w1 ⟨_, rfl, ⟨F1, cp1, rfl, he1, hk1⟩, k1⟩
  clear cc1
  replace gl := gl.kb k1
  replace b1 := b1.kb k1
  replace b2 := b2.kb k1
  replace b3 := b3.kb k1
  replace kx := kx.trans k1
  have s1 := k1.size
  simp only [World.size_alloc] at s1
  clear k1
  have c1 : Ck [] (.func (.func F1) #[] cp1) (firstE [r1, r2]) w1 := ⟨F1, cp1, rfl, he1, hk1⟩
  clear he1 hk1
  go_wp2_with fail
  replace b1 := (b1.alloc (.cells #[.func (.func F1) #[] cp1] 69 (0, 0)))
  replace b2 := (b2.alloc (.cells #[.func (.func F1) #[] cp1] 69 (0, 0)))
  replace b3 := (b3.alloc (.cells #[.func (.func F1) #[] cp1] 69 (0, 0)))
  have b4 := Is.made w1 #[.func (.func F1) #[] cp1] 69
  replace kx := kx.alloc (.cells #[.func (.func F1) #[] cp1] 69 (0, 0))
  replace gl := gl0.out.kb kx
  replace c1 := (c1.kx ((Kb.refl _).alloc (.cells #[.func (.func F1) #[] cp1] 69 (0, 0))).kx)
  have cc2 := cFirst [] [firstE [r1, r2]] (.slice (some ⟨w1.heap.size, 0, none⟩) 1 1) (w1.alloc (.cells #[.func (.func F1) #[] cp1] 69 (0, 0))) ⟨[.func (.func F1) #[] cp1], rfl, sl_is b4 (by simp) rfl (rows_ok rfl rfl), cks_ok ⟨c1, trivial⟩ rfl⟩ (by simp)
  (with_reducible refine cc2.mono ?_)
  rintro r w2 ⟨rfl, k2⟩
  clear cc2
  replace gl := gl.kb k2
  replace b1 := b1.kb k2
  replace b2 := b2.kb k2
  replace b3 := b3.kb k2
  replace b4 := b4.kb k2
  replace c1 := c1.kx k2.kx
  replace kx := kx.trans k2
  have s2 := k2.size
  simp only [World.size_alloc] at s2
  clear k2
  clear c1
  go_wp2_with fail
  (with_reducible refine (cCoord3_1 w.heap.size _).mono ?_)
  rintro r w3 ⟨g3, rfl, p3, i3, k3⟩
  replace gl := gl.kb k3
  replace b1 := b1.kb k3
  replace b2 := b2.kb k3
  replace b3 := b3.kb k3
  replace b4 := b4.kb k3
  replace kx := kx.trans k3
  have s3 := k3.size
  skip
  clear k3
  go_wp2_with fail
  (with_reducible refine (cCoord3_1 (w.heap.size + 1) _).mono ?_)
  rintro r w4 ⟨g4, rfl, p4, i4, k4⟩
  replace gl := gl.kb k4
  replace b1 := b1.kb k4
  replace b2 := b2.kb k4
  replace b3 := b3.kb k4
  replace b4 := b4.kb k4
  replace p3 := p3.kb k4
  replace kx := kx.trans k4
  have s4 := k4.size
  skip
  clear k4
  go_wp2_with fail
  go_loopg [32] 3 (fun gk s32 wr => ∃ i : Nat, s32 = .int .i64 i ∧ i + gk = 3 ∧ Hid (∀ j, j < i → fpR oa ob am sm j = false) ∧ Is wr (w.heap.size) #[.string n, .int .i64 k, .int .i64 a, .int .i64 x, .int .i64 y, .int .i64 z, .int .i64 lo, .int .i64 hi, .slice fp fl fc] 28 ∧ Is wr (w.heap.size + 1) #[.string n2, .int .i64 k2, .int .i64 a2, .int .i64 x2, .int .i64 y2, .int .i64 z2, .int .i64 lo2, .int .i64 hi2, .slice fp2 fl2 fc2] 28 ∧ Is wr (w.heap.size + 1 + 1) #[.string n, .int .i64 k, .int .i64 a, .int .i64 x, .int .i64 y, .int .i64 z, .int .i64 lo, .int .i64 hi, .slice fp fl fc, .string n2, .int .i64 k2, .int .i64 a2, .int .i64 x2, .int .i64 y2, .int .i64 z2, .int .i64 lo2, .int .i64 hi2, .slice fp2 fl2 fc2] 28 ∧ Is wr (w1.heap.size) #[.func (.func F1) #[] cp1] 69 ∧ Is wr (g3) #[.pointer (some ⟨w.heap.size, 3, none⟩), .pointer (some ⟨w.heap.size, 4, none⟩), .pointer (some ⟨w.heap.size, 5, none⟩)] 110 ∧ Is wr (g4) #[.pointer (some ⟨w.heap.size + 1, 3, none⟩), .pointer (some ⟨w.heap.size + 1, 4, none⟩), .pointer (some ⟨w.heap.size + 1, 5, none⟩)] 110 ∧ Kb w wr)
  case atStart => exact ⟨0, rfl, by omega, Lib.hid (fun j hj => absurd hj (by omega)), b1, b2, b3, b4, p3, p4, kx⟩
  case round =>
    obtain ⟨i, rfl, hqi, Ei, b1, b2, b3, b4, p3, p4, kx⟩ := hrel
    replace gl := gl0.out.kb kx
    have hqi0 : (0 : Int) ≤ (i : Int) := by omega
    have Hi := Lib.hid hqi
    clear hqi
    by_cases h2 : (i : Int) < 3
    · skip
      have h2n : i < 3 := by omega
      rcases Bool.eq_false_or_eq_true (oa i) with h3 | h3
      · skip
        rcases Bool.eq_false_or_eq_true (ob i) with h4 | h4
        · skip
          by_cases h5 : sm < (am i)
          · skip
            have en1 := (enters_of Tryd.func76 (by kernel_rfl) rfl : ∀ args W, (callFunc 76 args).run Tryd.prog W = .ok (.enter 76 args) W)
            go_wp2_with fail
            (with_reducible refine (cReadN _ _ i (by omega) _ _ _ _ _ _ _ _ _ 0 _ _ p3 b1 rfl).mono ?_)
            rintro r w5 ⟨rfl, k5⟩
            replace gl := gl.kb k5
            replace b1 := b1.kb k5
            replace b2 := b2.kb k5
            replace b3 := b3.kb k5
            replace b4 := b4.kb k5
            replace p3 := p3.kb k5
            replace p4 := p4.kb k5
            replace kx := kx.trans k5
            have s5 := k5.size
            skip
            clear k5
            have en2 := (enters_of Tryd.func76 (by kernel_rfl) rfl : ∀ args W, (callFunc 76 args).run Tryd.prog W = .ok (.enter 76 args) W)
            go_wp2_with fail
            (with_reducible refine (cReadN _ _ i (by omega) _ _ _ _ _ _ _ _ _ 0 _ _ p4 b2 rfl).mono ?_)
            rintro r w6 ⟨rfl, k6⟩
            replace gl := gl.kb k6
            replace b1 := b1.kb k6
            replace b2 := b2.kb k6
            replace b3 := b3.kb k6
            replace b4 := b4.kb k6
            replace p3 := p3.kb k6
            replace p4 := p4.kb k6
            replace kx := kx.trans k6
            have s6 := k6.size
            skip
            clear k6
            have y21 : wrap64 ((co3 x y z i) - (co3 x2 y2 z2 i)) = (ap i) := hap i
            have y21' : IntKind.i64.wrap ((co3 x y z i) - (co3 x2 y2 z2 i)) = (ap i) := (Go.IntWalk.i64_left _).trans y21
            go_wp2_with fail
            have y22 : wrap64 (-(ap i)) = (an i) := han i
            have y22' : IntKind.i64.wrap (-(ap i)) = (an i) := (Go.IntWalk.i64_left _).trans y22
            have y23 : max (ap i) (an i) = (am i) := ham i
            have y24 : wrap64 (ra + rb) = sm := hsm
            have y24' : IntKind.i64.wrap (ra + rb) = sm := (Go.IntWalk.i64_left _).trans y24
            replace gl := gl.drew
            replace b1 := b1.drew
            replace b2 := b2.drew
            replace b3 := b3.drew
            replace b4 := b4.drew
            replace p3 := p3.drew
            replace p4 := p4.drew
            rw [oF_lit]
            refine o_law (⟨63, [some 42, some 43, some 44, some 45, some 46, some 47, some 48, some 49, some 50, some 51, some 52, some 53, some 54, some 55, some 56, some 57, some 58, some 59, some 60, some 61], [42, 43, 44, 45, 46, 47, 48, 49, 50, 51, 52, 53, 54, 55, 56, 57, 58, 59, 60, 61], [[], [], [0, 1], [2], [3], [3], [4, 5, 3], [3, 6], [7], [8], [8], [10, 8], [9, 11, 8], [8], [13, 8], [8], [15, 8], [14, 16, 8], [12, 17, 8], [8, 18]], [[2], [11], [], [], [3], [11], [], [], [], [12], [12], [], [], [2], [], [3], [], [], [], []]⟩ : OT) (Kx []) (RL [fun vv _ => vv = .agg #[.string n, .int .i64 k, .int .i64 a, .int .i64 x, .int .i64 y, .int .i64 z, .int .i64 lo, .int .i64 hi, .slice fp fl fc], fun vv _ => vv = .int .i64 (i : Int), fun vv _ => vv = .bool true, fun vv _ => vv = .bool true, fun vv _ => true = true → vv = .agg #[.string n2, .int .i64 k2, .int .i64 a2, .int .i64 x2, .int .i64 y2, .int .i64 z2, .int .i64 lo2, .int .i64 hi2, .slice fp2 fl2 fc2], fun vv _ => true = true → vv = .int .i64 (i : Int), fun vv _ => true = true → vv = .bool true, fun vv _ => vv = .bool true, fun vv _ => vv = .bool true, fun vv _ => true = true → vv = .int .i64 (ap i), fun vv _ => true = true → vv = .int .i64 (ap i), fun vv _ => true = true → vv = .int .i64 (an i), fun vv _ => true = true → vv = .int .i64 (am i), fun vv _ => true = true → vv = .agg #[.string n, .int .i64 k, .int .i64 a, .int .i64 x, .int .i64 y, .int .i64 z, .int .i64 lo, .int .i64 hi, .slice fp fl fc], fun vv _ => true = true → vv = .int .i64 ra, fun vv _ => true = true → vv = .agg #[.string n2, .int .i64 k2, .int .i64 a2, .int .i64 x2, .int .i64 y2, .int .i64 z2, .int .i64 lo2, .int .i64 hi2, .slice fp2 fl2 fc2], fun vv _ => true = true → vv = .int .i64 rb, fun vv _ => true = true → vv = .int .i64 sm, fun vv _ => true = true → vv = .bool (decide (sm < (am i))), fun vv _ => vv = .bool (decide (sm < (am i)))]) (by kernel_rfl) ?hk ?hR ?fin
            case hk => kernel_rfl
            case hR =>
              refine ⟨fun _ => (Kx.refl _ _), fun _ _ _ => Kx.trans, rl_stab ⟨fun _ _ _ _ h => h, fun _ _ _ _ h => h, fun _ _ _ _ h => h, fun _ _ _ _ h => h, fun _ _ _ _ h => h, fun _ _ _ _ h => h, fun _ _ _ _ h => h, fun _ _ _ _ h => h, fun _ _ _ _ h => h, fun _ _ _ _ h => h, fun _ _ _ _ h => h, fun _ _ _ _ h => h, fun _ _ _ _ h => h, fun _ _ _ _ h => h, fun _ _ _ _ h => h, fun _ _ _ _ h => h, fun _ _ _ _ h => h, fun _ _ _ _ h => h, fun _ _ _ _ h => h, fun _ _ _ _ h => h, trivial⟩, ?_⟩
              refine allO_cons ?_ (allO_cons ?_ (allO_cons ?_ (allO_cons ?_ (allO_cons ?_ (allO_cons ?_ (allO_cons ?_ (allO_cons ?_ (allO_cons ?_ (allO_cons ?_ (allO_cons ?_ (allO_cons ?_ (allO_cons ?_ (allO_cons ?_ (allO_cons ?_ (allO_cons ?_ (allO_cons ?_ (allO_cons ?_ (allO_cons ?_ (allO_cons ?_ (allO_nil))))))))))))))))))))
              · intro T w9 hG hD hO Q
                have q0 := hO.1
                have e0 : (oF 63 T).eval (.tmp 2) = .pointer (some ⟨w.heap.size, 0, none⟩) := (oF_eval (by decide)).trans (show T 2 = _ from q0)
                refine og_none rfl ?_
                have im := b1.kx hG (by simp)
                have m0 := im.c (i := 0) rfl
                have m1 := im.c (i := 1) rfl
                have m2 := im.c (i := 2) rfl
                have m3 := im.c (i := 3) rfl
                have m4 := im.c (i := 4) rfl
                have m5 := im.c (i := 5) rfl
                have m6 := im.c (i := 6) rfl
                have m7 := im.c (i := 7) rfl
                have m8 := im.c (i := 8) rfl
                clear im
                exact o_val (v := .agg #[.string n, .int .i64 k, .int .i64 a, .int .i64 x, .int .i64 y, .int .i64 z, .int .i64 lo, .int .i64 hi, .slice fp fl fc]) (w' := w9) (by generalize (oF 63 T).eval = rr at *; simp [execOp, go_sem, e0, m0, m1, m2, m3, m4, m5, m6, m7, m8]) rfl rfl (Kx.refl _ _)
              · intro T w9 hG hD hO Q
                have q0 := hO.1
                have e0 : (oF 63 T).eval (.tmp 11) = .int .i64 (i : Int) := (oF_eval (by decide)).trans (show T 11 = _ from q0)
                refine og_none rfl ?_
                exact o_val (v := .int .i64 (i : Int)) (w' := w9) (by generalize (oF 63 T).eval = rr at *; simp [execOp, go_sem, e0]) rfl rfl (Kx.refl _ _)
              · intro T w9 hG hD hO Q
                have d0 := hD.1
                have d1 := hD.2.1
                have e0 : (oF 63 T).eval (.func 51) = .func (.func 51) #[] #[] := rfl
                have e1 : (oF 63 T).eval (.tmp 42) = .agg #[.string n, .int .i64 k, .int .i64 a, .int .i64 x, .int .i64 y, .int .i64 z, .int .i64 lo, .int .i64 hi, .slice fp fl fc] := (oF_eval (by decide)).trans (show T 42 = _ from d0)
                have e2 : (oF 63 T).eval (.tmp 43) = .int .i64 (i : Int) := (oF_eval (by decide)).trans (show T 43 = _ from d1)
                refine og_none rfl ?_
                refine o_call (oc2 (enters_of Tryd.func51 (by kernel_rfl) rfl) rfl rfl e1 e2) rfl ?_
                exact (Cg.out (qa i (by omega)) w9 (gl.kx hG (by simp))).mono fun r W' h => ⟨_, h.1, (show Value.bool (oa i) = .bool true by rw [h3]), h.2.kx⟩
              · intro T w9 hG hD hO Q
                have d0 := hD.1
                have e0 : (oF 63 T).eval (.tmp 44) = .bool true := (oF_eval (by decide)).trans (show T 44 = _ from d0)
                refine og_none rfl ?_
                exact o_val (v := .bool true) (w' := w9) (by generalize (oF 63 T).eval = rr at *; simp [execOp, go_sem, e0]) rfl rfl (Kx.refl _ _)
              · intro T w9 hG hD hO Q
                have d0 := hD.1
                have q0 := hO.1
                have e0 : (oF 63 T).eval (.tmp 3) = .pointer (some ⟨w.heap.size + 1, 0, none⟩) := (oF_eval (by decide)).trans (show T 3 = _ from q0)
                refine og_some (b := true) (c := true) rfl (show T 45 = _ from d0) (fun hc => ?_) (fun hc h => absurd h hc)
                have im := b2.kx hG (by simp)
                have m0 := im.c (i := 0) rfl
                have m1 := im.c (i := 1) rfl
                have m2 := im.c (i := 2) rfl
                have m3 := im.c (i := 3) rfl
                have m4 := im.c (i := 4) rfl
                have m5 := im.c (i := 5) rfl
                have m6 := im.c (i := 6) rfl
                have m7 := im.c (i := 7) rfl
                have m8 := im.c (i := 8) rfl
                clear im
                exact o_val (v := .agg #[.string n2, .int .i64 k2, .int .i64 a2, .int .i64 x2, .int .i64 y2, .int .i64 z2, .int .i64 lo2, .int .i64 hi2, .slice fp2 fl2 fc2]) (w' := w9) (by generalize (oF 63 T).eval = rr at *; simp [execOp, go_sem, e0, m0, m1, m2, m3, m4, m5, m6, m7, m8]) rfl (fun _ => rfl) (Kx.refl _ _)
              · intro T w9 hG hD hO Q
                have d0 := hD.1
                have q0 := hO.1
                have e0 : (oF 63 T).eval (.tmp 11) = .int .i64 (i : Int) := (oF_eval (by decide)).trans (show T 11 = _ from q0)
                refine og_some (b := true) (c := true) rfl (show T 45 = _ from d0) (fun hc => ?_) (fun hc h => absurd h hc)
                exact o_val (v := .int .i64 (i : Int)) (w' := w9) (by generalize (oF 63 T).eval = rr at *; simp [execOp, go_sem, e0]) rfl (fun _ => rfl) (Kx.refl _ _)
              · intro T w9 hG hD hO Q
                have d0 := hD.1
                have d1 := hD.2.1
                have d2 := hD.2.2.1
                have e0 : (oF 63 T).eval (.func 51) = .func (.func 51) #[] #[] := rfl
                have G1 : true = true → T 46 = .agg #[.string n2, .int .i64 k2, .int .i64 a2, .int .i64 x2, .int .i64 y2, .int .i64 z2, .int .i64 lo2, .int .i64 hi2, .slice fp2 fl2 fc2] := d0
                have G2 : true = true → T 47 = .int .i64 (i : Int) := d1
                refine og_some (b := true) (c := true) rfl (show T 45 = _ from d2) (fun hc => ?_) (fun hc h => absurd h hc)
                have e1 : (oF 63 T).eval (.tmp 46) = .agg #[.string n2, .int .i64 k2, .int .i64 a2, .int .i64 x2, .int .i64 y2, .int .i64 z2, .int .i64 lo2, .int .i64 hi2, .slice fp2 fl2 fc2] := (oF_eval (by decide)).trans (G1 hc)
                have e2 : (oF 63 T).eval (.tmp 47) = .int .i64 (i : Int) := (oF_eval (by decide)).trans (G2 hc)
                refine o_call (oc2 (enters_of Tryd.func51 (by kernel_rfl) rfl) rfl rfl e1 e2) rfl ?_
                exact (Cg.out (qb i (by omega)) w9 (gl.kx hG (by simp))).mono fun r W' h => ⟨_, h.1, fun _ => (show Value.bool (ob i) = .bool true by rw [h4]), h.2.kx⟩
              · intro T w9 hG hD hO Q
                have d0 := hD.1
                have d1 := hD.2.1
                have e0 : (oF 63 T).eval (.tmp 45) = .bool true := (oF_eval (by decide)).trans (show T 45 = _ from d0)
                have G1 : true = true → T 48 = .bool true := d1
                have e1 : (oF 63 T).eval (.tmp 48) = T 48 := oF_eval (by decide)
                have e2 : (oF 63 T).eval (.const (.bool false)) = .bool false := rfl
                refine og_none rfl ?_
                rw [G1 rfl] at e1
                exact o_val (v := .bool true) (w' := w9) (by generalize (oF 63 T).eval = rr at *; simp [execOp, go_sem, e0, e1]) rfl rfl (Kx.refl _ _)
              · intro T w9 hG hD hO Q
                have d0 := hD.1
                have e0 : (oF 63 T).eval (.tmp 49) = .bool true := (oF_eval (by decide)).trans (show T 49 = _ from d0)
                refine og_none rfl ?_
                exact o_val (v := .bool true) (w' := w9) (by generalize (oF 63 T).eval = rr at *; simp [execOp, go_sem, e0]) rfl rfl (Kx.refl _ _)
              · intro T w9 hG hD hO Q
                have d0 := hD.1
                have q0 := hO.1
                have e0 : (oF 63 T).eval (.tmp 12) = .int .i64 (ap i) := (oF_eval (by decide)).trans (show T 12 = _ from q0)
                refine og_some (b := true) (c := true) rfl (show T 50 = _ from d0) (fun hc => ?_) (fun hc h => absurd h hc)
                exact o_val (v := .int .i64 (ap i)) (w' := w9) (by generalize (oF 63 T).eval = rr at *; simp [execOp, go_sem, e0]) rfl (fun _ => rfl) (Kx.refl _ _)
              · intro T w9 hG hD hO Q
                have d0 := hD.1
                have q0 := hO.1
                have e0 : (oF 63 T).eval (.tmp 12) = .int .i64 (ap i) := (oF_eval (by decide)).trans (show T 12 = _ from q0)
                refine og_some (b := true) (c := true) rfl (show T 50 = _ from d0) (fun hc => ?_) (fun hc h => absurd h hc)
                exact o_val (v := .int .i64 (ap i)) (w' := w9) (by generalize (oF 63 T).eval = rr at *; simp [execOp, go_sem, e0]) rfl (fun _ => rfl) (Kx.refl _ _)
              · intro T w9 hG hD hO Q
                have d0 := hD.1
                have d1 := hD.2.1
                have G0 : true = true → T 52 = .int .i64 (ap i) := d0
                refine og_some (b := true) (c := true) rfl (show T 50 = _ from d1) (fun hc => ?_) (fun hc h => absurd h hc)
                have e0 : (oF 63 T).eval (.tmp 52) = .int .i64 (ap i) := (oF_eval (by decide)).trans (G0 hc)
                exact o_val (v := .int .i64 (an i)) (w' := w9) (by generalize (oF 63 T).eval = rr at *; simp [execOp, go_sem, e0, y22']) rfl (fun _ => rfl) (Kx.refl _ _)
              · intro T w9 hG hD hO Q
                have d0 := hD.1
                have d1 := hD.2.1
                have d2 := hD.2.2.1
                have G0 : true = true → T 51 = .int .i64 (ap i) := d0
                have G1 : true = true → T 53 = .int .i64 (an i) := d1
                refine og_some (b := true) (c := true) rfl (show T 50 = _ from d2) (fun hc => ?_) (fun hc h => absurd h hc)
                have e0 : (oF 63 T).eval (.tmp 51) = .int .i64 (ap i) := (oF_eval (by decide)).trans (G0 hc)
                have e1 : (oF 63 T).eval (.tmp 53) = .int .i64 (an i) := (oF_eval (by decide)).trans (G1 hc)
                exact o_val (v := .int .i64 (am i)) (w' := w9) (by generalize (oF 63 T).eval = rr at *; simp [go_sem, e0, e1, y23]) rfl (fun _ => rfl) (Kx.refl _ _)
              · intro T w9 hG hD hO Q
                have d0 := hD.1
                have q0 := hO.1
                have e0 : (oF 63 T).eval (.tmp 2) = .pointer (some ⟨w.heap.size, 0, none⟩) := (oF_eval (by decide)).trans (show T 2 = _ from q0)
                refine og_some (b := true) (c := true) rfl (show T 50 = _ from d0) (fun hc => ?_) (fun hc h => absurd h hc)
                have im := b1.kx hG (by simp)
                have m0 := im.c (i := 0) rfl
                have m1 := im.c (i := 1) rfl
                have m2 := im.c (i := 2) rfl
                have m3 := im.c (i := 3) rfl
                have m4 := im.c (i := 4) rfl
                have m5 := im.c (i := 5) rfl
                have m6 := im.c (i := 6) rfl
                have m7 := im.c (i := 7) rfl
                have m8 := im.c (i := 8) rfl
                clear im
                exact o_val (v := .agg #[.string n, .int .i64 k, .int .i64 a, .int .i64 x, .int .i64 y, .int .i64 z, .int .i64 lo, .int .i64 hi, .slice fp fl fc]) (w' := w9) (by generalize (oF 63 T).eval = rr at *; simp [execOp, go_sem, e0, m0, m1, m2, m3, m4, m5, m6, m7, m8]) rfl (fun _ => rfl) (Kx.refl _ _)
              · intro T w9 hG hD hO Q
                have d0 := hD.1
                have d1 := hD.2.1
                have e0 : (oF 63 T).eval (.func 54) = .func (.func 54) #[] #[] := rfl
                have G1 : true = true → T 55 = .agg #[.string n, .int .i64 k, .int .i64 a, .int .i64 x, .int .i64 y, .int .i64 z, .int .i64 lo, .int .i64 hi, .slice fp fl fc] := d0
                refine og_some (b := true) (c := true) rfl (show T 50 = _ from d1) (fun hc => ?_) (fun hc h => absurd h hc)
                have e1 : (oF 63 T).eval (.tmp 55) = .agg #[.string n, .int .i64 k, .int .i64 a, .int .i64 x, .int .i64 y, .int .i64 z, .int .i64 lo, .int .i64 hi, .slice fp fl fc] := (oF_eval (by decide)).trans (G1 hc)
                refine o_call (oc1 (enters_of Tryd.func54 (by kernel_rfl) rfl) rfl rfl e1) rfl ?_
                exact (q3.out w9).mono fun r W' h => ⟨_, h.1, (fun _ => rfl), h.2.kx⟩
              · intro T w9 hG hD hO Q
                have d0 := hD.1
                have q0 := hO.1
                have e0 : (oF 63 T).eval (.tmp 3) = .pointer (some ⟨w.heap.size + 1, 0, none⟩) := (oF_eval (by decide)).trans (show T 3 = _ from q0)
                refine og_some (b := true) (c := true) rfl (show T 50 = _ from d0) (fun hc => ?_) (fun hc h => absurd h hc)
                have im := b2.kx hG (by simp)
                have m0 := im.c (i := 0) rfl
                have m1 := im.c (i := 1) rfl
                have m2 := im.c (i := 2) rfl
                have m3 := im.c (i := 3) rfl
                have m4 := im.c (i := 4) rfl
                have m5 := im.c (i := 5) rfl
                have m6 := im.c (i := 6) rfl
                have m7 := im.c (i := 7) rfl
                have m8 := im.c (i := 8) rfl
                clear im
                exact o_val (v := .agg #[.string n2, .int .i64 k2, .int .i64 a2, .int .i64 x2, .int .i64 y2, .int .i64 z2, .int .i64 lo2, .int .i64 hi2, .slice fp2 fl2 fc2]) (w' := w9) (by generalize (oF 63 T).eval = rr at *; simp [execOp, go_sem, e0, m0, m1, m2, m3, m4, m5, m6, m7, m8]) rfl (fun _ => rfl) (Kx.refl _ _)
              · intro T w9 hG hD hO Q
                have d0 := hD.1
                have d1 := hD.2.1
                have e0 : (oF 63 T).eval (.func 54) = .func (.func 54) #[] #[] := rfl
                have G1 : true = true → T 57 = .agg #[.string n2, .int .i64 k2, .int .i64 a2, .int .i64 x2, .int .i64 y2, .int .i64 z2, .int .i64 lo2, .int .i64 hi2, .slice fp2 fl2 fc2] := d0
                refine og_some (b := true) (c := true) rfl (show T 50 = _ from d1) (fun hc => ?_) (fun hc h => absurd h hc)
                have e1 : (oF 63 T).eval (.tmp 57) = .agg #[.string n2, .int .i64 k2, .int .i64 a2, .int .i64 x2, .int .i64 y2, .int .i64 z2, .int .i64 lo2, .int .i64 hi2, .slice fp2 fl2 fc2] := (oF_eval (by decide)).trans (G1 hc)
                refine o_call (oc1 (enters_of Tryd.func54 (by kernel_rfl) rfl) rfl rfl e1) rfl ?_
                exact (q4.out w9).mono fun r W' h => ⟨_, h.1, (fun _ => rfl), h.2.kx⟩
              · intro T w9 hG hD hO Q
                have d0 := hD.1
                have d1 := hD.2.1
                have d2 := hD.2.2.1
                have G0 : true = true → T 56 = .int .i64 ra := d0
                have G1 : true = true → T 58 = .int .i64 rb := d1
                refine og_some (b := true) (c := true) rfl (show T 50 = _ from d2) (fun hc => ?_) (fun hc h => absurd h hc)
                have e0 : (oF 63 T).eval (.tmp 56) = .int .i64 ra := (oF_eval (by decide)).trans (G0 hc)
                have e1 : (oF 63 T).eval (.tmp 58) = .int .i64 rb := (oF_eval (by decide)).trans (G1 hc)
                exact o_val (v := .int .i64 sm) (w' := w9) (by generalize (oF 63 T).eval = rr at *; simp [execOp, go_sem, e0, e1, y24']) rfl (fun _ => rfl) (Kx.refl _ _)
              · intro T w9 hG hD hO Q
                have d0 := hD.1
                have d1 := hD.2.1
                have d2 := hD.2.2.1
                have G0 : true = true → T 54 = .int .i64 (am i) := d0
                have G1 : true = true → T 59 = .int .i64 sm := d1
                refine og_some (b := true) (c := true) rfl (show T 50 = _ from d2) (fun hc => ?_) (fun hc h => absurd h hc)
                have e0 : (oF 63 T).eval (.tmp 54) = .int .i64 (am i) := (oF_eval (by decide)).trans (G0 hc)
                have e1 : (oF 63 T).eval (.tmp 59) = .int .i64 sm := (oF_eval (by decide)).trans (G1 hc)
                exact o_val (v := .bool (decide (sm < (am i)))) (w' := w9) (by generalize (oF 63 T).eval = rr at *; simp [execOp, go_sem, e0, e1]) rfl (fun _ => rfl) (Kx.refl _ _)
              · intro T w9 hG hD hO Q
                have d0 := hD.1
                have d1 := hD.2.1
                have e0 : (oF 63 T).eval (.tmp 50) = .bool true := (oF_eval (by decide)).trans (show T 50 = _ from d0)
                have G1 : true = true → T 60 = .bool (decide (sm < (am i))) := d1
                have e1 : (oF 63 T).eval (.tmp 60) = T 60 := oF_eval (by decide)
                have e2 : (oF 63 T).eval (.const (.bool false)) = .bool false := rfl
                refine og_none rfl ?_
                rw [G1 rfl] at e1
                exact o_val (v := .bool (decide (sm < (am i)))) (w' := w9) (by generalize (oF 63 T).eval = rr at *; simp [execOp, go_sem, e0, e1]) rfl rfl (Kx.refl _ _)
            case fin =>
              intro T w7 hout hval hG
              have s7 := hG.2.2.2.1
              simp only [World.size_drew] at s7
              rw [show oF 63 T = (⟨#[T 0, T 1, T 2, T 3, T 4, T 5, T 6, T 7, T 8, T 9, T 10, T 11, T 12, T 13, T 14, T 15, T 16, T 17, T 18, T 19, T 20, T 21, T 22, T 23, T 24, T 25, T 26, T 27, T 28, T 29, T 30, T 31, T 32, T 33, T 34, T 35, T 36, T 37, T 38, T 39, T 40, T 41, T 42, T 43, T 44, T 45, T 46, T 47, T 48, T 49, T 50, T 51, T 52, T 53, T 54, T 55, T 56, T 57, T 58, T 59, T 60, T 61, T 62], []⟩ : Act) from oF_list 63 T]
              rw [show T 0 = .agg #[.string n, .int .i64 k, .int .i64 a, .int .i64 x, .int .i64 y, .int .i64 z, .int .i64 lo, .int .i64 hi, .slice fp fl fc] from hout 0 rfl]
              rw [show T 1 = .agg #[.string n2, .int .i64 k2, .int .i64 a2, .int .i64 x2, .int .i64 y2, .int .i64 z2, .int .i64 lo2, .int .i64 hi2, .slice fp2 fl2 fc2] from hout 1 rfl]
              rw [show T 2 = .pointer (some ⟨w.heap.size, 0, none⟩) from hout 2 rfl]
              rw [show T 3 = .pointer (some ⟨w.heap.size + 1, 0, none⟩) from hout 3 rfl]
              rw [show T 6 = .int .i64 (firstE [firstE [r1, r2]]) from hout 6 rfl]
              rw [show T 7 = .func (.func 76) #[] #[.pointer (some ⟨g3, 0, none⟩)] from hout 7 rfl]
              rw [show T 8 = .func (.func 77) #[] #[.pointer (some ⟨g3, 0, none⟩)] from hout 8 rfl]
              rw [show T 9 = .func (.func 76) #[] #[.pointer (some ⟨g4, 0, none⟩)] from hout 9 rfl]
              rw [show T 10 = .func (.func 77) #[] #[.pointer (some ⟨g4, 0, none⟩)] from hout 10 rfl]
              rw [show T 11 = .int .i64 (i : Int) from hout 11 rfl]
              rw [show T 12 = .int .i64 (ap i) from hout 12 rfl]
              rw [show T 13 = .agg #[.string n, .int .i64 k, .int .i64 a, .int .i64 x, .int .i64 y, .int .i64 z, .int .i64 lo, .int .i64 hi, .slice fp fl fc] from hout 13 rfl]
              rw [show T 14 = .agg #[.string n2, .int .i64 k2, .int .i64 a2, .int .i64 x2, .int .i64 y2, .int .i64 z2, .int .i64 lo2, .int .i64 hi2, .slice fp2 fl2 fc2] from hout 14 rfl]
              rw [show T 15 = .slice (some ⟨w.heap.size + 1 + 1, 0, none⟩) 2 2 from hout 15 rfl]
              rw [show T 16 = .func (.func F1) #[] cp1 from hout 16 rfl]
              rw [show T 17 = .slice (some ⟨w1.heap.size, 0, none⟩) 1 1 from hout 17 rfl]
              rw [show T 18 = .int .i64 (firstE [firstE [r1, r2]]) from hout 18 rfl]
              rw [show T 19 = .int .i64 (firstE [firstE [r1, r2]]) from hout 19 rfl]
              rw [show T 20 = .bool false from hout 20 rfl]
              rw [show T 22 = .tuple #[.func (.func 76) #[] #[.pointer (some ⟨g3, 0, none⟩)], .func (.func 77) #[] #[.pointer (some ⟨g3, 0, none⟩)]] from hout 22 rfl]
              rw [show T 23 = .pointer (some ⟨w.heap.size, 3, none⟩) from hout 23 rfl]
              rw [show T 24 = .tuple #[.func (.func 76) #[] #[.pointer (some ⟨g3, 0, none⟩)], .func (.func 77) #[] #[.pointer (some ⟨g3, 0, none⟩)]] from hout 24 rfl]
              rw [show T 25 = .func (.func 76) #[] #[.pointer (some ⟨g3, 0, none⟩)] from hout 25 rfl]
              rw [show T 26 = .func (.func 77) #[] #[.pointer (some ⟨g3, 0, none⟩)] from hout 26 rfl]
              rw [show T 27 = .tuple #[.func (.func 76) #[] #[.pointer (some ⟨g4, 0, none⟩)], .func (.func 77) #[] #[.pointer (some ⟨g4, 0, none⟩)]] from hout 27 rfl]
              rw [show T 28 = .pointer (some ⟨w.heap.size + 1, 3, none⟩) from hout 28 rfl]
              rw [show T 29 = .tuple #[.func (.func 76) #[] #[.pointer (some ⟨g4, 0, none⟩)], .func (.func 77) #[] #[.pointer (some ⟨g4, 0, none⟩)]] from hout 29 rfl]
              rw [show T 30 = .func (.func 76) #[] #[.pointer (some ⟨g4, 0, none⟩)] from hout 30 rfl]
              rw [show T 31 = .func (.func 77) #[] #[.pointer (some ⟨g4, 0, none⟩)] from hout 31 rfl]
              rw [show T 32 = .int .i64 (i : Int) from hout 32 rfl]
              rw [show T 33 = .bool true from hout 33 rfl]
              rw [show T 34 = .int .i64 (i : Int) from hout 34 rfl]
              rw [show T 35 = .func (.func 76) #[] #[.pointer (some ⟨g3, 0, none⟩)] from hout 35 rfl]
              rw [show T 36 = .int .i64 (i : Int) from hout 36 rfl]
              rw [show T 37 = .int .i64 (co3 x y z i) from hout 37 rfl]
              rw [show T 38 = .func (.func 76) #[] #[.pointer (some ⟨g4, 0, none⟩)] from hout 38 rfl]
              rw [show T 39 = .int .i64 (i : Int) from hout 39 rfl]
              rw [show T 40 = .int .i64 (co3 x2 y2 z2 i) from hout 40 rfl]
              rw [show T 41 = .int .i64 (ap i) from hout 41 rfl]
              rw [show T 61 = .bool (decide (sm < (am i))) from hval 19 (by decide : 19 < 20)]
              rw [show T 21 = undef from hout 21 rfl]
              replace b1 := b1.kx hG (by simp)
              replace b2 := b2.kx hG (by simp)
              replace b3 := b3.kx hG (by simp)
              replace b4 := b4.kx hG (by simp)
              replace p3 := p3.kx hG (by simp)
              replace p4 := p4.kx hG (by simp)
              replace kx := (show Kb _ _ from kx.drew).trans hG.nil
              replace gl := gl0.out.kb kx
              clear hout hval hG
              go_wp2
              go_ret2
              exact ⟨by rw [any3_t (i := i) (by omega) (show fpR oa ob am sm i = true by simp [fpR, h3, h4, h5])]; rfl, kx⟩
          · skip
            have en1 := (enters_of Tryd.func76 (by kernel_rfl) rfl : ∀ args W, (callFunc 76 args).run Tryd.prog W = .ok (.enter 76 args) W)
            go_wp2_with fail
            (with_reducible refine (cReadN _ _ i (by omega) _ _ _ _ _ _ _ _ _ 0 _ _ p3 b1 rfl).mono ?_)
            rintro r w5 ⟨rfl, k5⟩
            replace gl := gl.kb k5
            replace b1 := b1.kb k5
            replace b2 := b2.kb k5
            replace b3 := b3.kb k5
            replace b4 := b4.kb k5
            replace p3 := p3.kb k5
            replace p4 := p4.kb k5
            replace kx := kx.trans k5
            have s5 := k5.size
            skip
            clear k5
            have en2 := (enters_of Tryd.func76 (by kernel_rfl) rfl : ∀ args W, (callFunc 76 args).run Tryd.prog W = .ok (.enter 76 args) W)
            go_wp2_with fail
            (with_reducible refine (cReadN _ _ i (by omega) _ _ _ _ _ _ _ _ _ 0 _ _ p4 b2 rfl).mono ?_)
            rintro r w6 ⟨rfl, k6⟩
            replace gl := gl.kb k6
            replace b1 := b1.kb k6
            replace b2 := b2.kb k6
            replace b3 := b3.kb k6
            replace b4 := b4.kb k6
            replace p3 := p3.kb k6
            replace p4 := p4.kb k6
            replace kx := kx.trans k6
            have s6 := k6.size
            skip
            clear k6
            have y21 : wrap64 ((co3 x y z i) - (co3 x2 y2 z2 i)) = (ap i) := hap i
            have y21' : IntKind.i64.wrap ((co3 x y z i) - (co3 x2 y2 z2 i)) = (ap i) := (Go.IntWalk.i64_left _).trans y21
            go_wp2_with fail
            have y22 : wrap64 (-(ap i)) = (an i) := han i
            have y22' : IntKind.i64.wrap (-(ap i)) = (an i) := (Go.IntWalk.i64_left _).trans y22
            have y23 : max (ap i) (an i) = (am i) := ham i
            have y24 : wrap64 (ra + rb) = sm := hsm
            have y24' : IntKind.i64.wrap (ra + rb) = sm := (Go.IntWalk.i64_left _).trans y24
            replace gl := gl.drew
            replace b1 := b1.drew
            replace b2 := b2.drew
            replace b3 := b3.drew
            replace b4 := b4.drew
            replace p3 := p3.drew
            replace p4 := p4.drew
            rw [oF_lit]
            refine o_law (⟨63, [some 42, some 43, some 44, some 45, some 46, some 47, some 48, some 49, some 50, some 51, some 52, some 53, some 54, some 55, some 56, some 57, some 58, some 59, some 60, some 61], [42, 43, 44, 45, 46, 47, 48, 49, 50, 51, 52, 53, 54, 55, 56, 57, 58, 59, 60, 61], [[], [], [0, 1], [2], [3], [3], [4, 5, 3], [3, 6], [7], [8], [8], [10, 8], [9, 11, 8], [8], [13, 8], [8], [15, 8], [14, 16, 8], [12, 17, 8], [8, 18]], [[2], [11], [], [], [3], [11], [], [], [], [12], [12], [], [], [2], [], [3], [], [], [], []]⟩ : OT) (Kx []) (RL [fun vv _ => vv = .agg #[.string n, .int .i64 k, .int .i64 a, .int .i64 x, .int .i64 y, .int .i64 z, .int .i64 lo, .int .i64 hi, .slice fp fl fc], fun vv _ => vv = .int .i64 (i : Int), fun vv _ => vv = .bool true, fun vv _ => vv = .bool true, fun vv _ => true = true → vv = .agg #[.string n2, .int .i64 k2, .int .i64 a2, .int .i64 x2, .int .i64 y2, .int .i64 z2, .int .i64 lo2, .int .i64 hi2, .slice fp2 fl2 fc2], fun vv _ => true = true → vv = .int .i64 (i : Int), fun vv _ => true = true → vv = .bool true, fun vv _ => vv = .bool true, fun vv _ => vv = .bool true, fun vv _ => true = true → vv = .int .i64 (ap i), fun vv _ => true = true → vv = .int .i64 (ap i), fun vv _ => true = true → vv = .int .i64 (an i), fun vv _ => true = true → vv = .int .i64 (am i), fun vv _ => true = true → vv = .agg #[.string n, .int .i64 k, .int .i64 a, .int .i64 x, .int .i64 y, .int .i64 z, .int .i64 lo, .int .i64 hi, .slice fp fl fc], fun vv _ => true = true → vv = .int .i64 ra, fun vv _ => true = true → vv = .agg #[.string n2, .int .i64 k2, .int .i64 a2, .int .i64 x2, .int .i64 y2, .int .i64 z2, .int .i64 lo2, .int .i64 hi2, .slice fp2 fl2 fc2], fun vv _ => true = true → vv = .int .i64 rb, fun vv _ => true = true → vv = .int .i64 sm, fun vv _ => true = true → vv = .bool (decide (sm < (am i))), fun vv _ => vv = .bool (decide (sm < (am i)))]) (by kernel_rfl) ?hk ?hR ?fin
            case hk => kernel_rfl
            case hR =>
              refine ⟨fun _ => (Kx.refl _ _), fun _ _ _ => Kx.trans, rl_stab ⟨fun _ _ _ _ h => h, fun _ _ _ _ h => h, fun _ _ _ _ h => h, fun _ _ _ _ h => h, fun _ _ _ _ h => h, fun _ _ _ _ h => h, fun _ _ _ _ h => h, fun _ _ _ _ h => h, fun _ _ _ _ h => h, fun _ _ _ _ h => h, fun _ _ _ _ h => h, fun _ _ _ _ h => h, fun _ _ _ _ h => h, fun _ _ _ _ h => h, fun _ _ _ _ h => h, fun _ _ _ _ h => h, fun _ _ _ _ h => h, fun _ _ _ _ h => h, fun _ _ _ _ h => h, fun _ _ _ _ h => h, trivial⟩, ?_⟩
              refine allO_cons ?_ (allO_cons ?_ (allO_cons ?_ (allO_cons ?_ (allO_cons ?_ (allO_cons ?_ (allO_cons ?_ (allO_cons ?_ (allO_cons ?_ (allO_cons ?_ (allO_cons ?_ (allO_cons ?_ (allO_cons ?_ (allO_cons ?_ (allO_cons ?_ (allO_cons ?_ (allO_cons ?_ (allO_cons ?_ (allO_cons ?_ (allO_cons ?_ (allO_nil))))))))))))))))))))
              · intro T w9 hG hD hO Q
                have q0 := hO.1
                have e0 : (oF 63 T).eval (.tmp 2) = .pointer (some ⟨w.heap.size, 0, none⟩) := (oF_eval (by decide)).trans (show T 2 = _ from q0)
                refine og_none rfl ?_
                have im := b1.kx hG (by simp)
                have m0 := im.c (i := 0) rfl
                have m1 := im.c (i := 1) rfl
                have m2 := im.c (i := 2) rfl
                have m3 := im.c (i := 3) rfl
                have m4 := im.c (i := 4) rfl
                have m5 := im.c (i := 5) rfl
                have m6 := im.c (i := 6) rfl
                have m7 := im.c (i := 7) rfl
                have m8 := im.c (i := 8) rfl
                clear im
                exact o_val (v := .agg #[.string n, .int .i64 k, .int .i64 a, .int .i64 x, .int .i64 y, .int .i64 z, .int .i64 lo, .int .i64 hi, .slice fp fl fc]) (w' := w9) (by generalize (oF 63 T).eval = rr at *; simp [execOp, go_sem, e0, m0, m1, m2, m3, m4, m5, m6, m7, m8]) rfl rfl (Kx.refl _ _)
              · intro T w9 hG hD hO Q
                have q0 := hO.1
                have e0 : (oF 63 T).eval (.tmp 11) = .int .i64 (i : Int) := (oF_eval (by decide)).trans (show T 11 = _ from q0)
                refine og_none rfl ?_
                exact o_val (v := .int .i64 (i : Int)) (w' := w9) (by generalize (oF 63 T).eval = rr at *; simp [execOp, go_sem, e0]) rfl rfl (Kx.refl _ _)
              · intro T w9 hG hD hO Q
                have d0 := hD.1
                have d1 := hD.2.1
                have e0 : (oF 63 T).eval (.func 51) = .func (.func 51) #[] #[] := rfl
                have e1 : (oF 63 T).eval (.tmp 42) = .agg #[.string n, .int .i64 k, .int .i64 a, .int .i64 x, .int .i64 y, .int .i64 z, .int .i64 lo, .int .i64 hi, .slice fp fl fc] := (oF_eval (by decide)).trans (show T 42 = _ from d0)
                have e2 : (oF 63 T).eval (.tmp 43) = .int .i64 (i : Int) := (oF_eval (by decide)).trans (show T 43 = _ from d1)
                refine og_none rfl ?_
                refine o_call (oc2 (enters_of Tryd.func51 (by kernel_rfl) rfl) rfl rfl e1 e2) rfl ?_
                exact (Cg.out (qa i (by omega)) w9 (gl.kx hG (by simp))).mono fun r W' h => ⟨_, h.1, (show Value.bool (oa i) = .bool true by rw [h3]), h.2.kx⟩
              · intro T w9 hG hD hO Q
                have d0 := hD.1
                have e0 : (oF 63 T).eval (.tmp 44) = .bool true := (oF_eval (by decide)).trans (show T 44 = _ from d0)
                refine og_none rfl ?_
                exact o_val (v := .bool true) (w' := w9) (by generalize (oF 63 T).eval = rr at *; simp [execOp, go_sem, e0]) rfl rfl (Kx.refl _ _)
              · intro T w9 hG hD hO Q
                have d0 := hD.1
                have q0 := hO.1
                have e0 : (oF 63 T).eval (.tmp 3) = .pointer (some ⟨w.heap.size + 1, 0, none⟩) := (oF_eval (by decide)).trans (show T 3 = _ from q0)
                refine og_some (b := true) (c := true) rfl (show T 45 = _ from d0) (fun hc => ?_) (fun hc h => absurd h hc)
                have im := b2.kx hG (by simp)
                have m0 := im.c (i := 0) rfl
                have m1 := im.c (i := 1) rfl
                have m2 := im.c (i := 2) rfl
                have m3 := im.c (i := 3) rfl
                have m4 := im.c (i := 4) rfl
                have m5 := im.c (i := 5) rfl
                have m6 := im.c (i := 6) rfl
                have m7 := im.c (i := 7) rfl
                have m8 := im.c (i := 8) rfl
                clear im
                exact o_val (v := .agg #[.string n2, .int .i64 k2, .int .i64 a2, .int .i64 x2, .int .i64 y2, .int .i64 z2, .int .i64 lo2, .int .i64 hi2, .slice fp2 fl2 fc2]) (w' := w9) (by generalize (oF 63 T).eval = rr at *; simp [execOp, go_sem, e0, m0, m1, m2, m3, m4, m5, m6, m7, m8]) rfl (fun _ => rfl) (Kx.refl _ _)
              · intro T w9 hG hD hO Q
                have d0 := hD.1
                have q0 := hO.1
                have e0 : (oF 63 T).eval (.tmp 11) = .int .i64 (i : Int) := (oF_eval (by decide)).trans (show T 11 = _ from q0)
                refine og_some (b := true) (c := true) rfl (show T 45 = _ from d0) (fun hc => ?_) (fun hc h => absurd h hc)
                exact o_val (v := .int .i64 (i : Int)) (w' := w9) (by generalize (oF 63 T).eval = rr at *; simp [execOp, go_sem, e0]) rfl (fun _ => rfl) (Kx.refl _ _)
              · intro T w9 hG hD hO Q
                have d0 := hD.1
                have d1 := hD.2.1
                have d2 := hD.2.2.1
                have e0 : (oF 63 T).eval (.func 51) = .func (.func 51) #[] #[] := rfl
                have G1 : true = true → T 46 = .agg #[.string n2, .int .i64 k2, .int .i64 a2, .int .i64 x2, .int .i64 y2, .int .i64 z2, .int .i64 lo2, .int .i64 hi2, .slice fp2 fl2 fc2] := d0
                have G2 : true = true → T 47 = .int .i64 (i : Int) := d1
                refine og_some (b := true) (c := true) rfl (show T 45 = _ from d2) (fun hc => ?_) (fun hc h => absurd h hc)
                have e1 : (oF 63 T).eval (.tmp 46) = .agg #[.string n2, .int .i64 k2, .int .i64 a2, .int .i64 x2, .int .i64 y2, .int .i64 z2, .int .i64 lo2, .int .i64 hi2, .slice fp2 fl2 fc2] := (oF_eval (by decide)).trans (G1 hc)
                have e2 : (oF 63 T).eval (.tmp 47) = .int .i64 (i : Int) := (oF_eval (by decide)).trans (G2 hc)
                refine o_call (oc2 (enters_of Tryd.func51 (by kernel_rfl) rfl) rfl rfl e1 e2) rfl ?_
                exact (Cg.out (qb i (by omega)) w9 (gl.kx hG (by simp))).mono fun r W' h => ⟨_, h.1, fun _ => (show Value.bool (ob i) = .bool true by rw [h4]), h.2.kx⟩
              · intro T w9 hG hD hO Q
                have d0 := hD.1
                have d1 := hD.2.1
                have e0 : (oF 63 T).eval (.tmp 45) = .bool true := (oF_eval (by decide)).trans (show T 45 = _ from d0)
                have G1 : true = true → T 48 = .bool true := d1
                have e1 : (oF 63 T).eval (.tmp 48) = T 48 := oF_eval (by decide)
                have e2 : (oF 63 T).eval (.const (.bool false)) = .bool false := rfl
                refine og_none rfl ?_
                rw [G1 rfl] at e1
                exact o_val (v := .bool true) (w' := w9) (by generalize (oF 63 T).eval = rr at *; simp [execOp, go_sem, e0, e1]) rfl rfl (Kx.refl _ _)
              · intro T w9 hG hD hO Q
                have d0 := hD.1
                have e0 : (oF 63 T).eval (.tmp 49) = .bool true := (oF_eval (by decide)).trans (show T 49 = _ from d0)
                refine og_none rfl ?_
                exact o_val (v := .bool true) (w' := w9) (by generalize (oF 63 T).eval = rr at *; simp [execOp, go_sem, e0]) rfl rfl (Kx.refl _ _)
              · intro T w9 hG hD hO Q
                have d0 := hD.1
                have q0 := hO.1
                have e0 : (oF 63 T).eval (.tmp 12) = .int .i64 (ap i) := (oF_eval (by decide)).trans (show T 12 = _ from q0)
                refine og_some (b := true) (c := true) rfl (show T 50 = _ from d0) (fun hc => ?_) (fun hc h => absurd h hc)
                exact o_val (v := .int .i64 (ap i)) (w' := w9) (by generalize (oF 63 T).eval = rr at *; simp [execOp, go_sem, e0]) rfl (fun _ => rfl) (Kx.refl _ _)
              · intro T w9 hG hD hO Q
                have d0 := hD.1
                have q0 := hO.1
                have e0 : (oF 63 T).eval (.tmp 12) = .int .i64 (ap i) := (oF_eval (by decide)).trans (show T 12 = _ from q0)
                refine og_some (b := true) (c := true) rfl (show T 50 = _ from d0) (fun hc => ?_) (fun hc h => absurd h hc)
                exact o_val (v := .int .i64 (ap i)) (w' := w9) (by generalize (oF 63 T).eval = rr at *; simp [execOp, go_sem, e0]) rfl (fun _ => rfl) (Kx.refl _ _)
              · intro T w9 hG hD hO Q
                have d0 := hD.1
                have d1 := hD.2.1
                have G0 : true = true → T 52 = .int .i64 (ap i) := d0
                refine og_some (b := true) (c := true) rfl (show T 50 = _ from d1) (fun hc => ?_) (fun hc h => absurd h hc)
                have e0 : (oF 63 T).eval (.tmp 52) = .int .i64 (ap i) := (oF_eval (by decide)).trans (G0 hc)
                exact o_val (v := .int .i64 (an i)) (w' := w9) (by generalize (oF 63 T).eval = rr at *; simp [execOp, go_sem, e0, y22']) rfl (fun _ => rfl) (Kx.refl _ _)
              · intro T w9 hG hD hO Q
                have d0 := hD.1
                have d1 := hD.2.1
                have d2 := hD.2.2.1
                have G0 : true = true → T 51 = .int .i64 (ap i) := d0
                have G1 : true = true → T 53 = .int .i64 (an i) := d1
                refine og_some (b := true) (c := true) rfl (show T 50 = _ from d2) (fun hc => ?_) (fun hc h => absurd h hc)
                have e0 : (oF 63 T).eval (.tmp 51) = .int .i64 (ap i) := (oF_eval (by decide)).trans (G0 hc)
                have e1 : (oF 63 T).eval (.tmp 53) = .int .i64 (an i) := (oF_eval (by decide)).trans (G1 hc)
                exact o_val (v := .int .i64 (am i)) (w' := w9) (by generalize (oF 63 T).eval = rr at *; simp [go_sem, e0, e1, y23]) rfl (fun _ => rfl) (Kx.refl _ _)
              · intro T w9 hG hD hO Q
                have d0 := hD.1
                have q0 := hO.1
                have e0 : (oF 63 T).eval (.tmp 2) = .pointer (some ⟨w.heap.size, 0, none⟩) := (oF_eval (by decide)).trans (show T 2 = _ from q0)
                refine og_some (b := true) (c := true) rfl (show T 50 = _ from d0) (fun hc => ?_) (fun hc h => absurd h hc)
                have im := b1.kx hG (by simp)
                have m0 := im.c (i := 0) rfl
                have m1 := im.c (i := 1) rfl
                have m2 := im.c (i := 2) rfl
                have m3 := im.c (i := 3) rfl
                have m4 := im.c (i := 4) rfl
                have m5 := im.c (i := 5) rfl
                have m6 := im.c (i := 6) rfl
                have m7 := im.c (i := 7) rfl
                have m8 := im.c (i := 8) rfl
                clear im
                exact o_val (v := .agg #[.string n, .int .i64 k, .int .i64 a, .int .i64 x, .int .i64 y, .int .i64 z, .int .i64 lo, .int .i64 hi, .slice fp fl fc]) (w' := w9) (by generalize (oF 63 T).eval = rr at *; simp [execOp, go_sem, e0, m0, m1, m2, m3, m4, m5, m6, m7, m8]) rfl (fun _ => rfl) (Kx.refl _ _)
              · intro T w9 hG hD hO Q
                have d0 := hD.1
                have d1 := hD.2.1
                have e0 : (oF 63 T).eval (.func 54) = .func (.func 54) #[] #[] := rfl
                have G1 : true = true → T 55 = .agg #[.string n, .int .i64 k, .int .i64 a, .int .i64 x, .int .i64 y, .int .i64 z, .int .i64 lo, .int .i64 hi, .slice fp fl fc] := d0
                refine og_some (b := true) (c := true) rfl (show T 50 = _ from d1) (fun hc => ?_) (fun hc h => absurd h hc)
                have e1 : (oF 63 T).eval (.tmp 55) = .agg #[.string n, .int .i64 k, .int .i64 a, .int .i64 x, .int .i64 y, .int .i64 z, .int .i64 lo, .int .i64 hi, .slice fp fl fc] := (oF_eval (by decide)).trans (G1 hc)
                refine o_call (oc1 (enters_of Tryd.func54 (by kernel_rfl) rfl) rfl rfl e1) rfl ?_
                exact (q3.out w9).mono fun r W' h => ⟨_, h.1, (fun _ => rfl), h.2.kx⟩
              · intro T w9 hG hD hO Q
                have d0 := hD.1
                have q0 := hO.1
                have e0 : (oF 63 T).eval (.tmp 3) = .pointer (some ⟨w.heap.size + 1, 0, none⟩) := (oF_eval (by decide)).trans (show T 3 = _ from q0)
                refine og_some (b := true) (c := true) rfl (show T 50 = _ from d0) (fun hc => ?_) (fun hc h => absurd h hc)
                have im := b2.kx hG (by simp)
                have m0 := im.c (i := 0) rfl
                have m1 := im.c (i := 1) rfl
                have m2 := im.c (i := 2) rfl
                have m3 := im.c (i := 3) rfl
                have m4 := im.c (i := 4) rfl
                have m5 := im.c (i := 5) rfl
                have m6 := im.c (i := 6) rfl
                have m7 := im.c (i := 7) rfl
                have m8 := im.c (i := 8) rfl
                clear im
                exact o_val (v := .agg #[.string n2, .int .i64 k2, .int .i64 a2, .int .i64 x2, .int .i64 y2, .int .i64 z2, .int .i64 lo2, .int .i64 hi2, .slice fp2 fl2 fc2]) (w' := w9) (by generalize (oF 63 T).eval = rr at *; simp [execOp, go_sem, e0, m0, m1, m2, m3, m4, m5, m6, m7, m8]) rfl (fun _ => rfl) (Kx.refl _ _)
              · intro T w9 hG hD hO Q
                have d0 := hD.1
                have d1 := hD.2.1
                have e0 : (oF 63 T).eval (.func 54) = .func (.func 54) #[] #[] := rfl
                have G1 : true = true → T 57 = .agg #[.string n2, .int .i64 k2, .int .i64 a2, .int .i64 x2, .int .i64 y2, .int .i64 z2, .int .i64 lo2, .int .i64 hi2, .slice fp2 fl2 fc2] := d0
                refine og_some (b := true) (c := true) rfl (show T 50 = _ from d1) (fun hc => ?_) (fun hc h => absurd h hc)
                have e1 : (oF 63 T).eval (.tmp 57) = .agg #[.string n2, .int .i64 k2, .int .i64 a2, .int .i64 x2, .int .i64 y2, .int .i64 z2, .int .i64 lo2, .int .i64 hi2, .slice fp2 fl2 fc2] := (oF_eval (by decide)).trans (G1 hc)
                refine o_call (oc1 (enters_of Tryd.func54 (by kernel_rfl) rfl) rfl rfl e1) rfl ?_
                exact (q4.out w9).mono fun r W' h => ⟨_, h.1, (fun _ => rfl), h.2.kx⟩
              · intro T w9 hG hD hO Q
                have d0 := hD.1
                have d1 := hD.2.1
                have d2 := hD.2.2.1
                have G0 : true = true → T 56 = .int .i64 ra := d0
                have G1 : true = true → T 58 = .int .i64 rb := d1
                refine og_some (b := true) (c := true) rfl (show T 50 = _ from d2) (fun hc => ?_) (fun hc h => absurd h hc)
                have e0 : (oF 63 T).eval (.tmp 56) = .int .i64 ra := (oF_eval (by decide)).trans (G0 hc)
                have e1 : (oF 63 T).eval (.tmp 58) = .int .i64 rb := (oF_eval (by decide)).trans (G1 hc)
                exact o_val (v := .int .i64 sm) (w' := w9) (by generalize (oF 63 T).eval = rr at *; simp [execOp, go_sem, e0, e1, y24']) rfl (fun _ => rfl) (Kx.refl _ _)
              · intro T w9 hG hD hO Q
                have d0 := hD.1
                have d1 := hD.2.1
                have d2 := hD.2.2.1
                have G0 : true = true → T 54 = .int .i64 (am i) := d0
                have G1 : true = true → T 59 = .int .i64 sm := d1
                refine og_some (b := true) (c := true) rfl (show T 50 = _ from d2) (fun hc => ?_) (fun hc h => absurd h hc)
                have e0 : (oF 63 T).eval (.tmp 54) = .int .i64 (am i) := (oF_eval (by decide)).trans (G0 hc)
                have e1 : (oF 63 T).eval (.tmp 59) = .int .i64 sm := (oF_eval (by decide)).trans (G1 hc)
                exact o_val (v := .bool (decide (sm < (am i)))) (w' := w9) (by generalize (oF 63 T).eval = rr at *; simp [execOp, go_sem, e0, e1]) rfl (fun _ => rfl) (Kx.refl _ _)
              · intro T w9 hG hD hO Q
                have d0 := hD.1
                have d1 := hD.2.1
                have e0 : (oF 63 T).eval (.tmp 50) = .bool true := (oF_eval (by decide)).trans (show T 50 = _ from d0)
                have G1 : true = true → T 60 = .bool (decide (sm < (am i))) := d1
                have e1 : (oF 63 T).eval (.tmp 60) = T 60 := oF_eval (by decide)
                have e2 : (oF 63 T).eval (.const (.bool false)) = .bool false := rfl
                refine og_none rfl ?_
                rw [G1 rfl] at e1
                exact o_val (v := .bool (decide (sm < (am i)))) (w' := w9) (by generalize (oF 63 T).eval = rr at *; simp [execOp, go_sem, e0, e1]) rfl rfl (Kx.refl _ _)
            case fin =>
              intro T w7 hout hval hG
              have s7 := hG.2.2.2.1
              simp only [World.size_drew] at s7
              rw [show oF 63 T = (⟨#[T 0, T 1, T 2, T 3, T 4, T 5, T 6, T 7, T 8, T 9, T 10, T 11, T 12, T 13, T 14, T 15, T 16, T 17, T 18, T 19, T 20, T 21, T 22, T 23, T 24, T 25, T 26, T 27, T 28, T 29, T 30, T 31, T 32, T 33, T 34, T 35, T 36, T 37, T 38, T 39, T 40, T 41, T 42, T 43, T 44, T 45, T 46, T 47, T 48, T 49, T 50, T 51, T 52, T 53, T 54, T 55, T 56, T 57, T 58, T 59, T 60, T 61, T 62], []⟩ : Act) from oF_list 63 T]
              rw [show T 0 = .agg #[.string n, .int .i64 k, .int .i64 a, .int .i64 x, .int .i64 y, .int .i64 z, .int .i64 lo, .int .i64 hi, .slice fp fl fc] from hout 0 rfl]
              rw [show T 1 = .agg #[.string n2, .int .i64 k2, .int .i64 a2, .int .i64 x2, .int .i64 y2, .int .i64 z2, .int .i64 lo2, .int .i64 hi2, .slice fp2 fl2 fc2] from hout 1 rfl]
              rw [show T 2 = .pointer (some ⟨w.heap.size, 0, none⟩) from hout 2 rfl]
              rw [show T 3 = .pointer (some ⟨w.heap.size + 1, 0, none⟩) from hout 3 rfl]
              rw [show T 6 = .int .i64 (firstE [firstE [r1, r2]]) from hout 6 rfl]
              rw [show T 7 = .func (.func 76) #[] #[.pointer (some ⟨g3, 0, none⟩)] from hout 7 rfl]
              rw [show T 8 = .func (.func 77) #[] #[.pointer (some ⟨g3, 0, none⟩)] from hout 8 rfl]
              rw [show T 9 = .func (.func 76) #[] #[.pointer (some ⟨g4, 0, none⟩)] from hout 9 rfl]
              rw [show T 10 = .func (.func 77) #[] #[.pointer (some ⟨g4, 0, none⟩)] from hout 10 rfl]
              rw [show T 11 = .int .i64 (i : Int) from hout 11 rfl]
              rw [show T 12 = .int .i64 (ap i) from hout 12 rfl]
              rw [show T 13 = .agg #[.string n, .int .i64 k, .int .i64 a, .int .i64 x, .int .i64 y, .int .i64 z, .int .i64 lo, .int .i64 hi, .slice fp fl fc] from hout 13 rfl]
              rw [show T 14 = .agg #[.string n2, .int .i64 k2, .int .i64 a2, .int .i64 x2, .int .i64 y2, .int .i64 z2, .int .i64 lo2, .int .i64 hi2, .slice fp2 fl2 fc2] from hout 14 rfl]
              rw [show T 15 = .slice (some ⟨w.heap.size + 1 + 1, 0, none⟩) 2 2 from hout 15 rfl]
              rw [show T 16 = .func (.func F1) #[] cp1 from hout 16 rfl]
              rw [show T 17 = .slice (some ⟨w1.heap.size, 0, none⟩) 1 1 from hout 17 rfl]
              rw [show T 18 = .int .i64 (firstE [firstE [r1, r2]]) from hout 18 rfl]
              rw [show T 19 = .int .i64 (firstE [firstE [r1, r2]]) from hout 19 rfl]
              rw [show T 20 = .bool false from hout 20 rfl]
              rw [show T 22 = .tuple #[.func (.func 76) #[] #[.pointer (some ⟨g3, 0, none⟩)], .func (.func 77) #[] #[.pointer (some ⟨g3, 0, none⟩)]] from hout 22 rfl]
              rw [show T 23 = .pointer (some ⟨w.heap.size, 3, none⟩) from hout 23 rfl]
              rw [show T 24 = .tuple #[.func (.func 76) #[] #[.pointer (some ⟨g3, 0, none⟩)], .func (.func 77) #[] #[.pointer (some ⟨g3, 0, none⟩)]] from hout 24 rfl]
              rw [show T 25 = .func (.func 76) #[] #[.pointer (some ⟨g3, 0, none⟩)] from hout 25 rfl]
              rw [show T 26 = .func (.func 77) #[] #[.pointer (some ⟨g3, 0, none⟩)] from hout 26 rfl]
              rw [show T 27 = .tuple #[.func (.func 76) #[] #[.pointer (some ⟨g4, 0, none⟩)], .func (.func 77) #[] #[.pointer (some ⟨g4, 0, none⟩)]] from hout 27 rfl]
              rw [show T 28 = .pointer (some ⟨w.heap.size + 1, 3, none⟩) from hout 28 rfl]
              rw [show T 29 = .tuple #[.func (.func 76) #[] #[.pointer (some ⟨g4, 0, none⟩)], .func (.func 77) #[] #[.pointer (some ⟨g4, 0, none⟩)]] from hout 29 rfl]
              rw [show T 30 = .func (.func 76) #[] #[.pointer (some ⟨g4, 0, none⟩)] from hout 30 rfl]
              rw [show T 31 = .func (.func 77) #[] #[.pointer (some ⟨g4, 0, none⟩)] from hout 31 rfl]
              rw [show T 32 = .int .i64 (i : Int) from hout 32 rfl]
              rw [show T 33 = .bool true from hout 33 rfl]
              rw [show T 34 = .int .i64 (i : Int) from hout 34 rfl]
              rw [show T 35 = .func (.func 76) #[] #[.pointer (some ⟨g3, 0, none⟩)] from hout 35 rfl]
              rw [show T 36 = .int .i64 (i : Int) from hout 36 rfl]
              rw [show T 37 = .int .i64 (co3 x y z i) from hout 37 rfl]
              rw [show T 38 = .func (.func 76) #[] #[.pointer (some ⟨g4, 0, none⟩)] from hout 38 rfl]
              rw [show T 39 = .int .i64 (i : Int) from hout 39 rfl]
              rw [show T 40 = .int .i64 (co3 x2 y2 z2 i) from hout 40 rfl]
              rw [show T 41 = .int .i64 (ap i) from hout 41 rfl]
              rw [show T 61 = .bool (decide (sm < (am i))) from hval 19 (by decide : 19 < 20)]
              rw [show T 21 = undef from hout 21 rfl]
              replace b1 := b1.kx hG (by simp)
              replace b2 := b2.kx hG (by simp)
              replace b3 := b3.kx hG (by simp)
              replace b4 := b4.kx hG (by simp)
              replace p3 := p3.kx hG (by simp)
              replace p4 := p4.kx hG (by simp)
              replace kx := (show Kb _ _ from kx.drew).trans hG.nil
              replace gl := gl0.out.kb kx
              clear hout hval hG
              go_wp2_with fail
              have hqi := Hi.out
              go_roundg (gk - 1)
              case measure => omega
              case rel => exact ⟨i + 1, by go_num, by omega, Lib.hid (upto_succ Ei.out (by simp [fpR, h3, h4, h5])), b1, b2, b3, b4, p3, p4, kx⟩
        · skip
          have en1 := (enters_of Tryd.func76 (by kernel_rfl) rfl : ∀ args W, (callFunc 76 args).run Tryd.prog W = .ok (.enter 76 args) W)
          go_wp2_with fail
          (with_reducible refine (cReadN _ _ i (by omega) _ _ _ _ _ _ _ _ _ 0 _ _ p3 b1 rfl).mono ?_)
          rintro r w5 ⟨rfl, k5⟩
          replace gl := gl.kb k5
          replace b1 := b1.kb k5
          replace b2 := b2.kb k5
          replace b3 := b3.kb k5
          replace b4 := b4.kb k5
          replace p3 := p3.kb k5
          replace p4 := p4.kb k5
          replace kx := kx.trans k5
          have s5 := k5.size
          skip
          clear k5
          have en2 := (enters_of Tryd.func76 (by kernel_rfl) rfl : ∀ args W, (callFunc 76 args).run Tryd.prog W = .ok (.enter 76 args) W)
          go_wp2_with fail
          (with_reducible refine (cReadN _ _ i (by omega) _ _ _ _ _ _ _ _ _ 0 _ _ p4 b2 rfl).mono ?_)
          rintro r w6 ⟨rfl, k6⟩
          replace gl := gl.kb k6
          replace b1 := b1.kb k6
          replace b2 := b2.kb k6
          replace b3 := b3.kb k6
          replace b4 := b4.kb k6
          replace p3 := p3.kb k6
          replace p4 := p4.kb k6
          replace kx := kx.trans k6
          have s6 := k6.size
          skip
          clear k6
          have y21 : wrap64 ((co3 x y z i) - (co3 x2 y2 z2 i)) = (ap i) := hap i
          have y21' : IntKind.i64.wrap ((co3 x y z i) - (co3 x2 y2 z2 i)) = (ap i) := (Go.IntWalk.i64_left _).trans y21
          go_wp2_with fail
          have y22 : wrap64 (-(ap i)) = (an i) := han i
          have y22' : IntKind.i64.wrap (-(ap i)) = (an i) := (Go.IntWalk.i64_left _).trans y22
          have y23 : max (ap i) (an i) = (am i) := ham i
          have y24 : wrap64 (ra + rb) = sm := hsm
          have y24' : IntKind.i64.wrap (ra + rb) = sm := (Go.IntWalk.i64_left _).trans y24
          replace gl := gl.drew
          replace b1 := b1.drew
          replace b2 := b2.drew
          replace b3 := b3.drew
          replace b4 := b4.drew
          replace p3 := p3.drew
          replace p4 := p4.drew
          rw [oF_lit]
          refine o_law (⟨63, [some 42, some 43, some 44, some 45, some 46, some 47, some 48, some 49, some 50, some 51, some 52, some 53, some 54, some 55, some 56, some 57, some 58, some 59, some 60, some 61], [42, 43, 44, 45, 46, 47, 48, 49, 50, 51, 52, 53, 54, 55, 56, 57, 58, 59, 60, 61], [[], [], [0, 1], [2], [3], [3], [4, 5, 3], [3, 6], [7], [8], [8], [10, 8], [9, 11, 8], [8], [13, 8], [8], [15, 8], [14, 16, 8], [12, 17, 8], [8, 18]], [[2], [11], [], [], [3], [11], [], [], [], [12], [12], [], [], [2], [], [3], [], [], [], []]⟩ : OT) (Kx []) (RL [fun vv _ => vv = .agg #[.string n, .int .i64 k, .int .i64 a, .int .i64 x, .int .i64 y, .int .i64 z, .int .i64 lo, .int .i64 hi, .slice fp fl fc], fun vv _ => vv = .int .i64 (i : Int), fun vv _ => vv = .bool true, fun vv _ => vv = .bool true, fun vv _ => true = true → vv = .agg #[.string n2, .int .i64 k2, .int .i64 a2, .int .i64 x2, .int .i64 y2, .int .i64 z2, .int .i64 lo2, .int .i64 hi2, .slice fp2 fl2 fc2], fun vv _ => true = true → vv = .int .i64 (i : Int), fun vv _ => true = true → vv = .bool false, fun vv _ => vv = .bool false, fun vv _ => vv = .bool false, fun vv _ => false = true → vv = .int .i64 (ap i), fun vv _ => false = true → vv = .int .i64 (ap i), fun vv _ => false = true → vv = .int .i64 (an i), fun vv _ => false = true → vv = .int .i64 (am i), fun vv _ => false = true → vv = .agg #[.string n, .int .i64 k, .int .i64 a, .int .i64 x, .int .i64 y, .int .i64 z, .int .i64 lo, .int .i64 hi, .slice fp fl fc], fun vv _ => false = true → vv = .int .i64 ra, fun vv _ => false = true → vv = .agg #[.string n2, .int .i64 k2, .int .i64 a2, .int .i64 x2, .int .i64 y2, .int .i64 z2, .int .i64 lo2, .int .i64 hi2, .slice fp2 fl2 fc2], fun vv _ => false = true → vv = .int .i64 rb, fun vv _ => false = true → vv = .int .i64 sm, fun vv _ => false = true → vv = .bool (decide (sm < (am i))), fun vv _ => vv = .bool false]) (by kernel_rfl) ?hk ?hR ?fin
          case hk => kernel_rfl
          case hR =>
            refine ⟨fun _ => (Kx.refl _ _), fun _ _ _ => Kx.trans, rl_stab ⟨fun _ _ _ _ h => h, fun _ _ _ _ h => h, fun _ _ _ _ h => h, fun _ _ _ _ h => h, fun _ _ _ _ h => h, fun _ _ _ _ h => h, fun _ _ _ _ h => h, fun _ _ _ _ h => h, fun _ _ _ _ h => h, fun _ _ _ _ h => h, fun _ _ _ _ h => h, fun _ _ _ _ h => h, fun _ _ _ _ h => h, fun _ _ _ _ h => h, fun _ _ _ _ h => h, fun _ _ _ _ h => h, fun _ _ _ _ h => h, fun _ _ _ _ h => h, fun _ _ _ _ h => h, fun _ _ _ _ h => h, trivial⟩, ?_⟩
            refine allO_cons ?_ (allO_cons ?_ (allO_cons ?_ (allO_cons ?_ (allO_cons ?_ (allO_cons ?_ (allO_cons ?_ (allO_cons ?_ (allO_cons ?_ (allO_cons ?_ (allO_cons ?_ (allO_cons ?_ (allO_cons ?_ (allO_cons ?_ (allO_cons ?_ (allO_cons ?_ (allO_cons ?_ (allO_cons ?_ (allO_cons ?_ (allO_cons ?_ (allO_nil))))))))))))))))))))
            · intro T w9 hG hD hO Q
              have q0 := hO.1
              have e0 : (oF 63 T).eval (.tmp 2) = .pointer (some ⟨w.heap.size, 0, none⟩) := (oF_eval (by decide)).trans (show T 2 = _ from q0)
              refine og_none rfl ?_
              have im := b1.kx hG (by simp)
              have m0 := im.c (i := 0) rfl
              have m1 := im.c (i := 1) rfl
              have m2 := im.c (i := 2) rfl
              have m3 := im.c (i := 3) rfl
              have m4 := im.c (i := 4) rfl
              have m5 := im.c (i := 5) rfl
              have m6 := im.c (i := 6) rfl
              have m7 := im.c (i := 7) rfl
              have m8 := im.c (i := 8) rfl
              clear im
              exact o_val (v := .agg #[.string n, .int .i64 k, .int .i64 a, .int .i64 x, .int .i64 y, .int .i64 z, .int .i64 lo, .int .i64 hi, .slice fp fl fc]) (w' := w9) (by generalize (oF 63 T).eval = rr at *; simp [execOp, go_sem, e0, m0, m1, m2, m3, m4, m5, m6, m7, m8]) rfl rfl (Kx.refl _ _)
            · intro T w9 hG hD hO Q
              have q0 := hO.1
              have e0 : (oF 63 T).eval (.tmp 11) = .int .i64 (i : Int) := (oF_eval (by decide)).trans (show T 11 = _ from q0)
              refine og_none rfl ?_
              exact o_val (v := .int .i64 (i : Int)) (w' := w9) (by generalize (oF 63 T).eval = rr at *; simp [execOp, go_sem, e0]) rfl rfl (Kx.refl _ _)
            · intro T w9 hG hD hO Q
              have d0 := hD.1
              have d1 := hD.2.1
              have e0 : (oF 63 T).eval (.func 51) = .func (.func 51) #[] #[] := rfl
              have e1 : (oF 63 T).eval (.tmp 42) = .agg #[.string n, .int .i64 k, .int .i64 a, .int .i64 x, .int .i64 y, .int .i64 z, .int .i64 lo, .int .i64 hi, .slice fp fl fc] := (oF_eval (by decide)).trans (show T 42 = _ from d0)
              have e2 : (oF 63 T).eval (.tmp 43) = .int .i64 (i : Int) := (oF_eval (by decide)).trans (show T 43 = _ from d1)
              refine og_none rfl ?_
              refine o_call (oc2 (enters_of Tryd.func51 (by kernel_rfl) rfl) rfl rfl e1 e2) rfl ?_
              exact (Cg.out (qa i (by omega)) w9 (gl.kx hG (by simp))).mono fun r W' h => ⟨_, h.1, (show Value.bool (oa i) = .bool true by rw [h3]), h.2.kx⟩
            · intro T w9 hG hD hO Q
              have d0 := hD.1
              have e0 : (oF 63 T).eval (.tmp 44) = .bool true := (oF_eval (by decide)).trans (show T 44 = _ from d0)
              refine og_none rfl ?_
              exact o_val (v := .bool true) (w' := w9) (by generalize (oF 63 T).eval = rr at *; simp [execOp, go_sem, e0]) rfl rfl (Kx.refl _ _)
            · intro T w9 hG hD hO Q
              have d0 := hD.1
              have q0 := hO.1
              have e0 : (oF 63 T).eval (.tmp 3) = .pointer (some ⟨w.heap.size + 1, 0, none⟩) := (oF_eval (by decide)).trans (show T 3 = _ from q0)
              refine og_some (b := true) (c := true) rfl (show T 45 = _ from d0) (fun hc => ?_) (fun hc h => absurd h hc)
              have im := b2.kx hG (by simp)
              have m0 := im.c (i := 0) rfl
              have m1 := im.c (i := 1) rfl
              have m2 := im.c (i := 2) rfl
              have m3 := im.c (i := 3) rfl
              have m4 := im.c (i := 4) rfl
              have m5 := im.c (i := 5) rfl
              have m6 := im.c (i := 6) rfl
              have m7 := im.c (i := 7) rfl
              have m8 := im.c (i := 8) rfl
              clear im
              exact o_val (v := .agg #[.string n2, .int .i64 k2, .int .i64 a2, .int .i64 x2, .int .i64 y2, .int .i64 z2, .int .i64 lo2, .int .i64 hi2, .slice fp2 fl2 fc2]) (w' := w9) (by generalize (oF 63 T).eval = rr at *; simp [execOp, go_sem, e0, m0, m1, m2, m3, m4, m5, m6, m7, m8]) rfl (fun _ => rfl) (Kx.refl _ _)
            · intro T w9 hG hD hO Q
              have d0 := hD.1
              have q0 := hO.1
              have e0 : (oF 63 T).eval (.tmp 11) = .int .i64 (i : Int) := (oF_eval (by decide)).trans (show T 11 = _ from q0)
              refine og_some (b := true) (c := true) rfl (show T 45 = _ from d0) (fun hc => ?_) (fun hc h => absurd h hc)
              exact o_val (v := .int .i64 (i : Int)) (w' := w9) (by generalize (oF 63 T).eval = rr at *; simp [execOp, go_sem, e0]) rfl (fun _ => rfl) (Kx.refl _ _)
            · intro T w9 hG hD hO Q
              have d0 := hD.1
              have d1 := hD.2.1
              have d2 := hD.2.2.1
              have e0 : (oF 63 T).eval (.func 51) = .func (.func 51) #[] #[] := rfl
              have G1 : true = true → T 46 = .agg #[.string n2, .int .i64 k2, .int .i64 a2, .int .i64 x2, .int .i64 y2, .int .i64 z2, .int .i64 lo2, .int .i64 hi2, .slice fp2 fl2 fc2] := d0
              have G2 : true = true → T 47 = .int .i64 (i : Int) := d1
              refine og_some (b := true) (c := true) rfl (show T 45 = _ from d2) (fun hc => ?_) (fun hc h => absurd h hc)
              have e1 : (oF 63 T).eval (.tmp 46) = .agg #[.string n2, .int .i64 k2, .int .i64 a2, .int .i64 x2, .int .i64 y2, .int .i64 z2, .int .i64 lo2, .int .i64 hi2, .slice fp2 fl2 fc2] := (oF_eval (by decide)).trans (G1 hc)
              have e2 : (oF 63 T).eval (.tmp 47) = .int .i64 (i : Int) := (oF_eval (by decide)).trans (G2 hc)
              refine o_call (oc2 (enters_of Tryd.func51 (by kernel_rfl) rfl) rfl rfl e1 e2) rfl ?_
              exact (Cg.out (qb i (by omega)) w9 (gl.kx hG (by simp))).mono fun r W' h => ⟨_, h.1, fun _ => (show Value.bool (ob i) = .bool false by rw [h4]), h.2.kx⟩
            · intro T w9 hG hD hO Q
              have d0 := hD.1
              have d1 := hD.2.1
              have e0 : (oF 63 T).eval (.tmp 45) = .bool true := (oF_eval (by decide)).trans (show T 45 = _ from d0)
              have G1 : true = true → T 48 = .bool false := d1
              have e1 : (oF 63 T).eval (.tmp 48) = T 48 := oF_eval (by decide)
              have e2 : (oF 63 T).eval (.const (.bool false)) = .bool false := rfl
              refine og_none rfl ?_
              rw [G1 rfl] at e1
              exact o_val (v := .bool false) (w' := w9) (by generalize (oF 63 T).eval = rr at *; simp [execOp, go_sem, e0, e1]) rfl rfl (Kx.refl _ _)
            · intro T w9 hG hD hO Q
              have d0 := hD.1
              have e0 : (oF 63 T).eval (.tmp 49) = .bool false := (oF_eval (by decide)).trans (show T 49 = _ from d0)
              refine og_none rfl ?_
              exact o_val (v := .bool false) (w' := w9) (by generalize (oF 63 T).eval = rr at *; simp [execOp, go_sem, e0]) rfl rfl (Kx.refl _ _)
            · intro T w9 hG hD hO Q
              have d0 := hD.1
              have q0 := hO.1
              have e0 : (oF 63 T).eval (.tmp 12) = .int .i64 (ap i) := (oF_eval (by decide)).trans (show T 12 = _ from q0)
              refine og_some (b := true) (c := false) rfl (show T 50 = _ from d0) (fun hc => ?_) (fun hc h => absurd h hc)
              exact o_val (v := .int .i64 (ap i)) (w' := w9) (by generalize (oF 63 T).eval = rr at *; simp [execOp, go_sem, e0]) rfl (fun _ => rfl) (Kx.refl _ _)
            · intro T w9 hG hD hO Q
              have d0 := hD.1
              have q0 := hO.1
              have e0 : (oF 63 T).eval (.tmp 12) = .int .i64 (ap i) := (oF_eval (by decide)).trans (show T 12 = _ from q0)
              refine og_some (b := true) (c := false) rfl (show T 50 = _ from d0) (fun hc => ?_) (fun hc h => absurd h hc)
              exact o_val (v := .int .i64 (ap i)) (w' := w9) (by generalize (oF 63 T).eval = rr at *; simp [execOp, go_sem, e0]) rfl (fun _ => rfl) (Kx.refl _ _)
            · intro T w9 hG hD hO Q
              have d0 := hD.1
              have d1 := hD.2.1
              have G0 : false = true → T 52 = .int .i64 (ap i) := d0
              refine og_some (b := true) (c := false) rfl (show T 50 = _ from d1) (fun hc => ?_) (fun hc h => absurd h hc)
              have e0 : (oF 63 T).eval (.tmp 52) = .int .i64 (ap i) := (oF_eval (by decide)).trans (G0 hc)
              exact o_val (v := .int .i64 (an i)) (w' := w9) (by generalize (oF 63 T).eval = rr at *; simp [execOp, go_sem, e0, y22']) rfl (fun _ => rfl) (Kx.refl _ _)
            · intro T w9 hG hD hO Q
              have d0 := hD.1
              have d1 := hD.2.1
              have d2 := hD.2.2.1
              have G0 : false = true → T 51 = .int .i64 (ap i) := d0
              have G1 : false = true → T 53 = .int .i64 (an i) := d1
              refine og_some (b := true) (c := false) rfl (show T 50 = _ from d2) (fun hc => ?_) (fun hc h => absurd h hc)
              have e0 : (oF 63 T).eval (.tmp 51) = .int .i64 (ap i) := (oF_eval (by decide)).trans (G0 hc)
              have e1 : (oF 63 T).eval (.tmp 53) = .int .i64 (an i) := (oF_eval (by decide)).trans (G1 hc)
              exact o_val (v := .int .i64 (am i)) (w' := w9) (by generalize (oF 63 T).eval = rr at *; simp [go_sem, e0, e1, y23]) rfl (fun _ => rfl) (Kx.refl _ _)
            · intro T w9 hG hD hO Q
              have d0 := hD.1
              have q0 := hO.1
              have e0 : (oF 63 T).eval (.tmp 2) = .pointer (some ⟨w.heap.size, 0, none⟩) := (oF_eval (by decide)).trans (show T 2 = _ from q0)
              refine og_some (b := true) (c := false) rfl (show T 50 = _ from d0) (fun hc => ?_) (fun hc h => absurd h hc)
              have im := b1.kx hG (by simp)
              have m0 := im.c (i := 0) rfl
              have m1 := im.c (i := 1) rfl
              have m2 := im.c (i := 2) rfl
              have m3 := im.c (i := 3) rfl
              have m4 := im.c (i := 4) rfl
              have m5 := im.c (i := 5) rfl
              have m6 := im.c (i := 6) rfl
              have m7 := im.c (i := 7) rfl
              have m8 := im.c (i := 8) rfl
              clear im
              exact o_val (v := .agg #[.string n, .int .i64 k, .int .i64 a, .int .i64 x, .int .i64 y, .int .i64 z, .int .i64 lo, .int .i64 hi, .slice fp fl fc]) (w' := w9) (by generalize (oF 63 T).eval = rr at *; simp [execOp, go_sem, e0, m0, m1, m2, m3, m4, m5, m6, m7, m8]) rfl (fun _ => rfl) (Kx.refl _ _)
            · intro T w9 hG hD hO Q
              have d0 := hD.1
              have d1 := hD.2.1
              have e0 : (oF 63 T).eval (.func 54) = .func (.func 54) #[] #[] := rfl
              have G1 : false = true → T 55 = .agg #[.string n, .int .i64 k, .int .i64 a, .int .i64 x, .int .i64 y, .int .i64 z, .int .i64 lo, .int .i64 hi, .slice fp fl fc] := d0
              refine og_some (b := true) (c := false) rfl (show T 50 = _ from d1) (fun hc => ?_) (fun hc h => absurd h hc)
              have e1 : (oF 63 T).eval (.tmp 55) = .agg #[.string n, .int .i64 k, .int .i64 a, .int .i64 x, .int .i64 y, .int .i64 z, .int .i64 lo, .int .i64 hi, .slice fp fl fc] := (oF_eval (by decide)).trans (G1 hc)
              refine o_call (oc1 (enters_of Tryd.func54 (by kernel_rfl) rfl) rfl rfl e1) rfl ?_
              exact (q3.out w9).mono fun r W' h => ⟨_, h.1, (fun _ => rfl), h.2.kx⟩
            · intro T w9 hG hD hO Q
              have d0 := hD.1
              have q0 := hO.1
              have e0 : (oF 63 T).eval (.tmp 3) = .pointer (some ⟨w.heap.size + 1, 0, none⟩) := (oF_eval (by decide)).trans (show T 3 = _ from q0)
              refine og_some (b := true) (c := false) rfl (show T 50 = _ from d0) (fun hc => ?_) (fun hc h => absurd h hc)
              have im := b2.kx hG (by simp)
              have m0 := im.c (i := 0) rfl
              have m1 := im.c (i := 1) rfl
              have m2 := im.c (i := 2) rfl
              have m3 := im.c (i := 3) rfl
              have m4 := im.c (i := 4) rfl
              have m5 := im.c (i := 5) rfl
              have m6 := im.c (i := 6) rfl
              have m7 := im.c (i := 7) rfl
              have m8 := im.c (i := 8) rfl
              clear im
              exact o_val (v := .agg #[.string n2, .int .i64 k2, .int .i64 a2, .int .i64 x2, .int .i64 y2, .int .i64 z2, .int .i64 lo2, .int .i64 hi2, .slice fp2 fl2 fc2]) (w' := w9) (by generalize (oF 63 T).eval = rr at *; simp [execOp, go_sem, e0, m0, m1, m2, m3, m4, m5, m6, m7, m8]) rfl (fun _ => rfl) (Kx.refl _ _)
            · intro T w9 hG hD hO Q
              have d0 := hD.1
              have d1 := hD.2.1
              have e0 : (oF 63 T).eval (.func 54) = .func (.func 54) #[] #[] := rfl
              have G1 : false = true → T 57 = .agg #[.string n2, .int .i64 k2, .int .i64 a2, .int .i64 x2, .int .i64 y2, .int .i64 z2, .int .i64 lo2, .int .i64 hi2, .slice fp2 fl2 fc2] := d0
              refine og_some (b := true) (c := false) rfl (show T 50 = _ from d1) (fun hc => ?_) (fun hc h => absurd h hc)
              have e1 : (oF 63 T).eval (.tmp 57) = .agg #[.string n2, .int .i64 k2, .int .i64 a2, .int .i64 x2, .int .i64 y2, .int .i64 z2, .int .i64 lo2, .int .i64 hi2, .slice fp2 fl2 fc2] := (oF_eval (by decide)).trans (G1 hc)
              refine o_call (oc1 (enters_of Tryd.func54 (by kernel_rfl) rfl) rfl rfl e1) rfl ?_
              exact (q4.out w9).mono fun r W' h => ⟨_, h.1, (fun _ => rfl), h.2.kx⟩
            · intro T w9 hG hD hO Q
              have d0 := hD.1
              have d1 := hD.2.1
              have d2 := hD.2.2.1
              have G0 : false = true → T 56 = .int .i64 ra := d0
              have G1 : false = true → T 58 = .int .i64 rb := d1
              refine og_some (b := true) (c := false) rfl (show T 50 = _ from d2) (fun hc => ?_) (fun hc h => absurd h hc)
              have e0 : (oF 63 T).eval (.tmp 56) = .int .i64 ra := (oF_eval (by decide)).trans (G0 hc)
              have e1 : (oF 63 T).eval (.tmp 58) = .int .i64 rb := (oF_eval (by decide)).trans (G1 hc)
              exact o_val (v := .int .i64 sm) (w' := w9) (by generalize (oF 63 T).eval = rr at *; simp [execOp, go_sem, e0, e1, y24']) rfl (fun _ => rfl) (Kx.refl _ _)
            · intro T w9 hG hD hO Q
              have d0 := hD.1
              have d1 := hD.2.1
              have d2 := hD.2.2.1
              have G0 : false = true → T 54 = .int .i64 (am i) := d0
              have G1 : false = true → T 59 = .int .i64 sm := d1
              refine og_some (b := true) (c := false) rfl (show T 50 = _ from d2) (fun hc => ?_) (fun hc h => absurd h hc)
              have e0 : (oF 63 T).eval (.tmp 54) = .int .i64 (am i) := (oF_eval (by decide)).trans (G0 hc)
              have e1 : (oF 63 T).eval (.tmp 59) = .int .i64 sm := (oF_eval (by decide)).trans (G1 hc)
              exact o_val (v := .bool (decide (sm < (am i)))) (w' := w9) (by generalize (oF 63 T).eval = rr at *; simp [execOp, go_sem, e0, e1]) rfl (fun _ => rfl) (Kx.refl _ _)
            · intro T w9 hG hD hO Q
              have d0 := hD.1
              have d1 := hD.2.1
              have e0 : (oF 63 T).eval (.tmp 50) = .bool false := (oF_eval (by decide)).trans (show T 50 = _ from d0)
              have G1 : false = true → T 60 = .bool (decide (sm < (am i))) := d1
              have e1 : (oF 63 T).eval (.tmp 60) = T 60 := oF_eval (by decide)
              have e2 : (oF 63 T).eval (.const (.bool false)) = .bool false := rfl
              refine og_none rfl ?_
              exact o_val (v := .bool false) (w' := w9) (by generalize (oF 63 T).eval = rr at *; simp [execOp, go_sem, e0, e2]) rfl rfl (Kx.refl _ _)
          case fin =>
            intro T w7 hout hval hG
            have s7 := hG.2.2.2.1
            simp only [World.size_drew] at s7
            rw [show oF 63 T = (⟨#[T 0, T 1, T 2, T 3, T 4, T 5, T 6, T 7, T 8, T 9, T 10, T 11, T 12, T 13, T 14, T 15, T 16, T 17, T 18, T 19, T 20, T 21, T 22, T 23, T 24, T 25, T 26, T 27, T 28, T 29, T 30, T 31, T 32, T 33, T 34, T 35, T 36, T 37, T 38, T 39, T 40, T 41, T 42, T 43, T 44, T 45, T 46, T 47, T 48, T 49, T 50, T 51, T 52, T 53, T 54, T 55, T 56, T 57, T 58, T 59, T 60, T 61, T 62], []⟩ : Act) from oF_list 63 T]
            rw [show T 0 = .agg #[.string n, .int .i64 k, .int .i64 a, .int .i64 x, .int .i64 y, .int .i64 z, .int .i64 lo, .int .i64 hi, .slice fp fl fc] from hout 0 rfl]
            rw [show T 1 = .agg #[.string n2, .int .i64 k2, .int .i64 a2, .int .i64 x2, .int .i64 y2, .int .i64 z2, .int .i64 lo2, .int .i64 hi2, .slice fp2 fl2 fc2] from hout 1 rfl]
            rw [show T 2 = .pointer (some ⟨w.heap.size, 0, none⟩) from hout 2 rfl]
            rw [show T 3 = .pointer (some ⟨w.heap.size + 1, 0, none⟩) from hout 3 rfl]
            rw [show T 6 = .int .i64 (firstE [firstE [r1, r2]]) from hout 6 rfl]
            rw [show T 7 = .func (.func 76) #[] #[.pointer (some ⟨g3, 0, none⟩)] from hout 7 rfl]
            rw [show T 8 = .func (.func 77) #[] #[.pointer (some ⟨g3, 0, none⟩)] from hout 8 rfl]
            rw [show T 9 = .func (.func 76) #[] #[.pointer (some ⟨g4, 0, none⟩)] from hout 9 rfl]
            rw [show T 10 = .func (.func 77) #[] #[.pointer (some ⟨g4, 0, none⟩)] from hout 10 rfl]
            rw [show T 11 = .int .i64 (i : Int) from hout 11 rfl]
            rw [show T 12 = .int .i64 (ap i) from hout 12 rfl]
            rw [show T 13 = .agg #[.string n, .int .i64 k, .int .i64 a, .int .i64 x, .int .i64 y, .int .i64 z, .int .i64 lo, .int .i64 hi, .slice fp fl fc] from hout 13 rfl]
            rw [show T 14 = .agg #[.string n2, .int .i64 k2, .int .i64 a2, .int .i64 x2, .int .i64 y2, .int .i64 z2, .int .i64 lo2, .int .i64 hi2, .slice fp2 fl2 fc2] from hout 14 rfl]
            rw [show T 15 = .slice (some ⟨w.heap.size + 1 + 1, 0, none⟩) 2 2 from hout 15 rfl]
            rw [show T 16 = .func (.func F1) #[] cp1 from hout 16 rfl]
            rw [show T 17 = .slice (some ⟨w1.heap.size, 0, none⟩) 1 1 from hout 17 rfl]
            rw [show T 18 = .int .i64 (firstE [firstE [r1, r2]]) from hout 18 rfl]
            rw [show T 19 = .int .i64 (firstE [firstE [r1, r2]]) from hout 19 rfl]
            rw [show T 20 = .bool false from hout 20 rfl]
            rw [show T 22 = .tuple #[.func (.func 76) #[] #[.pointer (some ⟨g3, 0, none⟩)], .func (.func 77) #[] #[.pointer (some ⟨g3, 0, none⟩)]] from hout 22 rfl]
            rw [show T 23 = .pointer (some ⟨w.heap.size, 3, none⟩) from hout 23 rfl]
            rw [show T 24 = .tuple #[.func (.func 76) #[] #[.pointer (some ⟨g3, 0, none⟩)], .func (.func 77) #[] #[.pointer (some ⟨g3, 0, none⟩)]] from hout 24 rfl]
            rw [show T 25 = .func (.func 76) #[] #[.pointer (some ⟨g3, 0, none⟩)] from hout 25 rfl]
            rw [show T 26 = .func (.func 77) #[] #[.pointer (some ⟨g3, 0, none⟩)] from hout 26 rfl]
            rw [show T 27 = .tuple #[.func (.func 76) #[] #[.pointer (some ⟨g4, 0, none⟩)], .func (.func 77) #[] #[.pointer (some ⟨g4, 0, none⟩)]] from hout 27 rfl]
            rw [show T 28 = .pointer (some ⟨w.heap.size + 1, 3, none⟩) from hout 28 rfl]
            rw [show T 29 = .tuple #[.func (.func 76) #[] #[.pointer (some ⟨g4, 0, none⟩)], .func (.func 77) #[] #[.pointer (some ⟨g4, 0, none⟩)]] from hout 29 rfl]
            rw [show T 30 = .func (.func 76) #[] #[.pointer (some ⟨g4, 0, none⟩)] from hout 30 rfl]
            rw [show T 31 = .func (.func 77) #[] #[.pointer (some ⟨g4, 0, none⟩)] from hout 31 rfl]
            rw [show T 32 = .int .i64 (i : Int) from hout 32 rfl]
            rw [show T 33 = .bool true from hout 33 rfl]
            rw [show T 34 = .int .i64 (i : Int) from hout 34 rfl]
            rw [show T 35 = .func (.func 76) #[] #[.pointer (some ⟨g3, 0, none⟩)] from hout 35 rfl]
            rw [show T 36 = .int .i64 (i : Int) from hout 36 rfl]
            rw [show T 37 = .int .i64 (co3 x y z i) from hout 37 rfl]
            rw [show T 38 = .func (.func 76) #[] #[.pointer (some ⟨g4, 0, none⟩)] from hout 38 rfl]
            rw [show T 39 = .int .i64 (i : Int) from hout 39 rfl]
            rw [show T 40 = .int .i64 (co3 x2 y2 z2 i) from hout 40 rfl]
            rw [show T 41 = .int .i64 (ap i) from hout 41 rfl]
            rw [show T 61 = .bool false from hval 19 (by decide : 19 < 20)]
            rw [show T 21 = undef from hout 21 rfl]
            replace b1 := b1.kx hG (by simp)
            replace b2 := b2.kx hG (by simp)
            replace b3 := b3.kx hG (by simp)
            replace b4 := b4.kx hG (by simp)
            replace p3 := p3.kx hG (by simp)
            replace p4 := p4.kx hG (by simp)
            replace kx := (show Kb _ _ from kx.drew).trans hG.nil
            replace gl := gl0.out.kb kx
            clear hout hval hG
            go_wp2_with fail
            have hqi := Hi.out
            go_roundg (gk - 1)
            case measure => omega
            case rel => exact ⟨i + 1, by go_num, by omega, Lib.hid (upto_succ Ei.out (by simp [fpR, h3, h4])), b1, b2, b3, b4, p3, p4, kx⟩
      · skip
        have en1 := (enters_of Tryd.func76 (by kernel_rfl) rfl : ∀ args W, (callFunc 76 args).run Tryd.prog W = .ok (.enter 76 args) W)
        go_wp2_with fail
        (with_reducible refine (cReadN _ _ i (by omega) _ _ _ _ _ _ _ _ _ 0 _ _ p3 b1 rfl).mono ?_)
        rintro r w5 ⟨rfl, k5⟩
        replace gl := gl.kb k5
        replace b1 := b1.kb k5
        replace b2 := b2.kb k5
        replace b3 := b3.kb k5
        replace b4 := b4.kb k5
        replace p3 := p3.kb k5
        replace p4 := p4.kb k5
        replace kx := kx.trans k5
        have s5 := k5.size
        skip
        clear k5
        have en2 := (enters_of Tryd.func76 (by kernel_rfl) rfl : ∀ args W, (callFunc 76 args).run Tryd.prog W = .ok (.enter 76 args) W)
        go_wp2_with fail
        (with_reducible refine (cReadN _ _ i (by omega) _ _ _ _ _ _ _ _ _ 0 _ _ p4 b2 rfl).mono ?_)
        rintro r w6 ⟨rfl, k6⟩
        replace gl := gl.kb k6
        replace b1 := b1.kb k6
        replace b2 := b2.kb k6
        replace b3 := b3.kb k6
        replace b4 := b4.kb k6
        replace p3 := p3.kb k6
        replace p4 := p4.kb k6
        replace kx := kx.trans k6
        have s6 := k6.size
        skip
        clear k6
        have y21 : wrap64 ((co3 x y z i) - (co3 x2 y2 z2 i)) = (ap i) := hap i
        have y21' : IntKind.i64.wrap ((co3 x y z i) - (co3 x2 y2 z2 i)) = (ap i) := (Go.IntWalk.i64_left _).trans y21
        go_wp2_with fail
        have y22 : wrap64 (-(ap i)) = (an i) := han i
        have y22' : IntKind.i64.wrap (-(ap i)) = (an i) := (Go.IntWalk.i64_left _).trans y22
        have y23 : max (ap i) (an i) = (am i) := ham i
        have y24 : wrap64 (ra + rb) = sm := hsm
        have y24' : IntKind.i64.wrap (ra + rb) = sm := (Go.IntWalk.i64_left _).trans y24
        replace gl := gl.drew
        replace b1 := b1.drew
        replace b2 := b2.drew
        replace b3 := b3.drew
        replace b4 := b4.drew
        replace p3 := p3.drew
        replace p4 := p4.drew
        rw [oF_lit]
        refine o_law (⟨63, [some 42, some 43, some 44, some 45, some 46, some 47, some 48, some 49, some 50, some 51, some 52, some 53, some 54, some 55, some 56, some 57, some 58, some 59, some 60, some 61], [42, 43, 44, 45, 46, 47, 48, 49, 50, 51, 52, 53, 54, 55, 56, 57, 58, 59, 60, 61], [[], [], [0, 1], [2], [3], [3], [4, 5, 3], [3, 6], [7], [8], [8], [10, 8], [9, 11, 8], [8], [13, 8], [8], [15, 8], [14, 16, 8], [12, 17, 8], [8, 18]], [[2], [11], [], [], [3], [11], [], [], [], [12], [12], [], [], [2], [], [3], [], [], [], []]⟩ : OT) (Kx []) (RL [fun vv _ => vv = .agg #[.string n, .int .i64 k, .int .i64 a, .int .i64 x, .int .i64 y, .int .i64 z, .int .i64 lo, .int .i64 hi, .slice fp fl fc], fun vv _ => vv = .int .i64 (i : Int), fun vv _ => vv = .bool false, fun vv _ => vv = .bool false, fun vv _ => false = true → vv = .agg #[.string n2, .int .i64 k2, .int .i64 a2, .int .i64 x2, .int .i64 y2, .int .i64 z2, .int .i64 lo2, .int .i64 hi2, .slice fp2 fl2 fc2], fun vv _ => false = true → vv = .int .i64 (i : Int), fun vv _ => false = true → vv = .bool (ob i), fun vv _ => vv = .bool false, fun vv _ => vv = .bool false, fun vv _ => false = true → vv = .int .i64 (ap i), fun vv _ => false = true → vv = .int .i64 (ap i), fun vv _ => false = true → vv = .int .i64 (an i), fun vv _ => false = true → vv = .int .i64 (am i), fun vv _ => false = true → vv = .agg #[.string n, .int .i64 k, .int .i64 a, .int .i64 x, .int .i64 y, .int .i64 z, .int .i64 lo, .int .i64 hi, .slice fp fl fc], fun vv _ => false = true → vv = .int .i64 ra, fun vv _ => false = true → vv = .agg #[.string n2, .int .i64 k2, .int .i64 a2, .int .i64 x2, .int .i64 y2, .int .i64 z2, .int .i64 lo2, .int .i64 hi2, .slice fp2 fl2 fc2], fun vv _ => false = true → vv = .int .i64 rb, fun vv _ => false = true → vv = .int .i64 sm, fun vv _ => false = true → vv = .bool (decide (sm < (am i))), fun vv _ => vv = .bool false]) (by kernel_rfl) ?hk ?hR ?fin
        case hk => kernel_rfl
        case hR =>
          refine ⟨fun _ => (Kx.refl _ _), fun _ _ _ => Kx.trans, rl_stab ⟨fun _ _ _ _ h => h, fun _ _ _ _ h => h, fun _ _ _ _ h => h, fun _ _ _ _ h => h, fun _ _ _ _ h => h, fun _ _ _ _ h => h, fun _ _ _ _ h => h, fun _ _ _ _ h => h, fun _ _ _ _ h => h, fun _ _ _ _ h => h, fun _ _ _ _ h => h, fun _ _ _ _ h => h, fun _ _ _ _ h => h, fun _ _ _ _ h => h, fun _ _ _ _ h => h, fun _ _ _ _ h => h, fun _ _ _ _ h => h, fun _ _ _ _ h => h, fun _ _ _ _ h => h, fun _ _ _ _ h => h, trivial⟩, ?_⟩
          refine allO_cons ?_ (allO_cons ?_ (allO_cons ?_ (allO_cons ?_ (allO_cons ?_ (allO_cons ?_ (allO_cons ?_ (allO_cons ?_ (allO_cons ?_ (allO_cons ?_ (allO_cons ?_ (allO_cons ?_ (allO_cons ?_ (allO_cons ?_ (allO_cons ?_ (allO_cons ?_ (allO_cons ?_ (allO_cons ?_ (allO_cons ?_ (allO_cons ?_ (allO_nil))))))))))))))))))))
          · intro T w9 hG hD hO Q
            have q0 := hO.1
            have e0 : (oF 63 T).eval (.tmp 2) = .pointer (some ⟨w.heap.size, 0, none⟩) := (oF_eval (by decide)).trans (show T 2 = _ from q0)
            refine og_none rfl ?_
            have im := b1.kx hG (by simp)
            have m0 := im.c (i := 0) rfl
            have m1 := im.c (i := 1) rfl
            have m2 := im.c (i := 2) rfl
            have m3 := im.c (i := 3) rfl
            have m4 := im.c (i := 4) rfl
            have m5 := im.c (i := 5) rfl
            have m6 := im.c (i := 6) rfl
            have m7 := im.c (i := 7) rfl
            have m8 := im.c (i := 8) rfl
            clear im
            exact o_val (v := .agg #[.string n, .int .i64 k, .int .i64 a, .int .i64 x, .int .i64 y, .int .i64 z, .int .i64 lo, .int .i64 hi, .slice fp fl fc]) (w' := w9) (by generalize (oF 63 T).eval = rr at *; simp [execOp, go_sem, e0, m0, m1, m2, m3, m4, m5, m6, m7, m8]) rfl rfl (Kx.refl _ _)
          · intro T w9 hG hD hO Q
            have q0 := hO.1
            have e0 : (oF 63 T).eval (.tmp 11) = .int .i64 (i : Int) := (oF_eval (by decide)).trans (show T 11 = _ from q0)
            refine og_none rfl ?_
            exact o_val (v := .int .i64 (i : Int)) (w' := w9) (by generalize (oF 63 T).eval = rr at *; simp [execOp, go_sem, e0]) rfl rfl (Kx.refl _ _)
          · intro T w9 hG hD hO Q
            have d0 := hD.1
            have d1 := hD.2.1
            have e0 : (oF 63 T).eval (.func 51) = .func (.func 51) #[] #[] := rfl
            have e1 : (oF 63 T).eval (.tmp 42) = .agg #[.string n, .int .i64 k, .int .i64 a, .int .i64 x, .int .i64 y, .int .i64 z, .int .i64 lo, .int .i64 hi, .slice fp fl fc] := (oF_eval (by decide)).trans (show T 42 = _ from d0)
            have e2 : (oF 63 T).eval (.tmp 43) = .int .i64 (i : Int) := (oF_eval (by decide)).trans (show T 43 = _ from d1)
            refine og_none rfl ?_
            refine o_call (oc2 (enters_of Tryd.func51 (by kernel_rfl) rfl) rfl rfl e1 e2) rfl ?_
            exact (Cg.out (qa i (by omega)) w9 (gl.kx hG (by simp))).mono fun r W' h => ⟨_, h.1, (show Value.bool (oa i) = .bool false by rw [h3]), h.2.kx⟩
          · intro T w9 hG hD hO Q
            have d0 := hD.1
            have e0 : (oF 63 T).eval (.tmp 44) = .bool false := (oF_eval (by decide)).trans (show T 44 = _ from d0)
            refine og_none rfl ?_
            exact o_val (v := .bool false) (w' := w9) (by generalize (oF 63 T).eval = rr at *; simp [execOp, go_sem, e0]) rfl rfl (Kx.refl _ _)
          · intro T w9 hG hD hO Q
            have d0 := hD.1
            have q0 := hO.1
            have e0 : (oF 63 T).eval (.tmp 3) = .pointer (some ⟨w.heap.size + 1, 0, none⟩) := (oF_eval (by decide)).trans (show T 3 = _ from q0)
            refine og_some (b := true) (c := false) rfl (show T 45 = _ from d0) (fun hc => ?_) (fun hc h => absurd h hc)
            have im := b2.kx hG (by simp)
            have m0 := im.c (i := 0) rfl
            have m1 := im.c (i := 1) rfl
            have m2 := im.c (i := 2) rfl
            have m3 := im.c (i := 3) rfl
            have m4 := im.c (i := 4) rfl
            have m5 := im.c (i := 5) rfl
            have m6 := im.c (i := 6) rfl
            have m7 := im.c (i := 7) rfl
            have m8 := im.c (i := 8) rfl
            clear im
            exact o_val (v := .agg #[.string n2, .int .i64 k2, .int .i64 a2, .int .i64 x2, .int .i64 y2, .int .i64 z2, .int .i64 lo2, .int .i64 hi2, .slice fp2 fl2 fc2]) (w' := w9) (by generalize (oF 63 T).eval = rr at *; simp [execOp, go_sem, e0, m0, m1, m2, m3, m4, m5, m6, m7, m8]) rfl (fun _ => rfl) (Kx.refl _ _)
          · intro T w9 hG hD hO Q
            have d0 := hD.1
            have q0 := hO.1
            have e0 : (oF 63 T).eval (.tmp 11) = .int .i64 (i : Int) := (oF_eval (by decide)).trans (show T 11 = _ from q0)
            refine og_some (b := true) (c := false) rfl (show T 45 = _ from d0) (fun hc => ?_) (fun hc h => absurd h hc)
            exact o_val (v := .int .i64 (i : Int)) (w' := w9) (by generalize (oF 63 T).eval = rr at *; simp [execOp, go_sem, e0]) rfl (fun _ => rfl) (Kx.refl _ _)
          · intro T w9 hG hD hO Q
            have d0 := hD.1
            have d1 := hD.2.1
            have d2 := hD.2.2.1
            have e0 : (oF 63 T).eval (.func 51) = .func (.func 51) #[] #[] := rfl
            have G1 : false = true → T 46 = .agg #[.string n2, .int .i64 k2, .int .i64 a2, .int .i64 x2, .int .i64 y2, .int .i64 z2, .int .i64 lo2, .int .i64 hi2, .slice fp2 fl2 fc2] := d0
            have G2 : false = true → T 47 = .int .i64 (i : Int) := d1
            refine og_some (b := true) (c := false) rfl (show T 45 = _ from d2) (fun hc => ?_) (fun hc h => absurd h hc)
            have e1 : (oF 63 T).eval (.tmp 46) = .agg #[.string n2, .int .i64 k2, .int .i64 a2, .int .i64 x2, .int .i64 y2, .int .i64 z2, .int .i64 lo2, .int .i64 hi2, .slice fp2 fl2 fc2] := (oF_eval (by decide)).trans (G1 hc)
            have e2 : (oF 63 T).eval (.tmp 47) = .int .i64 (i : Int) := (oF_eval (by decide)).trans (G2 hc)
            refine o_call (oc2 (enters_of Tryd.func51 (by kernel_rfl) rfl) rfl rfl e1 e2) rfl ?_
            exact (Cg.out (qb i (by omega)) w9 (gl.kx hG (by simp))).mono fun r W' h => ⟨_, h.1, fun _ => rfl, h.2.kx⟩
          · intro T w9 hG hD hO Q
            have d0 := hD.1
            have d1 := hD.2.1
            have e0 : (oF 63 T).eval (.tmp 45) = .bool false := (oF_eval (by decide)).trans (show T 45 = _ from d0)
            have G1 : false = true → T 48 = .bool (ob i) := d1
            have e1 : (oF 63 T).eval (.tmp 48) = T 48 := oF_eval (by decide)
            have e2 : (oF 63 T).eval (.const (.bool false)) = .bool false := rfl
            refine og_none rfl ?_
            exact o_val (v := .bool false) (w' := w9) (by generalize (oF 63 T).eval = rr at *; simp [execOp, go_sem, e0, e2]) rfl rfl (Kx.refl _ _)
          · intro T w9 hG hD hO Q
            have d0 := hD.1
            have e0 : (oF 63 T).eval (.tmp 49) = .bool false := (oF_eval (by decide)).trans (show T 49 = _ from d0)
            refine og_none rfl ?_
            exact o_val (v := .bool false) (w' := w9) (by generalize (oF 63 T).eval = rr at *; simp [execOp, go_sem, e0]) rfl rfl (Kx.refl _ _)
          · intro T w9 hG hD hO Q
            have d0 := hD.1
            have q0 := hO.1
            have e0 : (oF 63 T).eval (.tmp 12) = .int .i64 (ap i) := (oF_eval (by decide)).trans (show T 12 = _ from q0)
            refine og_some (b := true) (c := false) rfl (show T 50 = _ from d0) (fun hc => ?_) (fun hc h => absurd h hc)
            exact o_val (v := .int .i64 (ap i)) (w' := w9) (by generalize (oF 63 T).eval = rr at *; simp [execOp, go_sem, e0]) rfl (fun _ => rfl) (Kx.refl _ _)
          · intro T w9 hG hD hO Q
            have d0 := hD.1
            have q0 := hO.1
            have e0 : (oF 63 T).eval (.tmp 12) = .int .i64 (ap i) := (oF_eval (by decide)).trans (show T 12 = _ from q0)
            refine og_some (b := true) (c := false) rfl (show T 50 = _ from d0) (fun hc => ?_) (fun hc h => absurd h hc)
            exact o_val (v := .int .i64 (ap i)) (w' := w9) (by generalize (oF 63 T).eval = rr at *; simp [execOp, go_sem, e0]) rfl (fun _ => rfl) (Kx.refl _ _)
          · intro T w9 hG hD hO Q
            have d0 := hD.1
            have d1 := hD.2.1
            have G0 : false = true → T 52 = .int .i64 (ap i) := d0
            refine og_some (b := true) (c := false) rfl (show T 50 = _ from d1) (fun hc => ?_) (fun hc h => absurd h hc)
            have e0 : (oF 63 T).eval (.tmp 52) = .int .i64 (ap i) := (oF_eval (by decide)).trans (G0 hc)
            exact o_val (v := .int .i64 (an i)) (w' := w9) (by generalize (oF 63 T).eval = rr at *; simp [execOp, go_sem, e0, y22']) rfl (fun _ => rfl) (Kx.refl _ _)
          · intro T w9 hG hD hO Q
            have d0 := hD.1
            have d1 := hD.2.1
            have d2 := hD.2.2.1
            have G0 : false = true → T 51 = .int .i64 (ap i) := d0
            have G1 : false = true → T 53 = .int .i64 (an i) := d1
            refine og_some (b := true) (c := false) rfl (show T 50 = _ from d2) (fun hc => ?_) (fun hc h => absurd h hc)
            have e0 : (oF 63 T).eval (.tmp 51) = .int .i64 (ap i) := (oF_eval (by decide)).trans (G0 hc)
            have e1 : (oF 63 T).eval (.tmp 53) = .int .i64 (an i) := (oF_eval (by decide)).trans (G1 hc)
            exact o_val (v := .int .i64 (am i)) (w' := w9) (by generalize (oF 63 T).eval = rr at *; simp [go_sem, e0, e1, y23]) rfl (fun _ => rfl) (Kx.refl _ _)
          · intro T w9 hG hD hO Q
            have d0 := hD.1
            have q0 := hO.1
            have e0 : (oF 63 T).eval (.tmp 2) = .pointer (some ⟨w.heap.size, 0, none⟩) := (oF_eval (by decide)).trans (show T 2 = _ from q0)
            refine og_some (b := true) (c := false) rfl (show T 50 = _ from d0) (fun hc => ?_) (fun hc h => absurd h hc)
            have im := b1.kx hG (by simp)
            have m0 := im.c (i := 0) rfl
            have m1 := im.c (i := 1) rfl
            have m2 := im.c (i := 2) rfl
            have m3 := im.c (i := 3) rfl
            have m4 := im.c (i := 4) rfl
            have m5 := im.c (i := 5) rfl
            have m6 := im.c (i := 6) rfl
            have m7 := im.c (i := 7) rfl
            have m8 := im.c (i := 8) rfl
            clear im
            exact o_val (v := .agg #[.string n, .int .i64 k, .int .i64 a, .int .i64 x, .int .i64 y, .int .i64 z, .int .i64 lo, .int .i64 hi, .slice fp fl fc]) (w' := w9) (by generalize (oF 63 T).eval = rr at *; simp [execOp, go_sem, e0, m0, m1, m2, m3, m4, m5, m6, m7, m8]) rfl (fun _ => rfl) (Kx.refl _ _)
          · intro T w9 hG hD hO Q
            have d0 := hD.1
            have d1 := hD.2.1
            have e0 : (oF 63 T).eval (.func 54) = .func (.func 54) #[] #[] := rfl
            have G1 : false = true → T 55 = .agg #[.string n, .int .i64 k, .int .i64 a, .int .i64 x, .int .i64 y, .int .i64 z, .int .i64 lo, .int .i64 hi, .slice fp fl fc] := d0
            refine og_some (b := true) (c := false) rfl (show T 50 = _ from d1) (fun hc => ?_) (fun hc h => absurd h hc)
            have e1 : (oF 63 T).eval (.tmp 55) = .agg #[.string n, .int .i64 k, .int .i64 a, .int .i64 x, .int .i64 y, .int .i64 z, .int .i64 lo, .int .i64 hi, .slice fp fl fc] := (oF_eval (by decide)).trans (G1 hc)
            refine o_call (oc1 (enters_of Tryd.func54 (by kernel_rfl) rfl) rfl rfl e1) rfl ?_
            exact (q3.out w9).mono fun r W' h => ⟨_, h.1, (fun _ => rfl), h.2.kx⟩
          · intro T w9 hG hD hO Q
            have d0 := hD.1
            have q0 := hO.1
            have e0 : (oF 63 T).eval (.tmp 3) = .pointer (some ⟨w.heap.size + 1, 0, none⟩) := (oF_eval (by decide)).trans (show T 3 = _ from q0)
            refine og_some (b := true) (c := false) rfl (show T 50 = _ from d0) (fun hc => ?_) (fun hc h => absurd h hc)
            have im := b2.kx hG (by simp)
            have m0 := im.c (i := 0) rfl
            have m1 := im.c (i := 1) rfl
            have m2 := im.c (i := 2) rfl
            have m3 := im.c (i := 3) rfl
            have m4 := im.c (i := 4) rfl
            have m5 := im.c (i := 5) rfl
            have m6 := im.c (i := 6) rfl
            have m7 := im.c (i := 7) rfl
            have m8 := im.c (i := 8) rfl
            clear im
            exact o_val (v := .agg #[.string n2, .int .i64 k2, .int .i64 a2, .int .i64 x2, .int .i64 y2, .int .i64 z2, .int .i64 lo2, .int .i64 hi2, .slice fp2 fl2 fc2]) (w' := w9) (by generalize (oF 63 T).eval = rr at *; simp [execOp, go_sem, e0, m0, m1, m2, m3, m4, m5, m6, m7, m8]) rfl (fun _ => rfl) (Kx.refl _ _)
          · intro T w9 hG hD hO Q
            have d0 := hD.1
            have d1 := hD.2.1
            have e0 : (oF 63 T).eval (.func 54) = .func (.func 54) #[] #[] := rfl
            have G1 : false = true → T 57 = .agg #[.string n2, .int .i64 k2, .int .i64 a2, .int .i64 x2, .int .i64 y2, .int .i64 z2, .int .i64 lo2, .int .i64 hi2, .slice fp2 fl2 fc2] := d0
            refine og_some (b := true) (c := false) rfl (show T 50 = _ from d1) (fun hc => ?_) (fun hc h => absurd h hc)
            have e1 : (oF 63 T).eval (.tmp 57) = .agg #[.string n2, .int .i64 k2, .int .i64 a2, .int .i64 x2, .int .i64 y2, .int .i64 z2, .int .i64 lo2, .int .i64 hi2, .slice fp2 fl2 fc2] := (oF_eval (by decide)).trans (G1 hc)
            refine o_call (oc1 (enters_of Tryd.func54 (by kernel_rfl) rfl) rfl rfl e1) rfl ?_
            exact (q4.out w9).mono fun r W' h => ⟨_, h.1, (fun _ => rfl), h.2.kx⟩
          · intro T w9 hG hD hO Q
            have d0 := hD.1
            have d1 := hD.2.1
            have d2 := hD.2.2.1
            have G0 : false = true → T 56 = .int .i64 ra := d0
            have G1 : false = true → T 58 = .int .i64 rb := d1
            refine og_some (b := true) (c := false) rfl (show T 50 = _ from d2) (fun hc => ?_) (fun hc h => absurd h hc)
            have e0 : (oF 63 T).eval (.tmp 56) = .int .i64 ra := (oF_eval (by decide)).trans (G0 hc)
            have e1 : (oF 63 T).eval (.tmp 58) = .int .i64 rb := (oF_eval (by decide)).trans (G1 hc)
            exact o_val (v := .int .i64 sm) (w' := w9) (by generalize (oF 63 T).eval = rr at *; simp [execOp, go_sem, e0, e1, y24']) rfl (fun _ => rfl) (Kx.refl _ _)
          · intro T w9 hG hD hO Q
            have d0 := hD.1
            have d1 := hD.2.1
            have d2 := hD.2.2.1
            have G0 : false = true → T 54 = .int .i64 (am i) := d0
            have G1 : false = true → T 59 = .int .i64 sm := d1
            refine og_some (b := true) (c := false) rfl (show T 50 = _ from d2) (fun hc => ?_) (fun hc h => absurd h hc)
            have e0 : (oF 63 T).eval (.tmp 54) = .int .i64 (am i) := (oF_eval (by decide)).trans (G0 hc)
            have e1 : (oF 63 T).eval (.tmp 59) = .int .i64 sm := (oF_eval (by decide)).trans (G1 hc)
            exact o_val (v := .bool (decide (sm < (am i)))) (w' := w9) (by generalize (oF 63 T).eval = rr at *; simp [execOp, go_sem, e0, e1]) rfl (fun _ => rfl) (Kx.refl _ _)
          · intro T w9 hG hD hO Q
            have d0 := hD.1
            have d1 := hD.2.1
            have e0 : (oF 63 T).eval (.tmp 50) = .bool false := (oF_eval (by decide)).trans (show T 50 = _ from d0)
            have G1 : false = true → T 60 = .bool (decide (sm < (am i))) := d1
            have e1 : (oF 63 T).eval (.tmp 60) = T 60 := oF_eval (by decide)
            have e2 : (oF 63 T).eval (.const (.bool false)) = .bool false := rfl
            refine og_none rfl ?_
            exact o_val (v := .bool false) (w' := w9) (by generalize (oF 63 T).eval = rr at *; simp [execOp, go_sem, e0, e2]) rfl rfl (Kx.refl _ _)
        case fin =>
          intro T w7 hout hval hG
          have s7 := hG.2.2.2.1
          simp only [World.size_drew] at s7
          rw [show oF 63 T = (⟨#[T 0, T 1, T 2, T 3, T 4, T 5, T 6, T 7, T 8, T 9, T 10, T 11, T 12, T 13, T 14, T 15, T 16, T 17, T 18, T 19, T 20, T 21, T 22, T 23, T 24, T 25, T 26, T 27, T 28, T 29, T 30, T 31, T 32, T 33, T 34, T 35, T 36, T 37, T 38, T 39, T 40, T 41, T 42, T 43, T 44, T 45, T 46, T 47, T 48, T 49, T 50, T 51, T 52, T 53, T 54, T 55, T 56, T 57, T 58, T 59, T 60, T 61, T 62], []⟩ : Act) from oF_list 63 T]
          rw [show T 0 = .agg #[.string n, .int .i64 k, .int .i64 a, .int .i64 x, .int .i64 y, .int .i64 z, .int .i64 lo, .int .i64 hi, .slice fp fl fc] from hout 0 rfl]
          rw [show T 1 = .agg #[.string n2, .int .i64 k2, .int .i64 a2, .int .i64 x2, .int .i64 y2, .int .i64 z2, .int .i64 lo2, .int .i64 hi2, .slice fp2 fl2 fc2] from hout 1 rfl]
          rw [show T 2 = .pointer (some ⟨w.heap.size, 0, none⟩) from hout 2 rfl]
          rw [show T 3 = .pointer (some ⟨w.heap.size + 1, 0, none⟩) from hout 3 rfl]
          rw [show T 6 = .int .i64 (firstE [firstE [r1, r2]]) from hout 6 rfl]
          rw [show T 7 = .func (.func 76) #[] #[.pointer (some ⟨g3, 0, none⟩)] from hout 7 rfl]
          rw [show T 8 = .func (.func 77) #[] #[.pointer (some ⟨g3, 0, none⟩)] from hout 8 rfl]
          rw [show T 9 = .func (.func 76) #[] #[.pointer (some ⟨g4, 0, none⟩)] from hout 9 rfl]
          rw [show T 10 = .func (.func 77) #[] #[.pointer (some ⟨g4, 0, none⟩)] from hout 10 rfl]
          rw [show T 11 = .int .i64 (i : Int) from hout 11 rfl]
          rw [show T 12 = .int .i64 (ap i) from hout 12 rfl]
          rw [show T 13 = .agg #[.string n, .int .i64 k, .int .i64 a, .int .i64 x, .int .i64 y, .int .i64 z, .int .i64 lo, .int .i64 hi, .slice fp fl fc] from hout 13 rfl]
          rw [show T 14 = .agg #[.string n2, .int .i64 k2, .int .i64 a2, .int .i64 x2, .int .i64 y2, .int .i64 z2, .int .i64 lo2, .int .i64 hi2, .slice fp2 fl2 fc2] from hout 14 rfl]
          rw [show T 15 = .slice (some ⟨w.heap.size + 1 + 1, 0, none⟩) 2 2 from hout 15 rfl]
          rw [show T 16 = .func (.func F1) #[] cp1 from hout 16 rfl]
          rw [show T 17 = .slice (some ⟨w1.heap.size, 0, none⟩) 1 1 from hout 17 rfl]
          rw [show T 18 = .int .i64 (firstE [firstE [r1, r2]]) from hout 18 rfl]
          rw [show T 19 = .int .i64 (firstE [firstE [r1, r2]]) from hout 19 rfl]
          rw [show T 20 = .bool false from hout 20 rfl]
          rw [show T 22 = .tuple #[.func (.func 76) #[] #[.pointer (some ⟨g3, 0, none⟩)], .func (.func 77) #[] #[.pointer (some ⟨g3, 0, none⟩)]] from hout 22 rfl]
          rw [show T 23 = .pointer (some ⟨w.heap.size, 3, none⟩) from hout 23 rfl]
          rw [show T 24 = .tuple #[.func (.func 76) #[] #[.pointer (some ⟨g3, 0, none⟩)], .func (.func 77) #[] #[.pointer (some ⟨g3, 0, none⟩)]] from hout 24 rfl]
          rw [show T 25 = .func (.func 76) #[] #[.pointer (some ⟨g3, 0, none⟩)] from hout 25 rfl]
          rw [show T 26 = .func (.func 77) #[] #[.pointer (some ⟨g3, 0, none⟩)] from hout 26 rfl]
          rw [show T 27 = .tuple #[.func (.func 76) #[] #[.pointer (some ⟨g4, 0, none⟩)], .func (.func 77) #[] #[.pointer (some ⟨g4, 0, none⟩)]] from hout 27 rfl]
          rw [show T 28 = .pointer (some ⟨w.heap.size + 1, 3, none⟩) from hout 28 rfl]
          rw [show T 29 = .tuple #[.func (.func 76) #[] #[.pointer (some ⟨g4, 0, none⟩)], .func (.func 77) #[] #[.pointer (some ⟨g4, 0, none⟩)]] from hout 29 rfl]
          rw [show T 30 = .func (.func 76) #[] #[.pointer (some ⟨g4, 0, none⟩)] from hout 30 rfl]
          rw [show T 31 = .func (.func 77) #[] #[.pointer (some ⟨g4, 0, none⟩)] from hout 31 rfl]
          rw [show T 32 = .int .i64 (i : Int) from hout 32 rfl]
          rw [show T 33 = .bool true from hout 33 rfl]
          rw [show T 34 = .int .i64 (i : Int) from hout 34 rfl]
          rw [show T 35 = .func (.func 76) #[] #[.pointer (some ⟨g3, 0, none⟩)] from hout 35 rfl]
          rw [show T 36 = .int .i64 (i : Int) from hout 36 rfl]
          rw [show T 37 = .int .i64 (co3 x y z i) from hout 37 rfl]
          rw [show T 38 = .func (.func 76) #[] #[.pointer (some ⟨g4, 0, none⟩)] from hout 38 rfl]
          rw [show T 39 = .int .i64 (i : Int) from hout 39 rfl]
          rw [show T 40 = .int .i64 (co3 x2 y2 z2 i) from hout 40 rfl]
          rw [show T 41 = .int .i64 (ap i) from hout 41 rfl]
          rw [show T 61 = .bool false from hval 19 (by decide : 19 < 20)]
          rw [show T 21 = undef from hout 21 rfl]
          replace b1 := b1.kx hG (by simp)
          replace b2 := b2.kx hG (by simp)
          replace b3 := b3.kx hG (by simp)
          replace b4 := b4.kx hG (by simp)
          replace p3 := p3.kx hG (by simp)
          replace p4 := p4.kx hG (by simp)
          replace kx := (show Kb _ _ from kx.drew).trans hG.nil
          replace gl := gl0.out.kb kx
          clear hout hval hG
          go_wp2_with fail
          have hqi := Hi.out
          go_roundg (gk - 1)
          case measure => omega
          case rel => exact ⟨i + 1, by go_num, by omega, Lib.hid (upto_succ Ei.out (by simp [fpR, h3])), b1, b2, b3, b4, p3, p4, kx⟩
    · skip
      have h2n : ¬ i < 3 := by omega
      go_wp2
      go_ret2
      exact ⟨by rw [any3_f (i := i) (by omega) Ei.out]; rfl, kx⟩
end Go.Proofs.YtdmfkgopalelgaaDoor
