/- Features: clones without frames; places. -/
import Derived.Test.YtdmfkgopalelgaaDoorQg4
import Derived.Lib.SliceRun
namespace Go.Proofs.YtdmfkgopalelgaaDoor
open Go.RowKit

set_option maxRecDepth 100000 in
set_option maxHeartbeats 1000000 in
theorem fCloneN_1 (w : World)  : Calls Tryd.prog 91 #[.slice none 0 0] w fun r W' => r = .returned (.slice none 0 0) ∧ Kb w W' := by
  have kx := Kb.refl w
  have qn : ∀ (w : World) (a : Option Addr) (n c n' c' : Nat), (binOp .eql 26 (.slice a n c) (.slice none n' c')).run Tryd.prog w = .ok (.bool a.isNone) w := fun w a n c n' c' => Lib.run_eql_slice_nil w _ _ a n c n' c' Tryd.underlying26
  go_enter Tryd.func91, Tryd.ntmps91
  go_wp2
  go_ret
  exact ⟨rfl, kx⟩
set_option maxRecDepth 100000 in
theorem fCloneN_any     : Ca 91 #[.slice none 0 0] (.slice none 0 0) := Lib.hid fun w => by
  exact fCloneN_1  w
set_option maxRecDepth 100000 in
set_option maxHeartbeats 1000000 in
theorem fEachN_1 (w : World)  : Calls Tryd.prog 88 #[.slice none 0 0, .func (.func 89) #[] #[]] w fun r W' => r = .returned (.slice none 0 0) ∧ Kb w W' := by
  have kx := Kb.refl w
  go_enter Tryd.func88, Tryd.ntmps88
  go_wp2_with fail
  (with_reducible refine ((Ca.o fCloneN_any _)).mono ?_)
  rintro r w1 ⟨rfl, k1⟩
  replace kx := kx.trans k1
  have s1 := k1.size
  skip
  clear k1
  go_wp2_with fail
  refine wp_loop_rounds 1 ?_
  rw [rounds_succ]
  go_wp2
  go_ret
  exact ⟨rfl, kx⟩
set_option maxRecDepth 100000 in
theorem fEachN_any     : Ca 88 #[.slice none 0 0, .func (.func 89) #[] #[]] (.slice none 0 0) := Lib.hid fun w => by
  exact fEachN_1  w
set_option maxRecDepth 100000 in
set_option maxHeartbeats 1000000 in
theorem fCloneF_1 (n : ByteArray) (k : Int) (a : Int) (x : Int) (y : Int) (z : Int) (lo : Int) (hi : Int) (w : World)  : Calls Tryd.prog 82 #[.agg #[.string n, .int .i64 k, .int .i64 a, .int .i64 x, .int .i64 y, .int .i64 z, .int .i64 lo, .int .i64 hi, .slice none 0 0]] w fun r W' => r = .returned (.agg #[.string n, .int .i64 k, .int .i64 a, .int .i64 x, .int .i64 y, .int .i64 z, .int .i64 lo, .int .i64 hi, .slice none 0 0]) ∧ Kb w W' := by
  have kx := Kb.refl w
  have j1 := ((Is.made w #[.string n, .int .i64 k, .int .i64 a, .int .i64 x, .int .i64 y, .int .i64 z, .int .i64 lo, .int .i64 hi, .slice none 0 0] 28).alloc (.cells #[.string ⟨#[]⟩, .int .i64 0, .int .i64 0, .int .i64 0, .int .i64 0, .int .i64 0, .int .i64 0, .int .i64 0, .slice none 0 0] 28 (0, 0)))
  have f2 := j1.c (i := 8) rfl
  go_enter Tryd.func82, Tryd.ntmps82
  go_wp2_with fail
  clear f2
  have b1 := j1
  have b2 := Is.made (w.alloc (.cells #[.string n, .int .i64 k, .int .i64 a, .int .i64 x, .int .i64 y, .int .i64 z, .int .i64 lo, .int .i64 hi, .slice none 0 0] 28 (0, 0))) #[.string ⟨#[]⟩, .int .i64 0, .int .i64 0, .int .i64 0, .int .i64 0, .int .i64 0, .int .i64 0, .int .i64 0, .slice none 0 0] 28
  simp only [World.size_alloc] at b2
  replace kx := (kx.alloc (.cells #[.string n, .int .i64 k, .int .i64 a, .int .i64 x, .int .i64 y, .int .i64 z, .int .i64 lo, .int .i64 hi, .slice none 0 0] 28 (0, 0))).alloc (.cells #[.string ⟨#[]⟩, .int .i64 0, .int .i64 0, .int .i64 0, .int .i64 0, .int .i64 0, .int .i64 0, .int .i64 0, .slice none 0 0] 28 (0, 0))
  clear j1
  (with_reducible refine ((Ca.o fEachN_any _)).mono ?_)
  rintro r w1 ⟨rfl, k1⟩
  replace b1 := b1.kb k1
  replace b2 := b2.kb k1
  replace kx := kx.trans k1
  have s1 := k1.size
  simp only [World.size_alloc] at s1
  clear k1
  have f3 := b1.c (i := 8) rfl
  have f4 := b1.f 8
  have j5 := (b1.set 8 (.slice none 0 0))
  have f6 := j5.c (i := 0) rfl
  have f7 := j5.c (i := 1) rfl
  have f8 := j5.c (i := 2) rfl
  have f9 := j5.c (i := 3) rfl
  have f10 := j5.c (i := 4) rfl
  have f11 := j5.c (i := 5) rfl
  have f12 := j5.c (i := 6) rfl
  have f13 := j5.c (i := 7) rfl
  have f14 := j5.c (i := 8) rfl
  have j15 := (b2.far (p := ⟨w.heap.size, 8, none⟩) (show w.heap.size + 1 ≠ w.heap.size by omega) (.slice none 0 0))
  have f16 := j15.c (i := 0) rfl
  have f17 := j15.f 0
  have f18 := j15.c (i := 1) rfl
  have f19 := j15.f 1
  have f20 := j15.c (i := 2) rfl
  have f21 := j15.f 2
  have f22 := j15.c (i := 3) rfl
  have f23 := j15.f 3
  have f24 := j15.c (i := 4) rfl
  have f25 := j15.f 4
  have f26 := j15.c (i := 5) rfl
  have f27 := j15.f 5
  have f28 := j15.c (i := 6) rfl
  have f29 := j15.f 6
  have f30 := j15.c (i := 7) rfl
  have f31 := j15.f 7
  have f32 := j15.c (i := 8) rfl
  have f33 := j15.f 8
  go_wp2
  clear f3 f4 f6 f7 f8 f9 f10 f11 f12 f13 f14 f16 f17 f18 f19 f20 f21 f22 f23 f24 f25 f26 f27 f28 f29 f30 f31 f32 f33
  replace b2 := (b2.far (p := ⟨w.heap.size, 8, none⟩) (show w.heap.size + 1 ≠ w.heap.size by omega) (.slice none 0 0))
  replace b2 : Is _ _ #[.string n, .int .i64 0, .int .i64 0, .int .i64 0, .int .i64 0, .int .i64 0, .int .i64 0, .int .i64 0, .slice none 0 0] _ := b2.set 0 (.string n)
  replace b2 : Is _ _ #[.string n, .int .i64 k, .int .i64 0, .int .i64 0, .int .i64 0, .int .i64 0, .int .i64 0, .int .i64 0, .slice none 0 0] _ := b2.set 1 (.int .i64 k)
  replace b2 : Is _ _ #[.string n, .int .i64 k, .int .i64 a, .int .i64 0, .int .i64 0, .int .i64 0, .int .i64 0, .int .i64 0, .slice none 0 0] _ := b2.set 2 (.int .i64 a)
  replace b2 : Is _ _ #[.string n, .int .i64 k, .int .i64 a, .int .i64 x, .int .i64 0, .int .i64 0, .int .i64 0, .int .i64 0, .slice none 0 0] _ := b2.set 3 (.int .i64 x)
  replace b2 : Is _ _ #[.string n, .int .i64 k, .int .i64 a, .int .i64 x, .int .i64 y, .int .i64 0, .int .i64 0, .int .i64 0, .slice none 0 0] _ := b2.set 4 (.int .i64 y)
  replace b2 : Is _ _ #[.string n, .int .i64 k, .int .i64 a, .int .i64 x, .int .i64 y, .int .i64 z, .int .i64 0, .int .i64 0, .slice none 0 0] _ := b2.set 5 (.int .i64 z)
  replace b2 : Is _ _ #[.string n, .int .i64 k, .int .i64 a, .int .i64 x, .int .i64 y, .int .i64 z, .int .i64 lo, .int .i64 0, .slice none 0 0] _ := b2.set 6 (.int .i64 lo)
  replace b2 : Is _ _ #[.string n, .int .i64 k, .int .i64 a, .int .i64 x, .int .i64 y, .int .i64 z, .int .i64 lo, .int .i64 hi, .slice none 0 0] _ := b2.set 7 (.int .i64 hi)
  replace b2 : Is _ _ #[.string n, .int .i64 k, .int .i64 a, .int .i64 x, .int .i64 y, .int .i64 z, .int .i64 lo, .int .i64 hi, .slice none 0 0] _ := b2.set 8 (.slice none 0 0)
  replace kx := (((((((((kx.setCell (p := ⟨w.heap.size, 8, none⟩) (show w.heap.size ≤ w.heap.size by omega) (.slice none 0 0)).setCell (p := ⟨w.heap.size + 1, 0, none⟩) (show w.heap.size ≤ w.heap.size + 1 by omega) (.string n)).setCell (p := ⟨w.heap.size + 1, 1, none⟩) (show w.heap.size ≤ w.heap.size + 1 by omega) (.int .i64 k)).setCell (p := ⟨w.heap.size + 1, 2, none⟩) (show w.heap.size ≤ w.heap.size + 1 by omega) (.int .i64 a)).setCell (p := ⟨w.heap.size + 1, 3, none⟩) (show w.heap.size ≤ w.heap.size + 1 by omega) (.int .i64 x)).setCell (p := ⟨w.heap.size + 1, 4, none⟩) (show w.heap.size ≤ w.heap.size + 1 by omega) (.int .i64 y)).setCell (p := ⟨w.heap.size + 1, 5, none⟩) (show w.heap.size ≤ w.heap.size + 1 by omega) (.int .i64 z)).setCell (p := ⟨w.heap.size + 1, 6, none⟩) (show w.heap.size ≤ w.heap.size + 1 by omega) (.int .i64 lo)).setCell (p := ⟨w.heap.size + 1, 7, none⟩) (show w.heap.size ≤ w.heap.size + 1 by omega) (.int .i64 hi)).setCell (p := ⟨w.heap.size + 1, 8, none⟩) (show w.heap.size ≤ w.heap.size + 1 by omega) (.slice none 0 0)
  refine ret_row Tryd.results82 rfl rfl b2 Tryd.underlying28 rfl (by kernel_rfl) ?_
  exact ⟨rfl, kx⟩
set_option maxRecDepth 100000 in
theorem fCloneF_any (n : ByteArray) (k : Int) (a : Int) (x : Int) (y : Int) (z : Int) (lo : Int) (hi : Int)    : Ca 82 #[.agg #[.string n, .int .i64 k, .int .i64 a, .int .i64 x, .int .i64 y, .int .i64 z, .int .i64 lo, .int .i64 hi, .slice none 0 0]] (.agg #[.string n, .int .i64 k, .int .i64 a, .int .i64 x, .int .i64 y, .int .i64 z, .int .i64 lo, .int .i64 hi, .slice none 0 0]) := Lib.hid fun w => by
  exact fCloneF_1 n k a x y z lo hi w
set_option maxRecDepth 100000 in
set_option maxHeartbeats 1000000 in
theorem fplaceN_1 (n : ByteArray) (k : Int) (a : Int) (x : Int) (y : Int) (z : Int) (lo : Int) (hi : Int) (u : Int) (v : Int) (s : Int) (t1 : ByteArray) (r2 : Int) (r3 : Int) (r4 : Int) (r5 : Int) (r6 : Int) (r7 : Int) (r8 : Int) (v9p : Option Addr) (v9l : Nat) (v9c : Nat)   (q1 : Ca 82 #[.agg #[.string n, .int .i64 k, .int .i64 a, .int .i64 u, .int .i64 v, .int .i64 s, .int .i64 lo, .int .i64 hi, .slice none 0 0]] (.agg #[.string t1, .int .i64 r2, .int .i64 r3, .int .i64 r4, .int .i64 r5, .int .i64 r6, .int .i64 r7, .int .i64 r8, .slice v9p v9l v9c])) (w : World)  : Calls Tryd.prog 60 #[.agg #[.string n, .int .i64 k, .int .i64 a, .int .i64 x, .int .i64 y, .int .i64 z, .int .i64 lo, .int .i64 hi, .slice none 0 0], .agg #[.int .i64 u, .int .i64 v, .int .i64 s]] w fun r W' => r = .returned (.agg #[.string t1, .int .i64 r2, .int .i64 r3, .int .i64 r4, .int .i64 r5, .int .i64 r6, .int .i64 r7, .int .i64 r8, .slice v9p v9l v9c]) ∧ Kb w W' := by
  have kx := Kb.refl w
  unfold Ca at q1
  have j1 := ((Is.made (w.alloc (.cells #[.string n, .int .i64 k, .int .i64 a, .int .i64 x, .int .i64 y, .int .i64 z, .int .i64 lo, .int .i64 hi, .slice none 0 0] 28 (0, 0))) #[.int .i64 u, .int .i64 v, .int .i64 s] 23).alloc (.cells #[.string ⟨#[]⟩, .int .i64 0, .int .i64 0, .int .i64 0, .int .i64 0, .int .i64 0, .int .i64 0, .int .i64 0, .slice none 0 0] 28 (0, 0)))
  simp only [World.size_alloc] at j1
  have f2 := j1.c (i := 0) rfl
  have f3 := j1.c (i := 1) rfl
  have f4 := j1.c (i := 2) rfl
  have j5 := (((Is.made w #[.string n, .int .i64 k, .int .i64 a, .int .i64 u, .int .i64 v, .int .i64 s, .int .i64 lo, .int .i64 hi, .slice none 0 0] 28).alloc (.cells #[.int .i64 u, .int .i64 v, .int .i64 s] 23 (0, 0))).alloc (.cells #[.string ⟨#[]⟩, .int .i64 0, .int .i64 0, .int .i64 0, .int .i64 0, .int .i64 0, .int .i64 0, .int .i64 0, .slice none 0 0] 28 (0, 0)))
  have f6 := j5.c (i := 0) rfl
  have f7 := j5.c (i := 1) rfl
  have f8 := j5.c (i := 2) rfl
  have f9 := j5.c (i := 3) rfl
  have f10 := j5.c (i := 4) rfl
  have f11 := j5.c (i := 5) rfl
  have f12 := j5.c (i := 6) rfl
  have f13 := j5.c (i := 7) rfl
  have f14 := j5.c (i := 8) rfl
  go_enter Tryd.func60, Tryd.ntmps60
  go_wp2_with fail
  clear f2 f3 f4 f6 f7 f8 f9 f10 f11 f12 f13 f14
  have b1 := j5
  have b2 := Is.made (w.alloc (.cells #[.string n, .int .i64 k, .int .i64 a, .int .i64 u, .int .i64 v, .int .i64 s, .int .i64 lo, .int .i64 hi, .slice none 0 0] 28 (0, 0))) #[.int .i64 u, .int .i64 v, .int .i64 s] 23
  simp only [World.size_alloc] at b2
  replace b2 := (b2.alloc (.cells #[.string ⟨#[]⟩, .int .i64 0, .int .i64 0, .int .i64 0, .int .i64 0, .int .i64 0, .int .i64 0, .int .i64 0, .slice none 0 0] 28 (0, 0)))
  have b3 := Is.made ((w.alloc (.cells #[.string n, .int .i64 k, .int .i64 a, .int .i64 u, .int .i64 v, .int .i64 s, .int .i64 lo, .int .i64 hi, .slice none 0 0] 28 (0, 0))).alloc (.cells #[.int .i64 u, .int .i64 v, .int .i64 s] 23 (0, 0))) #[.string ⟨#[]⟩, .int .i64 0, .int .i64 0, .int .i64 0, .int .i64 0, .int .i64 0, .int .i64 0, .int .i64 0, .slice none 0 0] 28
  simp only [World.size_alloc] at b3
  replace kx := ((kx.alloc (.cells #[.string n, .int .i64 k, .int .i64 a, .int .i64 u, .int .i64 v, .int .i64 s, .int .i64 lo, .int .i64 hi, .slice none 0 0] 28 (0, 0))).alloc (.cells #[.int .i64 u, .int .i64 v, .int .i64 s] 23 (0, 0))).alloc (.cells #[.string ⟨#[]⟩, .int .i64 0, .int .i64 0, .int .i64 0, .int .i64 0, .int .i64 0, .int .i64 0, .int .i64 0, .slice none 0 0] 28 (0, 0))
  clear j1 j5
  (with_reducible refine (((q1).out _)).mono ?_)
  rintro r w1 ⟨rfl, k1⟩
  replace b1 := b1.kb k1
  replace b2 := b2.kb k1
  replace b3 := b3.kb k1
  replace kx := kx.trans k1
  have s1 := k1.size
  simp only [World.size_alloc] at s1
  clear k1
  have f15 := b3.c (i := 0) rfl
  have f16 := b3.f 0
  have f17 := b3.c (i := 1) rfl
  have f18 := b3.f 1
  have f19 := b3.c (i := 2) rfl
  have f20 := b3.f 2
  have f21 := b3.c (i := 3) rfl
  have f22 := b3.f 3
  have f23 := b3.c (i := 4) rfl
  have f24 := b3.f 4
  have f25 := b3.c (i := 5) rfl
  have f26 := b3.f 5
  have f27 := b3.c (i := 6) rfl
  have f28 := b3.f 6
  have f29 := b3.c (i := 7) rfl
  have f30 := b3.f 7
  have f31 := b3.c (i := 8) rfl
  have f32 := b3.f 8
  go_wp2
  clear f15 f16 f17 f18 f19 f20 f21 f22 f23 f24 f25 f26 f27 f28 f29 f30 f31 f32
  replace b3 : Is _ _ #[.string t1, .int .i64 0, .int .i64 0, .int .i64 0, .int .i64 0, .int .i64 0, .int .i64 0, .int .i64 0, .slice none 0 0] _ := b3.set 0 (.string t1)
  replace b3 : Is _ _ #[.string t1, .int .i64 r2, .int .i64 0, .int .i64 0, .int .i64 0, .int .i64 0, .int .i64 0, .int .i64 0, .slice none 0 0] _ := b3.set 1 (.int .i64 r2)
  replace b3 : Is _ _ #[.string t1, .int .i64 r2, .int .i64 r3, .int .i64 0, .int .i64 0, .int .i64 0, .int .i64 0, .int .i64 0, .slice none 0 0] _ := b3.set 2 (.int .i64 r3)
  replace b3 : Is _ _ #[.string t1, .int .i64 r2, .int .i64 r3, .int .i64 r4, .int .i64 0, .int .i64 0, .int .i64 0, .int .i64 0, .slice none 0 0] _ := b3.set 3 (.int .i64 r4)
  replace b3 : Is _ _ #[.string t1, .int .i64 r2, .int .i64 r3, .int .i64 r4, .int .i64 r5, .int .i64 0, .int .i64 0, .int .i64 0, .slice none 0 0] _ := b3.set 4 (.int .i64 r5)
  replace b3 : Is _ _ #[.string t1, .int .i64 r2, .int .i64 r3, .int .i64 r4, .int .i64 r5, .int .i64 r6, .int .i64 0, .int .i64 0, .slice none 0 0] _ := b3.set 5 (.int .i64 r6)
  replace b3 : Is _ _ #[.string t1, .int .i64 r2, .int .i64 r3, .int .i64 r4, .int .i64 r5, .int .i64 r6, .int .i64 r7, .int .i64 0, .slice none 0 0] _ := b3.set 6 (.int .i64 r7)
  replace b3 : Is _ _ #[.string t1, .int .i64 r2, .int .i64 r3, .int .i64 r4, .int .i64 r5, .int .i64 r6, .int .i64 r7, .int .i64 r8, .slice none 0 0] _ := b3.set 7 (.int .i64 r8)
  replace b3 : Is _ _ #[.string t1, .int .i64 r2, .int .i64 r3, .int .i64 r4, .int .i64 r5, .int .i64 r6, .int .i64 r7, .int .i64 r8, .slice v9p v9l v9c] _ := b3.set 8 (.slice v9p v9l v9c)
  replace kx := ((((((((kx.setCell (p := ⟨w.heap.size + 1 + 1, 0, none⟩) (show w.heap.size ≤ w.heap.size + 1 + 1 by omega) (.string t1)).setCell (p := ⟨w.heap.size + 1 + 1, 1, none⟩) (show w.heap.size ≤ w.heap.size + 1 + 1 by omega) (.int .i64 r2)).setCell (p := ⟨w.heap.size + 1 + 1, 2, none⟩) (show w.heap.size ≤ w.heap.size + 1 + 1 by omega) (.int .i64 r3)).setCell (p := ⟨w.heap.size + 1 + 1, 3, none⟩) (show w.heap.size ≤ w.heap.size + 1 + 1 by omega) (.int .i64 r4)).setCell (p := ⟨w.heap.size + 1 + 1, 4, none⟩) (show w.heap.size ≤ w.heap.size + 1 + 1 by omega) (.int .i64 r5)).setCell (p := ⟨w.heap.size + 1 + 1, 5, none⟩) (show w.heap.size ≤ w.heap.size + 1 + 1 by omega) (.int .i64 r6)).setCell (p := ⟨w.heap.size + 1 + 1, 6, none⟩) (show w.heap.size ≤ w.heap.size + 1 + 1 by omega) (.int .i64 r7)).setCell (p := ⟨w.heap.size + 1 + 1, 7, none⟩) (show w.heap.size ≤ w.heap.size + 1 + 1 by omega) (.int .i64 r8)).setCell (p := ⟨w.heap.size + 1 + 1, 8, none⟩) (show w.heap.size ≤ w.heap.size + 1 + 1 by omega) (.slice v9p v9l v9c)
  refine ret_row Tryd.results60 rfl rfl b3 Tryd.underlying28 rfl (by kernel_rfl) ?_
  exact ⟨rfl, kx⟩
set_option maxRecDepth 100000 in
theorem fplaceN_any (n : ByteArray) (k : Int) (a : Int) (x : Int) (y : Int) (z : Int) (lo : Int) (hi : Int) (u : Int) (v : Int) (s : Int) (t1 : ByteArray) (r2 : Int) (r3 : Int) (r4 : Int) (r5 : Int) (r6 : Int) (r7 : Int) (r8 : Int) (v9p : Option Addr) (v9l : Nat) (v9c : Nat) (q1 : Ca 82 #[.agg #[.string n, .int .i64 k, .int .i64 a, .int .i64 u, .int .i64 v, .int .i64 s, .int .i64 lo, .int .i64 hi, .slice none 0 0]] (.agg #[.string t1, .int .i64 r2, .int .i64 r3, .int .i64 r4, .int .i64 r5, .int .i64 r6, .int .i64 r7, .int .i64 r8, .slice v9p v9l v9c]))  : Ca 60 #[.agg #[.string n, .int .i64 k, .int .i64 a, .int .i64 x, .int .i64 y, .int .i64 z, .int .i64 lo, .int .i64 hi, .slice none 0 0], .agg #[.int .i64 u, .int .i64 v, .int .i64 s]] (.agg #[.string t1, .int .i64 r2, .int .i64 r3, .int .i64 r4, .int .i64 r5, .int .i64 r6, .int .i64 r7, .int .i64 r8, .slice v9p v9l v9c]) := Lib.hid fun w => by
  exact fplaceN_1 n k a x y z lo hi u v s t1 r2 r3 r4 r5 r6 r7 r8 v9p v9l v9c q1 w
end Go.Proofs.YtdmfkgopalelgaaDoor
