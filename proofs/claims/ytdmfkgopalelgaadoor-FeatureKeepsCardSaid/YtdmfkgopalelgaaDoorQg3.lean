/- Features: the table of kinds; sizes. -/
import Derived.Test.YtdmfkgopalelgaaDoorQg2
namespace Go.Proofs.YtdmfkgopalelgaaDoor
open Go.RowKit

/-! the table of kinds: whether material is around; bounded along the own axis; along the others -/
def kdL : List Bool := [false, true, false, true, false, true, false, false, true, true, true, false, false, true, true]
def Gl (w : World) : Prop := ∀ i, i < 15 → w.cell? ⟨0, i, none⟩ = some (.bool (kdL.getD i false))
section
variable {w a : World}
theorem Gl.c (h : Gl w) (i : Nat) (hi : i < 15) : w.cell? ⟨0, i, none⟩ = some (.bool (kdL.getD i false)) := h i hi
theorem Gl.lt (h : Gl w) : 0 < w.heap.size := World.block_lt_of_cell? w _ (h 0 (by decide))
theorem Gl.kb (h : Gl a) (k : Kb a w) : Gl w := fun i hi => k.cell (h i hi)
theorem Gl.alloc (h : Gl w) (o : Obj) : Gl (w.alloc o) := fun i hi => cell_al (h i hi) o
theorem Gl.drew (h : Gl w) : Gl w.drew := h
theorem Gl.far (h : Gl w) {p : Addr} (hp : 0 ≠ p.block) (u : Value) : Gl (w.setCell p u) := fun i hi => cell_far (h i hi) hp
theorem Gl.kx {L : List Nat} (h : Gl a) (k : Kx L a w) (hn : 0 ∉ L) : Gl w := fun i hi => (World.cell?_of_block (w := a) (k.2.2.2.2 _ h.lt hn)).trans (h i hi)
theorem Gl.gn {b : Nat} {z n : Array Value} {T : TypeId} (h : Gl a) (k : Gn b z n T a w) (hl : 0 < b) : Gl w := fun i hi => (World.cell?_of_block (w := a) ((k.2.2.2.2 _ h.lt).resolve_right (fun e => by omega))).trans (h i hi)
end
/-- what a call gives, in every world that has the table -/
def Cg (n : Nat) (args : Array Value) (v : Value) : Prop := Hid (∀ W : World, Gl W → Calls Tryd.prog n args W fun r w' => r = .returned v ∧ Kb W w')
theorem Cg.out {n : Nat} {args : Array Value} {v : Value} (h : Cg n args v) (W : World) (g : Gl W) : Calls Tryd.prog n args W fun r w' => r = .returned v ∧ Kb W w' := h W g
theorem Ca.o {n : Nat} {args : Array Value} {v : Value} (h : Ca n args v) (W : World) : Calls Tryd.prog n args W fun r w' => r = .returned v ∧ Kb W w' := h W
section
variable {F : Nat} {r : Operand → Value} {o : Oper} {w : World} {c x y : Operand} {u v p : Value} {ty : Array TypeId}
theorem os1 (he : ∀ args w, (callFunc F args).run Tryd.prog w = .ok (.enter F args) w) (h : o.op = .call { callee := .value c, args := #[x], argTypes := ty }) (hf : r c = .func (.func F) #[] #[p]) (hx : r x = u) : (execOp r o).run Tryd.prog w = .ok (.enter F #[u, p]) w := by
  simp [execOp, h, hf, go_sem, he, hx]
end
theorem ne_of_beq_false {a b : Int} (h : (a == b) = false) : a ≠ b := by simpa using h
set_option maxRecDepth 100000 in
set_option maxHeartbeats 1000000 in
theorem fsizeT_1 (n : ByteArray) (k : Int) (a : Int) (x : Int) (y : Int) (z : Int) (lo : Int) (hi : Int) (fp : Option Addr) (fl : Nat) (fc : Nat) (r1 : Int)   (q1 : Ca 18 #[.agg #[.string n, .int .i64 k, .int .i64 a, .int .i64 x, .int .i64 y, .int .i64 z, .int .i64 lo, .int .i64 hi, .slice fp fl fc]] (.int .i64 r1))  (h1 : (r1 != 0) = true) (w : World) (gl : Gl w)  : Calls Tryd.prog 35 #[.agg #[.string n, .int .i64 k, .int .i64 a, .int .i64 x, .int .i64 y, .int .i64 z, .int .i64 lo, .int .i64 hi, .slice fp fl fc], .bool true] w fun r W' => r = .returned (.tuple #[.int .i64 0, .int .i64 r1]) ∧ Kb w W' := by
  have kx := Kb.refl w
  unfold Ca at q1
  have gl0 := Lib.hid gl
  have j1 := (Is.made w #[.string n, .int .i64 k, .int .i64 a, .int .i64 x, .int .i64 y, .int .i64 z, .int .i64 lo, .int .i64 hi, .slice fp fl fc] 28)
  have f2 := j1.c (i := 0) rfl
  have f3 := j1.c (i := 1) rfl
  have f4 := j1.c (i := 2) rfl
  have f5 := j1.c (i := 3) rfl
  have f6 := j1.c (i := 4) rfl
  have f7 := j1.c (i := 5) rfl
  have f8 := j1.c (i := 6) rfl
  have f9 := j1.c (i := 7) rfl
  have f10 := j1.c (i := 8) rfl
  go_enter Tryd.func35, Tryd.ntmps35
  go_wp2_with fail
  clear f2 f3 f4 f5 f6 f7 f8 f9 f10
  have b1 := j1
  replace kx := kx.alloc (.cells #[.string n, .int .i64 k, .int .i64 a, .int .i64 x, .int .i64 y, .int .i64 z, .int .i64 lo, .int .i64 hi, .slice fp fl fc] 28 (0, 0))
  clear j1
  replace gl := gl0.out.kb kx
  (with_reducible refine (((q1).out _)).mono ?_)
  rintro r w1 ⟨rfl, k1⟩
  replace gl := gl.kb k1
  replace b1 := b1.kb k1
  replace kx := kx.trans k1
  have s1 := k1.size
  simp only [World.size_alloc] at s1
  clear k1
  go_wp2
  go_ret2
  exact ⟨rfl, kx⟩
set_option maxRecDepth 100000 in
set_option maxHeartbeats 1000000 in
theorem fsizeT_2 (n : ByteArray) (k : Int) (a : Int) (x : Int) (y : Int) (z : Int) (lo : Int) (hi : Int) (fp : Option Addr) (fl : Nat) (fc : Nat) (r1 : Int)   (q1 : Ca 18 #[.agg #[.string n, .int .i64 k, .int .i64 a, .int .i64 x, .int .i64 y, .int .i64 z, .int .i64 lo, .int .i64 hi, .slice fp fl fc]] (.int .i64 r1))  (h1 : (r1 != 0) = false) (h2 : (k == 0) = true) (w : World) (gl : Gl w)  : Calls Tryd.prog 35 #[.agg #[.string n, .int .i64 k, .int .i64 a, .int .i64 x, .int .i64 y, .int .i64 z, .int .i64 lo, .int .i64 hi, .slice fp fl fc], .bool true] w fun r W' => r = .returned (.tuple #[.int .i64 0, .int .i64 14]) ∧ Kb w W' := by
  have kx := Kb.refl w
  unfold Ca at q1
  have gl0 := Lib.hid gl
  have j1 := (Is.made w #[.string n, .int .i64 k, .int .i64 a, .int .i64 x, .int .i64 y, .int .i64 z, .int .i64 lo, .int .i64 hi, .slice fp fl fc] 28)
  have f2 := j1.c (i := 0) rfl
  have f3 := j1.c (i := 1) rfl
  have f4 := j1.c (i := 2) rfl
  have f5 := j1.c (i := 3) rfl
  have f6 := j1.c (i := 4) rfl
  have f7 := j1.c (i := 5) rfl
  have f8 := j1.c (i := 6) rfl
  have f9 := j1.c (i := 7) rfl
  have f10 := j1.c (i := 8) rfl
  go_enter Tryd.func35, Tryd.ntmps35
  go_wp2_with fail
  clear f2 f3 f4 f5 f6 f7 f8 f9 f10
  have b1 := j1
  replace kx := kx.alloc (.cells #[.string n, .int .i64 k, .int .i64 a, .int .i64 x, .int .i64 y, .int .i64 z, .int .i64 lo, .int .i64 hi, .slice fp fl fc] 28 (0, 0))
  clear j1
  replace gl := gl0.out.kb kx
  (with_reducible refine (((q1).out _)).mono ?_)
  rintro r w1 ⟨rfl, k1⟩
  replace gl := gl.kb k1
  replace b1 := b1.kb k1
  replace kx := kx.trans k1
  have s1 := k1.size
  simp only [World.size_alloc] at s1
  clear k1
  have f11 := b1.c (i := 1) rfl
  go_wp2
  go_ret2
  clear f11
  exact ⟨rfl, kx⟩
set_option maxRecDepth 100000 in
set_option maxHeartbeats 1000000 in
theorem fsizeT_3 (n : ByteArray) (k : Int) (a : Int) (x : Int) (y : Int) (z : Int) (lo : Int) (hi : Int) (fp : Option Addr) (fl : Nat) (fc : Nat) (r1 : Int)   (q1 : Ca 18 #[.agg #[.string n, .int .i64 k, .int .i64 a, .int .i64 x, .int .i64 y, .int .i64 z, .int .i64 lo, .int .i64 hi, .slice fp fl fc]] (.int .i64 r1))  (h1 : (r1 != 0) = false) (h2 : (k == 0) = false) (h3 : (k == 1) = true) (w : World) (gl : Gl w)  : Calls Tryd.prog 35 #[.agg #[.string n, .int .i64 k, .int .i64 a, .int .i64 x, .int .i64 y, .int .i64 z, .int .i64 lo, .int .i64 hi, .slice fp fl fc], .bool true] w fun r W' => r = .returned (.tuple #[.int .i64 lo, .int .i64 0]) ∧ Kb w W' := by
  obtain rfl : k = 1 := by simpa using h3
  have kx := Kb.refl w
  unfold Ca at q1
  have gl0 := Lib.hid gl
  have j1 := (Is.made w #[.string n, .int .i64 1, .int .i64 a, .int .i64 x, .int .i64 y, .int .i64 z, .int .i64 lo, .int .i64 hi, .slice fp fl fc] 28)
  have f2 := j1.c (i := 0) rfl
  have f3 := j1.c (i := 1) rfl
  have f4 := j1.c (i := 2) rfl
  have f5 := j1.c (i := 3) rfl
  have f6 := j1.c (i := 4) rfl
  have f7 := j1.c (i := 5) rfl
  have f8 := j1.c (i := 6) rfl
  have f9 := j1.c (i := 7) rfl
  have f10 := j1.c (i := 8) rfl
  go_enter Tryd.func35, Tryd.ntmps35
  go_wp2_with fail
  clear f2 f3 f4 f5 f6 f7 f8 f9 f10
  have b1 := j1
  replace kx := kx.alloc (.cells #[.string n, .int .i64 1, .int .i64 a, .int .i64 x, .int .i64 y, .int .i64 z, .int .i64 lo, .int .i64 hi, .slice fp fl fc] 28 (0, 0))
  clear j1
  replace gl := gl0.out.kb kx
  (with_reducible refine (((q1).out _)).mono ?_)
  rintro r w1 ⟨rfl, k1⟩
  replace gl := gl.kb k1
  replace b1 := b1.kb k1
  replace kx := kx.trans k1
  have s1 := k1.size
  simp only [World.size_alloc] at s1
  clear k1
  have f11 := b1.c (i := 1) rfl
  have f12 : w1.cell? ⟨0, 3, none⟩ = some (.bool true) := gl.c 3 (by decide)
  have f13 := b1.c (i := 6) rfl
  go_wp2
  go_ret2
  clear f11 f12 f13
  exact ⟨rfl, kx⟩
set_option maxRecDepth 100000 in
set_option maxHeartbeats 1000000 in
theorem fsizeT_4 (n : ByteArray) (k : Int) (a : Int) (x : Int) (y : Int) (z : Int) (lo : Int) (hi : Int) (fp : Option Addr) (fl : Nat) (fc : Nat) (r1 : Int)   (q1 : Ca 18 #[.agg #[.string n, .int .i64 k, .int .i64 a, .int .i64 x, .int .i64 y, .int .i64 z, .int .i64 lo, .int .i64 hi, .slice fp fl fc]] (.int .i64 r1))  (h1 : (r1 != 0) = false) (h2 : (k == 0) = false) (h3 : (k == 1) = false) (h4 : (k == 2) = true) (w : World) (gl : Gl w)  : Calls Tryd.prog 35 #[.agg #[.string n, .int .i64 k, .int .i64 a, .int .i64 x, .int .i64 y, .int .i64 z, .int .i64 lo, .int .i64 hi, .slice fp fl fc], .bool true] w fun r W' => r = .returned (.tuple #[.int .i64 hi, .int .i64 0]) ∧ Kb w W' := by
  obtain rfl : k = 2 := by simpa using h4
  have kx := Kb.refl w
  unfold Ca at q1
  have gl0 := Lib.hid gl
  have j1 := (Is.made w #[.string n, .int .i64 2, .int .i64 a, .int .i64 x, .int .i64 y, .int .i64 z, .int .i64 lo, .int .i64 hi, .slice fp fl fc] 28)
  have f2 := j1.c (i := 0) rfl
  have f3 := j1.c (i := 1) rfl
  have f4 := j1.c (i := 2) rfl
  have f5 := j1.c (i := 3) rfl
  have f6 := j1.c (i := 4) rfl
  have f7 := j1.c (i := 5) rfl
  have f8 := j1.c (i := 6) rfl
  have f9 := j1.c (i := 7) rfl
  have f10 := j1.c (i := 8) rfl
  go_enter Tryd.func35, Tryd.ntmps35
  go_wp2_with fail
  clear f2 f3 f4 f5 f6 f7 f8 f9 f10
  have b1 := j1
  replace kx := kx.alloc (.cells #[.string n, .int .i64 2, .int .i64 a, .int .i64 x, .int .i64 y, .int .i64 z, .int .i64 lo, .int .i64 hi, .slice fp fl fc] 28 (0, 0))
  clear j1
  replace gl := gl0.out.kb kx
  (with_reducible refine (((q1).out _)).mono ?_)
  rintro r w1 ⟨rfl, k1⟩
  replace gl := gl.kb k1
  replace b1 := b1.kb k1
  replace kx := kx.trans k1
  have s1 := k1.size
  simp only [World.size_alloc] at s1
  clear k1
  have f11 := b1.c (i := 1) rfl
  have f12 : w1.cell? ⟨0, 6, none⟩ = some (.bool false) := gl.c 6 (by decide)
  have f13 := b1.c (i := 7) rfl
  go_wp2
  go_ret2
  clear f11 f12 f13
  exact ⟨rfl, kx⟩
set_option maxRecDepth 100000 in
set_option maxHeartbeats 1000000 in
theorem fsizeT_5 (n : ByteArray) (k : Int) (a : Int) (x : Int) (y : Int) (z : Int) (lo : Int) (hi : Int) (fp : Option Addr) (fl : Nat) (fc : Nat) (r1 : Int)   (q1 : Ca 18 #[.agg #[.string n, .int .i64 k, .int .i64 a, .int .i64 x, .int .i64 y, .int .i64 z, .int .i64 lo, .int .i64 hi, .slice fp fl fc]] (.int .i64 r1))  (h1 : (r1 != 0) = false) (h2 : (k == 0) = false) (h3 : (k == 1) = false) (h4 : (k == 2) = false) (h5 : (k == 3) = true) (w : World) (gl : Gl w)  : Calls Tryd.prog 35 #[.agg #[.string n, .int .i64 k, .int .i64 a, .int .i64 x, .int .i64 y, .int .i64 z, .int .i64 lo, .int .i64 hi, .slice fp fl fc], .bool true] w fun r W' => r = .returned (.tuple #[.int .i64 lo, .int .i64 0]) ∧ Kb w W' := by
  obtain rfl : k = 3 := by simpa using h5
  have kx := Kb.refl w
  unfold Ca at q1
  have gl0 := Lib.hid gl
  have j1 := (Is.made w #[.string n, .int .i64 3, .int .i64 a, .int .i64 x, .int .i64 y, .int .i64 z, .int .i64 lo, .int .i64 hi, .slice fp fl fc] 28)
  have f2 := j1.c (i := 0) rfl
  have f3 := j1.c (i := 1) rfl
  have f4 := j1.c (i := 2) rfl
  have f5 := j1.c (i := 3) rfl
  have f6 := j1.c (i := 4) rfl
  have f7 := j1.c (i := 5) rfl
  have f8 := j1.c (i := 6) rfl
  have f9 := j1.c (i := 7) rfl
  have f10 := j1.c (i := 8) rfl
  go_enter Tryd.func35, Tryd.ntmps35
  go_wp2_with fail
  clear f2 f3 f4 f5 f6 f7 f8 f9 f10
  have b1 := j1
  replace kx := kx.alloc (.cells #[.string n, .int .i64 3, .int .i64 a, .int .i64 x, .int .i64 y, .int .i64 z, .int .i64 lo, .int .i64 hi, .slice fp fl fc] 28 (0, 0))
  clear j1
  replace gl := gl0.out.kb kx
  (with_reducible refine (((q1).out _)).mono ?_)
  rintro r w1 ⟨rfl, k1⟩
  replace gl := gl.kb k1
  replace b1 := b1.kb k1
  replace kx := kx.trans k1
  have s1 := k1.size
  simp only [World.size_alloc] at s1
  clear k1
  have f11 := b1.c (i := 1) rfl
  have f12 : w1.cell? ⟨0, 9, none⟩ = some (.bool true) := gl.c 9 (by decide)
  have f13 := b1.c (i := 6) rfl
  go_wp2
  go_ret2
  clear f11 f12 f13
  exact ⟨rfl, kx⟩
set_option maxRecDepth 100000 in
set_option maxHeartbeats 1000000 in
theorem fsizeT_6 (n : ByteArray) (k : Int) (a : Int) (x : Int) (y : Int) (z : Int) (lo : Int) (hi : Int) (fp : Option Addr) (fl : Nat) (fc : Nat) (r1 : Int)   (q1 : Ca 18 #[.agg #[.string n, .int .i64 k, .int .i64 a, .int .i64 x, .int .i64 y, .int .i64 z, .int .i64 lo, .int .i64 hi, .slice fp fl fc]] (.int .i64 r1)) (hk : (r1 != 0) = false → 0 ≤ k ∧ k < 5)  (h1 : (r1 != 0) = false) (h2 : (k == 0) = false) (h3 : (k == 1) = false) (h4 : (k == 2) = false) (h5 : (k == 3) = false) (w : World) (gl : Gl w)  : Calls Tryd.prog 35 #[.agg #[.string n, .int .i64 k, .int .i64 a, .int .i64 x, .int .i64 y, .int .i64 z, .int .i64 lo, .int .i64 hi, .slice fp fl fc], .bool true] w fun r W' => r = .returned (.tuple #[.int .i64 hi, .int .i64 0]) ∧ Kb w W' := by
  obtain rfl : k = 4 := by have h0 := hk h1; have g0 := ne_of_beq_false h2; have g1 := ne_of_beq_false h3; have g2 := ne_of_beq_false h4; have g3 := ne_of_beq_false h5; omega
  have kx := Kb.refl w
  unfold Ca at q1
  have gl0 := Lib.hid gl
  have j1 := (Is.made w #[.string n, .int .i64 4, .int .i64 a, .int .i64 x, .int .i64 y, .int .i64 z, .int .i64 lo, .int .i64 hi, .slice fp fl fc] 28)
  have f2 := j1.c (i := 0) rfl
  have f3 := j1.c (i := 1) rfl
  have f4 := j1.c (i := 2) rfl
  have f5 := j1.c (i := 3) rfl
  have f6 := j1.c (i := 4) rfl
  have f7 := j1.c (i := 5) rfl
  have f8 := j1.c (i := 6) rfl
  have f9 := j1.c (i := 7) rfl
  have f10 := j1.c (i := 8) rfl
  go_enter Tryd.func35, Tryd.ntmps35
  go_wp2_with fail
  clear f2 f3 f4 f5 f6 f7 f8 f9 f10
  have b1 := j1
  replace kx := kx.alloc (.cells #[.string n, .int .i64 4, .int .i64 a, .int .i64 x, .int .i64 y, .int .i64 z, .int .i64 lo, .int .i64 hi, .slice fp fl fc] 28 (0, 0))
  clear j1
  replace gl := gl0.out.kb kx
  (with_reducible refine (((q1).out _)).mono ?_)
  rintro r w1 ⟨rfl, k1⟩
  replace gl := gl.kb k1
  replace b1 := b1.kb k1
  replace kx := kx.trans k1
  have s1 := k1.size
  simp only [World.size_alloc] at s1
  clear k1
  have f11 := b1.c (i := 1) rfl
  have f12 : w1.cell? ⟨0, 12, none⟩ = some (.bool false) := gl.c 12 (by decide)
  have f13 := b1.c (i := 7) rfl
  go_wp2
  go_ret2
  clear f11 f12 f13
  exact ⟨rfl, kx⟩
set_option maxRecDepth 100000 in
theorem fsizeT_any (n : ByteArray) (k : Int) (a : Int) (x : Int) (y : Int) (z : Int) (lo : Int) (hi : Int) (fp : Option Addr) (fl : Nat) (fc : Nat) (r1 : Int) (q1 : Ca 18 #[.agg #[.string n, .int .i64 k, .int .i64 a, .int .i64 x, .int .i64 y, .int .i64 z, .int .i64 lo, .int .i64 hi, .slice fp fl fc]] (.int .i64 r1)) (hk : (r1 != 0) = false → 0 ≤ k ∧ k < 5)  : Cg 35 #[.agg #[.string n, .int .i64 k, .int .i64 a, .int .i64 x, .int .i64 y, .int .i64 z, .int .i64 lo, .int .i64 hi, .slice fp fl fc], .bool true] (if (r1 != 0) = true then (.tuple #[.int .i64 0, .int .i64 r1]) else (if (k == 0) = true then (.tuple #[.int .i64 0, .int .i64 14]) else (if (k == 1) = true then (.tuple #[.int .i64 lo, .int .i64 0]) else (if (k == 2) = true then (.tuple #[.int .i64 hi, .int .i64 0]) else (if (k == 3) = true then (.tuple #[.int .i64 lo, .int .i64 0]) else (.tuple #[.int .i64 hi, .int .i64 0])))))) := Lib.hid fun w gl => by
  rcases Bool.eq_false_or_eq_true (r1 != 0) with h1 | h1
  · rw [if_pos h1]
    exact fsizeT_1 n k a x y z lo hi fp fl fc r1 q1 h1 w gl
  · rw [if_neg (by rw [h1]; decide)]
    rcases Bool.eq_false_or_eq_true (k == 0) with h2 | h2
    · rw [if_pos h2]
      exact fsizeT_2 n k a x y z lo hi fp fl fc r1 q1 h1 h2 w gl
    · rw [if_neg (by rw [h2]; decide)]
      rcases Bool.eq_false_or_eq_true (k == 1) with h3 | h3
      · rw [if_pos h3]
        exact fsizeT_3 n k a x y z lo hi fp fl fc r1 q1 h1 h2 h3 w gl
      · rw [if_neg (by rw [h3]; decide)]
        rcases Bool.eq_false_or_eq_true (k == 2) with h4 | h4
        · rw [if_pos h4]
          exact fsizeT_4 n k a x y z lo hi fp fl fc r1 q1 h1 h2 h3 h4 w gl
        · rw [if_neg (by rw [h4]; decide)]
          rcases Bool.eq_false_or_eq_true (k == 3) with h5 | h5
          · rw [if_pos h5]
            exact fsizeT_5 n k a x y z lo hi fp fl fc r1 q1 h1 h2 h3 h4 h5 w gl
          · rw [if_neg (by rw [h5]; decide)]
            exact fsizeT_6 n k a x y z lo hi fp fl fc r1 q1 hk h1 h2 h3 h4 h5 w gl
set_option maxRecDepth 100000 in
set_option maxHeartbeats 1000000 in
theorem fMaximum_1 (n : ByteArray) (k : Int) (a : Int) (x : Int) (y : Int) (z : Int) (lo : Int) (hi : Int) (fp : Option Addr) (fl : Nat) (fc : Nat) (r1 : Int) (r2 : Int)   (q1 : Cg 35 #[.agg #[.string n, .int .i64 k, .int .i64 a, .int .i64 x, .int .i64 y, .int .i64 z, .int .i64 lo, .int .i64 hi, .slice fp fl fc], .bool true] (.tuple #[.int .i64 r1, .int .i64 r2])) (w : World) (gl : Gl w)  : Calls Tryd.prog 14 #[.agg #[.string n, .int .i64 k, .int .i64 a, .int .i64 x, .int .i64 y, .int .i64 z, .int .i64 lo, .int .i64 hi, .slice fp fl fc]] w fun r W' => r = .returned (.tuple #[.int .i64 r1, .int .i64 r2]) ∧ Kb w W' := by
  have kx := Kb.refl w
  unfold Cg at q1
  have gl0 := Lib.hid gl
  have j1 := (Is.made w #[.string n, .int .i64 k, .int .i64 a, .int .i64 x, .int .i64 y, .int .i64 z, .int .i64 lo, .int .i64 hi, .slice fp fl fc] 28)
  have f2 := j1.c (i := 0) rfl
  have f3 := j1.c (i := 1) rfl
  have f4 := j1.c (i := 2) rfl
  have f5 := j1.c (i := 3) rfl
  have f6 := j1.c (i := 4) rfl
  have f7 := j1.c (i := 5) rfl
  have f8 := j1.c (i := 6) rfl
  have f9 := j1.c (i := 7) rfl
  have f10 := j1.c (i := 8) rfl
  go_enter Tryd.func14, Tryd.ntmps14
  go_wp2_with fail
  clear f2 f3 f4 f5 f6 f7 f8 f9 f10
  have b1 := j1
  replace kx := kx.alloc (.cells #[.string n, .int .i64 k, .int .i64 a, .int .i64 x, .int .i64 y, .int .i64 z, .int .i64 lo, .int .i64 hi, .slice fp fl fc] 28 (0, 0))
  clear j1
  replace gl := gl0.out.kb kx
  (with_reducible refine ((q1.out _ gl)).mono ?_)
  rintro r w1 ⟨rfl, k1⟩
  replace gl := gl.kb k1
  replace b1 := b1.kb k1
  replace kx := kx.trans k1
  have s1 := k1.size
  simp only [World.size_alloc] at s1
  clear k1
  go_wp2
  go_ret2
  exact ⟨rfl, kx⟩
set_option maxRecDepth 100000 in
theorem fMaximum_any (n : ByteArray) (k : Int) (a : Int) (x : Int) (y : Int) (z : Int) (lo : Int) (hi : Int) (fp : Option Addr) (fl : Nat) (fc : Nat) (r1 : Int) (r2 : Int) (q1 : Cg 35 #[.agg #[.string n, .int .i64 k, .int .i64 a, .int .i64 x, .int .i64 y, .int .i64 z, .int .i64 lo, .int .i64 hi, .slice fp fl fc], .bool true] (.tuple #[.int .i64 r1, .int .i64 r2]))  : Cg 14 #[.agg #[.string n, .int .i64 k, .int .i64 a, .int .i64 x, .int .i64 y, .int .i64 z, .int .i64 lo, .int .i64 hi, .slice fp fl fc]] (.tuple #[.int .i64 r1, .int .i64 r2]) := Lib.hid fun w gl => by
  exact fMaximum_1 n k a x y z lo hi fp fl fc r1 r2 q1 w gl
set_option maxRecDepth 100000 in
set_option maxHeartbeats 1000000 in
theorem fbounded_1 (n : ByteArray) (k : Int) (a : Int) (x : Int) (y : Int) (z : Int) (lo : Int) (hi : Int) (fp : Option Addr) (fl : Nat) (fc : Nat) (c : Int)      (h1 : (c == a) = true) (h2 : (k == 0) = true) (w : World) (gl : Gl w)  : Calls Tryd.prog 51 #[.agg #[.string n, .int .i64 k, .int .i64 a, .int .i64 x, .int .i64 y, .int .i64 z, .int .i64 lo, .int .i64 hi, .slice fp fl fc], .int .i64 c] w fun r W' => r = .returned (.bool true) ∧ Kb w W' := by
  obtain rfl : k = 0 := by simpa using h2
  have kx := Kb.refl w
  have gl0 := Lib.hid gl
  have j1 := (Is.made w #[.string n, .int .i64 0, .int .i64 a, .int .i64 x, .int .i64 y, .int .i64 z, .int .i64 lo, .int .i64 hi, .slice fp fl fc] 28)
  have f2 := j1.c (i := 2) rfl
  have f3 := j1.c (i := 1) rfl
  have f4 : (w.alloc (.cells #[.string n, .int .i64 0, .int .i64 a, .int .i64 x, .int .i64 y, .int .i64 z, .int .i64 lo, .int .i64 hi, .slice fp fl fc] 28 (0, 0))).cell? ⟨0, 1, none⟩ = some (.bool true) := (gl.alloc (.cells #[.string n, .int .i64 0, .int .i64 a, .int .i64 x, .int .i64 y, .int .i64 z, .int .i64 lo, .int .i64 hi, .slice fp fl fc] 28 (0, 0))).c 1 (by decide)
  go_enter Tryd.func51, Tryd.ntmps51
  go_wp2
  go_ret
  clear f2 f3 f4
  replace kx := kx.alloc (.cells #[.string n, .int .i64 0, .int .i64 a, .int .i64 x, .int .i64 y, .int .i64 z, .int .i64 lo, .int .i64 hi, .slice fp fl fc] 28 (0, 0))
  exact ⟨rfl, kx⟩
set_option maxRecDepth 100000 in
set_option maxHeartbeats 1000000 in
theorem fbounded_2 (n : ByteArray) (k : Int) (a : Int) (x : Int) (y : Int) (z : Int) (lo : Int) (hi : Int) (fp : Option Addr) (fl : Nat) (fc : Nat) (c : Int)      (h1 : (c == a) = true) (h2 : (k == 0) = false) (h3 : (k == 1) = true) (w : World) (gl : Gl w)  : Calls Tryd.prog 51 #[.agg #[.string n, .int .i64 k, .int .i64 a, .int .i64 x, .int .i64 y, .int .i64 z, .int .i64 lo, .int .i64 hi, .slice fp fl fc], .int .i64 c] w fun r W' => r = .returned (.bool false) ∧ Kb w W' := by
  obtain rfl : k = 1 := by simpa using h3
  have kx := Kb.refl w
  have gl0 := Lib.hid gl
  have j1 := (Is.made w #[.string n, .int .i64 1, .int .i64 a, .int .i64 x, .int .i64 y, .int .i64 z, .int .i64 lo, .int .i64 hi, .slice fp fl fc] 28)
  have f2 := j1.c (i := 2) rfl
  have f3 := j1.c (i := 1) rfl
  have f4 : (w.alloc (.cells #[.string n, .int .i64 1, .int .i64 a, .int .i64 x, .int .i64 y, .int .i64 z, .int .i64 lo, .int .i64 hi, .slice fp fl fc] 28 (0, 0))).cell? ⟨0, 4, none⟩ = some (.bool false) := (gl.alloc (.cells #[.string n, .int .i64 1, .int .i64 a, .int .i64 x, .int .i64 y, .int .i64 z, .int .i64 lo, .int .i64 hi, .slice fp fl fc] 28 (0, 0))).c 4 (by decide)
  go_enter Tryd.func51, Tryd.ntmps51
  go_wp2
  go_ret
  clear f2 f3 f4
  replace kx := kx.alloc (.cells #[.string n, .int .i64 1, .int .i64 a, .int .i64 x, .int .i64 y, .int .i64 z, .int .i64 lo, .int .i64 hi, .slice fp fl fc] 28 (0, 0))
  exact ⟨rfl, kx⟩
set_option maxRecDepth 100000 in
set_option maxHeartbeats 1000000 in
theorem fbounded_3 (n : ByteArray) (k : Int) (a : Int) (x : Int) (y : Int) (z : Int) (lo : Int) (hi : Int) (fp : Option Addr) (fl : Nat) (fc : Nat) (c : Int)      (h1 : (c == a) = true) (h2 : (k == 0) = false) (h3 : (k == 1) = false) (h4 : (k == 2) = true) (w : World) (gl : Gl w)  : Calls Tryd.prog 51 #[.agg #[.string n, .int .i64 k, .int .i64 a, .int .i64 x, .int .i64 y, .int .i64 z, .int .i64 lo, .int .i64 hi, .slice fp fl fc], .int .i64 c] w fun r W' => r = .returned (.bool false) ∧ Kb w W' := by
  obtain rfl : k = 2 := by simpa using h4
  have kx := Kb.refl w
  have gl0 := Lib.hid gl
  have j1 := (Is.made w #[.string n, .int .i64 2, .int .i64 a, .int .i64 x, .int .i64 y, .int .i64 z, .int .i64 lo, .int .i64 hi, .slice fp fl fc] 28)
  have f2 := j1.c (i := 2) rfl
  have f3 := j1.c (i := 1) rfl
  have f4 : (w.alloc (.cells #[.string n, .int .i64 2, .int .i64 a, .int .i64 x, .int .i64 y, .int .i64 z, .int .i64 lo, .int .i64 hi, .slice fp fl fc] 28 (0, 0))).cell? ⟨0, 7, none⟩ = some (.bool false) := (gl.alloc (.cells #[.string n, .int .i64 2, .int .i64 a, .int .i64 x, .int .i64 y, .int .i64 z, .int .i64 lo, .int .i64 hi, .slice fp fl fc] 28 (0, 0))).c 7 (by decide)
  go_enter Tryd.func51, Tryd.ntmps51
  go_wp2
  go_ret
  clear f2 f3 f4
  replace kx := kx.alloc (.cells #[.string n, .int .i64 2, .int .i64 a, .int .i64 x, .int .i64 y, .int .i64 z, .int .i64 lo, .int .i64 hi, .slice fp fl fc] 28 (0, 0))
  exact ⟨rfl, kx⟩
set_option maxRecDepth 100000 in
set_option maxHeartbeats 1000000 in
theorem fbounded_4 (n : ByteArray) (k : Int) (a : Int) (x : Int) (y : Int) (z : Int) (lo : Int) (hi : Int) (fp : Option Addr) (fl : Nat) (fc : Nat) (c : Int)      (h1 : (c == a) = true) (h2 : (k == 0) = false) (h3 : (k == 1) = false) (h4 : (k == 2) = false) (h5 : (k == 3) = true) (w : World) (gl : Gl w)  : Calls Tryd.prog 51 #[.agg #[.string n, .int .i64 k, .int .i64 a, .int .i64 x, .int .i64 y, .int .i64 z, .int .i64 lo, .int .i64 hi, .slice fp fl fc], .int .i64 c] w fun r W' => r = .returned (.bool true) ∧ Kb w W' := by
  obtain rfl : k = 3 := by simpa using h5
  have kx := Kb.refl w
  have gl0 := Lib.hid gl
  have j1 := (Is.made w #[.string n, .int .i64 3, .int .i64 a, .int .i64 x, .int .i64 y, .int .i64 z, .int .i64 lo, .int .i64 hi, .slice fp fl fc] 28)
  have f2 := j1.c (i := 2) rfl
  have f3 := j1.c (i := 1) rfl
  have f4 : (w.alloc (.cells #[.string n, .int .i64 3, .int .i64 a, .int .i64 x, .int .i64 y, .int .i64 z, .int .i64 lo, .int .i64 hi, .slice fp fl fc] 28 (0, 0))).cell? ⟨0, 10, none⟩ = some (.bool true) := (gl.alloc (.cells #[.string n, .int .i64 3, .int .i64 a, .int .i64 x, .int .i64 y, .int .i64 z, .int .i64 lo, .int .i64 hi, .slice fp fl fc] 28 (0, 0))).c 10 (by decide)
  go_enter Tryd.func51, Tryd.ntmps51
  go_wp2
  go_ret
  clear f2 f3 f4
  replace kx := kx.alloc (.cells #[.string n, .int .i64 3, .int .i64 a, .int .i64 x, .int .i64 y, .int .i64 z, .int .i64 lo, .int .i64 hi, .slice fp fl fc] 28 (0, 0))
  exact ⟨rfl, kx⟩
set_option maxRecDepth 100000 in
set_option maxHeartbeats 1000000 in
theorem fbounded_5 (n : ByteArray) (k : Int) (a : Int) (x : Int) (y : Int) (z : Int) (lo : Int) (hi : Int) (fp : Option Addr) (fl : Nat) (fc : Nat) (c : Int)     (hk : 0 ≤ k ∧ k < 5)  (h1 : (c == a) = true) (h2 : (k == 0) = false) (h3 : (k == 1) = false) (h4 : (k == 2) = false) (h5 : (k == 3) = false) (w : World) (gl : Gl w)  : Calls Tryd.prog 51 #[.agg #[.string n, .int .i64 k, .int .i64 a, .int .i64 x, .int .i64 y, .int .i64 z, .int .i64 lo, .int .i64 hi, .slice fp fl fc], .int .i64 c] w fun r W' => r = .returned (.bool true) ∧ Kb w W' := by
  obtain rfl : k = 4 := by have h0 := hk; have g0 := ne_of_beq_false h2; have g1 := ne_of_beq_false h3; have g2 := ne_of_beq_false h4; have g3 := ne_of_beq_false h5; omega
  have kx := Kb.refl w
  have gl0 := Lib.hid gl
  have j1 := (Is.made w #[.string n, .int .i64 4, .int .i64 a, .int .i64 x, .int .i64 y, .int .i64 z, .int .i64 lo, .int .i64 hi, .slice fp fl fc] 28)
  have f2 := j1.c (i := 2) rfl
  have f3 := j1.c (i := 1) rfl
  have f4 : (w.alloc (.cells #[.string n, .int .i64 4, .int .i64 a, .int .i64 x, .int .i64 y, .int .i64 z, .int .i64 lo, .int .i64 hi, .slice fp fl fc] 28 (0, 0))).cell? ⟨0, 13, none⟩ = some (.bool true) := (gl.alloc (.cells #[.string n, .int .i64 4, .int .i64 a, .int .i64 x, .int .i64 y, .int .i64 z, .int .i64 lo, .int .i64 hi, .slice fp fl fc] 28 (0, 0))).c 13 (by decide)
  go_enter Tryd.func51, Tryd.ntmps51
  go_wp2
  go_ret
  clear f2 f3 f4
  replace kx := kx.alloc (.cells #[.string n, .int .i64 4, .int .i64 a, .int .i64 x, .int .i64 y, .int .i64 z, .int .i64 lo, .int .i64 hi, .slice fp fl fc] 28 (0, 0))
  exact ⟨rfl, kx⟩
set_option maxRecDepth 100000 in
set_option maxHeartbeats 1000000 in
theorem fbounded_6 (n : ByteArray) (k : Int) (a : Int) (x : Int) (y : Int) (z : Int) (lo : Int) (hi : Int) (fp : Option Addr) (fl : Nat) (fc : Nat) (c : Int)      (h1 : (c == a) = false) (h2 : (k == 0) = true) (w : World) (gl : Gl w)  : Calls Tryd.prog 51 #[.agg #[.string n, .int .i64 k, .int .i64 a, .int .i64 x, .int .i64 y, .int .i64 z, .int .i64 lo, .int .i64 hi, .slice fp fl fc], .int .i64 c] w fun r W' => r = .returned (.bool false) ∧ Kb w W' := by
  obtain rfl : k = 0 := by simpa using h2
  have kx := Kb.refl w
  have gl0 := Lib.hid gl
  have j1 := (Is.made w #[.string n, .int .i64 0, .int .i64 a, .int .i64 x, .int .i64 y, .int .i64 z, .int .i64 lo, .int .i64 hi, .slice fp fl fc] 28)
  have f2 := j1.c (i := 2) rfl
  have f3 := j1.c (i := 1) rfl
  have f4 : (w.alloc (.cells #[.string n, .int .i64 0, .int .i64 a, .int .i64 x, .int .i64 y, .int .i64 z, .int .i64 lo, .int .i64 hi, .slice fp fl fc] 28 (0, 0))).cell? ⟨0, 2, none⟩ = some (.bool false) := (gl.alloc (.cells #[.string n, .int .i64 0, .int .i64 a, .int .i64 x, .int .i64 y, .int .i64 z, .int .i64 lo, .int .i64 hi, .slice fp fl fc] 28 (0, 0))).c 2 (by decide)
  go_enter Tryd.func51, Tryd.ntmps51
  go_wp2
  go_ret
  clear f2 f3 f4
  replace kx := kx.alloc (.cells #[.string n, .int .i64 0, .int .i64 a, .int .i64 x, .int .i64 y, .int .i64 z, .int .i64 lo, .int .i64 hi, .slice fp fl fc] 28 (0, 0))
  exact ⟨rfl, kx⟩
set_option maxRecDepth 100000 in
set_option maxHeartbeats 1000000 in
theorem fbounded_7 (n : ByteArray) (k : Int) (a : Int) (x : Int) (y : Int) (z : Int) (lo : Int) (hi : Int) (fp : Option Addr) (fl : Nat) (fc : Nat) (c : Int)      (h1 : (c == a) = false) (h2 : (k == 0) = false) (h3 : (k == 1) = true) (w : World) (gl : Gl w)  : Calls Tryd.prog 51 #[.agg #[.string n, .int .i64 k, .int .i64 a, .int .i64 x, .int .i64 y, .int .i64 z, .int .i64 lo, .int .i64 hi, .slice fp fl fc], .int .i64 c] w fun r W' => r = .returned (.bool true) ∧ Kb w W' := by
  obtain rfl : k = 1 := by simpa using h3
  have kx := Kb.refl w
  have gl0 := Lib.hid gl
  have j1 := (Is.made w #[.string n, .int .i64 1, .int .i64 a, .int .i64 x, .int .i64 y, .int .i64 z, .int .i64 lo, .int .i64 hi, .slice fp fl fc] 28)
  have f2 := j1.c (i := 2) rfl
  have f3 := j1.c (i := 1) rfl
  have f4 : (w.alloc (.cells #[.string n, .int .i64 1, .int .i64 a, .int .i64 x, .int .i64 y, .int .i64 z, .int .i64 lo, .int .i64 hi, .slice fp fl fc] 28 (0, 0))).cell? ⟨0, 5, none⟩ = some (.bool true) := (gl.alloc (.cells #[.string n, .int .i64 1, .int .i64 a, .int .i64 x, .int .i64 y, .int .i64 z, .int .i64 lo, .int .i64 hi, .slice fp fl fc] 28 (0, 0))).c 5 (by decide)
  go_enter Tryd.func51, Tryd.ntmps51
  go_wp2
  go_ret
  clear f2 f3 f4
  replace kx := kx.alloc (.cells #[.string n, .int .i64 1, .int .i64 a, .int .i64 x, .int .i64 y, .int .i64 z, .int .i64 lo, .int .i64 hi, .slice fp fl fc] 28 (0, 0))
  exact ⟨rfl, kx⟩
set_option maxRecDepth 100000 in
set_option maxHeartbeats 1000000 in
theorem fbounded_8 (n : ByteArray) (k : Int) (a : Int) (x : Int) (y : Int) (z : Int) (lo : Int) (hi : Int) (fp : Option Addr) (fl : Nat) (fc : Nat) (c : Int)      (h1 : (c == a) = false) (h2 : (k == 0) = false) (h3 : (k == 1) = false) (h4 : (k == 2) = true) (w : World) (gl : Gl w)  : Calls Tryd.prog 51 #[.agg #[.string n, .int .i64 k, .int .i64 a, .int .i64 x, .int .i64 y, .int .i64 z, .int .i64 lo, .int .i64 hi, .slice fp fl fc], .int .i64 c] w fun r W' => r = .returned (.bool true) ∧ Kb w W' := by
  obtain rfl : k = 2 := by simpa using h4
  have kx := Kb.refl w
  have gl0 := Lib.hid gl
  have j1 := (Is.made w #[.string n, .int .i64 2, .int .i64 a, .int .i64 x, .int .i64 y, .int .i64 z, .int .i64 lo, .int .i64 hi, .slice fp fl fc] 28)
  have f2 := j1.c (i := 2) rfl
  have f3 := j1.c (i := 1) rfl
  have f4 : (w.alloc (.cells #[.string n, .int .i64 2, .int .i64 a, .int .i64 x, .int .i64 y, .int .i64 z, .int .i64 lo, .int .i64 hi, .slice fp fl fc] 28 (0, 0))).cell? ⟨0, 8, none⟩ = some (.bool true) := (gl.alloc (.cells #[.string n, .int .i64 2, .int .i64 a, .int .i64 x, .int .i64 y, .int .i64 z, .int .i64 lo, .int .i64 hi, .slice fp fl fc] 28 (0, 0))).c 8 (by decide)
  go_enter Tryd.func51, Tryd.ntmps51
  go_wp2
  go_ret
  clear f2 f3 f4
  replace kx := kx.alloc (.cells #[.string n, .int .i64 2, .int .i64 a, .int .i64 x, .int .i64 y, .int .i64 z, .int .i64 lo, .int .i64 hi, .slice fp fl fc] 28 (0, 0))
  exact ⟨rfl, kx⟩
set_option maxRecDepth 100000 in
set_option maxHeartbeats 1000000 in
theorem fbounded_9 (n : ByteArray) (k : Int) (a : Int) (x : Int) (y : Int) (z : Int) (lo : Int) (hi : Int) (fp : Option Addr) (fl : Nat) (fc : Nat) (c : Int)      (h1 : (c == a) = false) (h2 : (k == 0) = false) (h3 : (k == 1) = false) (h4 : (k == 2) = false) (h5 : (k == 3) = true) (w : World) (gl : Gl w)  : Calls Tryd.prog 51 #[.agg #[.string n, .int .i64 k, .int .i64 a, .int .i64 x, .int .i64 y, .int .i64 z, .int .i64 lo, .int .i64 hi, .slice fp fl fc], .int .i64 c] w fun r W' => r = .returned (.bool false) ∧ Kb w W' := by
  obtain rfl : k = 3 := by simpa using h5
  have kx := Kb.refl w
  have gl0 := Lib.hid gl
  have j1 := (Is.made w #[.string n, .int .i64 3, .int .i64 a, .int .i64 x, .int .i64 y, .int .i64 z, .int .i64 lo, .int .i64 hi, .slice fp fl fc] 28)
  have f2 := j1.c (i := 2) rfl
  have f3 := j1.c (i := 1) rfl
  have f4 : (w.alloc (.cells #[.string n, .int .i64 3, .int .i64 a, .int .i64 x, .int .i64 y, .int .i64 z, .int .i64 lo, .int .i64 hi, .slice fp fl fc] 28 (0, 0))).cell? ⟨0, 11, none⟩ = some (.bool false) := (gl.alloc (.cells #[.string n, .int .i64 3, .int .i64 a, .int .i64 x, .int .i64 y, .int .i64 z, .int .i64 lo, .int .i64 hi, .slice fp fl fc] 28 (0, 0))).c 11 (by decide)
  go_enter Tryd.func51, Tryd.ntmps51
  go_wp2
  go_ret
  clear f2 f3 f4
  replace kx := kx.alloc (.cells #[.string n, .int .i64 3, .int .i64 a, .int .i64 x, .int .i64 y, .int .i64 z, .int .i64 lo, .int .i64 hi, .slice fp fl fc] 28 (0, 0))
  exact ⟨rfl, kx⟩
set_option maxRecDepth 100000 in
set_option maxHeartbeats 1000000 in
theorem fbounded_10 (n : ByteArray) (k : Int) (a : Int) (x : Int) (y : Int) (z : Int) (lo : Int) (hi : Int) (fp : Option Addr) (fl : Nat) (fc : Nat) (c : Int)     (hk : 0 ≤ k ∧ k < 5)  (h1 : (c == a) = false) (h2 : (k == 0) = false) (h3 : (k == 1) = false) (h4 : (k == 2) = false) (h5 : (k == 3) = false) (w : World) (gl : Gl w)  : Calls Tryd.prog 51 #[.agg #[.string n, .int .i64 k, .int .i64 a, .int .i64 x, .int .i64 y, .int .i64 z, .int .i64 lo, .int .i64 hi, .slice fp fl fc], .int .i64 c] w fun r W' => r = .returned (.bool true) ∧ Kb w W' := by
  obtain rfl : k = 4 := by have h0 := hk; have g0 := ne_of_beq_false h2; have g1 := ne_of_beq_false h3; have g2 := ne_of_beq_false h4; have g3 := ne_of_beq_false h5; omega
  have kx := Kb.refl w
  have gl0 := Lib.hid gl
  have j1 := (Is.made w #[.string n, .int .i64 4, .int .i64 a, .int .i64 x, .int .i64 y, .int .i64 z, .int .i64 lo, .int .i64 hi, .slice fp fl fc] 28)
  have f2 := j1.c (i := 2) rfl
  have f3 := j1.c (i := 1) rfl
  have f4 : (w.alloc (.cells #[.string n, .int .i64 4, .int .i64 a, .int .i64 x, .int .i64 y, .int .i64 z, .int .i64 lo, .int .i64 hi, .slice fp fl fc] 28 (0, 0))).cell? ⟨0, 14, none⟩ = some (.bool true) := (gl.alloc (.cells #[.string n, .int .i64 4, .int .i64 a, .int .i64 x, .int .i64 y, .int .i64 z, .int .i64 lo, .int .i64 hi, .slice fp fl fc] 28 (0, 0))).c 14 (by decide)
  go_enter Tryd.func51, Tryd.ntmps51
  go_wp2
  go_ret
  clear f2 f3 f4
  replace kx := kx.alloc (.cells #[.string n, .int .i64 4, .int .i64 a, .int .i64 x, .int .i64 y, .int .i64 z, .int .i64 lo, .int .i64 hi, .slice fp fl fc] 28 (0, 0))
  exact ⟨rfl, kx⟩
set_option maxRecDepth 100000 in
theorem fbounded_any (n : ByteArray) (k : Int) (a : Int) (x : Int) (y : Int) (z : Int) (lo : Int) (hi : Int) (fp : Option Addr) (fl : Nat) (fc : Nat) (c : Int)   (hk : 0 ≤ k ∧ k < 5)  : Cg 51 #[.agg #[.string n, .int .i64 k, .int .i64 a, .int .i64 x, .int .i64 y, .int .i64 z, .int .i64 lo, .int .i64 hi, .slice fp fl fc], .int .i64 c] (if (c == a) = true then (if (k == 0) = true then (.bool true) else (if (k == 1) = true then (.bool false) else (if (k == 2) = true then (.bool false) else (if (k == 3) = true then (.bool true) else (.bool true))))) else (if (k == 0) = true then (.bool false) else (if (k == 1) = true then (.bool true) else (if (k == 2) = true then (.bool true) else (if (k == 3) = true then (.bool false) else (.bool true)))))) := Lib.hid fun w gl => by
  rcases Bool.eq_false_or_eq_true (c == a) with h1 | h1
  · rw [if_pos h1]
    rcases Bool.eq_false_or_eq_true (k == 0) with h2 | h2
    · rw [if_pos h2]
      exact fbounded_1 n k a x y z lo hi fp fl fc c h1 h2 w gl
    · rw [if_neg (by rw [h2]; decide)]
      rcases Bool.eq_false_or_eq_true (k == 1) with h3 | h3
      · rw [if_pos h3]
        exact fbounded_2 n k a x y z lo hi fp fl fc c h1 h2 h3 w gl
      · rw [if_neg (by rw [h3]; decide)]
        rcases Bool.eq_false_or_eq_true (k == 2) with h4 | h4
        · rw [if_pos h4]
          exact fbounded_3 n k a x y z lo hi fp fl fc c h1 h2 h3 h4 w gl
        · rw [if_neg (by rw [h4]; decide)]
          rcases Bool.eq_false_or_eq_true (k == 3) with h5 | h5
          · rw [if_pos h5]
            exact fbounded_4 n k a x y z lo hi fp fl fc c h1 h2 h3 h4 h5 w gl
          · rw [if_neg (by rw [h5]; decide)]
            exact fbounded_5 n k a x y z lo hi fp fl fc c hk h1 h2 h3 h4 h5 w gl
  · rw [if_neg (by rw [h1]; decide)]
    rcases Bool.eq_false_or_eq_true (k == 0) with h2 | h2
    · rw [if_pos h2]
      exact fbounded_6 n k a x y z lo hi fp fl fc c h1 h2 w gl
    · rw [if_neg (by rw [h2]; decide)]
      rcases Bool.eq_false_or_eq_true (k == 1) with h3 | h3
      · rw [if_pos h3]
        exact fbounded_7 n k a x y z lo hi fp fl fc c h1 h2 h3 w gl
      · rw [if_neg (by rw [h3]; decide)]
        rcases Bool.eq_false_or_eq_true (k == 2) with h4 | h4
        · rw [if_pos h4]
          exact fbounded_8 n k a x y z lo hi fp fl fc c h1 h2 h3 h4 w gl
        · rw [if_neg (by rw [h4]; decide)]
          rcases Bool.eq_false_or_eq_true (k == 3) with h5 | h5
          · rw [if_pos h5]
            exact fbounded_9 n k a x y z lo hi fp fl fc c h1 h2 h3 h4 h5 w gl
          · rw [if_neg (by rw [h5]; decide)]
            exact fbounded_10 n k a x y z lo hi fp fl fc c hk h1 h2 h3 h4 h5 w gl
end Go.Proofs.YtdmfkgopalelgaaDoor
