/- Texts Qg3: each says in its own first comment what it proves. -/
import Derived.Test.YtlimjohnimgnhaaGreatDoorM06
/- Features: the table of kinds; sizes. -/
namespace Go.Proofs.YtlimjohnimgnhaaGreatDoor
open Go.RowKit

/-! the table of kinds: whether material is around; bounded along the own axis; along the others -/
def kdL : List Bool := [false, true, false, true, false, true, false, false, true, true, true, false, false, true, true]
def Gl (w : World) : Prop := ∀ i, i < 15 → w.cell? ⟨1, i, none⟩ = some (.bool (kdL.getD i false))
section
variable {w a : World}
theorem Gl.c (h : Gl w) (i : Nat) (hi : i < 15) : w.cell? ⟨1, i, none⟩ = some (.bool (kdL.getD i false)) := h i hi
theorem Gl.lt (h : Gl w) : 1 < w.heap.size := World.block_lt_of_cell? w _ (h 0 (by decide))
theorem Gl.kb (h : Gl a) (k : Kb a w) : Gl w := fun i hi => k.cell (h i hi)
theorem Gl.alloc (h : Gl w) (o : Obj) : Gl (w.alloc o) := fun i hi => cell_al (h i hi) o
theorem Gl.drew (h : Gl w) : Gl w.drew := h
theorem Gl.far (h : Gl w) {p : Addr} (hp : 1 ≠ p.block) (u : Value) : Gl (w.setCell p u) := fun i hi => cell_far (h i hi) hp
theorem Gl.kx {L : List Nat} (h : Gl a) (k : Kx L a w) (hn : 1 ∉ L) : Gl w := fun i hi => (World.cell?_of_block (w := a) (k.2.2.2.2 _ h.lt hn)).trans (h i hi)
theorem Gl.gn {b : Nat} {z n : Array Value} {T : TypeId} (h : Gl a) (k : Gn b z n T a w) (hl : 1 < b) : Gl w := fun i hi => (World.cell?_of_block (w := a) ((k.2.2.2.2 _ h.lt).resolve_right (fun e => by omega))).trans (h i hi)
end
/-- what a call gives, in every world that has the table -/
def Cg (n : Nat) (args : Array Value) (v : Value) : Prop := Hid (∀ W : World, Gl W → Calls Tryz.prog n args W fun r w' => r = .returned v ∧ Kb W w')
theorem Cg.out {n : Nat} {args : Array Value} {v : Value} (h : Cg n args v) (W : World) (g : Gl W) : Calls Tryz.prog n args W fun r w' => r = .returned v ∧ Kb W w' := h W g
theorem Ca.o {n : Nat} {args : Array Value} {v : Value} (h : Ca n args v) (W : World) : Calls Tryz.prog n args W fun r w' => r = .returned v ∧ Kb W w' := h W
section
variable {F : Nat} {r : Operand → Value} {o : Oper} {w : World} {c x y : Operand} {u v p : Value} {ty : Array TypeId}
end
theorem ne_of_beq_false {a b : Int} (h : (a == b) = false) : a ≠ b := by simpa using h
set_option maxRecDepth 100000 in
set_option maxHeartbeats 1000000 in
theorem fInner_1 (n : ByteArray) (k : Int) (a : Int) (x : Int) (y : Int) (z : Int) (lo : Int) (hi : Int) (fp : Option Addr) (fl : Nat) (fc : Nat) (r1 : Int)   (q1 : Ca 41 #[.agg #[.string n, .int .i64 k, .int .i64 a, .int .i64 x, .int .i64 y, .int .i64 z, .int .i64 lo, .int .i64 hi, .slice fp fl fc]] (.int .i64 r1))  (h1 : (r1 != 0) = true) (w : World) (gl : Gl w)  : Calls Tryz.prog 32 #[.agg #[.string n, .int .i64 k, .int .i64 a, .int .i64 x, .int .i64 y, .int .i64 z, .int .i64 lo, .int .i64 hi, .slice fp fl fc]] w fun r W' => r = .returned (.tuple #[.bool false, .int .i64 r1]) ∧ Kb w W' := by
  have kx := Kb.refl w
  unfold Ca at q1
  have gl0 := Lib.hid gl
  have j1 := (Is.made w #[.string n, .int .i64 k, .int .i64 a, .int .i64 x, .int .i64 y, .int .i64 z, .int .i64 lo, .int .i64 hi, .slice fp fl fc] 28)
  have f2 := j1.c (i := 0) rfl
  have f3 := j1.c (i := 1) rfl
  have f4 := j1.c (i := 2) rfl
  have f5 := j1.c (i := 3) rfl
  have f6 := j1.c (i := 4) rfl
  have f7 := j1.c (i := 5) rfl
  have f8 := j1.c (i := 6) rfl
  have f9 := j1.c (i := 7) rfl
  have f10 := j1.c (i := 8) rfl
  go_enter Tryz.func32, Tryz.ntmps32
  go_wp2_with fail
  clear f2 f3 f4 f5 f6 f7 f8 f9 f10
  have b1 := j1
  replace kx := kx.alloc (.cells #[.string n, .int .i64 k, .int .i64 a, .int .i64 x, .int .i64 y, .int .i64 z, .int .i64 lo, .int .i64 hi, .slice fp fl fc] 28 (0, 0))
  clear j1
  replace gl := gl0.out.kb kx
  (with_reducible refine (((q1).out _)).mono ?_)
  rintro r w1 ⟨rfl, k1⟩
  replace gl := gl.kb k1
  replace b1 := b1.kb k1
  replace kx := kx.trans k1
  have s1 := k1.size
  simp only [World.size_alloc] at s1
  clear k1
  go_wp2
  go_ret2
  exact ⟨rfl, kx⟩
set_option maxRecDepth 100000 in
set_option maxHeartbeats 1000000 in
theorem fInner_2 (n : ByteArray) (k : Int) (a : Int) (x : Int) (y : Int) (z : Int) (lo : Int) (hi : Int) (fp : Option Addr) (fl : Nat) (fc : Nat) (r1 : Int)   (q1 : Ca 41 #[.agg #[.string n, .int .i64 k, .int .i64 a, .int .i64 x, .int .i64 y, .int .i64 z, .int .i64 lo, .int .i64 hi, .slice fp fl fc]] (.int .i64 r1))  (h1 : (r1 != 0) = false) (h2 : (k == 0) = true) (w : World) (gl : Gl w)  : Calls Tryz.prog 32 #[.agg #[.string n, .int .i64 k, .int .i64 a, .int .i64 x, .int .i64 y, .int .i64 z, .int .i64 lo, .int .i64 hi, .slice fp fl fc]] w fun r W' => r = .returned (.tuple #[.bool false, .int .i64 0]) ∧ Kb w W' := by
  obtain rfl : k = 0 := by simpa using h2
  have kx := Kb.refl w
  unfold Ca at q1
  have gl0 := Lib.hid gl
  have j1 := (Is.made w #[.string n, .int .i64 0, .int .i64 a, .int .i64 x, .int .i64 y, .int .i64 z, .int .i64 lo, .int .i64 hi, .slice fp fl fc] 28)
  have f2 := j1.c (i := 0) rfl
  have f3 := j1.c (i := 1) rfl
  have f4 := j1.c (i := 2) rfl
  have f5 := j1.c (i := 3) rfl
  have f6 := j1.c (i := 4) rfl
  have f7 := j1.c (i := 5) rfl
  have f8 := j1.c (i := 6) rfl
  have f9 := j1.c (i := 7) rfl
  have f10 := j1.c (i := 8) rfl
  go_enter Tryz.func32, Tryz.ntmps32
  go_wp2_with fail
  clear f2 f3 f4 f5 f6 f7 f8 f9 f10
  have b1 := j1
  replace kx := kx.alloc (.cells #[.string n, .int .i64 0, .int .i64 a, .int .i64 x, .int .i64 y, .int .i64 z, .int .i64 lo, .int .i64 hi, .slice fp fl fc] 28 (0, 0))
  clear j1
  replace gl := gl0.out.kb kx
  (with_reducible refine (((q1).out _)).mono ?_)
  rintro r w1 ⟨rfl, k1⟩
  replace gl := gl.kb k1
  replace b1 := b1.kb k1
  replace kx := kx.trans k1
  have s1 := k1.size
  simp only [World.size_alloc] at s1
  clear k1
  have f11 := b1.c (i := 1) rfl
  have f12 : w1.cell? ⟨1, 0, none⟩ = some (.bool false) := gl.c 0 (by decide)
  go_wp2
  go_ret2
  clear f11 f12
  exact ⟨rfl, kx⟩
set_option maxRecDepth 100000 in
set_option maxHeartbeats 1000000 in
theorem fInner_3 (n : ByteArray) (k : Int) (a : Int) (x : Int) (y : Int) (z : Int) (lo : Int) (hi : Int) (fp : Option Addr) (fl : Nat) (fc : Nat) (r1 : Int)   (q1 : Ca 41 #[.agg #[.string n, .int .i64 k, .int .i64 a, .int .i64 x, .int .i64 y, .int .i64 z, .int .i64 lo, .int .i64 hi, .slice fp fl fc]] (.int .i64 r1))  (h1 : (r1 != 0) = false) (h2 : (k == 0) = false) (h3 : (k == 1) = true) (w : World) (gl : Gl w)  : Calls Tryz.prog 32 #[.agg #[.string n, .int .i64 k, .int .i64 a, .int .i64 x, .int .i64 y, .int .i64 z, .int .i64 lo, .int .i64 hi, .slice fp fl fc]] w fun r W' => r = .returned (.tuple #[.bool true, .int .i64 0]) ∧ Kb w W' := by
  obtain rfl : k = 1 := by simpa using h3
  have kx := Kb.refl w
  unfold Ca at q1
  have gl0 := Lib.hid gl
  have j1 := (Is.made w #[.string n, .int .i64 1, .int .i64 a, .int .i64 x, .int .i64 y, .int .i64 z, .int .i64 lo, .int .i64 hi, .slice fp fl fc] 28)
  have f2 := j1.c (i := 0) rfl
  have f3 := j1.c (i := 1) rfl
  have f4 := j1.c (i := 2) rfl
  have f5 := j1.c (i := 3) rfl
  have f6 := j1.c (i := 4) rfl
  have f7 := j1.c (i := 5) rfl
  have f8 := j1.c (i := 6) rfl
  have f9 := j1.c (i := 7) rfl
  have f10 := j1.c (i := 8) rfl
  go_enter Tryz.func32, Tryz.ntmps32
  go_wp2_with fail
  clear f2 f3 f4 f5 f6 f7 f8 f9 f10
  have b1 := j1
  replace kx := kx.alloc (.cells #[.string n, .int .i64 1, .int .i64 a, .int .i64 x, .int .i64 y, .int .i64 z, .int .i64 lo, .int .i64 hi, .slice fp fl fc] 28 (0, 0))
  clear j1
  replace gl := gl0.out.kb kx
  (with_reducible refine (((q1).out _)).mono ?_)
  rintro r w1 ⟨rfl, k1⟩
  replace gl := gl.kb k1
  replace b1 := b1.kb k1
  replace kx := kx.trans k1
  have s1 := k1.size
  simp only [World.size_alloc] at s1
  clear k1
  have f11 := b1.c (i := 1) rfl
  have f12 : w1.cell? ⟨1, 3, none⟩ = some (.bool true) := gl.c 3 (by decide)
  go_wp2
  go_ret2
  clear f11 f12
  exact ⟨rfl, kx⟩
set_option maxRecDepth 100000 in
set_option maxHeartbeats 1000000 in
theorem fInner_4 (n : ByteArray) (k : Int) (a : Int) (x : Int) (y : Int) (z : Int) (lo : Int) (hi : Int) (fp : Option Addr) (fl : Nat) (fc : Nat) (r1 : Int)   (q1 : Ca 41 #[.agg #[.string n, .int .i64 k, .int .i64 a, .int .i64 x, .int .i64 y, .int .i64 z, .int .i64 lo, .int .i64 hi, .slice fp fl fc]] (.int .i64 r1))  (h1 : (r1 != 0) = false) (h2 : (k == 0) = false) (h3 : (k == 1) = false) (h4 : (k == 2) = true) (w : World) (gl : Gl w)  : Calls Tryz.prog 32 #[.agg #[.string n, .int .i64 k, .int .i64 a, .int .i64 x, .int .i64 y, .int .i64 z, .int .i64 lo, .int .i64 hi, .slice fp fl fc]] w fun r W' => r = .returned (.tuple #[.bool false, .int .i64 0]) ∧ Kb w W' := by
  obtain rfl : k = 2 := by simpa using h4
  have kx := Kb.refl w
  unfold Ca at q1
  have gl0 := Lib.hid gl
  have j1 := (Is.made w #[.string n, .int .i64 2, .int .i64 a, .int .i64 x, .int .i64 y, .int .i64 z, .int .i64 lo, .int .i64 hi, .slice fp fl fc] 28)
  have f2 := j1.c (i := 0) rfl
  have f3 := j1.c (i := 1) rfl
  have f4 := j1.c (i := 2) rfl
  have f5 := j1.c (i := 3) rfl
  have f6 := j1.c (i := 4) rfl
  have f7 := j1.c (i := 5) rfl
  have f8 := j1.c (i := 6) rfl
  have f9 := j1.c (i := 7) rfl
  have f10 := j1.c (i := 8) rfl
  go_enter Tryz.func32, Tryz.ntmps32
  go_wp2_with fail
  clear f2 f3 f4 f5 f6 f7 f8 f9 f10
  have b1 := j1
  replace kx := kx.alloc (.cells #[.string n, .int .i64 2, .int .i64 a, .int .i64 x, .int .i64 y, .int .i64 z, .int .i64 lo, .int .i64 hi, .slice fp fl fc] 28 (0, 0))
  clear j1
  replace gl := gl0.out.kb kx
  (with_reducible refine (((q1).out _)).mono ?_)
  rintro r w1 ⟨rfl, k1⟩
  replace gl := gl.kb k1
  replace b1 := b1.kb k1
  replace kx := kx.trans k1
  have s1 := k1.size
  simp only [World.size_alloc] at s1
  clear k1
  have f11 := b1.c (i := 1) rfl
  have f12 : w1.cell? ⟨1, 6, none⟩ = some (.bool false) := gl.c 6 (by decide)
  go_wp2
  go_ret2
  clear f11 f12
  exact ⟨rfl, kx⟩
set_option maxRecDepth 100000 in
set_option maxHeartbeats 1000000 in
theorem fInner_5 (n : ByteArray) (k : Int) (a : Int) (x : Int) (y : Int) (z : Int) (lo : Int) (hi : Int) (fp : Option Addr) (fl : Nat) (fc : Nat) (r1 : Int)   (q1 : Ca 41 #[.agg #[.string n, .int .i64 k, .int .i64 a, .int .i64 x, .int .i64 y, .int .i64 z, .int .i64 lo, .int .i64 hi, .slice fp fl fc]] (.int .i64 r1))  (h1 : (r1 != 0) = false) (h2 : (k == 0) = false) (h3 : (k == 1) = false) (h4 : (k == 2) = false) (h5 : (k == 3) = true) (w : World) (gl : Gl w)  : Calls Tryz.prog 32 #[.agg #[.string n, .int .i64 k, .int .i64 a, .int .i64 x, .int .i64 y, .int .i64 z, .int .i64 lo, .int .i64 hi, .slice fp fl fc]] w fun r W' => r = .returned (.tuple #[.bool true, .int .i64 0]) ∧ Kb w W' := by
  obtain rfl : k = 3 := by simpa using h5
  have kx := Kb.refl w
  unfold Ca at q1
  have gl0 := Lib.hid gl
  have j1 := (Is.made w #[.string n, .int .i64 3, .int .i64 a, .int .i64 x, .int .i64 y, .int .i64 z, .int .i64 lo, .int .i64 hi, .slice fp fl fc] 28)
  have f2 := j1.c (i := 0) rfl
  have f3 := j1.c (i := 1) rfl
  have f4 := j1.c (i := 2) rfl
  have f5 := j1.c (i := 3) rfl
  have f6 := j1.c (i := 4) rfl
  have f7 := j1.c (i := 5) rfl
  have f8 := j1.c (i := 6) rfl
  have f9 := j1.c (i := 7) rfl
  have f10 := j1.c (i := 8) rfl
  go_enter Tryz.func32, Tryz.ntmps32
  go_wp2_with fail
  clear f2 f3 f4 f5 f6 f7 f8 f9 f10
  have b1 := j1
  replace kx := kx.alloc (.cells #[.string n, .int .i64 3, .int .i64 a, .int .i64 x, .int .i64 y, .int .i64 z, .int .i64 lo, .int .i64 hi, .slice fp fl fc] 28 (0, 0))
  clear j1
  replace gl := gl0.out.kb kx
  (with_reducible refine (((q1).out _)).mono ?_)
  rintro r w1 ⟨rfl, k1⟩
  replace gl := gl.kb k1
  replace b1 := b1.kb k1
  replace kx := kx.trans k1
  have s1 := k1.size
  simp only [World.size_alloc] at s1
  clear k1
  have f11 := b1.c (i := 1) rfl
  have f12 : w1.cell? ⟨1, 9, none⟩ = some (.bool true) := gl.c 9 (by decide)
  go_wp2
  go_ret2
  clear f11 f12
  exact ⟨rfl, kx⟩
set_option maxRecDepth 100000 in
set_option maxHeartbeats 1000000 in
theorem fInner_6 (n : ByteArray) (k : Int) (a : Int) (x : Int) (y : Int) (z : Int) (lo : Int) (hi : Int) (fp : Option Addr) (fl : Nat) (fc : Nat) (r1 : Int)   (q1 : Ca 41 #[.agg #[.string n, .int .i64 k, .int .i64 a, .int .i64 x, .int .i64 y, .int .i64 z, .int .i64 lo, .int .i64 hi, .slice fp fl fc]] (.int .i64 r1)) (hk : (r1 != 0) = false → 0 ≤ k ∧ k < 5)  (h1 : (r1 != 0) = false) (h2 : (k == 0) = false) (h3 : (k == 1) = false) (h4 : (k == 2) = false) (h5 : (k == 3) = false) (w : World) (gl : Gl w)  : Calls Tryz.prog 32 #[.agg #[.string n, .int .i64 k, .int .i64 a, .int .i64 x, .int .i64 y, .int .i64 z, .int .i64 lo, .int .i64 hi, .slice fp fl fc]] w fun r W' => r = .returned (.tuple #[.bool false, .int .i64 0]) ∧ Kb w W' := by
  obtain rfl : k = 4 := by have h0 := hk h1; have g0 := ne_of_beq_false h2; have g1 := ne_of_beq_false h3; have g2 := ne_of_beq_false h4; have g3 := ne_of_beq_false h5; omega
  have kx := Kb.refl w
  unfold Ca at q1
  have gl0 := Lib.hid gl
  have j1 := (Is.made w #[.string n, .int .i64 4, .int .i64 a, .int .i64 x, .int .i64 y, .int .i64 z, .int .i64 lo, .int .i64 hi, .slice fp fl fc] 28)
  have f2 := j1.c (i := 0) rfl
  have f3 := j1.c (i := 1) rfl
  have f4 := j1.c (i := 2) rfl
  have f5 := j1.c (i := 3) rfl
  have f6 := j1.c (i := 4) rfl
  have f7 := j1.c (i := 5) rfl
  have f8 := j1.c (i := 6) rfl
  have f9 := j1.c (i := 7) rfl
  have f10 := j1.c (i := 8) rfl
  go_enter Tryz.func32, Tryz.ntmps32
  go_wp2_with fail
  clear f2 f3 f4 f5 f6 f7 f8 f9 f10
  have b1 := j1
  replace kx := kx.alloc (.cells #[.string n, .int .i64 4, .int .i64 a, .int .i64 x, .int .i64 y, .int .i64 z, .int .i64 lo, .int .i64 hi, .slice fp fl fc] 28 (0, 0))
  clear j1
  replace gl := gl0.out.kb kx
  (with_reducible refine (((q1).out _)).mono ?_)
  rintro r w1 ⟨rfl, k1⟩
  replace gl := gl.kb k1
  replace b1 := b1.kb k1
  replace kx := kx.trans k1
  have s1 := k1.size
  simp only [World.size_alloc] at s1
  clear k1
  have f11 := b1.c (i := 1) rfl
  have f12 : w1.cell? ⟨1, 12, none⟩ = some (.bool false) := gl.c 12 (by decide)
  go_wp2
  go_ret2
  clear f11 f12
  exact ⟨rfl, kx⟩
set_option maxRecDepth 100000 in
theorem fInner_any (n : ByteArray) (k : Int) (a : Int) (x : Int) (y : Int) (z : Int) (lo : Int) (hi : Int) (fp : Option Addr) (fl : Nat) (fc : Nat) (r1 : Int) (q1 : Ca 41 #[.agg #[.string n, .int .i64 k, .int .i64 a, .int .i64 x, .int .i64 y, .int .i64 z, .int .i64 lo, .int .i64 hi, .slice fp fl fc]] (.int .i64 r1)) (hk : (r1 != 0) = false → 0 ≤ k ∧ k < 5)  : Cg 32 #[.agg #[.string n, .int .i64 k, .int .i64 a, .int .i64 x, .int .i64 y, .int .i64 z, .int .i64 lo, .int .i64 hi, .slice fp fl fc]] (if (r1 != 0) = true then (.tuple #[.bool false, .int .i64 r1]) else (if (k == 0) = true then (.tuple #[.bool false, .int .i64 0]) else (if (k == 1) = true then (.tuple #[.bool true, .int .i64 0]) else (if (k == 2) = true then (.tuple #[.bool false, .int .i64 0]) else (if (k == 3) = true then (.tuple #[.bool true, .int .i64 0]) else (.tuple #[.bool false, .int .i64 0])))))) := Lib.hid fun w gl => by
  rcases Bool.eq_false_or_eq_true (r1 != 0) with h1 | h1
  · rw [if_pos h1]
    exact fInner_1 n k a x y z lo hi fp fl fc r1 q1 h1 w gl
  · rw [if_neg (by rw [h1]; decide)]
    rcases Bool.eq_false_or_eq_true (k == 0) with h2 | h2
    · rw [if_pos h2]
      exact fInner_2 n k a x y z lo hi fp fl fc r1 q1 h1 h2 w gl
    · rw [if_neg (by rw [h2]; decide)]
      rcases Bool.eq_false_or_eq_true (k == 1) with h3 | h3
      · rw [if_pos h3]
        exact fInner_3 n k a x y z lo hi fp fl fc r1 q1 h1 h2 h3 w gl
      · rw [if_neg (by rw [h3]; decide)]
        rcases Bool.eq_false_or_eq_true (k == 2) with h4 | h4
        · rw [if_pos h4]
          exact fInner_4 n k a x y z lo hi fp fl fc r1 q1 h1 h2 h3 h4 w gl
        · rw [if_neg (by rw [h4]; decide)]
          rcases Bool.eq_false_or_eq_true (k == 3) with h5 | h5
          · rw [if_pos h5]
            exact fInner_5 n k a x y z lo hi fp fl fc r1 q1 h1 h2 h3 h4 h5 w gl
          · rw [if_neg (by rw [h5]; decide)]
            exact fInner_6 n k a x y z lo hi fp fl fc r1 q1 hk h1 h2 h3 h4 h5 w gl
set_option maxRecDepth 100000 in
set_option maxHeartbeats 1000000 in
theorem fsizeT_1 (n : ByteArray) (k : Int) (a : Int) (x : Int) (y : Int) (z : Int) (lo : Int) (hi : Int) (fp : Option Addr) (fl : Nat) (fc : Nat) (r1 : Int)   (q1 : Ca 41 #[.agg #[.string n, .int .i64 k, .int .i64 a, .int .i64 x, .int .i64 y, .int .i64 z, .int .i64 lo, .int .i64 hi, .slice fp fl fc]] (.int .i64 r1))  (h1 : (r1 != 0) = true) (w : World) (gl : Gl w)  : Calls Tryz.prog 128 #[.agg #[.string n, .int .i64 k, .int .i64 a, .int .i64 x, .int .i64 y, .int .i64 z, .int .i64 lo, .int .i64 hi, .slice fp fl fc], .bool true] w fun r W' => r = .returned (.tuple #[.int .i64 0, .int .i64 r1]) ∧ Kb w W' := by
  have kx := Kb.refl w
  unfold Ca at q1
  have gl0 := Lib.hid gl
  have j1 := (Is.made w #[.string n, .int .i64 k, .int .i64 a, .int .i64 x, .int .i64 y, .int .i64 z, .int .i64 lo, .int .i64 hi, .slice fp fl fc] 28)
  have f2 := j1.c (i := 0) rfl
  have f3 := j1.c (i := 1) rfl
  have f4 := j1.c (i := 2) rfl
  have f5 := j1.c (i := 3) rfl
  have f6 := j1.c (i := 4) rfl
  have f7 := j1.c (i := 5) rfl
  have f8 := j1.c (i := 6) rfl
  have f9 := j1.c (i := 7) rfl
  have f10 := j1.c (i := 8) rfl
  go_enter Tryz.func128, Tryz.ntmps128
  go_wp2_with fail
  clear f2 f3 f4 f5 f6 f7 f8 f9 f10
  have b1 := j1
  replace kx := kx.alloc (.cells #[.string n, .int .i64 k, .int .i64 a, .int .i64 x, .int .i64 y, .int .i64 z, .int .i64 lo, .int .i64 hi, .slice fp fl fc] 28 (0, 0))
  clear j1
  replace gl := gl0.out.kb kx
  (with_reducible refine (((q1).out _)).mono ?_)
  rintro r w1 ⟨rfl, k1⟩
  replace gl := gl.kb k1
  replace b1 := b1.kb k1
  replace kx := kx.trans k1
  have s1 := k1.size
  simp only [World.size_alloc] at s1
  clear k1
  go_wp2
  go_ret2
  exact ⟨rfl, kx⟩
set_option maxRecDepth 100000 in
set_option maxHeartbeats 1000000 in
theorem fsizeT_2 (n : ByteArray) (k : Int) (a : Int) (x : Int) (y : Int) (z : Int) (lo : Int) (hi : Int) (fp : Option Addr) (fl : Nat) (fc : Nat) (r1 : Int)   (q1 : Ca 41 #[.agg #[.string n, .int .i64 k, .int .i64 a, .int .i64 x, .int .i64 y, .int .i64 z, .int .i64 lo, .int .i64 hi, .slice fp fl fc]] (.int .i64 r1))  (h1 : (r1 != 0) = false) (h2 : (k == 0) = true) (w : World) (gl : Gl w)  : Calls Tryz.prog 128 #[.agg #[.string n, .int .i64 k, .int .i64 a, .int .i64 x, .int .i64 y, .int .i64 z, .int .i64 lo, .int .i64 hi, .slice fp fl fc], .bool true] w fun r W' => r = .returned (.tuple #[.int .i64 0, .int .i64 14]) ∧ Kb w W' := by
  have kx := Kb.refl w
  unfold Ca at q1
  have gl0 := Lib.hid gl
  have j1 := (Is.made w #[.string n, .int .i64 k, .int .i64 a, .int .i64 x, .int .i64 y, .int .i64 z, .int .i64 lo, .int .i64 hi, .slice fp fl fc] 28)
  have f2 := j1.c (i := 0) rfl
  have f3 := j1.c (i := 1) rfl
  have f4 := j1.c (i := 2) rfl
  have f5 := j1.c (i := 3) rfl
  have f6 := j1.c (i := 4) rfl
  have f7 := j1.c (i := 5) rfl
  have f8 := j1.c (i := 6) rfl
  have f9 := j1.c (i := 7) rfl
  have f10 := j1.c (i := 8) rfl
  go_enter Tryz.func128, Tryz.ntmps128
  go_wp2_with fail
  clear f2 f3 f4 f5 f6 f7 f8 f9 f10
  have b1 := j1
  replace kx := kx.alloc (.cells #[.string n, .int .i64 k, .int .i64 a, .int .i64 x, .int .i64 y, .int .i64 z, .int .i64 lo, .int .i64 hi, .slice fp fl fc] 28 (0, 0))
  clear j1
  replace gl := gl0.out.kb kx
  (with_reducible refine (((q1).out _)).mono ?_)
  rintro r w1 ⟨rfl, k1⟩
  replace gl := gl.kb k1
  replace b1 := b1.kb k1
  replace kx := kx.trans k1
  have s1 := k1.size
  simp only [World.size_alloc] at s1
  clear k1
  have f11 := b1.c (i := 1) rfl
  go_wp2
  go_ret2
  clear f11
  exact ⟨rfl, kx⟩
set_option maxRecDepth 100000 in
set_option maxHeartbeats 1000000 in
theorem fsizeT_3 (n : ByteArray) (k : Int) (a : Int) (x : Int) (y : Int) (z : Int) (lo : Int) (hi : Int) (fp : Option Addr) (fl : Nat) (fc : Nat) (r1 : Int)   (q1 : Ca 41 #[.agg #[.string n, .int .i64 k, .int .i64 a, .int .i64 x, .int .i64 y, .int .i64 z, .int .i64 lo, .int .i64 hi, .slice fp fl fc]] (.int .i64 r1))  (h1 : (r1 != 0) = false) (h2 : (k == 0) = false) (h3 : (k == 1) = true) (w : World) (gl : Gl w)  : Calls Tryz.prog 128 #[.agg #[.string n, .int .i64 k, .int .i64 a, .int .i64 x, .int .i64 y, .int .i64 z, .int .i64 lo, .int .i64 hi, .slice fp fl fc], .bool true] w fun r W' => r = .returned (.tuple #[.int .i64 lo, .int .i64 0]) ∧ Kb w W' := by
  obtain rfl : k = 1 := by simpa using h3
  have kx := Kb.refl w
  unfold Ca at q1
  have gl0 := Lib.hid gl
  have j1 := (Is.made w #[.string n, .int .i64 1, .int .i64 a, .int .i64 x, .int .i64 y, .int .i64 z, .int .i64 lo, .int .i64 hi, .slice fp fl fc] 28)
  have f2 := j1.c (i := 0) rfl
  have f3 := j1.c (i := 1) rfl
  have f4 := j1.c (i := 2) rfl
  have f5 := j1.c (i := 3) rfl
  have f6 := j1.c (i := 4) rfl
  have f7 := j1.c (i := 5) rfl
  have f8 := j1.c (i := 6) rfl
  have f9 := j1.c (i := 7) rfl
  have f10 := j1.c (i := 8) rfl
  go_enter Tryz.func128, Tryz.ntmps128
  go_wp2_with fail
  clear f2 f3 f4 f5 f6 f7 f8 f9 f10
  have b1 := j1
  replace kx := kx.alloc (.cells #[.string n, .int .i64 1, .int .i64 a, .int .i64 x, .int .i64 y, .int .i64 z, .int .i64 lo, .int .i64 hi, .slice fp fl fc] 28 (0, 0))
  clear j1
  replace gl := gl0.out.kb kx
  (with_reducible refine (((q1).out _)).mono ?_)
  rintro r w1 ⟨rfl, k1⟩
  replace gl := gl.kb k1
  replace b1 := b1.kb k1
  replace kx := kx.trans k1
  have s1 := k1.size
  simp only [World.size_alloc] at s1
  clear k1
  have f11 := b1.c (i := 1) rfl
  have f12 : w1.cell? ⟨1, 3, none⟩ = some (.bool true) := gl.c 3 (by decide)
  have f13 := b1.c (i := 6) rfl
  go_wp2
  go_ret2
  clear f11 f12 f13
  exact ⟨rfl, kx⟩
set_option maxRecDepth 100000 in
set_option maxHeartbeats 1000000 in
theorem fsizeT_4 (n : ByteArray) (k : Int) (a : Int) (x : Int) (y : Int) (z : Int) (lo : Int) (hi : Int) (fp : Option Addr) (fl : Nat) (fc : Nat) (r1 : Int)   (q1 : Ca 41 #[.agg #[.string n, .int .i64 k, .int .i64 a, .int .i64 x, .int .i64 y, .int .i64 z, .int .i64 lo, .int .i64 hi, .slice fp fl fc]] (.int .i64 r1))  (h1 : (r1 != 0) = false) (h2 : (k == 0) = false) (h3 : (k == 1) = false) (h4 : (k == 2) = true) (w : World) (gl : Gl w)  : Calls Tryz.prog 128 #[.agg #[.string n, .int .i64 k, .int .i64 a, .int .i64 x, .int .i64 y, .int .i64 z, .int .i64 lo, .int .i64 hi, .slice fp fl fc], .bool true] w fun r W' => r = .returned (.tuple #[.int .i64 hi, .int .i64 0]) ∧ Kb w W' := by
  obtain rfl : k = 2 := by simpa using h4
  have kx := Kb.refl w
  unfold Ca at q1
  have gl0 := Lib.hid gl
  have j1 := (Is.made w #[.string n, .int .i64 2, .int .i64 a, .int .i64 x, .int .i64 y, .int .i64 z, .int .i64 lo, .int .i64 hi, .slice fp fl fc] 28)
  have f2 := j1.c (i := 0) rfl
  have f3 := j1.c (i := 1) rfl
  have f4 := j1.c (i := 2) rfl
  have f5 := j1.c (i := 3) rfl
  have f6 := j1.c (i := 4) rfl
  have f7 := j1.c (i := 5) rfl
  have f8 := j1.c (i := 6) rfl
  have f9 := j1.c (i := 7) rfl
  have f10 := j1.c (i := 8) rfl
  go_enter Tryz.func128, Tryz.ntmps128
  go_wp2_with fail
  clear f2 f3 f4 f5 f6 f7 f8 f9 f10
  have b1 := j1
  replace kx := kx.alloc (.cells #[.string n, .int .i64 2, .int .i64 a, .int .i64 x, .int .i64 y, .int .i64 z, .int .i64 lo, .int .i64 hi, .slice fp fl fc] 28 (0, 0))
  clear j1
  replace gl := gl0.out.kb kx
  (with_reducible refine (((q1).out _)).mono ?_)
  rintro r w1 ⟨rfl, k1⟩
  replace gl := gl.kb k1
  replace b1 := b1.kb k1
  replace kx := kx.trans k1
  have s1 := k1.size
  simp only [World.size_alloc] at s1
  clear k1
  have f11 := b1.c (i := 1) rfl
  have f12 : w1.cell? ⟨1, 6, none⟩ = some (.bool false) := gl.c 6 (by decide)
  have f13 := b1.c (i := 7) rfl
  go_wp2
  go_ret2
  clear f11 f12 f13
  exact ⟨rfl, kx⟩
set_option maxRecDepth 100000 in
set_option maxHeartbeats 1000000 in
theorem fsizeT_5 (n : ByteArray) (k : Int) (a : Int) (x : Int) (y : Int) (z : Int) (lo : Int) (hi : Int) (fp : Option Addr) (fl : Nat) (fc : Nat) (r1 : Int)   (q1 : Ca 41 #[.agg #[.string n, .int .i64 k, .int .i64 a, .int .i64 x, .int .i64 y, .int .i64 z, .int .i64 lo, .int .i64 hi, .slice fp fl fc]] (.int .i64 r1))  (h1 : (r1 != 0) = false) (h2 : (k == 0) = false) (h3 : (k == 1) = false) (h4 : (k == 2) = false) (h5 : (k == 3) = true) (w : World) (gl : Gl w)  : Calls Tryz.prog 128 #[.agg #[.string n, .int .i64 k, .int .i64 a, .int .i64 x, .int .i64 y, .int .i64 z, .int .i64 lo, .int .i64 hi, .slice fp fl fc], .bool true] w fun r W' => r = .returned (.tuple #[.int .i64 lo, .int .i64 0]) ∧ Kb w W' := by
  obtain rfl : k = 3 := by simpa using h5
  have kx := Kb.refl w
  unfold Ca at q1
  have gl0 := Lib.hid gl
  have j1 := (Is.made w #[.string n, .int .i64 3, .int .i64 a, .int .i64 x, .int .i64 y, .int .i64 z, .int .i64 lo, .int .i64 hi, .slice fp fl fc] 28)
  have f2 := j1.c (i := 0) rfl
  have f3 := j1.c (i := 1) rfl
  have f4 := j1.c (i := 2) rfl
  have f5 := j1.c (i := 3) rfl
  have f6 := j1.c (i := 4) rfl
  have f7 := j1.c (i := 5) rfl
  have f8 := j1.c (i := 6) rfl
  have f9 := j1.c (i := 7) rfl
  have f10 := j1.c (i := 8) rfl
  go_enter Tryz.func128, Tryz.ntmps128
  go_wp2_with fail
  clear f2 f3 f4 f5 f6 f7 f8 f9 f10
  have b1 := j1
  replace kx := kx.alloc (.cells #[.string n, .int .i64 3, .int .i64 a, .int .i64 x, .int .i64 y, .int .i64 z, .int .i64 lo, .int .i64 hi, .slice fp fl fc] 28 (0, 0))
  clear j1
  replace gl := gl0.out.kb kx
  (with_reducible refine (((q1).out _)).mono ?_)
  rintro r w1 ⟨rfl, k1⟩
  replace gl := gl.kb k1
  replace b1 := b1.kb k1
  replace kx := kx.trans k1
  have s1 := k1.size
  simp only [World.size_alloc] at s1
  clear k1
  have f11 := b1.c (i := 1) rfl
  have f12 : w1.cell? ⟨1, 9, none⟩ = some (.bool true) := gl.c 9 (by decide)
  have f13 := b1.c (i := 6) rfl
  go_wp2
  go_ret2
  clear f11 f12 f13
  exact ⟨rfl, kx⟩
set_option maxRecDepth 100000 in
set_option maxHeartbeats 1000000 in
theorem fsizeT_6 (n : ByteArray) (k : Int) (a : Int) (x : Int) (y : Int) (z : Int) (lo : Int) (hi : Int) (fp : Option Addr) (fl : Nat) (fc : Nat) (r1 : Int)   (q1 : Ca 41 #[.agg #[.string n, .int .i64 k, .int .i64 a, .int .i64 x, .int .i64 y, .int .i64 z, .int .i64 lo, .int .i64 hi, .slice fp fl fc]] (.int .i64 r1)) (hk : (r1 != 0) = false → 0 ≤ k ∧ k < 5)  (h1 : (r1 != 0) = false) (h2 : (k == 0) = false) (h3 : (k == 1) = false) (h4 : (k == 2) = false) (h5 : (k == 3) = false) (w : World) (gl : Gl w)  : Calls Tryz.prog 128 #[.agg #[.string n, .int .i64 k, .int .i64 a, .int .i64 x, .int .i64 y, .int .i64 z, .int .i64 lo, .int .i64 hi, .slice fp fl fc], .bool true] w fun r W' => r = .returned (.tuple #[.int .i64 hi, .int .i64 0]) ∧ Kb w W' := by
  obtain rfl : k = 4 := by have h0 := hk h1; have g0 := ne_of_beq_false h2; have g1 := ne_of_beq_false h3; have g2 := ne_of_beq_false h4; have g3 := ne_of_beq_false h5; omega
  have kx := Kb.refl w
  unfold Ca at q1
  have gl0 := Lib.hid gl
  have j1 := (Is.made w #[.string n, .int .i64 4, .int .i64 a, .int .i64 x, .int .i64 y, .int .i64 z, .int .i64 lo, .int .i64 hi, .slice fp fl fc] 28)
  have f2 := j1.c (i := 0) rfl
  have f3 := j1.c (i := 1) rfl
  have f4 := j1.c (i := 2) rfl
  have f5 := j1.c (i := 3) rfl
  have f6 := j1.c (i := 4) rfl
  have f7 := j1.c (i := 5) rfl
  have f8 := j1.c (i := 6) rfl
  have f9 := j1.c (i := 7) rfl
  have f10 := j1.c (i := 8) rfl
  go_enter Tryz.func128, Tryz.ntmps128
  go_wp2_with fail
  clear f2 f3 f4 f5 f6 f7 f8 f9 f10
  have b1 := j1
  replace kx := kx.alloc (.cells #[.string n, .int .i64 4, .int .i64 a, .int .i64 x, .int .i64 y, .int .i64 z, .int .i64 lo, .int .i64 hi, .slice fp fl fc] 28 (0, 0))
  clear j1
  replace gl := gl0.out.kb kx
  (with_reducible refine (((q1).out _)).mono ?_)
  rintro r w1 ⟨rfl, k1⟩
  replace gl := gl.kb k1
  replace b1 := b1.kb k1
  replace kx := kx.trans k1
  have s1 := k1.size
  simp only [World.size_alloc] at s1
  clear k1
  have f11 := b1.c (i := 1) rfl
  have f12 : w1.cell? ⟨1, 12, none⟩ = some (.bool false) := gl.c 12 (by decide)
  have f13 := b1.c (i := 7) rfl
  go_wp2
  go_ret2
  clear f11 f12 f13
  exact ⟨rfl, kx⟩
set_option maxRecDepth 100000 in
theorem fsizeT_any (n : ByteArray) (k : Int) (a : Int) (x : Int) (y : Int) (z : Int) (lo : Int) (hi : Int) (fp : Option Addr) (fl : Nat) (fc : Nat) (r1 : Int) (q1 : Ca 41 #[.agg #[.string n, .int .i64 k, .int .i64 a, .int .i64 x, .int .i64 y, .int .i64 z, .int .i64 lo, .int .i64 hi, .slice fp fl fc]] (.int .i64 r1)) (hk : (r1 != 0) = false → 0 ≤ k ∧ k < 5)  : Cg 128 #[.agg #[.string n, .int .i64 k, .int .i64 a, .int .i64 x, .int .i64 y, .int .i64 z, .int .i64 lo, .int .i64 hi, .slice fp fl fc], .bool true] (if (r1 != 0) = true then (.tuple #[.int .i64 0, .int .i64 r1]) else (if (k == 0) = true then (.tuple #[.int .i64 0, .int .i64 14]) else (if (k == 1) = true then (.tuple #[.int .i64 lo, .int .i64 0]) else (if (k == 2) = true then (.tuple #[.int .i64 hi, .int .i64 0]) else (if (k == 3) = true then (.tuple #[.int .i64 lo, .int .i64 0]) else (.tuple #[.int .i64 hi, .int .i64 0])))))) := Lib.hid fun w gl => by
  rcases Bool.eq_false_or_eq_true (r1 != 0) with h1 | h1
  · rw [if_pos h1]
    exact fsizeT_1 n k a x y z lo hi fp fl fc r1 q1 h1 w gl
  · rw [if_neg (by rw [h1]; decide)]
    rcases Bool.eq_false_or_eq_true (k == 0) with h2 | h2
    · rw [if_pos h2]
      exact fsizeT_2 n k a x y z lo hi fp fl fc r1 q1 h1 h2 w gl
    · rw [if_neg (by rw [h2]; decide)]
      rcases Bool.eq_false_or_eq_true (k == 1) with h3 | h3
      · rw [if_pos h3]
        exact fsizeT_3 n k a x y z lo hi fp fl fc r1 q1 h1 h2 h3 w gl
      · rw [if_neg (by rw [h3]; decide)]
        rcases Bool.eq_false_or_eq_true (k == 2) with h4 | h4
        · rw [if_pos h4]
          exact fsizeT_4 n k a x y z lo hi fp fl fc r1 q1 h1 h2 h3 h4 w gl
        · rw [if_neg (by rw [h4]; decide)]
          rcases Bool.eq_false_or_eq_true (k == 3) with h5 | h5
          · rw [if_pos h5]
            exact fsizeT_5 n k a x y z lo hi fp fl fc r1 q1 h1 h2 h3 h4 h5 w gl
          · rw [if_neg (by rw [h5]; decide)]
            exact fsizeT_6 n k a x y z lo hi fp fl fc r1 q1 hk h1 h2 h3 h4 h5 w gl
set_option maxRecDepth 100000 in
set_option maxHeartbeats 1000000 in
theorem fsizeF_1 (n : ByteArray) (k : Int) (a : Int) (x : Int) (y : Int) (z : Int) (lo : Int) (hi : Int) (fp : Option Addr) (fl : Nat) (fc : Nat) (r1 : Int)   (q1 : Ca 41 #[.agg #[.string n, .int .i64 k, .int .i64 a, .int .i64 x, .int .i64 y, .int .i64 z, .int .i64 lo, .int .i64 hi, .slice fp fl fc]] (.int .i64 r1))  (h1 : (r1 != 0) = true) (w : World) (gl : Gl w)  : Calls Tryz.prog 128 #[.agg #[.string n, .int .i64 k, .int .i64 a, .int .i64 x, .int .i64 y, .int .i64 z, .int .i64 lo, .int .i64 hi, .slice fp fl fc], .bool false] w fun r W' => r = .returned (.tuple #[.int .i64 0, .int .i64 r1]) ∧ Kb w W' := by
  have kx := Kb.refl w
  unfold Ca at q1
  have gl0 := Lib.hid gl
  have j1 := (Is.made w #[.string n, .int .i64 k, .int .i64 a, .int .i64 x, .int .i64 y, .int .i64 z, .int .i64 lo, .int .i64 hi, .slice fp fl fc] 28)
  have f2 := j1.c (i := 0) rfl
  have f3 := j1.c (i := 1) rfl
  have f4 := j1.c (i := 2) rfl
  have f5 := j1.c (i := 3) rfl
  have f6 := j1.c (i := 4) rfl
  have f7 := j1.c (i := 5) rfl
  have f8 := j1.c (i := 6) rfl
  have f9 := j1.c (i := 7) rfl
  have f10 := j1.c (i := 8) rfl
  go_enter Tryz.func128, Tryz.ntmps128
  go_wp2_with fail
  clear f2 f3 f4 f5 f6 f7 f8 f9 f10
  have b1 := j1
  replace kx := kx.alloc (.cells #[.string n, .int .i64 k, .int .i64 a, .int .i64 x, .int .i64 y, .int .i64 z, .int .i64 lo, .int .i64 hi, .slice fp fl fc] 28 (0, 0))
  clear j1
  replace gl := gl0.out.kb kx
  (with_reducible refine (((q1).out _)).mono ?_)
  rintro r w1 ⟨rfl, k1⟩
  replace gl := gl.kb k1
  replace b1 := b1.kb k1
  replace kx := kx.trans k1
  have s1 := k1.size
  simp only [World.size_alloc] at s1
  clear k1
  go_wp2
  go_ret2
  exact ⟨rfl, kx⟩
set_option maxRecDepth 100000 in
set_option maxHeartbeats 1000000 in
theorem fsizeF_2 (n : ByteArray) (k : Int) (a : Int) (x : Int) (y : Int) (z : Int) (lo : Int) (hi : Int) (fp : Option Addr) (fl : Nat) (fc : Nat) (r1 : Int)   (q1 : Ca 41 #[.agg #[.string n, .int .i64 k, .int .i64 a, .int .i64 x, .int .i64 y, .int .i64 z, .int .i64 lo, .int .i64 hi, .slice fp fl fc]] (.int .i64 r1))  (h1 : (r1 != 0) = false) (h2 : (k == 0) = true) (w : World) (gl : Gl w)  : Calls Tryz.prog 128 #[.agg #[.string n, .int .i64 k, .int .i64 a, .int .i64 x, .int .i64 y, .int .i64 z, .int .i64 lo, .int .i64 hi, .slice fp fl fc], .bool false] w fun r W' => r = .returned (.tuple #[.int .i64 0, .int .i64 14]) ∧ Kb w W' := by
  have kx := Kb.refl w
  unfold Ca at q1
  have gl0 := Lib.hid gl
  have j1 := (Is.made w #[.string n, .int .i64 k, .int .i64 a, .int .i64 x, .int .i64 y, .int .i64 z, .int .i64 lo, .int .i64 hi, .slice fp fl fc] 28)
  have f2 := j1.c (i := 0) rfl
  have f3 := j1.c (i := 1) rfl
  have f4 := j1.c (i := 2) rfl
  have f5 := j1.c (i := 3) rfl
  have f6 := j1.c (i := 4) rfl
  have f7 := j1.c (i := 5) rfl
  have f8 := j1.c (i := 6) rfl
  have f9 := j1.c (i := 7) rfl
  have f10 := j1.c (i := 8) rfl
  go_enter Tryz.func128, Tryz.ntmps128
  go_wp2_with fail
  clear f2 f3 f4 f5 f6 f7 f8 f9 f10
  have b1 := j1
  replace kx := kx.alloc (.cells #[.string n, .int .i64 k, .int .i64 a, .int .i64 x, .int .i64 y, .int .i64 z, .int .i64 lo, .int .i64 hi, .slice fp fl fc] 28 (0, 0))
  clear j1
  replace gl := gl0.out.kb kx
  (with_reducible refine (((q1).out _)).mono ?_)
  rintro r w1 ⟨rfl, k1⟩
  replace gl := gl.kb k1
  replace b1 := b1.kb k1
  replace kx := kx.trans k1
  have s1 := k1.size
  simp only [World.size_alloc] at s1
  clear k1
  have f11 := b1.c (i := 1) rfl
  go_wp2
  go_ret2
  clear f11
  exact ⟨rfl, kx⟩
set_option maxRecDepth 100000 in
set_option maxHeartbeats 1000000 in
theorem fsizeF_3 (n : ByteArray) (k : Int) (a : Int) (x : Int) (y : Int) (z : Int) (lo : Int) (hi : Int) (fp : Option Addr) (fl : Nat) (fc : Nat) (r1 : Int)   (q1 : Ca 41 #[.agg #[.string n, .int .i64 k, .int .i64 a, .int .i64 x, .int .i64 y, .int .i64 z, .int .i64 lo, .int .i64 hi, .slice fp fl fc]] (.int .i64 r1))  (h1 : (r1 != 0) = false) (h2 : (k == 0) = false) (h3 : (k == 1) = true) (w : World) (gl : Gl w)  : Calls Tryz.prog 128 #[.agg #[.string n, .int .i64 k, .int .i64 a, .int .i64 x, .int .i64 y, .int .i64 z, .int .i64 lo, .int .i64 hi, .slice fp fl fc], .bool false] w fun r W' => r = .returned (.tuple #[.int .i64 hi, .int .i64 0]) ∧ Kb w W' := by
  obtain rfl : k = 1 := by simpa using h3
  have kx := Kb.refl w
  unfold Ca at q1
  have gl0 := Lib.hid gl
  have j1 := (Is.made w #[.string n, .int .i64 1, .int .i64 a, .int .i64 x, .int .i64 y, .int .i64 z, .int .i64 lo, .int .i64 hi, .slice fp fl fc] 28)
  have f2 := j1.c (i := 0) rfl
  have f3 := j1.c (i := 1) rfl
  have f4 := j1.c (i := 2) rfl
  have f5 := j1.c (i := 3) rfl
  have f6 := j1.c (i := 4) rfl
  have f7 := j1.c (i := 5) rfl
  have f8 := j1.c (i := 6) rfl
  have f9 := j1.c (i := 7) rfl
  have f10 := j1.c (i := 8) rfl
  go_enter Tryz.func128, Tryz.ntmps128
  go_wp2_with fail
  clear f2 f3 f4 f5 f6 f7 f8 f9 f10
  have b1 := j1
  replace kx := kx.alloc (.cells #[.string n, .int .i64 1, .int .i64 a, .int .i64 x, .int .i64 y, .int .i64 z, .int .i64 lo, .int .i64 hi, .slice fp fl fc] 28 (0, 0))
  clear j1
  replace gl := gl0.out.kb kx
  (with_reducible refine (((q1).out _)).mono ?_)
  rintro r w1 ⟨rfl, k1⟩
  replace gl := gl.kb k1
  replace b1 := b1.kb k1
  replace kx := kx.trans k1
  have s1 := k1.size
  simp only [World.size_alloc] at s1
  clear k1
  have f11 := b1.c (i := 1) rfl
  have f12 : w1.cell? ⟨1, 3, none⟩ = some (.bool true) := gl.c 3 (by decide)
  have f13 := b1.c (i := 7) rfl
  go_wp2
  go_ret2
  clear f11 f12 f13
  exact ⟨rfl, kx⟩
set_option maxRecDepth 100000 in
set_option maxHeartbeats 1000000 in
theorem fsizeF_4 (n : ByteArray) (k : Int) (a : Int) (x : Int) (y : Int) (z : Int) (lo : Int) (hi : Int) (fp : Option Addr) (fl : Nat) (fc : Nat) (r1 : Int)   (q1 : Ca 41 #[.agg #[.string n, .int .i64 k, .int .i64 a, .int .i64 x, .int .i64 y, .int .i64 z, .int .i64 lo, .int .i64 hi, .slice fp fl fc]] (.int .i64 r1))  (h1 : (r1 != 0) = false) (h2 : (k == 0) = false) (h3 : (k == 1) = false) (h4 : (k == 2) = true) (w : World) (gl : Gl w)  : Calls Tryz.prog 128 #[.agg #[.string n, .int .i64 k, .int .i64 a, .int .i64 x, .int .i64 y, .int .i64 z, .int .i64 lo, .int .i64 hi, .slice fp fl fc], .bool false] w fun r W' => r = .returned (.tuple #[.int .i64 lo, .int .i64 0]) ∧ Kb w W' := by
  obtain rfl : k = 2 := by simpa using h4
  have kx := Kb.refl w
  unfold Ca at q1
  have gl0 := Lib.hid gl
  have j1 := (Is.made w #[.string n, .int .i64 2, .int .i64 a, .int .i64 x, .int .i64 y, .int .i64 z, .int .i64 lo, .int .i64 hi, .slice fp fl fc] 28)
  have f2 := j1.c (i := 0) rfl
  have f3 := j1.c (i := 1) rfl
  have f4 := j1.c (i := 2) rfl
  have f5 := j1.c (i := 3) rfl
  have f6 := j1.c (i := 4) rfl
  have f7 := j1.c (i := 5) rfl
  have f8 := j1.c (i := 6) rfl
  have f9 := j1.c (i := 7) rfl
  have f10 := j1.c (i := 8) rfl
  go_enter Tryz.func128, Tryz.ntmps128
  go_wp2_with fail
  clear f2 f3 f4 f5 f6 f7 f8 f9 f10
  have b1 := j1
  replace kx := kx.alloc (.cells #[.string n, .int .i64 2, .int .i64 a, .int .i64 x, .int .i64 y, .int .i64 z, .int .i64 lo, .int .i64 hi, .slice fp fl fc] 28 (0, 0))
  clear j1
  replace gl := gl0.out.kb kx
  (with_reducible refine (((q1).out _)).mono ?_)
  rintro r w1 ⟨rfl, k1⟩
  replace gl := gl.kb k1
  replace b1 := b1.kb k1
  replace kx := kx.trans k1
  have s1 := k1.size
  simp only [World.size_alloc] at s1
  clear k1
  have f11 := b1.c (i := 1) rfl
  have f12 : w1.cell? ⟨1, 6, none⟩ = some (.bool false) := gl.c 6 (by decide)
  have f13 := b1.c (i := 6) rfl
  go_wp2
  go_ret2
  clear f11 f12 f13
  exact ⟨rfl, kx⟩
set_option maxRecDepth 100000 in
set_option maxHeartbeats 1000000 in
theorem fsizeF_5 (n : ByteArray) (k : Int) (a : Int) (x : Int) (y : Int) (z : Int) (lo : Int) (hi : Int) (fp : Option Addr) (fl : Nat) (fc : Nat) (r1 : Int)   (q1 : Ca 41 #[.agg #[.string n, .int .i64 k, .int .i64 a, .int .i64 x, .int .i64 y, .int .i64 z, .int .i64 lo, .int .i64 hi, .slice fp fl fc]] (.int .i64 r1))  (h1 : (r1 != 0) = false) (h2 : (k == 0) = false) (h3 : (k == 1) = false) (h4 : (k == 2) = false) (h5 : (k == 3) = true) (w : World) (gl : Gl w)  : Calls Tryz.prog 128 #[.agg #[.string n, .int .i64 k, .int .i64 a, .int .i64 x, .int .i64 y, .int .i64 z, .int .i64 lo, .int .i64 hi, .slice fp fl fc], .bool false] w fun r W' => r = .returned (.tuple #[.int .i64 hi, .int .i64 0]) ∧ Kb w W' := by
  obtain rfl : k = 3 := by simpa using h5
  have kx := Kb.refl w
  unfold Ca at q1
  have gl0 := Lib.hid gl
  have j1 := (Is.made w #[.string n, .int .i64 3, .int .i64 a, .int .i64 x, .int .i64 y, .int .i64 z, .int .i64 lo, .int .i64 hi, .slice fp fl fc] 28)
  have f2 := j1.c (i := 0) rfl
  have f3 := j1.c (i := 1) rfl
  have f4 := j1.c (i := 2) rfl
  have f5 := j1.c (i := 3) rfl
  have f6 := j1.c (i := 4) rfl
  have f7 := j1.c (i := 5) rfl
  have f8 := j1.c (i := 6) rfl
  have f9 := j1.c (i := 7) rfl
  have f10 := j1.c (i := 8) rfl
  go_enter Tryz.func128, Tryz.ntmps128
  go_wp2_with fail
  clear f2 f3 f4 f5 f6 f7 f8 f9 f10
  have b1 := j1
  replace kx := kx.alloc (.cells #[.string n, .int .i64 3, .int .i64 a, .int .i64 x, .int .i64 y, .int .i64 z, .int .i64 lo, .int .i64 hi, .slice fp fl fc] 28 (0, 0))
  clear j1
  replace gl := gl0.out.kb kx
  (with_reducible refine (((q1).out _)).mono ?_)
  rintro r w1 ⟨rfl, k1⟩
  replace gl := gl.kb k1
  replace b1 := b1.kb k1
  replace kx := kx.trans k1
  have s1 := k1.size
  simp only [World.size_alloc] at s1
  clear k1
  have f11 := b1.c (i := 1) rfl
  have f12 : w1.cell? ⟨1, 9, none⟩ = some (.bool true) := gl.c 9 (by decide)
  have f13 := b1.c (i := 7) rfl
  go_wp2
  go_ret2
  clear f11 f12 f13
  exact ⟨rfl, kx⟩
set_option maxRecDepth 100000 in
set_option maxHeartbeats 1000000 in
theorem fsizeF_6 (n : ByteArray) (k : Int) (a : Int) (x : Int) (y : Int) (z : Int) (lo : Int) (hi : Int) (fp : Option Addr) (fl : Nat) (fc : Nat) (r1 : Int)   (q1 : Ca 41 #[.agg #[.string n, .int .i64 k, .int .i64 a, .int .i64 x, .int .i64 y, .int .i64 z, .int .i64 lo, .int .i64 hi, .slice fp fl fc]] (.int .i64 r1)) (hk : (r1 != 0) = false → 0 ≤ k ∧ k < 5)  (h1 : (r1 != 0) = false) (h2 : (k == 0) = false) (h3 : (k == 1) = false) (h4 : (k == 2) = false) (h5 : (k == 3) = false) (w : World) (gl : Gl w)  : Calls Tryz.prog 128 #[.agg #[.string n, .int .i64 k, .int .i64 a, .int .i64 x, .int .i64 y, .int .i64 z, .int .i64 lo, .int .i64 hi, .slice fp fl fc], .bool false] w fun r W' => r = .returned (.tuple #[.int .i64 lo, .int .i64 0]) ∧ Kb w W' := by
  obtain rfl : k = 4 := by have h0 := hk h1; have g0 := ne_of_beq_false h2; have g1 := ne_of_beq_false h3; have g2 := ne_of_beq_false h4; have g3 := ne_of_beq_false h5; omega
  have kx := Kb.refl w
  unfold Ca at q1
  have gl0 := Lib.hid gl
  have j1 := (Is.made w #[.string n, .int .i64 4, .int .i64 a, .int .i64 x, .int .i64 y, .int .i64 z, .int .i64 lo, .int .i64 hi, .slice fp fl fc] 28)
  have f2 := j1.c (i := 0) rfl
  have f3 := j1.c (i := 1) rfl
  have f4 := j1.c (i := 2) rfl
  have f5 := j1.c (i := 3) rfl
  have f6 := j1.c (i := 4) rfl
  have f7 := j1.c (i := 5) rfl
  have f8 := j1.c (i := 6) rfl
  have f9 := j1.c (i := 7) rfl
  have f10 := j1.c (i := 8) rfl
  go_enter Tryz.func128, Tryz.ntmps128
  go_wp2_with fail
  clear f2 f3 f4 f5 f6 f7 f8 f9 f10
  have b1 := j1
  replace kx := kx.alloc (.cells #[.string n, .int .i64 4, .int .i64 a, .int .i64 x, .int .i64 y, .int .i64 z, .int .i64 lo, .int .i64 hi, .slice fp fl fc] 28 (0, 0))
  clear j1
  replace gl := gl0.out.kb kx
  (with_reducible refine (((q1).out _)).mono ?_)
  rintro r w1 ⟨rfl, k1⟩
  replace gl := gl.kb k1
  replace b1 := b1.kb k1
  replace kx := kx.trans k1
  have s1 := k1.size
  simp only [World.size_alloc] at s1
  clear k1
  have f11 := b1.c (i := 1) rfl
  have f12 : w1.cell? ⟨1, 12, none⟩ = some (.bool false) := gl.c 12 (by decide)
  have f13 := b1.c (i := 6) rfl
  go_wp2
  go_ret2
  clear f11 f12 f13
  exact ⟨rfl, kx⟩
set_option maxRecDepth 100000 in
theorem fsizeF_any (n : ByteArray) (k : Int) (a : Int) (x : Int) (y : Int) (z : Int) (lo : Int) (hi : Int) (fp : Option Addr) (fl : Nat) (fc : Nat) (r1 : Int) (q1 : Ca 41 #[.agg #[.string n, .int .i64 k, .int .i64 a, .int .i64 x, .int .i64 y, .int .i64 z, .int .i64 lo, .int .i64 hi, .slice fp fl fc]] (.int .i64 r1)) (hk : (r1 != 0) = false → 0 ≤ k ∧ k < 5)  : Cg 128 #[.agg #[.string n, .int .i64 k, .int .i64 a, .int .i64 x, .int .i64 y, .int .i64 z, .int .i64 lo, .int .i64 hi, .slice fp fl fc], .bool false] (if (r1 != 0) = true then (.tuple #[.int .i64 0, .int .i64 r1]) else (if (k == 0) = true then (.tuple #[.int .i64 0, .int .i64 14]) else (if (k == 1) = true then (.tuple #[.int .i64 hi, .int .i64 0]) else (if (k == 2) = true then (.tuple #[.int .i64 lo, .int .i64 0]) else (if (k == 3) = true then (.tuple #[.int .i64 hi, .int .i64 0]) else (.tuple #[.int .i64 lo, .int .i64 0])))))) := Lib.hid fun w gl => by
  rcases Bool.eq_false_or_eq_true (r1 != 0) with h1 | h1
  · rw [if_pos h1]
    exact fsizeF_1 n k a x y z lo hi fp fl fc r1 q1 h1 w gl
  · rw [if_neg (by rw [h1]; decide)]
    rcases Bool.eq_false_or_eq_true (k == 0) with h2 | h2
    · rw [if_pos h2]
      exact fsizeF_2 n k a x y z lo hi fp fl fc r1 q1 h1 h2 w gl
    · rw [if_neg (by rw [h2]; decide)]
      rcases Bool.eq_false_or_eq_true (k == 1) with h3 | h3
      · rw [if_pos h3]
        exact fsizeF_3 n k a x y z lo hi fp fl fc r1 q1 h1 h2 h3 w gl
      · rw [if_neg (by rw [h3]; decide)]
        rcases Bool.eq_false_or_eq_true (k == 2) with h4 | h4
        · rw [if_pos h4]
          exact fsizeF_4 n k a x y z lo hi fp fl fc r1 q1 h1 h2 h3 h4 w gl
        · rw [if_neg (by rw [h4]; decide)]
          rcases Bool.eq_false_or_eq_true (k == 3) with h5 | h5
          · rw [if_pos h5]
            exact fsizeF_5 n k a x y z lo hi fp fl fc r1 q1 h1 h2 h3 h4 h5 w gl
          · rw [if_neg (by rw [h5]; decide)]
            exact fsizeF_6 n k a x y z lo hi fp fl fc r1 q1 hk h1 h2 h3 h4 h5 w gl
set_option maxRecDepth 100000 in
set_option maxHeartbeats 1000000 in
theorem fMaximum_1 (n : ByteArray) (k : Int) (a : Int) (x : Int) (y : Int) (z : Int) (lo : Int) (hi : Int) (fp : Option Addr) (fl : Nat) (fc : Nat) (r1 : Int) (r2 : Int)   (q1 : Cg 128 #[.agg #[.string n, .int .i64 k, .int .i64 a, .int .i64 x, .int .i64 y, .int .i64 z, .int .i64 lo, .int .i64 hi, .slice fp fl fc], .bool true] (.tuple #[.int .i64 r1, .int .i64 r2])) (w : World) (gl : Gl w)  : Calls Tryz.prog 101 #[.agg #[.string n, .int .i64 k, .int .i64 a, .int .i64 x, .int .i64 y, .int .i64 z, .int .i64 lo, .int .i64 hi, .slice fp fl fc]] w fun r W' => r = .returned (.tuple #[.int .i64 r1, .int .i64 r2]) ∧ Kb w W' := by
  have kx := Kb.refl w
  unfold Cg at q1
  have gl0 := Lib.hid gl
  have j1 := (Is.made w #[.string n, .int .i64 k, .int .i64 a, .int .i64 x, .int .i64 y, .int .i64 z, .int .i64 lo, .int .i64 hi, .slice fp fl fc] 28)
  have f2 := j1.c (i := 0) rfl
  have f3 := j1.c (i := 1) rfl
  have f4 := j1.c (i := 2) rfl
  have f5 := j1.c (i := 3) rfl
  have f6 := j1.c (i := 4) rfl
  have f7 := j1.c (i := 5) rfl
  have f8 := j1.c (i := 6) rfl
  have f9 := j1.c (i := 7) rfl
  have f10 := j1.c (i := 8) rfl
  go_enter Tryz.func101, Tryz.ntmps101
  go_wp2_with fail
  clear f2 f3 f4 f5 f6 f7 f8 f9 f10
  have b1 := j1
  replace kx := kx.alloc (.cells #[.string n, .int .i64 k, .int .i64 a, .int .i64 x, .int .i64 y, .int .i64 z, .int .i64 lo, .int .i64 hi, .slice fp fl fc] 28 (0, 0))
  clear j1
  replace gl := gl0.out.kb kx
  (with_reducible refine ((q1.out _ gl)).mono ?_)
  rintro r w1 ⟨rfl, k1⟩
  replace gl := gl.kb k1
  replace b1 := b1.kb k1
  replace kx := kx.trans k1
  have s1 := k1.size
  simp only [World.size_alloc] at s1
  clear k1
  go_wp2
  go_ret2
  exact ⟨rfl, kx⟩
set_option maxRecDepth 100000 in
theorem fMaximum_any (n : ByteArray) (k : Int) (a : Int) (x : Int) (y : Int) (z : Int) (lo : Int) (hi : Int) (fp : Option Addr) (fl : Nat) (fc : Nat) (r1 : Int) (r2 : Int) (q1 : Cg 128 #[.agg #[.string n, .int .i64 k, .int .i64 a, .int .i64 x, .int .i64 y, .int .i64 z, .int .i64 lo, .int .i64 hi, .slice fp fl fc], .bool true] (.tuple #[.int .i64 r1, .int .i64 r2]))  : Cg 101 #[.agg #[.string n, .int .i64 k, .int .i64 a, .int .i64 x, .int .i64 y, .int .i64 z, .int .i64 lo, .int .i64 hi, .slice fp fl fc]] (.tuple #[.int .i64 r1, .int .i64 r2]) := Lib.hid fun w gl => by
  exact fMaximum_1 n k a x y z lo hi fp fl fc r1 r2 q1 w gl
set_option maxRecDepth 100000 in
set_option maxHeartbeats 1000000 in
theorem fLeast_1 (n : ByteArray) (k : Int) (a : Int) (x : Int) (y : Int) (z : Int) (lo : Int) (hi : Int) (fp : Option Addr) (fl : Nat) (fc : Nat) (r1 : Int) (r2 : Int)   (q1 : Cg 128 #[.agg #[.string n, .int .i64 k, .int .i64 a, .int .i64 x, .int .i64 y, .int .i64 z, .int .i64 lo, .int .i64 hi, .slice fp fl fc], .bool false] (.tuple #[.int .i64 r1, .int .i64 r2])) (w : World) (gl : Gl w)  : Calls Tryz.prog 100 #[.agg #[.string n, .int .i64 k, .int .i64 a, .int .i64 x, .int .i64 y, .int .i64 z, .int .i64 lo, .int .i64 hi, .slice fp fl fc]] w fun r W' => r = .returned (.tuple #[.int .i64 r1, .int .i64 r2]) ∧ Kb w W' := by
  have kx := Kb.refl w
  unfold Cg at q1
  have gl0 := Lib.hid gl
  have j1 := (Is.made w #[.string n, .int .i64 k, .int .i64 a, .int .i64 x, .int .i64 y, .int .i64 z, .int .i64 lo, .int .i64 hi, .slice fp fl fc] 28)
  have f2 := j1.c (i := 0) rfl
  have f3 := j1.c (i := 1) rfl
  have f4 := j1.c (i := 2) rfl
  have f5 := j1.c (i := 3) rfl
  have f6 := j1.c (i := 4) rfl
  have f7 := j1.c (i := 5) rfl
  have f8 := j1.c (i := 6) rfl
  have f9 := j1.c (i := 7) rfl
  have f10 := j1.c (i := 8) rfl
  go_enter Tryz.func100, Tryz.ntmps100
  go_wp2_with fail
  clear f2 f3 f4 f5 f6 f7 f8 f9 f10
  have b1 := j1
  replace kx := kx.alloc (.cells #[.string n, .int .i64 k, .int .i64 a, .int .i64 x, .int .i64 y, .int .i64 z, .int .i64 lo, .int .i64 hi, .slice fp fl fc] 28 (0, 0))
  clear j1
  replace gl := gl0.out.kb kx
  (with_reducible refine ((q1.out _ gl)).mono ?_)
  rintro r w1 ⟨rfl, k1⟩
  replace gl := gl.kb k1
  replace b1 := b1.kb k1
  replace kx := kx.trans k1
  have s1 := k1.size
  simp only [World.size_alloc] at s1
  clear k1
  go_wp2
  go_ret2
  exact ⟨rfl, kx⟩
set_option maxRecDepth 100000 in
theorem fLeast_any (n : ByteArray) (k : Int) (a : Int) (x : Int) (y : Int) (z : Int) (lo : Int) (hi : Int) (fp : Option Addr) (fl : Nat) (fc : Nat) (r1 : Int) (r2 : Int) (q1 : Cg 128 #[.agg #[.string n, .int .i64 k, .int .i64 a, .int .i64 x, .int .i64 y, .int .i64 z, .int .i64 lo, .int .i64 hi, .slice fp fl fc], .bool false] (.tuple #[.int .i64 r1, .int .i64 r2]))  : Cg 100 #[.agg #[.string n, .int .i64 k, .int .i64 a, .int .i64 x, .int .i64 y, .int .i64 z, .int .i64 lo, .int .i64 hi, .slice fp fl fc]] (.tuple #[.int .i64 r1, .int .i64 r2]) := Lib.hid fun w gl => by
  exact fLeast_1 n k a x y z lo hi fp fl fc r1 r2 q1 w gl







































































































































































































end Go.Proofs.YtlimjohnimgnhaaGreatDoor
