/- Texts Short, Obeys: each says in its own first comment what it proves. -/
import Derived.Test.YtcgilcmhandgfaaGreatDoorM13
import Derived.Test.YtcgilcmhandgfaaGreatDoorM07
import Derived.Test.YtcgilcmhandgfaaGreatDoorM18
import Derived.Test.YtcgilcmhandgfaaGreatDoorM12
import Derived.Test.YtcgilcmhandgfaaGreatDoorM08
/- Walk over short: the texts are short and canonical. -/
namespace Go.Proofs.YtcgilcmhandgfaaGreatDoor
open Go.RowKit

/-- one text is short and canonical -/
def sh1 (s : ByteArray) : Bool := decide (s.size ≤ 50) && (chk s.data.toList == 0)
def shL (ss : List ByteArray) : Bool := ss.all sh1































































end Go.Proofs.YtcgilcmhandgfaaGreatDoor

/- Walk over WholeObeys: the laws of a commutative ring at short texts. -/
namespace Go.Proofs.YtcgilcmhandgfaaGreatDoor
open Go.RowKit
open Go.Lib (nDigits itoa decDigits lt_pow_nDigits)

def SmI (n : Nat) (z : Int) : Prop := z.natAbs < 10 ^ n
theorem SmI.ok {n : Nat} {z : Int} (h : SmI n z) (h1 : 1 ≤ n) (hn : n ≤ 1024) : Ok z := by
  unfold Ok; exact Nat.le_trans (nd_le h1 h) hn
theorem SmI.mono {n m : Nat} {z : Int} (h : SmI n z) (hn : n ≤ m) : SmI m z := Nat.lt_of_lt_of_le h (Nat.pow_le_pow_right (by decide) hn)
theorem SmI.neg {n : Nat} {z : Int} (h : SmI n z) : SmI n (-z) := by unfold SmI at *; rwa [Int.natAbs_neg]
theorem SmI.mul {n m : Nat} {x y : Int} (h : SmI n x) (k : SmI m y) : SmI (n + m) (x * y) := by
  unfold SmI at *
  rw [Int.natAbs_mul, Nat.pow_add]
  exact Nat.mul_lt_mul'' h k
theorem SmI.add {n : Nat} {x y : Int} (h : SmI n x) (k : SmI n y) : SmI (n + 1) (x + y) := by
  unfold SmI at *
  have := Int.natAbs_add_le x y
  rw [Nat.pow_succ]; omega
theorem SmI.sub {n : Nat} {x y : Int} (h : SmI n x) (k : SmI n y) : SmI (n + 1) (x - y) := by
  rw [Int.sub_eq_add_neg]; exact h.add k.neg
theorem sm_of_short {z : Int} (h : (S z).size ≤ 50) : SmI 50 z := by
  unfold SmI
  refine Nat.lt_of_lt_of_le (lt_pow_nDigits _) (Nat.pow_le_pow_right (by decide) ?_)
  by_cases hz : z < 0
  · have := (S_neg hz).2; omega
  · have := (S_nn hz).2; omega

theorem addS (x y : Int) (w : World) (hx : Ok x) (hy : Ok y) (h : Ok (x + y)) :
    Calls Tryz.prog 207 #[.string (S x), .string (S y)] w fun e w' => e = .returned (.tuple #[.string (S (x + y)), .int .i64 0]) ∧ Kp [] w w' := by
  have hc := chk_two hx hy
  have := Add_any (S x) (S y) w (Nat.le_trans hx.size (by decide)) (Nat.le_trans hy.size (by decide))
  rw [binB_S hc, binE_S hc, show resB (x + y) = S (x + y) from if_pos h, show resE (x + y) = 0 from if_pos h] at this
  exact this






theorem mulS (x y : Int) (w : World) (hx : Ok x) (hy : Ok y) (h : Ok (x * y)) :
    Calls Tryz.prog 174 #[.string (S x), .string (S y)] w fun e w' => e = .returned (.tuple #[.string (S (x * y)), .int .i64 0]) ∧ Kp [] w w' := by
  have hc := chk_two hx hy
  have := Mul_any (S x) (S y) w (Nat.le_trans hx.size (by decide)) (Nat.le_trans hy.size (by decide))
  rw [binB_S hc, binE_S hc, show resB (x * y) = S (x * y) from if_pos h, show resE (x * y) = 0 from if_pos h] at this
  exact this
theorem chk_of_ok {x : Int} (hx : Ok x) : chk (S x).data.toList = 0 := by rw [S_list, chk_S, if_pos hx]
theorem negS (x : Int) (w : World) (hx : Ok x) :
    Calls Tryz.prog 220 #[.string (S x)] w fun e w' => e = .returned (.tuple #[.string (S (-x)), .int .i64 0]) ∧ w = w' := by
  have hc := chk_of_ok hx
  have := Neg_any (S x) w (Nat.le_trans hx.size (by decide))
  rw [hc, show unB (- ·) (S x) = S (-x) by unfold unB; rw [if_pos hc, valS_S]] at this
  exact this
theorem signS (x : Int) (w : World) (hx : Ok x) :
    Calls Tryz.prog 182 #[.string (S x)] w fun e w' => e = .returned (.tuple #[.int .i64 (sgn x), .int .i64 0]) ∧ w = w' := by
  have hc := chk_of_ok hx
  have := Sign_any (S x) w (Nat.le_trans hx.size (by decide))
  rw [hc, show signI (S x) = sgn x by unfold signI; rw [if_pos hc, valS_S]] at this
  exact this
theorem cmp_sgn (x y : Int) : cmpI x y = sgn (x - y) := by
  unfold cmpI sgn
  repeat' split
  all_goals omega

theorem strs3 {W : World} {g : Nat} {a b c : ByteArray} {T : Nat} (hb : W.heap[g]? = some (.cells #[.string a, .string b, .string c] T (0, 0))) : Strs W g 0 [a, b, c] := by
  intro i h
  rw [cell_of hb]
  have h3 : i < 3 := h
  have : i = 0 ∨ i = 1 ∨ i = 2 := by omega
  rcases this with rfl | rfl | rfl <;> rfl





















/-- a call that returns a text (a number) with error 0 and keeps the old blocks -/
def Gives2 (n : Nat) (a b : ByteArray) (r : Value) : Prop := Hid (∀ W : World, Calls Tryz.prog n #[.string a, .string b] W fun e w' => e = .returned (.tuple #[r, .int .i64 0]) ∧ Kp [] W w')
def Gives1 (n : Nat) (a : ByteArray) (r : Value) : Prop := Hid (∀ W : World, Calls Tryz.prog n #[.string a] W fun e w' => e = .returned (.tuple #[r, .int .i64 0]) ∧ Kp [] W w')































































































































end Go.Proofs.YtcgilcmhandgfaaGreatDoor
