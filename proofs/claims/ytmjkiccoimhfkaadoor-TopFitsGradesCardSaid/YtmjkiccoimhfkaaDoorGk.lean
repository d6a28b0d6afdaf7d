/- Words for package grades: what a call may have changed, the three tables that its variables hold, and the numbers of sizes and grades. -/
import Derived.Test.YtmjkiccoimhfkaaDoorOb
import Derived.WalkKit
import Derived.WalkSpells
import Derived.WalkLawsBesides
import Derived.Lib.Hide
import Derived.Deep.LoopGhost
import Derived.Deep.QuietTactic
import Derived.BigQuiet
import Derived.Below
import Derived.Laws.OwnMore
import Derived.Deep.Draws
import Derived.Lib.LaidTab
import Derived.Deep.RegionHeld3
namespace Go.Proofs.YtmjkiccoimhfkaaDoor
open Go.RowKit

/-! the numbers -/
def endI : Nat → Int
  | 0 => 3000 | 1 => 6000 | 2 => 10000 | 3 => 18000 | 4 => 30000 | 5 => 50000 | 6 => 80000 | _ => 100000
def baseI : Nat → Int
  | 0 => 6 | 1 => 8 | 2 => 9 | 3 => 11 | 4 => 13 | 5 => 16 | 6 => 19 | _ => 22
def facI : Nat → Int
  | 0 => 7 | 1 => 10 | 2 => 16 | 3 => 25 | 4 => 40 | 5 => 64 | 6 => 100 | _ => 160
def shfI : Nat → Int
  | 0 => 50 | 1 => 31 | 2 => 16 | 3 => 6 | 4 => 0 | 5 => 0 | 6 => 2 | 7 => 9 | 8 => 15 | _ => 22
/-- the size step of a size -/
def stp (z : Int) : Nat := if z ≤ 3000 then 0 else if z ≤ 6000 then 1 else if z ≤ 10000 then 2 else if z ≤ 18000 then 3 else if z ≤ 30000 then 4 else if z ≤ 50000 then 5 else if z ≤ 80000 then 6 else 7
theorem stp_le (z : Int) : stp z ≤ 7 := by unfold stp; (repeat' split) <;> omega
theorem stp_cases (z : Int) : (stp z = 0 ∧ z ≤ 3000) ∨ (stp z = 1 ∧ 3000 < z ∧ z ≤ 6000) ∨ (stp z = 2 ∧ 6000 < z ∧ z ≤ 10000) ∨ (stp z = 3 ∧ 10000 < z ∧ z ≤ 18000) ∨ (stp z = 4 ∧ 18000 < z ∧ z ≤ 30000) ∨ (stp z = 5 ∧ 30000 < z ∧ z ≤ 50000) ∨ (stp z = 6 ∧ 50000 < z ∧ z ≤ 80000) ∨ (stp z = 7 ∧ 80000 < z) := by
  unfold stp; (repeat' split) <;> omega
theorem lt8 {k : Nat} (h : k < 8) : k = 0 ∨ k = 1 ∨ k = 2 ∨ k = 3 ∨ k = 4 ∨ k = 5 ∨ k = 6 ∨ k = 7 := by omega
theorem stp_lt {z : Int} {k : Nat} (h : k < stp z) : endI k < z := by
  have := stp_cases z
  have := stp_le z
  rcases lt8 (show k < 8 by omega) with rfl | rfl | rfl | rfl | rfl | rfl | rfl | rfl <;> simp only [endI] <;> omega
theorem stp_ge {z : Int} {k : Nat} (hz : z ≤ 100000) (h : stp z ≤ k) : z ≤ endI k := by
  have := stp_cases z
  have h8 : k < 8 ∨ 8 ≤ k := by omega
  rcases h8 with h8 | h8
  · rcases lt8 h8 with rfl | rfl | rfl | rfl | rfl | rfl | rfl | rfl <;> simp only [endI] <;> omega
  · have : endI k = 100000 := by unfold endI; split <;> first | omega | rfl
    omega
theorem base_bd (k : Nat) : 6 ≤ baseI k ∧ baseI k ≤ 22 := by unfold baseI; split <;> omega
theorem fac_bd (k : Nat) : 7 ≤ facI k ∧ facI k ≤ 160 := by unfold facI; split <;> omega
theorem shf_bd (k : Nat) : 0 ≤ shfI k ∧ shfI k ≤ 50 := by unfold shfI; split <;> omega
theorem mul_in {a b m n : Int} (h1 : 0 ≤ a) (h2 : a ≤ m) (h3 : 0 ≤ b) (h4 : b ≤ n) : 0 ≤ a * b ∧ a * b ≤ m * n :=
  ⟨Int.mul_nonneg h1 h3, Int.mul_le_mul h2 h4 h3 (by omega)⟩
/-- the tolerance of a grade for a size; the shift of a letter -/
def tolP (z g : Int) : Int := baseI (stp z) * facI (g - 5).toNat
def tolI (z g : Int) : Int := (tolP z g + 5) / 10
def shiP (z : Int) (k : Nat) : Int := baseI (stp z) * shfI k
def shiI (z : Int) (k : Nat) : Int := shiP z k / 10
theorem tolP_bd (z g : Int) : 42 ≤ tolP z g ∧ tolP z g ≤ 3520 := by
  have h1 := base_bd (stp z); have h2 := fac_bd (g - 5).toNat
  have h3 := mul_in (a := baseI (stp z)) (b := facI (g - 5).toNat) (m := 22) (n := 160) (by omega) h1.2 (by omega) h2.2
  have h4 : 6 * 7 ≤ baseI (stp z) * facI (g - 5).toNat := Int.mul_le_mul h1.1 h2.1 (by omega) (by omega)
  unfold tolP; omega
theorem tolI_bd (z g : Int) : 4 ≤ tolI z g ∧ tolI z g ≤ 352 := by have := tolP_bd z g; unfold tolI; omega
theorem shiP_bd (z : Int) (k : Nat) : 0 ≤ shiP z k ∧ shiP z k ≤ 1100 := by
  have h1 := base_bd (stp z); have h2 := shf_bd k
  have h3 := mul_in (a := baseI (stp z)) (b := shfI k) (m := 22) (n := 50) (by omega) h1.2 (by omega) h2.2
  unfold shiP; omega
theorem shiI_bd (z : Int) (k : Nat) : 0 ≤ shiI z k ∧ shiI z k ≤ 110 := by have := shiP_bd z k; unfold shiI; omega
theorem stp_mono {y z : Int} (h : y ≤ z) : stp y ≤ stp z := by have := stp_cases y; have := stp_cases z; omega
theorem base_mono {j k : Nat} (h : j ≤ k) (hk : k ≤ 7) : baseI j ≤ baseI k := by
  rcases lt8 (show j < 8 by omega) with rfl | rfl | rfl | rfl | rfl | rfl | rfl | rfl <;> rcases lt8 (show k < 8 by omega) with rfl | rfl | rfl | rfl | rfl | rfl | rfl | rfl <;> simp only [baseI] <;> omega
theorem fac_grow {k : Nat} (hk : k < 7) : facI k + 3 ≤ facI (k + 1) := by
  rcases lt8 (show k < 8 by omega) with rfl | rfl | rfl | rfl | rfl | rfl | rfl | rfl <;> simp only [facI] <;> omega

/-! what the program's variables hold -/
def Glo (w : World) : Prop := (∀ i : Nat, i < 8 → w.cell? ⟨2, i, none⟩ = some (.int .i64 (endI i))) ∧ (∀ i : Nat, i < 8 → w.cell? ⟨0, i, none⟩ = some (.int .i64 (baseI i))) ∧ (∀ i : Nat, i < 8 → w.cell? ⟨1, i, none⟩ = some (.int .i64 (facI i)))
theorem Glo.kb {w w' : World} (h : Glo w) (k : Kb w w') : Glo w' := ⟨fun i hi => k.cell (h.1 i hi), fun i hi => k.cell (h.2.1 i hi), fun i hi => k.cell (h.2.2 i hi)⟩
/-- what a call gives, wherever the tables lie as they were laid; whether the world stays as it is -/
def Gq (n : Nat) (args : Array Value) (v : Value) : Prop := Hid (∀ W : World, Glo W → Calls Tryd.prog n args W fun r w' => r = .returned v ∧ Kb W w')
def Gs (n : Nat) (args : Array Value) (v : Value) : Prop := Hid (∀ W : World, Glo W → Calls Tryd.prog n args W fun r w' => r = .returned v ∧ W = w')
/-- the error of a size, of a grade -/
def szE (z : Int) : Int := if 1 ≤ z ∧ z ≤ 100000 then 0 else 2
def grE (g : Int) : Int := if 5 ≤ g ∧ g ≤ 12 then 0 else 2
def clE (l g : Int) : Int := if 0 ≤ l ∧ l ≤ 9 then grE g else 1
end Go.Proofs.YtmjkiccoimhfkaaDoor
