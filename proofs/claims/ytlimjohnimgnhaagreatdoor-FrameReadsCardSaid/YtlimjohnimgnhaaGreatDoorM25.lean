/- Texts Un3: each says in its own first comment what it proves. -/
import Derived.Test.YtlimjohnimgnhaaGreatDoorM01
import Derived.Test.YtlimjohnimgnhaaGreatDoorM41
/- Frames: the reference: what is permitted. -/
namespace Go.Proofs.YtlimjohnimgnhaaGreatDoor
open Go.RowKit

def rowsA : Array Value := #[.string ⟨#[115, 116, 114, 97, 105, 103, 104, 116]⟩, .string ⟨#[72, 73]⟩, .int .i64 0, .int .i64 0, .string ⟨#[72, 73]⟩, .string ⟨#[102, 108, 97, 116]⟩, .string ⟨#[80, 83]⟩, .int .i64 0, .int .i64 0, .string ⟨#[]⟩, .string ⟨#[112, 97, 114, 97, 108, 108, 101, 108]⟩, .string ⟨#[80, 72, 73, 83]⟩, .int .i64 1, .int .i64 2, .string ⟨#[72, 73]⟩, .string ⟨#[115, 113, 117, 97, 114, 101]⟩, .string ⟨#[80, 72, 73, 83]⟩, .int .i64 1, .int .i64 2, .string ⟨#[72, 73]⟩, .string ⟨#[114, 111, 117, 110, 100]⟩, .string ⟨#[72, 73, 66]⟩, .int .i64 0, .int .i64 0, .string ⟨#[]⟩, .string ⟨#[115, 112, 104, 101, 114, 101]⟩, .string ⟨#[66]⟩, .int .i64 0, .int .i64 0, .string ⟨#[]⟩, .string ⟨#[112, 114, 111, 102, 105, 108, 101]⟩, .string ⟨#[80]⟩, .int .i64 0, .int .i64 3, .string ⟨#[]⟩, .string ⟨#[114, 117, 110, 111, 117, 116]⟩, .string ⟨#[80, 72, 73]⟩, .int .i64 1, .int .i64 1, .string ⟨#[]⟩, .string ⟨#[112, 111, 115, 105, 116, 105, 111, 110]⟩, .string ⟨#[80, 72, 73, 83, 66]⟩, .int .i64 0, .int .i64 3, .string ⟨#[72, 73, 66]⟩]
def rW (k : Nat) : ByteArray := [⟨#[115, 116, 114, 97, 105, 103, 104, 116]⟩, ⟨#[102, 108, 97, 116]⟩, ⟨#[112, 97, 114, 97, 108, 108, 101, 108]⟩, ⟨#[115, 113, 117, 97, 114, 101]⟩, ⟨#[114, 111, 117, 110, 100]⟩, ⟨#[115, 112, 104, 101, 114, 101]⟩, ⟨#[112, 114, 111, 102, 105, 108, 101]⟩, ⟨#[114, 117, 110, 111, 117, 116]⟩, ⟨#[112, 111, 115, 105, 116, 105, 111, 110]⟩].getD k ⟨#[]⟩
def rF (k : Nat) : ByteArray := [⟨#[72, 73]⟩, ⟨#[80, 83]⟩, ⟨#[80, 72, 73, 83]⟩, ⟨#[80, 72, 73, 83]⟩, ⟨#[72, 73, 66]⟩, ⟨#[66]⟩, ⟨#[80]⟩, ⟨#[80, 72, 73]⟩, ⟨#[80, 72, 73, 83, 66]⟩].getD k ⟨#[]⟩
def rL (k : Nat) : Int := [0, 0, 1, 1, 0, 0, 0, 1, 0].getD k 0
def rM (k : Nat) : Int := [0, 0, 2, 2, 0, 0, 3, 1, 3].getD k 0
def rD (k : Nat) : ByteArray := [⟨#[72, 73]⟩, ⟨#[]⟩, ⟨#[72, 73]⟩, ⟨#[72, 73]⟩, ⟨#[]⟩, ⟨#[]⟩, ⟨#[]⟩, ⟨#[]⟩, ⟨#[72, 73, 66]⟩].getD k ⟨#[]⟩
theorem nine {k : Nat} (hk : k < 9) : k = 0 ∨ k = 1 ∨ k = 2 ∨ k = 3 ∨ k = 4 ∨ k = 5 ∨ k = 6 ∨ k = 7 ∨ k = 8 := by omega
theorem rows_at {w : World} {b : Nat} (h : Is w b rowsA 135) {k : Nat} (hk : k < 9) : w.cell? ⟨b, k * 5, none⟩ = some (.string (rW k)) ∧ w.cell? ⟨b, k * 5 + 1, none⟩ = some (.string (rF k)) ∧ w.cell? ⟨b, k * 5 + 2, none⟩ = some (.int .i64 (rL k)) ∧ w.cell? ⟨b, k * 5 + 3, none⟩ = some (.int .i64 (rM k)) ∧ w.cell? ⟨b, k * 5 + 4, none⟩ = some (.string (rD k)) := by
  rcases nine hk with rfl | rfl | rfl | rfl | rfl | rfl | rfl | rfl | rfl
  all_goals exact ⟨h.c rfl, h.c rfl, h.c rfl, h.c rfl, h.c rfl⟩
theorem Is.gnz {base b : Nat} {z n cs : Array Value} {T T' : TypeId} {w w' : World} (h : Is w b cs T') (k : Gn base z n T w w') (hz : cs.size ≠ z.size) : Is w' b cs T' := by
  rcases k.2.2.2.2 b h.lt with e | ⟨_, e, _⟩
  · exact h.same e
  · unfold Is at h e
    rw [h] at e
    injection e with e
    injection e with e1
    exact absurd (congrArg Array.size e1) hz
theorem rF_size (k : Nat) (hk : k < 9) : (rF k).size ≤ 100 := by rcases nine hk with rfl | rfl | rfl | rfl | rfl | rfl | rfl | rfl | rfl <;> decide
theorem rD_size (k : Nat) (hk : k < 9) : (rD k).size ≤ 100 := by rcases nine hk with rfl | rfl | rfl | rfl | rfl | rfl | rfl | rfl | rfl <;> decide
set_option maxRecDepth 100000 in
set_option maxHeartbeats 4000000 in
theorem rRows_1 (w : World)  : Calls Tryz.prog 91 #[] w fun r W' => (∃ bb, r = .returned (.slice (some ⟨bb, 0, none⟩) 9 9) ∧ Is W' bb rowsA 135) ∧ Kb w W' := by
  have kx := Kb.refl w
  go_enter Tryz.func91, Tryz.ntmps91
  go_wp2
  go_ret
  replace kx := kx.alloc (.cells #[.string ⟨#[115, 116, 114, 97, 105, 103, 104, 116]⟩, .string ⟨#[72, 73]⟩, .int .i64 0, .int .i64 0, .string ⟨#[72, 73]⟩, .string ⟨#[102, 108, 97, 116]⟩, .string ⟨#[80, 83]⟩, .int .i64 0, .int .i64 0, .string ⟨#[]⟩, .string ⟨#[112, 97, 114, 97, 108, 108, 101, 108]⟩, .string ⟨#[80, 72, 73, 83]⟩, .int .i64 1, .int .i64 2, .string ⟨#[72, 73]⟩, .string ⟨#[115, 113, 117, 97, 114, 101]⟩, .string ⟨#[80, 72, 73, 83]⟩, .int .i64 1, .int .i64 2, .string ⟨#[72, 73]⟩, .string ⟨#[114, 111, 117, 110, 100]⟩, .string ⟨#[72, 73, 66]⟩, .int .i64 0, .int .i64 0, .string ⟨#[]⟩, .string ⟨#[115, 112, 104, 101, 114, 101]⟩, .string ⟨#[66]⟩, .int .i64 0, .int .i64 0, .string ⟨#[]⟩, .string ⟨#[112, 114, 111, 102, 105, 108, 101]⟩, .string ⟨#[80]⟩, .int .i64 0, .int .i64 3, .string ⟨#[]⟩, .string ⟨#[114, 117, 110, 111, 117, 116]⟩, .string ⟨#[80, 72, 73]⟩, .int .i64 1, .int .i64 1, .string ⟨#[]⟩, .string ⟨#[112, 111, 115, 105, 116, 105, 111, 110]⟩, .string ⟨#[80, 72, 73, 83, 66]⟩, .int .i64 0, .int .i64 3, .string ⟨#[72, 73, 66]⟩] 135 (0, 0))
  exact ⟨⟨_, rfl, Is.made _ _ _⟩, kx⟩
set_option maxRecDepth 100000 in
set_option maxHeartbeats 4000000 in
theorem rmay_1 (n : ByteArray) (k : Int) (a : Int) (x : Int) (y : Int) (z : Int) (lo : Int) (hi : Int) (fp : Option Addr) (fl : Nat) (fc : Nat) (c : Int)      (h1 : (k != 0) = true) (h2 : (c == 0) = true) (w : World)  : Calls Tryz.prog 93 #[.agg #[.string n, .int .i64 k, .int .i64 a, .int .i64 x, .int .i64 y, .int .i64 z, .int .i64 lo, .int .i64 hi, .slice fp fl fc], .int .i64 c] w fun r W' => r = .returned (.bool true) ∧ Kb w W' := by
  have kx := Kb.refl w
  have j1 := (Is.made w #[.string n, .int .i64 k, .int .i64 a, .int .i64 x, .int .i64 y, .int .i64 z, .int .i64 lo, .int .i64 hi, .slice fp fl fc] 28)
  have f2 := j1.c (i := 1) rfl
  go_enter Tryz.func93, Tryz.ntmps93
  go_wp2
  go_ret
  clear f2
  replace kx := kx.alloc (.cells #[.string n, .int .i64 k, .int .i64 a, .int .i64 x, .int .i64 y, .int .i64 z, .int .i64 lo, .int .i64 hi, .slice fp fl fc] 28 (0, 0))
  exact ⟨rfl, kx⟩
set_option maxRecDepth 100000 in
set_option maxHeartbeats 4000000 in
theorem rmay_2 (n : ByteArray) (k : Int) (a : Int) (x : Int) (y : Int) (z : Int) (lo : Int) (hi : Int) (fp : Option Addr) (fl : Nat) (fc : Nat) (c : Int)      (h1 : (k != 0) = true) (h2 : (c == 0) = false) (h3 : (c == 2) = true) (w : World)  : Calls Tryz.prog 93 #[.agg #[.string n, .int .i64 k, .int .i64 a, .int .i64 x, .int .i64 y, .int .i64 z, .int .i64 lo, .int .i64 hi, .slice fp fl fc], .int .i64 c] w fun r W' => r = .returned (.bool true) ∧ Kb w W' := by
  have kx := Kb.refl w
  have j1 := (Is.made w #[.string n, .int .i64 k, .int .i64 a, .int .i64 x, .int .i64 y, .int .i64 z, .int .i64 lo, .int .i64 hi, .slice fp fl fc] 28)
  have f2 := j1.c (i := 1) rfl
  go_enter Tryz.func93, Tryz.ntmps93
  go_wp2
  go_ret
  clear f2
  replace kx := kx.alloc (.cells #[.string n, .int .i64 k, .int .i64 a, .int .i64 x, .int .i64 y, .int .i64 z, .int .i64 lo, .int .i64 hi, .slice fp fl fc] 28 (0, 0))
  exact ⟨rfl, kx⟩
set_option maxRecDepth 100000 in
set_option maxHeartbeats 4000000 in
theorem rmay_3 (n : ByteArray) (k : Int) (a : Int) (x : Int) (y : Int) (z : Int) (lo : Int) (hi : Int) (fp : Option Addr) (fl : Nat) (fc : Nat) (c : Int)      (h1 : (k != 0) = true) (h2 : (c == 0) = false) (h3 : (c == 2) = false) (h4 : (c == 3) = true) (w : World)  : Calls Tryz.prog 93 #[.agg #[.string n, .int .i64 k, .int .i64 a, .int .i64 x, .int .i64 y, .int .i64 z, .int .i64 lo, .int .i64 hi, .slice fp fl fc], .int .i64 c] w fun r W' => r = .returned (.bool true) ∧ Kb w W' := by
  have kx := Kb.refl w
  have j1 := (Is.made w #[.string n, .int .i64 k, .int .i64 a, .int .i64 x, .int .i64 y, .int .i64 z, .int .i64 lo, .int .i64 hi, .slice fp fl fc] 28)
  have f2 := j1.c (i := 1) rfl
  go_enter Tryz.func93, Tryz.ntmps93
  go_wp2
  go_ret
  clear f2
  replace kx := kx.alloc (.cells #[.string n, .int .i64 k, .int .i64 a, .int .i64 x, .int .i64 y, .int .i64 z, .int .i64 lo, .int .i64 hi, .slice fp fl fc] 28 (0, 0))
  exact ⟨rfl, kx⟩
set_option maxRecDepth 100000 in
set_option maxHeartbeats 4000000 in
theorem rmay_4 (n : ByteArray) (k : Int) (a : Int) (x : Int) (y : Int) (z : Int) (lo : Int) (hi : Int) (fp : Option Addr) (fl : Nat) (fc : Nat) (c : Int)      (h1 : (k != 0) = true) (h2 : (c == 0) = false) (h3 : (c == 2) = false) (h4 : (c == 3) = false) (w : World)  : Calls Tryz.prog 93 #[.agg #[.string n, .int .i64 k, .int .i64 a, .int .i64 x, .int .i64 y, .int .i64 z, .int .i64 lo, .int .i64 hi, .slice fp fl fc], .int .i64 c] w fun r W' => r = .returned (.bool (c == 8)) ∧ Kb w W' := by
  have kx := Kb.refl w
  have j1 := (Is.made w #[.string n, .int .i64 k, .int .i64 a, .int .i64 x, .int .i64 y, .int .i64 z, .int .i64 lo, .int .i64 hi, .slice fp fl fc] 28)
  have f2 := j1.c (i := 1) rfl
  go_enter Tryz.func93, Tryz.ntmps93
  go_wp2
  go_ret
  clear f2
  replace kx := kx.alloc (.cells #[.string n, .int .i64 k, .int .i64 a, .int .i64 x, .int .i64 y, .int .i64 z, .int .i64 lo, .int .i64 hi, .slice fp fl fc] 28 (0, 0))
  exact ⟨rfl, kx⟩
set_option maxRecDepth 100000 in
set_option maxHeartbeats 4000000 in
theorem rmay_5 (n : ByteArray) (k : Int) (a : Int) (x : Int) (y : Int) (z : Int) (lo : Int) (hi : Int) (fp : Option Addr) (fl : Nat) (fc : Nat) (c : Int)      (h1 : (k != 0) = false) (w : World)  : Calls Tryz.prog 93 #[.agg #[.string n, .int .i64 k, .int .i64 a, .int .i64 x, .int .i64 y, .int .i64 z, .int .i64 lo, .int .i64 hi, .slice fp fl fc], .int .i64 c] w fun r W' => r = .returned (.bool false) ∧ Kb w W' := by
  have kx := Kb.refl w
  have j1 := (Is.made w #[.string n, .int .i64 k, .int .i64 a, .int .i64 x, .int .i64 y, .int .i64 z, .int .i64 lo, .int .i64 hi, .slice fp fl fc] 28)
  have f2 := j1.c (i := 1) rfl
  go_enter Tryz.func93, Tryz.ntmps93
  go_wp2
  go_ret
  clear f2
  replace kx := kx.alloc (.cells #[.string n, .int .i64 k, .int .i64 a, .int .i64 x, .int .i64 y, .int .i64 z, .int .i64 lo, .int .i64 hi, .slice fp fl fc] 28 (0, 0))
  exact ⟨rfl, kx⟩
set_option maxRecDepth 100000 in
theorem rmay_any (n : ByteArray) (k : Int) (a : Int) (x : Int) (y : Int) (z : Int) (lo : Int) (hi : Int) (fp : Option Addr) (fl : Nat) (fc : Nat) (c : Int)    : Ca 93 #[.agg #[.string n, .int .i64 k, .int .i64 a, .int .i64 x, .int .i64 y, .int .i64 z, .int .i64 lo, .int .i64 hi, .slice fp fl fc], .int .i64 c] (if (k != 0) = true then (if (c == 0) = true then (.bool true) else (if (c == 2) = true then (.bool true) else (if (c == 3) = true then (.bool true) else (.bool (c == 8))))) else (.bool false)) := Lib.hid fun w => by
  rcases Bool.eq_false_or_eq_true (k != 0) with h1 | h1
  · rw [if_pos h1]
    rcases Bool.eq_false_or_eq_true (c == 0) with h2 | h2
    · rw [if_pos h2]
      exact rmay_1 n k a x y z lo hi fp fl fc c h1 h2 w
    · rw [if_neg (by rw [h2]; decide)]
      rcases Bool.eq_false_or_eq_true (c == 2) with h3 | h3
      · rw [if_pos h3]
        exact rmay_2 n k a x y z lo hi fp fl fc c h1 h2 h3 w
      · rw [if_neg (by rw [h3]; decide)]
        rcases Bool.eq_false_or_eq_true (c == 3) with h4 | h4
        · rw [if_pos h4]
          exact rmay_3 n k a x y z lo hi fp fl fc c h1 h2 h3 h4 w
        · rw [if_neg (by rw [h4]; decide)]
          exact rmay_4 n k a x y z lo hi fp fl fc c h1 h2 h3 h4 w
  · rw [if_neg (by rw [h1]; decide)]
    exact rmay_5 n k a x y z lo hi fp fl fc c h1 w
def mmB (k c : Int) : Bool := (k != 0) && ((c == 0) || (c == 2) || (c == 3) || (c == 8))
theorem rmayB (n : ByteArray) (k a x y z lo hi : Int) (fp : Option Addr) (fl fc : Nat) (c : Int) : Ca 93 #[.agg #[.string n, .int .i64 k, .int .i64 a, .int .i64 x, .int .i64 y, .int .i64 z, .int .i64 lo, .int .i64 hi, .slice fp fl fc], .int .i64 c] (.bool (mmB k c)) := by
  have q := rmay_any n k a x y z lo hi fp fl fc c
  unfold mmB
  rcases Bool.eq_false_or_eq_true (k != 0) with h0 | h0
  · rw [if_pos h0] at q
    rw [h0]
    rcases Bool.eq_false_or_eq_true (c == 0) with h1 | h1
    · rw [if_pos h1] at q; rw [h1]; exact q
    · rw [if_neg (by rw [h1]; decide)] at q
      rcases Bool.eq_false_or_eq_true (c == 2) with h2 | h2
      · rw [if_pos h2] at q; rw [h1, h2]; exact q
      · rw [if_neg (by rw [h2]; decide)] at q
        rcases Bool.eq_false_or_eq_true (c == 3) with h3 | h3
        · rw [if_pos h3] at q; rw [h1, h2, h3]; exact q
        · rw [if_neg (by rw [h3]; decide)] at q
          rw [h1, h2, h3]; exact q
  · rw [if_neg (by rw [h0]; decide)] at q
    rw [h0]; exact q
/-- the error of what is not permitted -/
def permE (k : Int) (fk : Nat) (fd : Bool) (ft fm : Int) (dl : Nat) : Int := firstE [fE (!(hsB (rF fk) k)) 14, fE (fd && !(hsB (rD fk) k)) 3, fE ((ft == 0) && (fm != 1)) 10, fE ((fm != 0) && !(mmB k (fk : Int))) 3, fE (decide ((dl : Int) < (rL fk))) 13, fE (decide ((rM fk) < (dl : Int))) 5]
set_option maxRecDepth 100000 in
set_option maxHeartbeats 4000000 in
theorem rperm_1 (n : ByteArray) (k : Int) (a : Int) (x : Int) (y : Int) (z : Int) (lo : Int) (hi : Int) (fp : Option Addr) (fl : Nat) (fc : Nat) (fk : Nat) (o99 : Bool) (ft : Int) (fm : Int) (dp : Option Addr) (dl : Nat) (dc : Nat)     (hk : fk < 9) (hk2 : 0 ≤ k ∧ k < 5) (w : World)  : Calls Tryz.prog 46 #[.agg #[.string n, .int .i64 k, .int .i64 a, .int .i64 x, .int .i64 y, .int .i64 z, .int .i64 lo, .int .i64 hi, .slice fp fl fc], .agg #[.int .i64 (fk : Int), .bool o99, .int .i64 ft, .int .i64 fm, .slice dp dl dc]] w fun r W' => r = .returned (.int .i64 (permE k fk o99 ft fm dl)) ∧ Kb w W' := by
  have kx := Kb.refl w
  have hk0 : (0 : Int) ≤ (fk : Int) := by omega
  have hk9 : (fk : Int) < 9 := by omega
  go_enter Tryz.func46, Tryz.ntmps46
  go_wp2_with fail
  have b1 := Is.made w #[.string n, .int .i64 k, .int .i64 a, .int .i64 x, .int .i64 y, .int .i64 z, .int .i64 lo, .int .i64 hi, .slice fp fl fc] 28
  replace b1 := (b1.alloc (.cells #[.int .i64 (fk : Int), .bool o99, .int .i64 ft, .int .i64 fm, .slice dp dl dc] 31 (0, 0)))
  have b2 := Is.made (w.alloc (.cells #[.string n, .int .i64 k, .int .i64 a, .int .i64 x, .int .i64 y, .int .i64 z, .int .i64 lo, .int .i64 hi, .slice fp fl fc] 28 (0, 0))) #[.int .i64 (fk : Int), .bool o99, .int .i64 ft, .int .i64 fm, .slice dp dl dc] 31
  simp only [World.size_alloc] at b2
  replace kx := (kx.alloc (.cells #[.string n, .int .i64 k, .int .i64 a, .int .i64 x, .int .i64 y, .int .i64 z, .int .i64 lo, .int .i64 hi, .slice fp fl fc] 28 (0, 0))).alloc (.cells #[.int .i64 (fk : Int), .bool o99, .int .i64 ft, .int .i64 fm, .slice dp dl dc] 31 (0, 0))
  replace b1 := b1.drew
  replace b2 := b2.drew
  rw [oF_lit]
  refine o_law (⟨57, [some 6, some 7, some 8, some 9, some 10, some 5, none], [6, 7, 8, 9, 10, 5, 5], [[], [], [1], [0, 2], [3], [], [5, 4]], [[], [3], [], [], [], [], []]⟩ : OT) (Gn (((w.alloc (.cells #[.string n, .int .i64 k, .int .i64 a, .int .i64 x, .int .i64 y, .int .i64 z, .int .i64 lo, .int .i64 hi, .slice fp fl fc] 28 (0, 0))).alloc (.cells #[.int .i64 (fk : Int), .bool o99, .int .i64 ft, .int .i64 fm, .slice dp dl dc] 31 (0, 0))).heap.size) #[.string ⟨#[]⟩, .string ⟨#[]⟩, .int .i64 0, .int .i64 0, .string ⟨#[]⟩] #[.string (rW fk), .string (rF fk), .int .i64 (rL fk), .int .i64 (rM fk), .string (rD fk)] 135) (RL [fun vv ww => ∃ bb, vv = .slice (some ⟨bb, 0, none⟩) 9 9 ∧ Is ww bb rowsA 135, fun vv _ => vv = .pointer (some ⟨w.heap.size + 1, 0, none⟩), fun vv _ => vv = .int .i64 (fk : Int), fun vv ww => ∃ bb, vv = .pointer (some ⟨bb, fk * 5, none⟩) ∧ Is ww bb rowsA 135, fun vv _ => vv = .agg #[.string (rW fk), .string (rF fk), .int .i64 (rL fk), .int .i64 (rM fk), .string (rD fk)], An (((w.alloc (.cells #[.string n, .int .i64 k, .int .i64 a, .int .i64 x, .int .i64 y, .int .i64 z, .int .i64 lo, .int .i64 hi, .slice fp fl fc] 28 (0, 0))).alloc (.cells #[.int .i64 (fk : Int), .bool o99, .int .i64 ft, .int .i64 fm, .slice dp dl dc] 31 (0, 0))).heap.size) #[.string ⟨#[]⟩, .string ⟨#[]⟩, .int .i64 0, .int .i64 0, .string ⟨#[]⟩] #[.string (rW fk), .string (rF fk), .int .i64 (rL fk), .int .i64 (rM fk), .string (rD fk)] 135, Sn (((w.alloc (.cells #[.string n, .int .i64 k, .int .i64 a, .int .i64 x, .int .i64 y, .int .i64 z, .int .i64 lo, .int .i64 hi, .slice fp fl fc] 28 (0, 0))).alloc (.cells #[.int .i64 (fk : Int), .bool o99, .int .i64 ft, .int .i64 fm, .slice dp dl dc] 31 (0, 0))).heap.size) #[.string (rW fk), .string (rF fk), .int .i64 (rL fk), .int .i64 (rM fk), .string (rD fk)] 135]) (by kernel_rfl) ?hk ?hR ?fin
  case hk => kernel_rfl
  case hR =>
    refine ⟨fun _ => (Gn.refl _ _ _ _ _), fun _ _ _ => Gn.trans, rl_stab ⟨(fun v w w' k h => by obtain ⟨bb, ee, is⟩ := h; exact ⟨bb, ee, is.gnz k (by decide)⟩), fun _ _ _ _ h => h, fun _ _ _ _ h => h, (fun v w w' k h => by obtain ⟨bb, ee, is⟩ := h; exact ⟨bb, ee, is.gnz k (by decide)⟩), fun _ _ _ _ h => h, (fun v w w' k h => h.gn k), (fun v w w' k h => h.gn k), trivial⟩, ?_⟩
    refine allO_cons ?_ (allO_cons ?_ (allO_cons ?_ (allO_cons ?_ (allO_cons ?_ (allO_cons ?_ (allO_cons ?_ (allO_nil)))))))
    · intro T w9 hG hD hO Q
      have e0 : (oF 57 T).eval (.func 91) = .func (.func 91) #[] #[] := rfl
      refine og_none rfl ?_
      refine o_call (oc0 (enters_of Tryz.func91 (by kernel_rfl) rfl) rfl rfl ) rfl ?_
      exact (rRows_1 w9).mono fun r W' ⟨⟨bb, h1, h2⟩, h3⟩ => ⟨_, h1, ⟨bb, rfl, h2⟩, h3.gn⟩
    · intro T w9 hG hD hO Q
      have q0 := hO.1
      have e0 : (oF 57 T).eval (.tmp 3) = .pointer (some ⟨w.heap.size + 1, 0, none⟩) := (oF_eval (by decide)).trans (show T 3 = _ from q0)
      refine og_none rfl ?_
      exact o_val (v := .pointer (some ⟨w.heap.size + 1, 0, none⟩)) (w' := w9) (by generalize (oF 57 T).eval = rr at *; simp [execOp, go_sem, e0]) rfl rfl (Gn.refl _ _ _ _ _)
    · intro T w9 hG hD hO Q
      have d0 := hD.1
      have e0 : (oF 57 T).eval (.tmp 7) = .pointer (some ⟨w.heap.size + 1, 0, none⟩) := (oF_eval (by decide)).trans (show T 7 = _ from d0)
      refine og_none rfl ?_
      have im := b2.gn hG b2.lt
      have m0 := im.c (i := 0) rfl
      clear im
      exact o_val (v := .int .i64 (fk : Int)) (w' := w9) (by generalize (oF 57 T).eval = rr at *; simp [execOp, go_sem, e0, m0]) rfl rfl (Gn.refl _ _ _ _ _)
    · intro T w9 hG hD hO Q
      have d0 := hD.1
      have d1 := hD.2.1
      have e0 : (oF 57 T).eval (.tmp 6) = T 6 := oF_eval (by decide)
      have p0 : (fun vv ww => ∃ bb, vv = .slice (some ⟨bb, 0, none⟩) 9 9 ∧ Is ww bb rowsA 135) (T 6) w9 := d0
      have e1 : (oF 57 T).eval (.tmp 8) = .int .i64 (fk : Int) := (oF_eval (by decide)).trans (show T 8 = _ from d1)
      refine og_none rfl ?_
      obtain ⟨bb, ee, is⟩ := p0
      rw [ee] at e0
      exact o_val (v := .pointer (some ⟨bb, fk * 5, none⟩)) (w' := w9) (by generalize (oF 57 T).eval = rr at *; simp [execOp, go_sem, e0, e1, hk0, hk9]) rfl ⟨bb, rfl, is⟩ (Gn.refl _ _ _ _ _)
    · intro T w9 hG hD hO Q
      have d0 := hD.1
      have e0 : (oF 57 T).eval (.tmp 9) = T 9 := oF_eval (by decide)
      have p0 : (fun vv ww => ∃ bb, vv = .pointer (some ⟨bb, fk * 5, none⟩) ∧ Is ww bb rowsA 135) (T 9) w9 := d0
      refine og_none rfl ?_
      obtain ⟨bb, ee, is⟩ := p0
      rw [ee] at e0
      obtain ⟨m0, m1, m2, m3, m4⟩ := rows_at is hk
      exact o_val (v := .agg #[.string (rW fk), .string (rF fk), .int .i64 (rL fk), .int .i64 (rM fk), .string (rD fk)]) (w' := w9) (by generalize (oF 57 T).eval = rr at *; simp [execOp, go_sem, e0, m0, m1, m2, m3, m4]) rfl rfl (Gn.refl _ _ _ _ _)
    · intro T w9 hG hD hO Q
      refine og_none rfl ?_
      have kz : Kb w9 (w9.alloc (.cells #[.string ⟨#[]⟩, .string ⟨#[]⟩, .int .i64 0, .int .i64 0, .string ⟨#[]⟩] 135 (0, 0))) := (Kb.refl w9).alloc _
      exact o_val (v := .pointer (some ⟨w9.heap.size, 0, none⟩)) (w' := w9.alloc (.cells #[.string ⟨#[]⟩, .string ⟨#[]⟩, .int .i64 0, .int .i64 0, .string ⟨#[]⟩] 135 (0, 0))) (by simp [execOp, go_sem]) rfl ⟨_, rfl, (by have := hG.2.2.2.1; simp only [World.size_drew] at *; (try simp only [World.size_alloc] at *); omega), .inl (Is.made w9 _ _)⟩ kz.gn
    · intro T w9 hG hD hO Q
      have d0 := hD.1
      have d1 := hD.2.1
      have e0 : (oF 57 T).eval (.tmp 5) = T 5 := oF_eval (by decide)
      have p0 : (An (((w.alloc (.cells #[.string n, .int .i64 k, .int .i64 a, .int .i64 x, .int .i64 y, .int .i64 z, .int .i64 lo, .int .i64 hi, .slice fp fl fc] 28 (0, 0))).alloc (.cells #[.int .i64 (fk : Int), .bool o99, .int .i64 ft, .int .i64 fm, .slice dp dl dc] 31 (0, 0))).heap.size) #[.string ⟨#[]⟩, .string ⟨#[]⟩, .int .i64 0, .int .i64 0, .string ⟨#[]⟩] #[.string (rW fk), .string (rF fk), .int .i64 (rL fk), .int .i64 (rM fk), .string (rD fk)] 135) (T 5) w9 := d0
      have e1 : (oF 57 T).eval (.tmp 10) = .agg #[.string (rW fk), .string (rF fk), .int .i64 (rL fk), .int .i64 (rM fk), .string (rD fk)] := (oF_eval (by decide)).trans (show T 10 = _ from d1)
      refine og_none rfl ?_
      obtain ⟨g, hg, hge, io⟩ := p0
      rw [hg] at e0
      rcases io with io | io
      · have zn := io
        replace zn : Is (w9.setCell ⟨g, 0, none⟩ (.string (rW fk))) (g) #[.string (rW fk), .string ⟨#[]⟩, .int .i64 0, .int .i64 0, .string ⟨#[]⟩] 135 := zn.set 0 _
        replace zn : Is ((w9.setCell ⟨g, 0, none⟩ (.string (rW fk))).setCell ⟨g, 1, none⟩ (.string (rF fk))) (g) #[.string (rW fk), .string (rF fk), .int .i64 0, .int .i64 0, .string ⟨#[]⟩] 135 := zn.set 1 _
        replace zn : Is (((w9.setCell ⟨g, 0, none⟩ (.string (rW fk))).setCell ⟨g, 1, none⟩ (.string (rF fk))).setCell ⟨g, 2, none⟩ (.int .i64 (rL fk))) (g) #[.string (rW fk), .string (rF fk), .int .i64 (rL fk), .int .i64 0, .string ⟨#[]⟩] 135 := zn.set 2 _
        replace zn : Is ((((w9.setCell ⟨g, 0, none⟩ (.string (rW fk))).setCell ⟨g, 1, none⟩ (.string (rF fk))).setCell ⟨g, 2, none⟩ (.int .i64 (rL fk))).setCell ⟨g, 3, none⟩ (.int .i64 (rM fk))) (g) #[.string (rW fk), .string (rF fk), .int .i64 (rL fk), .int .i64 (rM fk), .string ⟨#[]⟩] 135 := zn.set 3 _
        replace zn : Is (((((w9.setCell ⟨g, 0, none⟩ (.string (rW fk))).setCell ⟨g, 1, none⟩ (.string (rF fk))).setCell ⟨g, 2, none⟩ (.int .i64 (rL fk))).setCell ⟨g, 3, none⟩ (.int .i64 (rM fk))).setCell ⟨g, 4, none⟩ (.string (rD fk))) (g) #[.string (rW fk), .string (rF fk), .int .i64 (rL fk), .int .i64 (rM fk), .string (rD fk)] 135 := zn.set 4 _
        have pt := ((((((Pt.refl g w9).set 0 (.string (rW fk))).set 1 (.string (rF fk))).set 2 (.int .i64 (rL fk))).set 3 (.int .i64 (rM fk))).set 4 (.string (rD fk)))
        have gn : Gn (((w.alloc (.cells #[.string n, .int .i64 k, .int .i64 a, .int .i64 x, .int .i64 y, .int .i64 z, .int .i64 lo, .int .i64 hi, .slice fp fl fc] 28 (0, 0))).alloc (.cells #[.int .i64 (fk : Int), .bool o99, .int .i64 ft, .int .i64 fm, .slice dp dl dc] 31 (0, 0))).heap.size) #[.string ⟨#[]⟩, .string ⟨#[]⟩, .int .i64 0, .int .i64 0, .string ⟨#[]⟩] #[.string (rW fk), .string (rF fk), .int .i64 (rL fk), .int .i64 (rM fk), .string (rD fk)] 135 w9 _ := pt.gn zn (.inl io) hge
        have m0 := io.c (i := 0) rfl
        have f0 := io.f 0
        have m1 := io.c (i := 1) rfl
        have f1 := io.f 1
        have m2 := io.c (i := 2) rfl
        have f2 := io.f 2
        have m3 := io.c (i := 3) rfl
        have f3 := io.f 3
        have m4 := io.c (i := 4) rfl
        have f4 := io.f 4
        clear io
        exact o_skip (w' := (((((w9.setCell ⟨g, 0, none⟩ (.string (rW fk))).setCell ⟨g, 1, none⟩ (.string (rF fk))).setCell ⟨g, 2, none⟩ (.int .i64 (rL fk))).setCell ⟨g, 3, none⟩ (.int .i64 (rM fk))).setCell ⟨g, 4, none⟩ (.string (rD fk)))) (by generalize (oF 57 T).eval = rr at *; simp [execOp, go_sem, e0, e1, m0, f0, m1, f1, m2, f2, m3, f3, m4, f4]) rfl ⟨g, hg, hge, zn⟩ gn
      · have zn := io
        replace zn : Is (w9.setCell ⟨g, 0, none⟩ (.string (rW fk))) (g) #[.string (rW fk), .string (rF fk), .int .i64 (rL fk), .int .i64 (rM fk), .string (rD fk)] 135 := zn.set 0 _
        replace zn : Is ((w9.setCell ⟨g, 0, none⟩ (.string (rW fk))).setCell ⟨g, 1, none⟩ (.string (rF fk))) (g) #[.string (rW fk), .string (rF fk), .int .i64 (rL fk), .int .i64 (rM fk), .string (rD fk)] 135 := zn.set 1 _
        replace zn : Is (((w9.setCell ⟨g, 0, none⟩ (.string (rW fk))).setCell ⟨g, 1, none⟩ (.string (rF fk))).setCell ⟨g, 2, none⟩ (.int .i64 (rL fk))) (g) #[.string (rW fk), .string (rF fk), .int .i64 (rL fk), .int .i64 (rM fk), .string (rD fk)] 135 := zn.set 2 _
        replace zn : Is ((((w9.setCell ⟨g, 0, none⟩ (.string (rW fk))).setCell ⟨g, 1, none⟩ (.string (rF fk))).setCell ⟨g, 2, none⟩ (.int .i64 (rL fk))).setCell ⟨g, 3, none⟩ (.int .i64 (rM fk))) (g) #[.string (rW fk), .string (rF fk), .int .i64 (rL fk), .int .i64 (rM fk), .string (rD fk)] 135 := zn.set 3 _
        replace zn : Is (((((w9.setCell ⟨g, 0, none⟩ (.string (rW fk))).setCell ⟨g, 1, none⟩ (.string (rF fk))).setCell ⟨g, 2, none⟩ (.int .i64 (rL fk))).setCell ⟨g, 3, none⟩ (.int .i64 (rM fk))).setCell ⟨g, 4, none⟩ (.string (rD fk))) (g) #[.string (rW fk), .string (rF fk), .int .i64 (rL fk), .int .i64 (rM fk), .string (rD fk)] 135 := zn.set 4 _
        have pt := ((((((Pt.refl g w9).set 0 (.string (rW fk))).set 1 (.string (rF fk))).set 2 (.int .i64 (rL fk))).set 3 (.int .i64 (rM fk))).set 4 (.string (rD fk)))
        have gn : Gn (((w.alloc (.cells #[.string n, .int .i64 k, .int .i64 a, .int .i64 x, .int .i64 y, .int .i64 z, .int .i64 lo, .int .i64 hi, .slice fp fl fc] 28 (0, 0))).alloc (.cells #[.int .i64 (fk : Int), .bool o99, .int .i64 ft, .int .i64 fm, .slice dp dl dc] 31 (0, 0))).heap.size) #[.string ⟨#[]⟩, .string ⟨#[]⟩, .int .i64 0, .int .i64 0, .string ⟨#[]⟩] #[.string (rW fk), .string (rF fk), .int .i64 (rL fk), .int .i64 (rM fk), .string (rD fk)] 135 w9 _ := pt.gn zn (.inr io) hge
        have m0 := io.c (i := 0) rfl
        have f0 := io.f 0
        have m1 := io.c (i := 1) rfl
        have f1 := io.f 1
        have m2 := io.c (i := 2) rfl
        have f2 := io.f 2
        have m3 := io.c (i := 3) rfl
        have f3 := io.f 3
        have m4 := io.c (i := 4) rfl
        have f4 := io.f 4
        clear io
        exact o_skip (w' := (((((w9.setCell ⟨g, 0, none⟩ (.string (rW fk))).setCell ⟨g, 1, none⟩ (.string (rF fk))).setCell ⟨g, 2, none⟩ (.int .i64 (rL fk))).setCell ⟨g, 3, none⟩ (.int .i64 (rM fk))).setCell ⟨g, 4, none⟩ (.string (rD fk)))) (by generalize (oF 57 T).eval = rr at *; simp [execOp, go_sem, e0, e1, m0, f0, m1, f1, m2, f2, m3, f3, m4, f4]) rfl ⟨g, hg, hge, zn⟩ gn
  case fin =>
    intro T w1 hout hval hG
    have s1 := hG.2.2.2.1
    simp only [World.size_drew, World.size_alloc] at s1
    rw [show oF 57 T = (⟨#[T 0, T 1, T 2, T 3, T 4, T 5, T 6, T 7, T 8, T 9, T 10, T 11, T 12, T 13, T 14, T 15, T 16, T 17, T 18, T 19, T 20, T 21, T 22, T 23, T 24, T 25, T 26, T 27, T 28, T 29, T 30, T 31, T 32, T 33, T 34, T 35, T 36, T 37, T 38, T 39, T 40, T 41, T 42, T 43, T 44, T 45, T 46, T 47, T 48, T 49, T 50, T 51, T 52, T 53, T 54, T 55, T 56], []⟩ : Act) from oF_list 57 T]
    rw [show T 0 = .agg #[.string n, .int .i64 k, .int .i64 a, .int .i64 x, .int .i64 y, .int .i64 z, .int .i64 lo, .int .i64 hi, .slice fp fl fc] from hout 0 rfl]
    rw [show T 1 = .agg #[.int .i64 (fk : Int), .bool o99, .int .i64 ft, .int .i64 fm, .slice dp dl dc] from hout 1 rfl]
    rw [show T 2 = .pointer (some ⟨w.heap.size, 0, none⟩) from hout 2 rfl]
    rw [show T 3 = .pointer (some ⟨w.heap.size + 1, 0, none⟩) from hout 3 rfl]
    rw [show T 4 = .int .i64 0 from hout 4 rfl]
    obtain ⟨g1, eg, hg1, b3⟩ := hval 6 (by decide)
    replace eg : T 5 = _ := eg
    rw [eg]
    simp only [World.size_alloc] at hg1
    replace b1 := b1.gn hG b1.lt
    replace b2 := b2.gn hG b2.lt
    replace kx := hG.old kx.drew kx.size
    clear hout hval hG eg
    rcases Bool.eq_false_or_eq_true (hsB (rF fk) k) with h1 | h1
    · skip
      rcases Bool.eq_false_or_eq_true o99 with h2 | h2
      · skip
        subst h2
        rcases Bool.eq_false_or_eq_true (hsB (rD fk) k) with h3 | h3
        · skip
          rcases Bool.eq_false_or_eq_true (ft == 0) with h4 | h4
          · skip
            rcases Bool.eq_false_or_eq_true (fm != 1) with h5 | h5
            · skip
              have f1 := b3.c (i := 1) rfl
              have f2 := b1.c (i := 1) rfl
              go_wp2_with fail
              clear f1 f2
              (with_reducible refine ((Ca.o (rhas (rF fk) k hk2 (rF_size fk hk)) _)).mono ?_)
              rintro r w2 ⟨rfl, k2⟩
              replace b1 := b1.kb k2
              replace b2 := b2.kb k2
              replace b3 := b3.kb k2
              replace kx := kx.trans k2
              have s2 := k2.size
              skip
              clear k2
              have f3 := b2.c (i := 1) rfl
              have f4 := b3.c (i := 4) rfl
              have f5 := b1.c (i := 1) rfl
              go_wp2_with fail
              clear f3 f4 f5
              (with_reducible refine ((Ca.o (rhas (rD fk) k hk2 (rD_size fk hk)) _)).mono ?_)
              rintro r w3 ⟨rfl, k3⟩
              replace b1 := b1.kb k3
              replace b2 := b2.kb k3
              replace b3 := b3.kb k3
              replace kx := kx.trans k3
              have s3 := k3.size
              skip
              clear k3
              have f6 := b2.c (i := 2) rfl
              have f7 := b2.c (i := 3) rfl
              go_wp2
              go_ret
              clear f6 f7
              exact ⟨by rw [show permE k fk true ft fm dl = 10 from by unfold permE; rw [h1, h3, h4, h5]; rfl]; rfl, kx⟩
            · skip
              rcases Bool.eq_false_or_eq_true (fm != 0) with h6 | h6
              · skip
                rcases Bool.eq_false_or_eq_true (mmB k (fk : Int)) with h7 | h7
                · skip
                  by_cases h8 : (dl : Int) < (rL fk)
                  · skip
                    have f1 := b3.c (i := 1) rfl
                    have f2 := b1.c (i := 1) rfl
                    go_wp2_with fail
                    clear f1 f2
                    (with_reducible refine ((Ca.o (rhas (rF fk) k hk2 (rF_size fk hk)) _)).mono ?_)
                    rintro r w2 ⟨rfl, k2⟩
                    replace b1 := b1.kb k2
                    replace b2 := b2.kb k2
                    replace b3 := b3.kb k2
                    replace kx := kx.trans k2
                    have s2 := k2.size
                    skip
                    clear k2
                    have f3 := b2.c (i := 1) rfl
                    have f4 := b3.c (i := 4) rfl
                    have f5 := b1.c (i := 1) rfl
                    go_wp2_with fail
                    clear f3 f4 f5
                    (with_reducible refine ((Ca.o (rhas (rD fk) k hk2 (rD_size fk hk)) _)).mono ?_)
                    rintro r w3 ⟨rfl, k3⟩
                    replace b1 := b1.kb k3
                    replace b2 := b2.kb k3
                    replace b3 := b3.kb k3
                    replace kx := kx.trans k3
                    have s3 := k3.size
                    skip
                    clear k3
                    have f6 := b2.c (i := 2) rfl
                    have f7 := b2.c (i := 3) rfl
                    have f8 := b1.c (i := 0) rfl
                    have f9 := b1.c (i := 1) rfl
                    have f10 := b1.c (i := 2) rfl
                    have f11 := b1.c (i := 3) rfl
                    have f12 := b1.c (i := 4) rfl
                    have f13 := b1.c (i := 5) rfl
                    have f14 := b1.c (i := 6) rfl
                    have f15 := b1.c (i := 7) rfl
                    have f16 := b1.c (i := 8) rfl
                    have f17 := b2.c (i := 0) rfl
                    go_wp2_with fail
                    clear f6 f7 f8 f9 f10 f11 f12 f13 f14 f15 f16 f17
                    (with_reducible refine ((Ca.o (rmayB n k a x y z lo hi fp fl fc (fk : Int)) _)).mono ?_)
                    rintro r w4 ⟨rfl, k4⟩
                    replace b1 := b1.kb k4
                    replace b2 := b2.kb k4
                    replace b3 := b3.kb k4
                    replace kx := kx.trans k4
                    have s4 := k4.size
                    skip
                    clear k4
                    have f18 := b2.c (i := 4) rfl
                    have f19 := b3.c (i := 2) rfl
                    go_wp2
                    go_ret
                    clear f18 f19
                    exact ⟨by rw [show permE k fk true ft fm dl = 13 from by unfold permE; rw [h1, h3, h4, h5, h6, h7, show (decide ((dl : Int) < (rL fk))) = true from decide_eq_true (by omega)]; rfl]; rfl, kx⟩
                  · skip
                    by_cases h9 : (rM fk) < (dl : Int)
                    · skip
                      have f1 := b3.c (i := 1) rfl
                      have f2 := b1.c (i := 1) rfl
                      go_wp2_with fail
                      clear f1 f2
                      (with_reducible refine ((Ca.o (rhas (rF fk) k hk2 (rF_size fk hk)) _)).mono ?_)
                      rintro r w2 ⟨rfl, k2⟩
                      replace b1 := b1.kb k2
                      replace b2 := b2.kb k2
                      replace b3 := b3.kb k2
                      replace kx := kx.trans k2
                      have s2 := k2.size
                      skip
                      clear k2
                      have f3 := b2.c (i := 1) rfl
                      have f4 := b3.c (i := 4) rfl
                      have f5 := b1.c (i := 1) rfl
                      go_wp2_with fail
                      clear f3 f4 f5
                      (with_reducible refine ((Ca.o (rhas (rD fk) k hk2 (rD_size fk hk)) _)).mono ?_)
                      rintro r w3 ⟨rfl, k3⟩
                      replace b1 := b1.kb k3
                      replace b2 := b2.kb k3
                      replace b3 := b3.kb k3
                      replace kx := kx.trans k3
                      have s3 := k3.size
                      skip
                      clear k3
                      have f6 := b2.c (i := 2) rfl
                      have f7 := b2.c (i := 3) rfl
                      have f8 := b1.c (i := 0) rfl
                      have f9 := b1.c (i := 1) rfl
                      have f10 := b1.c (i := 2) rfl
                      have f11 := b1.c (i := 3) rfl
                      have f12 := b1.c (i := 4) rfl
                      have f13 := b1.c (i := 5) rfl
                      have f14 := b1.c (i := 6) rfl
                      have f15 := b1.c (i := 7) rfl
                      have f16 := b1.c (i := 8) rfl
                      have f17 := b2.c (i := 0) rfl
                      go_wp2_with fail
                      clear f6 f7 f8 f9 f10 f11 f12 f13 f14 f15 f16 f17
                      (with_reducible refine ((Ca.o (rmayB n k a x y z lo hi fp fl fc (fk : Int)) _)).mono ?_)
                      rintro r w4 ⟨rfl, k4⟩
                      replace b1 := b1.kb k4
                      replace b2 := b2.kb k4
                      replace b3 := b3.kb k4
                      replace kx := kx.trans k4
                      have s4 := k4.size
                      skip
                      clear k4
                      have f18 := b2.c (i := 4) rfl
                      have f19 := b3.c (i := 2) rfl
                      have f20 := b3.c (i := 3) rfl
                      go_wp2
                      go_ret
                      clear f18 f19 f20
                      exact ⟨by rw [show permE k fk true ft fm dl = 5 from by unfold permE; rw [h1, h3, h4, h5, h6, h7, show (decide ((dl : Int) < (rL fk))) = false from decide_eq_false (by omega), show (decide ((rM fk) < (dl : Int))) = true from decide_eq_true (by omega)]; rfl]; rfl, kx⟩
                    · skip
                      have f1 := b3.c (i := 1) rfl
                      have f2 := b1.c (i := 1) rfl
                      go_wp2_with fail
                      clear f1 f2
                      (with_reducible refine ((Ca.o (rhas (rF fk) k hk2 (rF_size fk hk)) _)).mono ?_)
                      rintro r w2 ⟨rfl, k2⟩
                      replace b1 := b1.kb k2
                      replace b2 := b2.kb k2
                      replace b3 := b3.kb k2
                      replace kx := kx.trans k2
                      have s2 := k2.size
                      skip
                      clear k2
                      have f3 := b2.c (i := 1) rfl
                      have f4 := b3.c (i := 4) rfl
                      have f5 := b1.c (i := 1) rfl
                      go_wp2_with fail
                      clear f3 f4 f5
                      (with_reducible refine ((Ca.o (rhas (rD fk) k hk2 (rD_size fk hk)) _)).mono ?_)
                      rintro r w3 ⟨rfl, k3⟩
                      replace b1 := b1.kb k3
                      replace b2 := b2.kb k3
                      replace b3 := b3.kb k3
                      replace kx := kx.trans k3
                      have s3 := k3.size
                      skip
                      clear k3
                      have f6 := b2.c (i := 2) rfl
                      have f7 := b2.c (i := 3) rfl
                      have f8 := b1.c (i := 0) rfl
                      have f9 := b1.c (i := 1) rfl
                      have f10 := b1.c (i := 2) rfl
                      have f11 := b1.c (i := 3) rfl
                      have f12 := b1.c (i := 4) rfl
                      have f13 := b1.c (i := 5) rfl
                      have f14 := b1.c (i := 6) rfl
                      have f15 := b1.c (i := 7) rfl
                      have f16 := b1.c (i := 8) rfl
                      have f17 := b2.c (i := 0) rfl
                      go_wp2_with fail
                      clear f6 f7 f8 f9 f10 f11 f12 f13 f14 f15 f16 f17
                      (with_reducible refine ((Ca.o (rmayB n k a x y z lo hi fp fl fc (fk : Int)) _)).mono ?_)
                      rintro r w4 ⟨rfl, k4⟩
                      replace b1 := b1.kb k4
                      replace b2 := b2.kb k4
                      replace b3 := b3.kb k4
                      replace kx := kx.trans k4
                      have s4 := k4.size
                      skip
                      clear k4
                      have f18 := b2.c (i := 4) rfl
                      have f19 := b3.c (i := 2) rfl
                      have f20 := b3.c (i := 3) rfl
                      go_wp2
                      go_ret
                      clear f18 f19 f20
                      exact ⟨by rw [show permE k fk true ft fm dl = 0 from by unfold permE; rw [h1, h3, h4, h5, h6, h7, show (decide ((dl : Int) < (rL fk))) = false from decide_eq_false (by omega), show (decide ((rM fk) < (dl : Int))) = false from decide_eq_false (by omega)]; rfl]; rfl, kx⟩
                · skip
                  have f1 := b3.c (i := 1) rfl
                  have f2 := b1.c (i := 1) rfl
                  go_wp2_with fail
                  clear f1 f2
                  (with_reducible refine ((Ca.o (rhas (rF fk) k hk2 (rF_size fk hk)) _)).mono ?_)
                  rintro r w2 ⟨rfl, k2⟩
                  replace b1 := b1.kb k2
                  replace b2 := b2.kb k2
                  replace b3 := b3.kb k2
                  replace kx := kx.trans k2
                  have s2 := k2.size
                  skip
                  clear k2
                  have f3 := b2.c (i := 1) rfl
                  have f4 := b3.c (i := 4) rfl
                  have f5 := b1.c (i := 1) rfl
                  go_wp2_with fail
                  clear f3 f4 f5
                  (with_reducible refine ((Ca.o (rhas (rD fk) k hk2 (rD_size fk hk)) _)).mono ?_)
                  rintro r w3 ⟨rfl, k3⟩
                  replace b1 := b1.kb k3
                  replace b2 := b2.kb k3
                  replace b3 := b3.kb k3
                  replace kx := kx.trans k3
                  have s3 := k3.size
                  skip
                  clear k3
                  have f6 := b2.c (i := 2) rfl
                  have f7 := b2.c (i := 3) rfl
                  have f8 := b1.c (i := 0) rfl
                  have f9 := b1.c (i := 1) rfl
                  have f10 := b1.c (i := 2) rfl
                  have f11 := b1.c (i := 3) rfl
                  have f12 := b1.c (i := 4) rfl
                  have f13 := b1.c (i := 5) rfl
                  have f14 := b1.c (i := 6) rfl
                  have f15 := b1.c (i := 7) rfl
                  have f16 := b1.c (i := 8) rfl
                  have f17 := b2.c (i := 0) rfl
                  go_wp2_with fail
                  clear f6 f7 f8 f9 f10 f11 f12 f13 f14 f15 f16 f17
                  (with_reducible refine ((Ca.o (rmayB n k a x y z lo hi fp fl fc (fk : Int)) _)).mono ?_)
                  rintro r w4 ⟨rfl, k4⟩
                  replace b1 := b1.kb k4
                  replace b2 := b2.kb k4
                  replace b3 := b3.kb k4
                  replace kx := kx.trans k4
                  have s4 := k4.size
                  skip
                  clear k4
                  go_wp2
                  go_ret
                  exact ⟨by rw [show permE k fk true ft fm dl = 3 from by unfold permE; rw [h1, h3, h4, h5, h6, h7]; rfl]; rfl, kx⟩
              · skip
                by_cases h7 : (dl : Int) < (rL fk)
                · skip
                  have f1 := b3.c (i := 1) rfl
                  have f2 := b1.c (i := 1) rfl
                  go_wp2_with fail
                  clear f1 f2
                  (with_reducible refine ((Ca.o (rhas (rF fk) k hk2 (rF_size fk hk)) _)).mono ?_)
                  rintro r w2 ⟨rfl, k2⟩
                  replace b1 := b1.kb k2
                  replace b2 := b2.kb k2
                  replace b3 := b3.kb k2
                  replace kx := kx.trans k2
                  have s2 := k2.size
                  skip
                  clear k2
                  have f3 := b2.c (i := 1) rfl
                  have f4 := b3.c (i := 4) rfl
                  have f5 := b1.c (i := 1) rfl
                  go_wp2_with fail
                  clear f3 f4 f5
                  (with_reducible refine ((Ca.o (rhas (rD fk) k hk2 (rD_size fk hk)) _)).mono ?_)
                  rintro r w3 ⟨rfl, k3⟩
                  replace b1 := b1.kb k3
                  replace b2 := b2.kb k3
                  replace b3 := b3.kb k3
                  replace kx := kx.trans k3
                  have s3 := k3.size
                  skip
                  clear k3
                  have f6 := b2.c (i := 2) rfl
                  have f7 := b2.c (i := 3) rfl
                  have f8 := b2.c (i := 4) rfl
                  have f9 := b3.c (i := 2) rfl
                  go_wp2
                  go_ret
                  clear f6 f7 f8 f9
                  exact ⟨by rw [show permE k fk true ft fm dl = 13 from by unfold permE; rw [h1, h3, h4, h5, h6, show (decide ((dl : Int) < (rL fk))) = true from decide_eq_true (by omega)]; rfl]; rfl, kx⟩
                · skip
                  by_cases h8 : (rM fk) < (dl : Int)
                  · skip
                    have f1 := b3.c (i := 1) rfl
                    have f2 := b1.c (i := 1) rfl
                    go_wp2_with fail
                    clear f1 f2
                    (with_reducible refine ((Ca.o (rhas (rF fk) k hk2 (rF_size fk hk)) _)).mono ?_)
                    rintro r w2 ⟨rfl, k2⟩
                    replace b1 := b1.kb k2
                    replace b2 := b2.kb k2
                    replace b3 := b3.kb k2
                    replace kx := kx.trans k2
                    have s2 := k2.size
                    skip
                    clear k2
                    have f3 := b2.c (i := 1) rfl
                    have f4 := b3.c (i := 4) rfl
                    have f5 := b1.c (i := 1) rfl
                    go_wp2_with fail
                    clear f3 f4 f5
                    (with_reducible refine ((Ca.o (rhas (rD fk) k hk2 (rD_size fk hk)) _)).mono ?_)
                    rintro r w3 ⟨rfl, k3⟩
                    replace b1 := b1.kb k3
                    replace b2 := b2.kb k3
                    replace b3 := b3.kb k3
                    replace kx := kx.trans k3
                    have s3 := k3.size
                    skip
                    clear k3
                    have f6 := b2.c (i := 2) rfl
                    have f7 := b2.c (i := 3) rfl
                    have f8 := b2.c (i := 4) rfl
                    have f9 := b3.c (i := 2) rfl
                    have f10 := b3.c (i := 3) rfl
                    go_wp2
                    go_ret
                    clear f6 f7 f8 f9 f10
                    exact ⟨by rw [show permE k fk true ft fm dl = 5 from by unfold permE; rw [h1, h3, h4, h5, h6, show (decide ((dl : Int) < (rL fk))) = false from decide_eq_false (by omega), show (decide ((rM fk) < (dl : Int))) = true from decide_eq_true (by omega)]; rfl]; rfl, kx⟩
                  · skip
                    have f1 := b3.c (i := 1) rfl
                    have f2 := b1.c (i := 1) rfl
                    go_wp2_with fail
                    clear f1 f2
                    (with_reducible refine ((Ca.o (rhas (rF fk) k hk2 (rF_size fk hk)) _)).mono ?_)
                    rintro r w2 ⟨rfl, k2⟩
                    replace b1 := b1.kb k2
                    replace b2 := b2.kb k2
                    replace b3 := b3.kb k2
                    replace kx := kx.trans k2
                    have s2 := k2.size
                    skip
                    clear k2
                    have f3 := b2.c (i := 1) rfl
                    have f4 := b3.c (i := 4) rfl
                    have f5 := b1.c (i := 1) rfl
                    go_wp2_with fail
                    clear f3 f4 f5
                    (with_reducible refine ((Ca.o (rhas (rD fk) k hk2 (rD_size fk hk)) _)).mono ?_)
                    rintro r w3 ⟨rfl, k3⟩
                    replace b1 := b1.kb k3
                    replace b2 := b2.kb k3
                    replace b3 := b3.kb k3
                    replace kx := kx.trans k3
                    have s3 := k3.size
                    skip
                    clear k3
                    have f6 := b2.c (i := 2) rfl
                    have f7 := b2.c (i := 3) rfl
                    have f8 := b2.c (i := 4) rfl
                    have f9 := b3.c (i := 2) rfl
                    have f10 := b3.c (i := 3) rfl
                    go_wp2
                    go_ret
                    clear f6 f7 f8 f9 f10
                    exact ⟨by rw [show permE k fk true ft fm dl = 0 from by unfold permE; rw [h1, h3, h4, h5, h6, show (decide ((dl : Int) < (rL fk))) = false from decide_eq_false (by omega), show (decide ((rM fk) < (dl : Int))) = false from decide_eq_false (by omega)]; rfl]; rfl, kx⟩
          · skip
            rcases Bool.eq_false_or_eq_true (fm != 0) with h5 | h5
            · skip
              rcases Bool.eq_false_or_eq_true (mmB k (fk : Int)) with h6 | h6
              · skip
                by_cases h7 : (dl : Int) < (rL fk)
                · skip
                  have f1 := b3.c (i := 1) rfl
                  have f2 := b1.c (i := 1) rfl
                  go_wp2_with fail
                  clear f1 f2
                  (with_reducible refine ((Ca.o (rhas (rF fk) k hk2 (rF_size fk hk)) _)).mono ?_)
                  rintro r w2 ⟨rfl, k2⟩
                  replace b1 := b1.kb k2
                  replace b2 := b2.kb k2
                  replace b3 := b3.kb k2
                  replace kx := kx.trans k2
                  have s2 := k2.size
                  skip
                  clear k2
                  have f3 := b2.c (i := 1) rfl
                  have f4 := b3.c (i := 4) rfl
                  have f5 := b1.c (i := 1) rfl
                  go_wp2_with fail
                  clear f3 f4 f5
                  (with_reducible refine ((Ca.o (rhas (rD fk) k hk2 (rD_size fk hk)) _)).mono ?_)
                  rintro r w3 ⟨rfl, k3⟩
                  replace b1 := b1.kb k3
                  replace b2 := b2.kb k3
                  replace b3 := b3.kb k3
                  replace kx := kx.trans k3
                  have s3 := k3.size
                  skip
                  clear k3
                  have f6 := b2.c (i := 2) rfl
                  have f7 := b2.c (i := 3) rfl
                  have f8 := b1.c (i := 0) rfl
                  have f9 := b1.c (i := 1) rfl
                  have f10 := b1.c (i := 2) rfl
                  have f11 := b1.c (i := 3) rfl
                  have f12 := b1.c (i := 4) rfl
                  have f13 := b1.c (i := 5) rfl
                  have f14 := b1.c (i := 6) rfl
                  have f15 := b1.c (i := 7) rfl
                  have f16 := b1.c (i := 8) rfl
                  have f17 := b2.c (i := 0) rfl
                  go_wp2_with fail
                  clear f6 f7 f8 f9 f10 f11 f12 f13 f14 f15 f16 f17
                  (with_reducible refine ((Ca.o (rmayB n k a x y z lo hi fp fl fc (fk : Int)) _)).mono ?_)
                  rintro r w4 ⟨rfl, k4⟩
                  replace b1 := b1.kb k4
                  replace b2 := b2.kb k4
                  replace b3 := b3.kb k4
                  replace kx := kx.trans k4
                  have s4 := k4.size
                  skip
                  clear k4
                  have f18 := b2.c (i := 4) rfl
                  have f19 := b3.c (i := 2) rfl
                  go_wp2
                  go_ret
                  clear f18 f19
                  exact ⟨by rw [show permE k fk true ft fm dl = 13 from by unfold permE; rw [h1, h3, h4, h5, h6, show (decide ((dl : Int) < (rL fk))) = true from decide_eq_true (by omega)]; rfl]; rfl, kx⟩
                · skip
                  by_cases h8 : (rM fk) < (dl : Int)
                  · skip
                    have f1 := b3.c (i := 1) rfl
                    have f2 := b1.c (i := 1) rfl
                    go_wp2_with fail
                    clear f1 f2
                    (with_reducible refine ((Ca.o (rhas (rF fk) k hk2 (rF_size fk hk)) _)).mono ?_)
                    rintro r w2 ⟨rfl, k2⟩
                    replace b1 := b1.kb k2
                    replace b2 := b2.kb k2
                    replace b3 := b3.kb k2
                    replace kx := kx.trans k2
                    have s2 := k2.size
                    skip
                    clear k2
                    have f3 := b2.c (i := 1) rfl
                    have f4 := b3.c (i := 4) rfl
                    have f5 := b1.c (i := 1) rfl
                    go_wp2_with fail
                    clear f3 f4 f5
                    (with_reducible refine ((Ca.o (rhas (rD fk) k hk2 (rD_size fk hk)) _)).mono ?_)
                    rintro r w3 ⟨rfl, k3⟩
                    replace b1 := b1.kb k3
                    replace b2 := b2.kb k3
                    replace b3 := b3.kb k3
                    replace kx := kx.trans k3
                    have s3 := k3.size
                    skip
                    clear k3
                    have f6 := b2.c (i := 2) rfl
                    have f7 := b2.c (i := 3) rfl
                    have f8 := b1.c (i := 0) rfl
                    have f9 := b1.c (i := 1) rfl
                    have f10 := b1.c (i := 2) rfl
                    have f11 := b1.c (i := 3) rfl
                    have f12 := b1.c (i := 4) rfl
                    have f13 := b1.c (i := 5) rfl
                    have f14 := b1.c (i := 6) rfl
                    have f15 := b1.c (i := 7) rfl
                    have f16 := b1.c (i := 8) rfl
                    have f17 := b2.c (i := 0) rfl
                    go_wp2_with fail
                    clear f6 f7 f8 f9 f10 f11 f12 f13 f14 f15 f16 f17
                    (with_reducible refine ((Ca.o (rmayB n k a x y z lo hi fp fl fc (fk : Int)) _)).mono ?_)
                    rintro r w4 ⟨rfl, k4⟩
                    replace b1 := b1.kb k4
                    replace b2 := b2.kb k4
                    replace b3 := b3.kb k4
                    replace kx := kx.trans k4
                    have s4 := k4.size
                    skip
                    clear k4
                    have f18 := b2.c (i := 4) rfl
                    have f19 := b3.c (i := 2) rfl
                    have f20 := b3.c (i := 3) rfl
                    go_wp2
                    go_ret
                    clear f18 f19 f20
                    exact ⟨by rw [show permE k fk true ft fm dl = 5 from by unfold permE; rw [h1, h3, h4, h5, h6, show (decide ((dl : Int) < (rL fk))) = false from decide_eq_false (by omega), show (decide ((rM fk) < (dl : Int))) = true from decide_eq_true (by omega)]; rfl]; rfl, kx⟩
                  · skip
                    have f1 := b3.c (i := 1) rfl
                    have f2 := b1.c (i := 1) rfl
                    go_wp2_with fail
                    clear f1 f2
                    (with_reducible refine ((Ca.o (rhas (rF fk) k hk2 (rF_size fk hk)) _)).mono ?_)
                    rintro r w2 ⟨rfl, k2⟩
                    replace b1 := b1.kb k2
                    replace b2 := b2.kb k2
                    replace b3 := b3.kb k2
                    replace kx := kx.trans k2
                    have s2 := k2.size
                    skip
                    clear k2
                    have f3 := b2.c (i := 1) rfl
                    have f4 := b3.c (i := 4) rfl
                    have f5 := b1.c (i := 1) rfl
                    go_wp2_with fail
                    clear f3 f4 f5
                    (with_reducible refine ((Ca.o (rhas (rD fk) k hk2 (rD_size fk hk)) _)).mono ?_)
                    rintro r w3 ⟨rfl, k3⟩
                    replace b1 := b1.kb k3
                    replace b2 := b2.kb k3
                    replace b3 := b3.kb k3
                    replace kx := kx.trans k3
                    have s3 := k3.size
                    skip
                    clear k3
                    have f6 := b2.c (i := 2) rfl
                    have f7 := b2.c (i := 3) rfl
                    have f8 := b1.c (i := 0) rfl
                    have f9 := b1.c (i := 1) rfl
                    have f10 := b1.c (i := 2) rfl
                    have f11 := b1.c (i := 3) rfl
                    have f12 := b1.c (i := 4) rfl
                    have f13 := b1.c (i := 5) rfl
                    have f14 := b1.c (i := 6) rfl
                    have f15 := b1.c (i := 7) rfl
                    have f16 := b1.c (i := 8) rfl
                    have f17 := b2.c (i := 0) rfl
                    go_wp2_with fail
                    clear f6 f7 f8 f9 f10 f11 f12 f13 f14 f15 f16 f17
                    (with_reducible refine ((Ca.o (rmayB n k a x y z lo hi fp fl fc (fk : Int)) _)).mono ?_)
                    rintro r w4 ⟨rfl, k4⟩
                    replace b1 := b1.kb k4
                    replace b2 := b2.kb k4
                    replace b3 := b3.kb k4
                    replace kx := kx.trans k4
                    have s4 := k4.size
                    skip
                    clear k4
                    have f18 := b2.c (i := 4) rfl
                    have f19 := b3.c (i := 2) rfl
                    have f20 := b3.c (i := 3) rfl
                    go_wp2
                    go_ret
                    clear f18 f19 f20
                    exact ⟨by rw [show permE k fk true ft fm dl = 0 from by unfold permE; rw [h1, h3, h4, h5, h6, show (decide ((dl : Int) < (rL fk))) = false from decide_eq_false (by omega), show (decide ((rM fk) < (dl : Int))) = false from decide_eq_false (by omega)]; rfl]; rfl, kx⟩
              · skip
                have f1 := b3.c (i := 1) rfl
                have f2 := b1.c (i := 1) rfl
                go_wp2_with fail
                clear f1 f2
                (with_reducible refine ((Ca.o (rhas (rF fk) k hk2 (rF_size fk hk)) _)).mono ?_)
                rintro r w2 ⟨rfl, k2⟩
                replace b1 := b1.kb k2
                replace b2 := b2.kb k2
                replace b3 := b3.kb k2
                replace kx := kx.trans k2
                have s2 := k2.size
                skip
                clear k2
                have f3 := b2.c (i := 1) rfl
                have f4 := b3.c (i := 4) rfl
                have f5 := b1.c (i := 1) rfl
                go_wp2_with fail
                clear f3 f4 f5
                (with_reducible refine ((Ca.o (rhas (rD fk) k hk2 (rD_size fk hk)) _)).mono ?_)
                rintro r w3 ⟨rfl, k3⟩
                replace b1 := b1.kb k3
                replace b2 := b2.kb k3
                replace b3 := b3.kb k3
                replace kx := kx.trans k3
                have s3 := k3.size
                skip
                clear k3
                have f6 := b2.c (i := 2) rfl
                have f7 := b2.c (i := 3) rfl
                have f8 := b1.c (i := 0) rfl
                have f9 := b1.c (i := 1) rfl
                have f10 := b1.c (i := 2) rfl
                have f11 := b1.c (i := 3) rfl
                have f12 := b1.c (i := 4) rfl
                have f13 := b1.c (i := 5) rfl
                have f14 := b1.c (i := 6) rfl
                have f15 := b1.c (i := 7) rfl
                have f16 := b1.c (i := 8) rfl
                have f17 := b2.c (i := 0) rfl
                go_wp2_with fail
                clear f6 f7 f8 f9 f10 f11 f12 f13 f14 f15 f16 f17
                (with_reducible refine ((Ca.o (rmayB n k a x y z lo hi fp fl fc (fk : Int)) _)).mono ?_)
                rintro r w4 ⟨rfl, k4⟩
                replace b1 := b1.kb k4
                replace b2 := b2.kb k4
                replace b3 := b3.kb k4
                replace kx := kx.trans k4
                have s4 := k4.size
                skip
                clear k4
                go_wp2
                go_ret
                exact ⟨by rw [show permE k fk true ft fm dl = 3 from by unfold permE; rw [h1, h3, h4, h5, h6]; rfl]; rfl, kx⟩
            · skip
              by_cases h6 : (dl : Int) < (rL fk)
              · skip
                have f1 := b3.c (i := 1) rfl
                have f2 := b1.c (i := 1) rfl
                go_wp2_with fail
                clear f1 f2
                (with_reducible refine ((Ca.o (rhas (rF fk) k hk2 (rF_size fk hk)) _)).mono ?_)
                rintro r w2 ⟨rfl, k2⟩
                replace b1 := b1.kb k2
                replace b2 := b2.kb k2
                replace b3 := b3.kb k2
                replace kx := kx.trans k2
                have s2 := k2.size
                skip
                clear k2
                have f3 := b2.c (i := 1) rfl
                have f4 := b3.c (i := 4) rfl
                have f5 := b1.c (i := 1) rfl
                go_wp2_with fail
                clear f3 f4 f5
                (with_reducible refine ((Ca.o (rhas (rD fk) k hk2 (rD_size fk hk)) _)).mono ?_)
                rintro r w3 ⟨rfl, k3⟩
                replace b1 := b1.kb k3
                replace b2 := b2.kb k3
                replace b3 := b3.kb k3
                replace kx := kx.trans k3
                have s3 := k3.size
                skip
                clear k3
                have f6 := b2.c (i := 2) rfl
                have f7 := b2.c (i := 3) rfl
                have f8 := b2.c (i := 4) rfl
                have f9 := b3.c (i := 2) rfl
                go_wp2
                go_ret
                clear f6 f7 f8 f9
                exact ⟨by rw [show permE k fk true ft fm dl = 13 from by unfold permE; rw [h1, h3, h4, h5, show (decide ((dl : Int) < (rL fk))) = true from decide_eq_true (by omega)]; rfl]; rfl, kx⟩
              · skip
                by_cases h7 : (rM fk) < (dl : Int)
                · skip
                  have f1 := b3.c (i := 1) rfl
                  have f2 := b1.c (i := 1) rfl
                  go_wp2_with fail
                  clear f1 f2
                  (with_reducible refine ((Ca.o (rhas (rF fk) k hk2 (rF_size fk hk)) _)).mono ?_)
                  rintro r w2 ⟨rfl, k2⟩
                  replace b1 := b1.kb k2
                  replace b2 := b2.kb k2
                  replace b3 := b3.kb k2
                  replace kx := kx.trans k2
                  have s2 := k2.size
                  skip
                  clear k2
                  have f3 := b2.c (i := 1) rfl
                  have f4 := b3.c (i := 4) rfl
                  have f5 := b1.c (i := 1) rfl
                  go_wp2_with fail
                  clear f3 f4 f5
                  (with_reducible refine ((Ca.o (rhas (rD fk) k hk2 (rD_size fk hk)) _)).mono ?_)
                  rintro r w3 ⟨rfl, k3⟩
                  replace b1 := b1.kb k3
                  replace b2 := b2.kb k3
                  replace b3 := b3.kb k3
                  replace kx := kx.trans k3
                  have s3 := k3.size
                  skip
                  clear k3
                  have f6 := b2.c (i := 2) rfl
                  have f7 := b2.c (i := 3) rfl
                  have f8 := b2.c (i := 4) rfl
                  have f9 := b3.c (i := 2) rfl
                  have f10 := b3.c (i := 3) rfl
                  go_wp2
                  go_ret
                  clear f6 f7 f8 f9 f10
                  exact ⟨by rw [show permE k fk true ft fm dl = 5 from by unfold permE; rw [h1, h3, h4, h5, show (decide ((dl : Int) < (rL fk))) = false from decide_eq_false (by omega), show (decide ((rM fk) < (dl : Int))) = true from decide_eq_true (by omega)]; rfl]; rfl, kx⟩
                · skip
                  have f1 := b3.c (i := 1) rfl
                  have f2 := b1.c (i := 1) rfl
                  go_wp2_with fail
                  clear f1 f2
                  (with_reducible refine ((Ca.o (rhas (rF fk) k hk2 (rF_size fk hk)) _)).mono ?_)
                  rintro r w2 ⟨rfl, k2⟩
                  replace b1 := b1.kb k2
                  replace b2 := b2.kb k2
                  replace b3 := b3.kb k2
                  replace kx := kx.trans k2
                  have s2 := k2.size
                  skip
                  clear k2
                  have f3 := b2.c (i := 1) rfl
                  have f4 := b3.c (i := 4) rfl
                  have f5 := b1.c (i := 1) rfl
                  go_wp2_with fail
                  clear f3 f4 f5
                  (with_reducible refine ((Ca.o (rhas (rD fk) k hk2 (rD_size fk hk)) _)).mono ?_)
                  rintro r w3 ⟨rfl, k3⟩
                  replace b1 := b1.kb k3
                  replace b2 := b2.kb k3
                  replace b3 := b3.kb k3
                  replace kx := kx.trans k3
                  have s3 := k3.size
                  skip
                  clear k3
                  have f6 := b2.c (i := 2) rfl
                  have f7 := b2.c (i := 3) rfl
                  have f8 := b2.c (i := 4) rfl
                  have f9 := b3.c (i := 2) rfl
                  have f10 := b3.c (i := 3) rfl
                  go_wp2
                  go_ret
                  clear f6 f7 f8 f9 f10
                  exact ⟨by rw [show permE k fk true ft fm dl = 0 from by unfold permE; rw [h1, h3, h4, h5, show (decide ((dl : Int) < (rL fk))) = false from decide_eq_false (by omega), show (decide ((rM fk) < (dl : Int))) = false from decide_eq_false (by omega)]; rfl]; rfl, kx⟩
        · skip
          have f1 := b3.c (i := 1) rfl
          have f2 := b1.c (i := 1) rfl
          go_wp2_with fail
          clear f1 f2
          (with_reducible refine ((Ca.o (rhas (rF fk) k hk2 (rF_size fk hk)) _)).mono ?_)
          rintro r w2 ⟨rfl, k2⟩
          replace b1 := b1.kb k2
          replace b2 := b2.kb k2
          replace b3 := b3.kb k2
          replace kx := kx.trans k2
          have s2 := k2.size
          skip
          clear k2
          have f3 := b2.c (i := 1) rfl
          have f4 := b3.c (i := 4) rfl
          have f5 := b1.c (i := 1) rfl
          go_wp2_with fail
          clear f3 f4 f5
          (with_reducible refine ((Ca.o (rhas (rD fk) k hk2 (rD_size fk hk)) _)).mono ?_)
          rintro r w3 ⟨rfl, k3⟩
          replace b1 := b1.kb k3
          replace b2 := b2.kb k3
          replace b3 := b3.kb k3
          replace kx := kx.trans k3
          have s3 := k3.size
          skip
          clear k3
          go_wp2
          go_ret
          exact ⟨by rw [show permE k fk true ft fm dl = 3 from by unfold permE; rw [h1, h3]; rfl]; rfl, kx⟩
      · skip
        subst h2
        rcases Bool.eq_false_or_eq_true (ft == 0) with h3 | h3
        · skip
          rcases Bool.eq_false_or_eq_true (fm != 1) with h4 | h4
          · skip
            have f1 := b3.c (i := 1) rfl
            have f2 := b1.c (i := 1) rfl
            go_wp2_with fail
            clear f1 f2
            (with_reducible refine ((Ca.o (rhas (rF fk) k hk2 (rF_size fk hk)) _)).mono ?_)
            rintro r w2 ⟨rfl, k2⟩
            replace b1 := b1.kb k2
            replace b2 := b2.kb k2
            replace b3 := b3.kb k2
            replace kx := kx.trans k2
            have s2 := k2.size
            skip
            clear k2
            have f3 := b2.c (i := 1) rfl
            have f4 := b2.c (i := 2) rfl
            have f5 := b2.c (i := 3) rfl
            go_wp2
            go_ret
            clear f3 f4 f5
            exact ⟨by rw [show permE k fk false ft fm dl = 10 from by unfold permE; rw [h1, h3, h4]; rfl]; rfl, kx⟩
          · skip
            rcases Bool.eq_false_or_eq_true (fm != 0) with h5 | h5
            · skip
              rcases Bool.eq_false_or_eq_true (mmB k (fk : Int)) with h6 | h6
              · skip
                by_cases h7 : (dl : Int) < (rL fk)
                · skip
                  have f1 := b3.c (i := 1) rfl
                  have f2 := b1.c (i := 1) rfl
                  go_wp2_with fail
                  clear f1 f2
                  (with_reducible refine ((Ca.o (rhas (rF fk) k hk2 (rF_size fk hk)) _)).mono ?_)
                  rintro r w2 ⟨rfl, k2⟩
                  replace b1 := b1.kb k2
                  replace b2 := b2.kb k2
                  replace b3 := b3.kb k2
                  replace kx := kx.trans k2
                  have s2 := k2.size
                  skip
                  clear k2
                  have f3 := b2.c (i := 1) rfl
                  have f4 := b2.c (i := 2) rfl
                  have f5 := b2.c (i := 3) rfl
                  have f6 := b1.c (i := 0) rfl
                  have f7 := b1.c (i := 1) rfl
                  have f8 := b1.c (i := 2) rfl
                  have f9 := b1.c (i := 3) rfl
                  have f10 := b1.c (i := 4) rfl
                  have f11 := b1.c (i := 5) rfl
                  have f12 := b1.c (i := 6) rfl
                  have f13 := b1.c (i := 7) rfl
                  have f14 := b1.c (i := 8) rfl
                  have f15 := b2.c (i := 0) rfl
                  go_wp2_with fail
                  clear f3 f4 f5 f6 f7 f8 f9 f10 f11 f12 f13 f14 f15
                  (with_reducible refine ((Ca.o (rmayB n k a x y z lo hi fp fl fc (fk : Int)) _)).mono ?_)
                  rintro r w3 ⟨rfl, k3⟩
                  replace b1 := b1.kb k3
                  replace b2 := b2.kb k3
                  replace b3 := b3.kb k3
                  replace kx := kx.trans k3
                  have s3 := k3.size
                  skip
                  clear k3
                  have f16 := b2.c (i := 4) rfl
                  have f17 := b3.c (i := 2) rfl
                  go_wp2
                  go_ret
                  clear f16 f17
                  exact ⟨by rw [show permE k fk false ft fm dl = 13 from by unfold permE; rw [h1, h3, h4, h5, h6, show (decide ((dl : Int) < (rL fk))) = true from decide_eq_true (by omega)]; rfl]; rfl, kx⟩
                · skip
                  by_cases h8 : (rM fk) < (dl : Int)
                  · skip
                    have f1 := b3.c (i := 1) rfl
                    have f2 := b1.c (i := 1) rfl
                    go_wp2_with fail
                    clear f1 f2
                    (with_reducible refine ((Ca.o (rhas (rF fk) k hk2 (rF_size fk hk)) _)).mono ?_)
                    rintro r w2 ⟨rfl, k2⟩
                    replace b1 := b1.kb k2
                    replace b2 := b2.kb k2
                    replace b3 := b3.kb k2
                    replace kx := kx.trans k2
                    have s2 := k2.size
                    skip
                    clear k2
                    have f3 := b2.c (i := 1) rfl
                    have f4 := b2.c (i := 2) rfl
                    have f5 := b2.c (i := 3) rfl
                    have f6 := b1.c (i := 0) rfl
                    have f7 := b1.c (i := 1) rfl
                    have f8 := b1.c (i := 2) rfl
                    have f9 := b1.c (i := 3) rfl
                    have f10 := b1.c (i := 4) rfl
                    have f11 := b1.c (i := 5) rfl
                    have f12 := b1.c (i := 6) rfl
                    have f13 := b1.c (i := 7) rfl
                    have f14 := b1.c (i := 8) rfl
                    have f15 := b2.c (i := 0) rfl
                    go_wp2_with fail
                    clear f3 f4 f5 f6 f7 f8 f9 f10 f11 f12 f13 f14 f15
                    (with_reducible refine ((Ca.o (rmayB n k a x y z lo hi fp fl fc (fk : Int)) _)).mono ?_)
                    rintro r w3 ⟨rfl, k3⟩
                    replace b1 := b1.kb k3
                    replace b2 := b2.kb k3
                    replace b3 := b3.kb k3
                    replace kx := kx.trans k3
                    have s3 := k3.size
                    skip
                    clear k3
                    have f16 := b2.c (i := 4) rfl
                    have f17 := b3.c (i := 2) rfl
                    have f18 := b3.c (i := 3) rfl
                    go_wp2
                    go_ret
                    clear f16 f17 f18
                    exact ⟨by rw [show permE k fk false ft fm dl = 5 from by unfold permE; rw [h1, h3, h4, h5, h6, show (decide ((dl : Int) < (rL fk))) = false from decide_eq_false (by omega), show (decide ((rM fk) < (dl : Int))) = true from decide_eq_true (by omega)]; rfl]; rfl, kx⟩
                  · skip
                    have f1 := b3.c (i := 1) rfl
                    have f2 := b1.c (i := 1) rfl
                    go_wp2_with fail
                    clear f1 f2
                    (with_reducible refine ((Ca.o (rhas (rF fk) k hk2 (rF_size fk hk)) _)).mono ?_)
                    rintro r w2 ⟨rfl, k2⟩
                    replace b1 := b1.kb k2
                    replace b2 := b2.kb k2
                    replace b3 := b3.kb k2
                    replace kx := kx.trans k2
                    have s2 := k2.size
                    skip
                    clear k2
                    have f3 := b2.c (i := 1) rfl
                    have f4 := b2.c (i := 2) rfl
                    have f5 := b2.c (i := 3) rfl
                    have f6 := b1.c (i := 0) rfl
                    have f7 := b1.c (i := 1) rfl
                    have f8 := b1.c (i := 2) rfl
                    have f9 := b1.c (i := 3) rfl
                    have f10 := b1.c (i := 4) rfl
                    have f11 := b1.c (i := 5) rfl
                    have f12 := b1.c (i := 6) rfl
                    have f13 := b1.c (i := 7) rfl
                    have f14 := b1.c (i := 8) rfl
                    have f15 := b2.c (i := 0) rfl
                    go_wp2_with fail
                    clear f3 f4 f5 f6 f7 f8 f9 f10 f11 f12 f13 f14 f15
                    (with_reducible refine ((Ca.o (rmayB n k a x y z lo hi fp fl fc (fk : Int)) _)).mono ?_)
                    rintro r w3 ⟨rfl, k3⟩
                    replace b1 := b1.kb k3
                    replace b2 := b2.kb k3
                    replace b3 := b3.kb k3
                    replace kx := kx.trans k3
                    have s3 := k3.size
                    skip
                    clear k3
                    have f16 := b2.c (i := 4) rfl
                    have f17 := b3.c (i := 2) rfl
                    have f18 := b3.c (i := 3) rfl
                    go_wp2
                    go_ret
                    clear f16 f17 f18
                    exact ⟨by rw [show permE k fk false ft fm dl = 0 from by unfold permE; rw [h1, h3, h4, h5, h6, show (decide ((dl : Int) < (rL fk))) = false from decide_eq_false (by omega), show (decide ((rM fk) < (dl : Int))) = false from decide_eq_false (by omega)]; rfl]; rfl, kx⟩
              · skip
                have f1 := b3.c (i := 1) rfl
                have f2 := b1.c (i := 1) rfl
                go_wp2_with fail
                clear f1 f2
                (with_reducible refine ((Ca.o (rhas (rF fk) k hk2 (rF_size fk hk)) _)).mono ?_)
                rintro r w2 ⟨rfl, k2⟩
                replace b1 := b1.kb k2
                replace b2 := b2.kb k2
                replace b3 := b3.kb k2
                replace kx := kx.trans k2
                have s2 := k2.size
                skip
                clear k2
                have f3 := b2.c (i := 1) rfl
                have f4 := b2.c (i := 2) rfl
                have f5 := b2.c (i := 3) rfl
                have f6 := b1.c (i := 0) rfl
                have f7 := b1.c (i := 1) rfl
                have f8 := b1.c (i := 2) rfl
                have f9 := b1.c (i := 3) rfl
                have f10 := b1.c (i := 4) rfl
                have f11 := b1.c (i := 5) rfl
                have f12 := b1.c (i := 6) rfl
                have f13 := b1.c (i := 7) rfl
                have f14 := b1.c (i := 8) rfl
                have f15 := b2.c (i := 0) rfl
                go_wp2_with fail
                clear f3 f4 f5 f6 f7 f8 f9 f10 f11 f12 f13 f14 f15
                (with_reducible refine ((Ca.o (rmayB n k a x y z lo hi fp fl fc (fk : Int)) _)).mono ?_)
                rintro r w3 ⟨rfl, k3⟩
                replace b1 := b1.kb k3
                replace b2 := b2.kb k3
                replace b3 := b3.kb k3
                replace kx := kx.trans k3
                have s3 := k3.size
                skip
                clear k3
                go_wp2
                go_ret
                exact ⟨by rw [show permE k fk false ft fm dl = 3 from by unfold permE; rw [h1, h3, h4, h5, h6]; rfl]; rfl, kx⟩
            · skip
              by_cases h6 : (dl : Int) < (rL fk)
              · skip
                have f1 := b3.c (i := 1) rfl
                have f2 := b1.c (i := 1) rfl
                go_wp2_with fail
                clear f1 f2
                (with_reducible refine ((Ca.o (rhas (rF fk) k hk2 (rF_size fk hk)) _)).mono ?_)
                rintro r w2 ⟨rfl, k2⟩
                replace b1 := b1.kb k2
                replace b2 := b2.kb k2
                replace b3 := b3.kb k2
                replace kx := kx.trans k2
                have s2 := k2.size
                skip
                clear k2
                have f3 := b2.c (i := 1) rfl
                have f4 := b2.c (i := 2) rfl
                have f5 := b2.c (i := 3) rfl
                have f6 := b2.c (i := 4) rfl
                have f7 := b3.c (i := 2) rfl
                go_wp2
                go_ret
                clear f3 f4 f5 f6 f7
                exact ⟨by rw [show permE k fk false ft fm dl = 13 from by unfold permE; rw [h1, h3, h4, h5, show (decide ((dl : Int) < (rL fk))) = true from decide_eq_true (by omega)]; rfl]; rfl, kx⟩
              · skip
                by_cases h7 : (rM fk) < (dl : Int)
                · skip
                  have f1 := b3.c (i := 1) rfl
                  have f2 := b1.c (i := 1) rfl
                  go_wp2_with fail
                  clear f1 f2
                  (with_reducible refine ((Ca.o (rhas (rF fk) k hk2 (rF_size fk hk)) _)).mono ?_)
                  rintro r w2 ⟨rfl, k2⟩
                  replace b1 := b1.kb k2
                  replace b2 := b2.kb k2
                  replace b3 := b3.kb k2
                  replace kx := kx.trans k2
                  have s2 := k2.size
                  skip
                  clear k2
                  have f3 := b2.c (i := 1) rfl
                  have f4 := b2.c (i := 2) rfl
                  have f5 := b2.c (i := 3) rfl
                  have f6 := b2.c (i := 4) rfl
                  have f7 := b3.c (i := 2) rfl
                  have f8 := b3.c (i := 3) rfl
                  go_wp2
                  go_ret
                  clear f3 f4 f5 f6 f7 f8
                  exact ⟨by rw [show permE k fk false ft fm dl = 5 from by unfold permE; rw [h1, h3, h4, h5, show (decide ((dl : Int) < (rL fk))) = false from decide_eq_false (by omega), show (decide ((rM fk) < (dl : Int))) = true from decide_eq_true (by omega)]; rfl]; rfl, kx⟩
                · skip
                  have f1 := b3.c (i := 1) rfl
                  have f2 := b1.c (i := 1) rfl
                  go_wp2_with fail
                  clear f1 f2
                  (with_reducible refine ((Ca.o (rhas (rF fk) k hk2 (rF_size fk hk)) _)).mono ?_)
                  rintro r w2 ⟨rfl, k2⟩
                  replace b1 := b1.kb k2
                  replace b2 := b2.kb k2
                  replace b3 := b3.kb k2
                  replace kx := kx.trans k2
                  have s2 := k2.size
                  skip
                  clear k2
                  have f3 := b2.c (i := 1) rfl
                  have f4 := b2.c (i := 2) rfl
                  have f5 := b2.c (i := 3) rfl
                  have f6 := b2.c (i := 4) rfl
                  have f7 := b3.c (i := 2) rfl
                  have f8 := b3.c (i := 3) rfl
                  go_wp2
                  go_ret
                  clear f3 f4 f5 f6 f7 f8
                  exact ⟨by rw [show permE k fk false ft fm dl = 0 from by unfold permE; rw [h1, h3, h4, h5, show (decide ((dl : Int) < (rL fk))) = false from decide_eq_false (by omega), show (decide ((rM fk) < (dl : Int))) = false from decide_eq_false (by omega)]; rfl]; rfl, kx⟩
        · skip
          rcases Bool.eq_false_or_eq_true (fm != 0) with h4 | h4
          · skip
            rcases Bool.eq_false_or_eq_true (mmB k (fk : Int)) with h5 | h5
            · skip
              by_cases h6 : (dl : Int) < (rL fk)
              · skip
                have f1 := b3.c (i := 1) rfl
                have f2 := b1.c (i := 1) rfl
                go_wp2_with fail
                clear f1 f2
                (with_reducible refine ((Ca.o (rhas (rF fk) k hk2 (rF_size fk hk)) _)).mono ?_)
                rintro r w2 ⟨rfl, k2⟩
                replace b1 := b1.kb k2
                replace b2 := b2.kb k2
                replace b3 := b3.kb k2
                replace kx := kx.trans k2
                have s2 := k2.size
                skip
                clear k2
                have f3 := b2.c (i := 1) rfl
                have f4 := b2.c (i := 2) rfl
                have f5 := b2.c (i := 3) rfl
                have f6 := b1.c (i := 0) rfl
                have f7 := b1.c (i := 1) rfl
                have f8 := b1.c (i := 2) rfl
                have f9 := b1.c (i := 3) rfl
                have f10 := b1.c (i := 4) rfl
                have f11 := b1.c (i := 5) rfl
                have f12 := b1.c (i := 6) rfl
                have f13 := b1.c (i := 7) rfl
                have f14 := b1.c (i := 8) rfl
                have f15 := b2.c (i := 0) rfl
                go_wp2_with fail
                clear f3 f4 f5 f6 f7 f8 f9 f10 f11 f12 f13 f14 f15
                (with_reducible refine ((Ca.o (rmayB n k a x y z lo hi fp fl fc (fk : Int)) _)).mono ?_)
                rintro r w3 ⟨rfl, k3⟩
                replace b1 := b1.kb k3
                replace b2 := b2.kb k3
                replace b3 := b3.kb k3
                replace kx := kx.trans k3
                have s3 := k3.size
                skip
                clear k3
                have f16 := b2.c (i := 4) rfl
                have f17 := b3.c (i := 2) rfl
                go_wp2
                go_ret
                clear f16 f17
                exact ⟨by rw [show permE k fk false ft fm dl = 13 from by unfold permE; rw [h1, h3, h4, h5, show (decide ((dl : Int) < (rL fk))) = true from decide_eq_true (by omega)]; rfl]; rfl, kx⟩
              · skip
                by_cases h7 : (rM fk) < (dl : Int)
                · skip
                  have f1 := b3.c (i := 1) rfl
                  have f2 := b1.c (i := 1) rfl
                  go_wp2_with fail
                  clear f1 f2
                  (with_reducible refine ((Ca.o (rhas (rF fk) k hk2 (rF_size fk hk)) _)).mono ?_)
                  rintro r w2 ⟨rfl, k2⟩
                  replace b1 := b1.kb k2
                  replace b2 := b2.kb k2
                  replace b3 := b3.kb k2
                  replace kx := kx.trans k2
                  have s2 := k2.size
                  skip
                  clear k2
                  have f3 := b2.c (i := 1) rfl
                  have f4 := b2.c (i := 2) rfl
                  have f5 := b2.c (i := 3) rfl
                  have f6 := b1.c (i := 0) rfl
                  have f7 := b1.c (i := 1) rfl
                  have f8 := b1.c (i := 2) rfl
                  have f9 := b1.c (i := 3) rfl
                  have f10 := b1.c (i := 4) rfl
                  have f11 := b1.c (i := 5) rfl
                  have f12 := b1.c (i := 6) rfl
                  have f13 := b1.c (i := 7) rfl
                  have f14 := b1.c (i := 8) rfl
                  have f15 := b2.c (i := 0) rfl
                  go_wp2_with fail
                  clear f3 f4 f5 f6 f7 f8 f9 f10 f11 f12 f13 f14 f15
                  (with_reducible refine ((Ca.o (rmayB n k a x y z lo hi fp fl fc (fk : Int)) _)).mono ?_)
                  rintro r w3 ⟨rfl, k3⟩
                  replace b1 := b1.kb k3
                  replace b2 := b2.kb k3
                  replace b3 := b3.kb k3
                  replace kx := kx.trans k3
                  have s3 := k3.size
                  skip
                  clear k3
                  have f16 := b2.c (i := 4) rfl
                  have f17 := b3.c (i := 2) rfl
                  have f18 := b3.c (i := 3) rfl
                  go_wp2
                  go_ret
                  clear f16 f17 f18
                  exact ⟨by rw [show permE k fk false ft fm dl = 5 from by unfold permE; rw [h1, h3, h4, h5, show (decide ((dl : Int) < (rL fk))) = false from decide_eq_false (by omega), show (decide ((rM fk) < (dl : Int))) = true from decide_eq_true (by omega)]; rfl]; rfl, kx⟩
                · skip
                  have f1 := b3.c (i := 1) rfl
                  have f2 := b1.c (i := 1) rfl
                  go_wp2_with fail
                  clear f1 f2
                  (with_reducible refine ((Ca.o (rhas (rF fk) k hk2 (rF_size fk hk)) _)).mono ?_)
                  rintro r w2 ⟨rfl, k2⟩
                  replace b1 := b1.kb k2
                  replace b2 := b2.kb k2
                  replace b3 := b3.kb k2
                  replace kx := kx.trans k2
                  have s2 := k2.size
                  skip
                  clear k2
                  have f3 := b2.c (i := 1) rfl
                  have f4 := b2.c (i := 2) rfl
                  have f5 := b2.c (i := 3) rfl
                  have f6 := b1.c (i := 0) rfl
                  have f7 := b1.c (i := 1) rfl
                  have f8 := b1.c (i := 2) rfl
                  have f9 := b1.c (i := 3) rfl
                  have f10 := b1.c (i := 4) rfl
                  have f11 := b1.c (i := 5) rfl
                  have f12 := b1.c (i := 6) rfl
                  have f13 := b1.c (i := 7) rfl
                  have f14 := b1.c (i := 8) rfl
                  have f15 := b2.c (i := 0) rfl
                  go_wp2_with fail
                  clear f3 f4 f5 f6 f7 f8 f9 f10 f11 f12 f13 f14 f15
                  (with_reducible refine ((Ca.o (rmayB n k a x y z lo hi fp fl fc (fk : Int)) _)).mono ?_)
                  rintro r w3 ⟨rfl, k3⟩
                  replace b1 := b1.kb k3
                  replace b2 := b2.kb k3
                  replace b3 := b3.kb k3
                  replace kx := kx.trans k3
                  have s3 := k3.size
                  skip
                  clear k3
                  have f16 := b2.c (i := 4) rfl
                  have f17 := b3.c (i := 2) rfl
                  have f18 := b3.c (i := 3) rfl
                  go_wp2
                  go_ret
                  clear f16 f17 f18
                  exact ⟨by rw [show permE k fk false ft fm dl = 0 from by unfold permE; rw [h1, h3, h4, h5, show (decide ((dl : Int) < (rL fk))) = false from decide_eq_false (by omega), show (decide ((rM fk) < (dl : Int))) = false from decide_eq_false (by omega)]; rfl]; rfl, kx⟩
            · skip
              have f1 := b3.c (i := 1) rfl
              have f2 := b1.c (i := 1) rfl
              go_wp2_with fail
              clear f1 f2
              (with_reducible refine ((Ca.o (rhas (rF fk) k hk2 (rF_size fk hk)) _)).mono ?_)
              rintro r w2 ⟨rfl, k2⟩
              replace b1 := b1.kb k2
              replace b2 := b2.kb k2
              replace b3 := b3.kb k2
              replace kx := kx.trans k2
              have s2 := k2.size
              skip
              clear k2
              have f3 := b2.c (i := 1) rfl
              have f4 := b2.c (i := 2) rfl
              have f5 := b2.c (i := 3) rfl
              have f6 := b1.c (i := 0) rfl
              have f7 := b1.c (i := 1) rfl
              have f8 := b1.c (i := 2) rfl
              have f9 := b1.c (i := 3) rfl
              have f10 := b1.c (i := 4) rfl
              have f11 := b1.c (i := 5) rfl
              have f12 := b1.c (i := 6) rfl
              have f13 := b1.c (i := 7) rfl
              have f14 := b1.c (i := 8) rfl
              have f15 := b2.c (i := 0) rfl
              go_wp2_with fail
              clear f3 f4 f5 f6 f7 f8 f9 f10 f11 f12 f13 f14 f15
              (with_reducible refine ((Ca.o (rmayB n k a x y z lo hi fp fl fc (fk : Int)) _)).mono ?_)
              rintro r w3 ⟨rfl, k3⟩
              replace b1 := b1.kb k3
              replace b2 := b2.kb k3
              replace b3 := b3.kb k3
              replace kx := kx.trans k3
              have s3 := k3.size
              skip
              clear k3
              go_wp2
              go_ret
              exact ⟨by rw [show permE k fk false ft fm dl = 3 from by unfold permE; rw [h1, h3, h4, h5]; rfl]; rfl, kx⟩
          · skip
            by_cases h5 : (dl : Int) < (rL fk)
            · skip
              have f1 := b3.c (i := 1) rfl
              have f2 := b1.c (i := 1) rfl
              go_wp2_with fail
              clear f1 f2
              (with_reducible refine ((Ca.o (rhas (rF fk) k hk2 (rF_size fk hk)) _)).mono ?_)
              rintro r w2 ⟨rfl, k2⟩
              replace b1 := b1.kb k2
              replace b2 := b2.kb k2
              replace b3 := b3.kb k2
              replace kx := kx.trans k2
              have s2 := k2.size
              skip
              clear k2
              have f3 := b2.c (i := 1) rfl
              have f4 := b2.c (i := 2) rfl
              have f5 := b2.c (i := 3) rfl
              have f6 := b2.c (i := 4) rfl
              have f7 := b3.c (i := 2) rfl
              go_wp2
              go_ret
              clear f3 f4 f5 f6 f7
              exact ⟨by rw [show permE k fk false ft fm dl = 13 from by unfold permE; rw [h1, h3, h4, show (decide ((dl : Int) < (rL fk))) = true from decide_eq_true (by omega)]; rfl]; rfl, kx⟩
            · skip
              by_cases h6 : (rM fk) < (dl : Int)
              · skip
                have f1 := b3.c (i := 1) rfl
                have f2 := b1.c (i := 1) rfl
                go_wp2_with fail
                clear f1 f2
                (with_reducible refine ((Ca.o (rhas (rF fk) k hk2 (rF_size fk hk)) _)).mono ?_)
                rintro r w2 ⟨rfl, k2⟩
                replace b1 := b1.kb k2
                replace b2 := b2.kb k2
                replace b3 := b3.kb k2
                replace kx := kx.trans k2
                have s2 := k2.size
                skip
                clear k2
                have f3 := b2.c (i := 1) rfl
                have f4 := b2.c (i := 2) rfl
                have f5 := b2.c (i := 3) rfl
                have f6 := b2.c (i := 4) rfl
                have f7 := b3.c (i := 2) rfl
                have f8 := b3.c (i := 3) rfl
                go_wp2
                go_ret
                clear f3 f4 f5 f6 f7 f8
                exact ⟨by rw [show permE k fk false ft fm dl = 5 from by unfold permE; rw [h1, h3, h4, show (decide ((dl : Int) < (rL fk))) = false from decide_eq_false (by omega), show (decide ((rM fk) < (dl : Int))) = true from decide_eq_true (by omega)]; rfl]; rfl, kx⟩
              · skip
                have f1 := b3.c (i := 1) rfl
                have f2 := b1.c (i := 1) rfl
                go_wp2_with fail
                clear f1 f2
                (with_reducible refine ((Ca.o (rhas (rF fk) k hk2 (rF_size fk hk)) _)).mono ?_)
                rintro r w2 ⟨rfl, k2⟩
                replace b1 := b1.kb k2
                replace b2 := b2.kb k2
                replace b3 := b3.kb k2
                replace kx := kx.trans k2
                have s2 := k2.size
                skip
                clear k2
                have f3 := b2.c (i := 1) rfl
                have f4 := b2.c (i := 2) rfl
                have f5 := b2.c (i := 3) rfl
                have f6 := b2.c (i := 4) rfl
                have f7 := b3.c (i := 2) rfl
                have f8 := b3.c (i := 3) rfl
                go_wp2
                go_ret
                clear f3 f4 f5 f6 f7 f8
                exact ⟨by rw [show permE k fk false ft fm dl = 0 from by unfold permE; rw [h1, h3, h4, show (decide ((dl : Int) < (rL fk))) = false from decide_eq_false (by omega), show (decide ((rM fk) < (dl : Int))) = false from decide_eq_false (by omega)]; rfl]; rfl, kx⟩
    · skip
      have f1 := b3.c (i := 1) rfl
      have f2 := b1.c (i := 1) rfl
      go_wp2_with fail
      clear f1 f2
      (with_reducible refine ((Ca.o (rhas (rF fk) k hk2 (rF_size fk hk)) _)).mono ?_)
      rintro r w2 ⟨rfl, k2⟩
      replace b1 := b1.kb k2
      replace b2 := b2.kb k2
      replace b3 := b3.kb k2
      replace kx := kx.trans k2
      have s2 := k2.size
      skip
      clear k2
      go_wp2
      go_ret
      exact ⟨by rw [show permE k fk o99 ft fm dl = 14 from by unfold permE; rw [h1]; rfl]; rfl, kx⟩
end Go.Proofs.YtlimjohnimgnhaaGreatDoor
