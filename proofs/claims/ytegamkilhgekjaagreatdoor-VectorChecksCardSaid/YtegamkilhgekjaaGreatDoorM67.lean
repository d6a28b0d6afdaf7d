/- Texts Vspa1, Vspa3, Vspa5: each says in its own first comment what it proves. -/
import Derived.Test.YtegamkilhgekjaaGreatDoorM61
import Derived.Test.YtegamkilhgekjaaGreatDoorM59
import Derived.Test.YtegamkilhgekjaaGreatDoorM60
import Derived.Deep.RegionHeld3
import Derived.Test.YtegamkilhgekjaaGreatDoorM62
import Derived.Test.YtegamkilhgekjaaGreatDoorM46
import Derived.Test.YtegamkilhgekjaaGreatDoorM38
import Derived.Test.YtegamkilhgekjaaGreatDoorM42
import Derived.Test.YtegamkilhgekjaaGreatDoorM26
import Derived.Test.YtegamkilhgekjaaGreatDoorM24
import Derived.Test.YtegamkilhgekjaaGreatDoorM22
import Derived.Test.YtegamkilhgekjaaGreatDoorM05
import Derived.Test.YtegamkilhgekjaaGreatDoorM11
import Derived.Test.YtegamkilhgekjaaGreatDoorM12
import Derived.OwnWalk
import Derived.Test.YtegamkilhgekjaaGreatDoorM08
import Derived.Test.YtegamkilhgekjaaGreatDoorM04
import Derived.Test.YtegamkilhgekjaaGreatDoorM06
import Derived.Test.YtegamkilhgekjaaGreatDoorM41
import Derived.Laws.StructEq
import Derived.Test.YtegamkilhgekjaaGreatDoorM63
import Derived.Deep.Cut
import Derived.Deep.CutRange
import Derived.RangeFuncBox
/- Reference of layer 7: CheckSpots and FewSpots at every list of places. -/
namespace Go.Proofs.YtegamkilhgekjaaGreatDoor
open Go.RowKit
open Go.Lib (nDigits itoa decDigits)

/-- the j-th place -/
def gS (ps : List P3) (j : Nat) : P3 := ps[j]?.getD ⟨0, 0, 0⟩
theorem Sps.kp0 {w W : World} {g o : Nat} {ps : List P3} {p : Option Addr} (h : Sps w g o ps) (hp : 0 < ps.length → p = some ⟨g, o, none⟩ ∧ g < w.heap.size) (k : Kp [] w W) : Sps W g o ps := fun i hi => h.kp (hp (by omega)).2 k i hi
/-- four places of a list: the volume -/
def v4 (ps : List P3) (i j k m : Nat) : Int := voV (gS ps i).x (gS ps i).y (gS ps i).z (gS ps j).x (gS ps j).y (gS ps j).z (gS ps k).x (gS ps k).y (gS ps k).z (gS ps m).x (gS ps m).y (gS ps m).z

end Go.Proofs.YtegamkilhgekjaaGreatDoor

/- The mathematics of Coplanar: the first normal square to all against the volumes of all four places. -/
namespace Go.Proofs.YtegamkilhgekjaaGreatDoor
open Go.RowKit
open Go.Lib (nDigits itoa decDigits)

/-- vectors in space -/
def cr3 (a b : P3) : P3 := ⟨a.y * b.z - a.z * b.y, a.z * b.x - a.x * b.z, a.x * b.y - a.y * b.x⟩
def dt3 (a b : P3) : Int := a.x * b.x + a.y * b.y + a.z * b.z
def sb3 (a b : P3) : P3 := ⟨b.x - a.x, b.y - a.y, b.z - a.z⟩
def o3 : P3 := ⟨0, 0, 0⟩
theorem p3_ext {a b : P3} (h1 : a.x = b.x) (h2 : a.y = b.y) (h3 : a.z = b.z) : a = b := by
  cases a; cases b; simp_all
theorem o3_iff (a : P3) : a = o3 ↔ a.x = 0 ∧ a.y = 0 ∧ a.z = 0 := ⟨fun h => by rw [h]; exact ⟨rfl, rfl, rfl⟩, fun ⟨h1, h2, h3⟩ => p3_ext h1 h2 h3⟩
def vo3 (a b c d : P3) : Int := voV a.x a.y a.z b.x b.y b.z c.x c.y c.z d.x d.y d.z
/-- three vectors square to one that is not 0: their determinant is 0 -/
theorem det_plane {n x y z : P3} (hn : n ≠ o3) (hx : dt3 n x = 0) (hy : dt3 n y = 0) (hz : dt3 n z = 0) : dt3 (cr3 x y) z = 0 := by
  have e1 : dt3 (cr3 x y) z * n.x = 0 := by
    have : dt3 (cr3 x y) z * n.x = dt3 n x * (cr3 y z).x + dt3 n y * (cr3 z x).x + dt3 n z * (cr3 x y).x := by unfold dt3 cr3; grind
    rw [this, hx, hy, hz]; simp
  have e2 : dt3 (cr3 x y) z * n.y = 0 := by
    have : dt3 (cr3 x y) z * n.y = dt3 n x * (cr3 y z).y + dt3 n y * (cr3 z x).y + dt3 n z * (cr3 x y).y := by unfold dt3 cr3; grind
    rw [this, hx, hy, hz]; simp
  have e3 : dt3 (cr3 x y) z * n.z = 0 := by
    have : dt3 (cr3 x y) z * n.z = dt3 n x * (cr3 y z).z + dt3 n y * (cr3 z x).z + dt3 n z * (cr3 x y).z := by unfold dt3 cr3; grind
    rw [this, hx, hy, hz]; simp
  rcases Int.mul_eq_zero.1 e1 with h | h1
  · exact h
  rcases Int.mul_eq_zero.1 e2 with h | h2
  · exact h
  rcases Int.mul_eq_zero.1 e3 with h | h3
  · exact h
  exact absurd ((o3_iff n).2 ⟨h1, h2, h3⟩) hn
/-- .. and three vectors parallel to one that is not 0 -/
theorem det_line {a x y : P3} (ha : a ≠ o3) (hx : cr3 a x = o3) (hy : cr3 a y = o3) : cr3 x y = o3 := by
  obtain ⟨x1, x2, x3⟩ := (o3_iff _).1 hx
  obtain ⟨y1, y2, y3⟩ := (o3_iff _).1 hy
  unfold cr3 at x1 x2 x3 y1 y2 y3
  dsimp only at x1 x2 x3 y1 y2 y3
  have e : ∀ k : Int, (k = a.x ∨ k = a.y ∨ k = a.z) → (cr3 x y).x * k = 0 ∧ (cr3 x y).y * k = 0 ∧ (cr3 x y).z * k = 0 := fun k hk => by
    unfold cr3
    dsimp only
    rcases hk with rfl | rfl | rfl <;> refine ⟨?_, ?_, ?_⟩ <;> grind
  by_cases h : cr3 x y = o3
  · exact h
  · exfalso
    apply ha
    rw [o3_iff] at h ⊢
    have z : ∀ k : Int, (k = a.x ∨ k = a.y ∨ k = a.z) → k = 0 := fun k hk => by
      obtain ⟨e1, e2, e3⟩ := e k hk
      rcases Int.mul_eq_zero.1 e1 with h1 | h1
      · rcases Int.mul_eq_zero.1 e2 with h2 | h2
        · rcases Int.mul_eq_zero.1 e3 with h3 | h3
          · exact absurd ⟨h1, h2, h3⟩ h
          · exact h3
        · exact h2
      · exact h1
    exact ⟨z _ (.inl rfl), z _ (.inr (.inl rfl)), z _ (.inr (.inr rfl))⟩
/-- what the program has found when t places are through -/
def CpI (G : Nat → P3) (t : Nat) (A N : P3) : Prop :=
  ((A = o3 ∧ ∀ k, k < t → sb3 (G 0) (G k) = o3) ∨ (A ≠ o3 ∧ ∃ r, r < t ∧ A = sb3 (G 0) (G r))) ∧
  ((N = o3 ∧ ∀ k, k < t → cr3 A (sb3 (G 0) (G k)) = o3) ∨ (N ≠ o3 ∧ ∃ r s, r < s ∧ s < t ∧ A = sb3 (G 0) (G r) ∧ N = cr3 A (sb3 (G 0) (G s)))) ∧
  ∀ k, k < t → dt3 N (sb3 (G 0) (G k)) = 0
theorem cr3_self (a : P3) : cr3 a a = o3 := by unfold cr3 o3; apply p3_ext <;> grind
theorem cr3_o (a : P3) : cr3 o3 a = o3 := by unfold cr3 o3; apply p3_ext <;> grind
theorem cr3_o' (a : P3) : cr3 a o3 = o3 := by unfold cr3 o3; apply p3_ext <;> grind
theorem dt3_o (a : P3) : dt3 o3 a = 0 := by unfold dt3 o3; grind
theorem dt3_par {a s k : P3} (h : cr3 a k = o3) : dt3 (cr3 a s) k = 0 := by
  obtain ⟨h1, h2, h3⟩ := (o3_iff _).1 h
  unfold cr3 at h1 h2 h3
  dsimp only at h1 h2 h3
  unfold dt3 cr3
  grind
theorem sb3_self (a : P3) : sb3 a a = o3 := by unfold sb3 o3; apply p3_ext <;> grind
theorem CpI.start (G : Nat → P3) : CpI G 0 o3 o3 := ⟨.inl ⟨rfl, fun _ h => by omega⟩, .inl ⟨rfl, fun _ h => by omega⟩, fun _ h => by omega⟩
theorem CpI.step {G : Nat → P3} {t : Nat} {A N A' N' : P3} (h : CpI G t A N) (hA : A' = if A = o3 then sb3 (G 0) (G t) else A) (hN : N' = if N = o3 then cr3 A' (sb3 (G 0) (G t)) else N) :
    (dt3 N' (sb3 (G 0) (G t)) = 0 → CpI G (t + 1) A' N') ∧ (dt3 N' (sb3 (G 0) (G t)) ≠ 0 → ∃ j k m, j < t ∧ k < j ∧ m < k ∧ vo3 (G t) (G j) (G k) (G m) ≠ 0) := by
  obtain ⟨hAA, hNN, hD⟩ := h
  -- the state of A' when t + 1 places are through
  have a1 : (A' = o3 ∧ ∀ k, k < t + 1 → sb3 (G 0) (G k) = o3) ∨ (A' ≠ o3 ∧ ∃ r, r < t + 1 ∧ A' = sb3 (G 0) (G r)) := by
    rcases hAA with ⟨ha, hall⟩ | ⟨ha, r, hr, he⟩
    · rw [if_pos ha] at hA
      by_cases hz : A' = o3
      · refine .inl ⟨hz, fun k hk => ?_⟩
        by_cases e : k = t
        · rw [e, ← hA]; exact hz
        · exact hall k (by omega)
      · exact .inr ⟨hz, t, by omega, hA⟩
    · rw [if_neg ha] at hA
      exact .inr ⟨by rw [hA]; exact ha, r, by omega, by rw [hA]; exact he⟩
  have a2 : ∀ k, k < t → N = o3 → cr3 A' (sb3 (G 0) (G k)) = o3 := fun k hk hn => by
    rcases hAA with ⟨ha, hall⟩ | ⟨ha, _⟩
    · rw [hall k hk]; exact cr3_o' _
    · rw [hA, if_neg ha]
      rcases hNN with ⟨_, h2⟩ | ⟨h2, _⟩
      · exact h2 k hk
      · exact absurd hn h2
  have n1 : (N' = o3 ∧ ∀ k, k < t + 1 → cr3 A' (sb3 (G 0) (G k)) = o3) ∨ (N' ≠ o3 ∧ ∃ r s, r < s ∧ s < t + 1 ∧ A' = sb3 (G 0) (G r) ∧ N' = cr3 A' (sb3 (G 0) (G s))) := by
    by_cases hn : N = o3
    · rw [if_pos hn] at hN
      by_cases hz : N' = o3
      · refine .inl ⟨hz, fun k hk => ?_⟩
        by_cases e : k = t
        · rw [e, ← hN]; exact hz
        · exact a2 k (by omega) hn
      · rcases a1 with ⟨ha, _⟩ | ⟨_, r, hr, he⟩
        · rw [ha, cr3_o] at hN; exact absurd hN hz
        · have hrt : r ≠ t := fun e => by rw [e] at he; rw [← he, cr3_self] at hN; exact hz hN
          exact .inr ⟨hz, r, t, by omega, by omega, he, hN⟩
    · rw [if_neg hn] at hN
      rcases hNN with ⟨h2, _⟩ | ⟨_, r, s, h1, h2, h3, h4⟩
      · exact absurd h2 hn
      · have hA0 : A ≠ o3 := fun e => by rw [e, cr3_o] at h4; exact hn h4
        rw [if_neg hA0] at hA
        rw [hA, hN]
        exact .inr ⟨hn, r, s, h1, by omega, h3, h4⟩
  refine ⟨fun hd => ⟨a1, n1, fun k hk => ?_⟩, fun hd => ?_⟩
  · by_cases e : k = t
    · rw [e]; exact hd
    · by_cases hn : N = o3
      · rw [hN, if_pos hn]
        exact dt3_par (a2 k (by omega) hn)
      · rw [hN, if_neg hn]; exact hD k (by omega)
  · rcases n1 with ⟨h1, _⟩ | ⟨_, r, s, hrs, hst, he, hN2⟩
    · rw [h1, dt3_o] at hd; exact absurd rfl hd
    · have hst' : s ≠ t := fun e => hd (by rw [hN2, e]; unfold dt3 cr3; grind)
      have hr0 : r ≠ 0 := fun e => hd (by rw [hN2, he, e, sb3_self, cr3_o, dt3_o])
      refine ⟨s, r, 0, by omega, hrs, by omega, ?_⟩
      rw [hN2, he] at hd
      intro hz
      apply hd
      rw [← hz]
      unfold vo3 voV nrX dt3 cr3 sb3
      dsimp only
      grind
theorem CpI.done {G : Nat → P3} {n : Nat} {A N : P3} (h : CpI G n A N) (i j k m : Nat) (hi : i < n) (hj : j < i) (hk : k < j) (hm : m < k) : vo3 (G i) (G j) (G k) (G m) = 0 := by
  obtain ⟨hAA, hNN, hD⟩ := h
  have e : vo3 (G i) (G j) (G k) (G m) = dt3 (cr3 (sb3 (G i) (G j)) (sb3 (G i) (G k))) (sb3 (G i) (G m)) := by unfold vo3 voV nrX dt3 cr3 sb3; dsimp only
  have s1 : ∀ x y : P3, dt3 N (sb3 x y) = dt3 N (sb3 (G 0) y) - dt3 N (sb3 (G 0) x) := fun x y => by unfold dt3 sb3; dsimp only; grind
  rw [e]
  by_cases hn : N = o3
  · rcases hNN with ⟨_, h2⟩ | ⟨h2, _⟩
    · by_cases ha : A = o3
      · rcases hAA with ⟨_, h3⟩ | ⟨h3, _⟩
        · have z : ∀ q, q < n → G q = G 0 := fun q hq => by
            have := (o3_iff _).1 (h3 q hq)
            unfold sb3 at this
            dsimp only at this
            exact p3_ext (by omega) (by omega) (by omega)
          rw [z i hi, z j (by omega), sb3_self, cr3_o, dt3_o]
        · exact absurd ha h3
      · have c1 : ∀ q, q < n → cr3 A (sb3 (G i) (G q)) = o3 := fun q hq => by
          have u1 := (o3_iff _).1 (h2 q hq)
          have u2 := (o3_iff _).1 (h2 i hi)
          unfold cr3 sb3 at u1 u2
          dsimp only at u1 u2
          rw [o3_iff]
          unfold cr3 sb3
          dsimp only
          refine ⟨?_, ?_, ?_⟩ <;> grind
        rw [det_line ha (c1 j (by omega)) (c1 k (by omega)), dt3_o]
    · exact absurd hn h2
  · exact det_plane hn (by rw [s1, hD _ hi, hD j (by omega)]; simp) (by rw [s1, hD _ hi, hD k (by omega)]; simp) (by rw [s1, hD _ hi, hD m (by omega)]; simp)

end Go.Proofs.YtegamkilhgekjaaGreatDoor

/- VectorSpaces: Coplanar of package vector and of the reference of layer 7 at every list of places, and the law. -/
namespace Go.Proofs.YtegamkilhgekjaaGreatDoor
open Go.RowKit
open Go.Lib (nDigits itoa decDigits)

set_option maxRecDepth 100000 in
theorem vresultB_0 (c : Nat) (caps : Array Value) (v : Bool) (w : World) (he : ∀ args w, (callFunc c args).run Tryz.prog w = .ok (.enter c args) w) (q : Hid (Calls Tryz.prog c caps w fun e w' => e = .returned (.bool v) ∧ Kp [] w w')) :
    Calls Tryz.prog 60 #[.int .i64 0, .func (.func c) #[] caps] w fun e w' => e = .returned (.tuple #[.bool v, .int .i64 0]) ∧ Kp [] w w' := by
  go_enter Tryz.func60, Tryz.ntmps60
  go_wp2_with (go_at_fn c; refine q.out.mono ?_; rintro x w1 ⟨rfl, k⟩)
  go_wp2
  go_ret2
  exact ⟨rfl, k⟩
set_option maxRecDepth 100000 in
theorem vresultB_e (f : Value) (e : Int) (w : World) (he : (e != 0) = true) :
    Calls Tryz.prog 60 #[.int .i64 e, f] w fun r w' => r = .returned (.tuple #[.bool false, .int .i64 e]) ∧ Kp [] w w' := by
  have k0 : Kp [] w (w.alloc (.cells #[.bool false] 4 (0, 0))) := (Kp.refl _ _).alloc _
  go_enter Tryz.func60, Tryz.ntmps60
  go_wp2
  go_ret2
  exact ⟨rfl, k0⟩

end Go.Proofs.YtegamkilhgekjaaGreatDoor
