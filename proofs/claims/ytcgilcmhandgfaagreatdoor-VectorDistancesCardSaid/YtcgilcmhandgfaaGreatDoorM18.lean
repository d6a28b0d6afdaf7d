/- Texts Awake: each says in its own first comment what it proves. -/
import Derived.Test.YtcgilcmhandgfaaGreatDoorM17
import Derived.Test.YtcgilcmhandgfaaGreatDoorM11
import Derived.Test.YtcgilcmhandgfaaGreatDoorM12
/- Walk over awake: the chapter's examples. -/
namespace Go.Proofs.YtcgilcmhandgfaaGreatDoor
open Go.RowKit
open Go.Lib (nDigits itoa decDigits)

theorem ok_small {z : Int} (h : z.natAbs < 10 ^ 30) : Ok z := by
  unfold Ok; exact Nat.le_trans (nd_le (k := 30) (by omega) h) (by omega)
theorem S_lit {z : Int} {l : List UInt8} (h : itoa z = l) : S z = ⟨l.toArray⟩ := by unfold S; rw [h]
theorem t_m17 : S (-17) = ⟨#[45, 49, 55]⟩ := S_lit (l := [45, 49, 55]) (by simp [itoa, decDigits])
theorem t_5 : S 5 = ⟨#[53]⟩ := S_lit (l := [53]) (by simp [itoa, decDigits])
theorem t_m4 : S (-4) = ⟨#[45, 52]⟩ := S_lit (l := [45, 52]) (by simp [itoa, decDigits])
theorem t_3 : S 3 = ⟨#[51]⟩ := S_lit (l := [51]) (by simp [itoa, decDigits])
theorem t_17 : S 17 = ⟨#[49, 55]⟩ := S_lit (l := [49, 55]) (by simp [itoa, decDigits])
theorem t_m5 : S (-5) = ⟨#[45, 53]⟩ := S_lit (l := [45, 53]) (by simp [itoa, decDigits])
theorem t_m3 : S (-3) = ⟨#[45, 51]⟩ := S_lit (l := [45, 51]) (by simp [itoa, decDigits])
theorem t_m84 : S (-84) = ⟨#[45, 56, 52]⟩ := S_lit (l := [45, 56, 52]) (by simp [itoa, decDigits])
theorem t_36 : S 36 = ⟨#[51, 54]⟩ := S_lit (l := [51, 54]) (by simp [itoa, decDigits])
theorem t_12 : S 12 = ⟨#[49, 50]⟩ := S_lit (l := [49, 50]) (by simp [itoa, decDigits])
theorem t_120 : S 120 = ⟨#[49, 50, 48]⟩ := S_lit (l := [49, 50, 48]) (by simp [itoa, decDigits])
theorem t_2 : S 2 = ⟨#[50]⟩ := S_lit (l := [50]) (by simp [itoa, decDigits])
theorem t_2_70 : S (2 ^ 70) = ⟨#[49, 49, 56, 48, 53, 57, 49, 54, 50, 48, 55, 49, 55, 52, 49, 49, 51, 48, 51, 52, 50, 52]⟩ := S_lit (l := [49, 49, 56, 48, 53, 57, 49, 54, 50, 48, 55, 49, 55, 52, 49, 49, 51, 48, 51, 52, 50, 52]) (by simp [itoa, decDigits])
theorem chk_two {x y : Int} (hx : Ok x) (hy : Ok y) : chkL [S x, S y] = 0 := chkL_map (zs := [x, y]) (fun z hz => by
  rcases List.mem_cons.1 hz with rfl | hz
  · exact hx
  · rcases List.mem_cons.1 hz with rfl | hz
    · exact hy
    · cases hz)
theorem quo_lit (x y q : Int) (w : World) (hx : x.natAbs < 1000) (hy : y.natAbs < 1000) (hy0 : y ≠ 0) (hq : x.fdiv y = q) (hq' : q.natAbs < 1000) :
    Calls Tryz.prog 206 #[.string (S x), .string (S y)] w fun e w' => e = .returned (.tuple #[.string (S q), .int .i64 0]) ∧ Kp [] w w' := by
  have small : ∀ {z : Int}, z.natAbs < 1000 → Ok z := fun h => ok_small (Nat.lt_trans h (by decide))
  have hc := chk_two (small hx) (small hy)
  have h1 : nw y.natAbs = 1 := nw_eq (k := 0) (by simp; omega) (by simp [B9]; omega)
  have := Quo_any (S x) (S y) w (fun _ _ => by
    rw [valS_S, valS_S]; exact takeOut_small (Or.inr h1)) (Nat.le_trans (small hx).size (by decide)) (Nat.le_trans (small hy).size (by decide))
  rw [show divB Int.fdiv (S x) (S y) = S q by unfold divB resB; rw [if_pos hc, valS_S, valS_S, if_neg hy0, hq, if_pos (small hq')],
    show divE Int.fdiv (S x) (S y) = 0 by unfold divE resE; rw [if_pos hc, valS_S, valS_S, if_neg hy0, hq, if_pos (small hq')]] at this
  exact this










theorem gcd_lit (w : World) :
    Calls Tryz.prog 195 #[.string ⟨#[45, 56, 52]⟩, .string ⟨#[51, 54]⟩] w fun e w' => e = .returned (.tuple #[.string ⟨#[49, 50]⟩, .int .i64 0]) ∧ Kp [] w w' := by
  have h84 : Ok (-84) := ok_small (by decide)
  have h36 : Ok 36 := ok_small (by decide)
  have h12 : Ok 12 := ok_small (by decide)
  have hc := chk_two h84 h36
  have h1 : nw 36 = 1 := nw_eq (k := 0) (by decide) (by decide)
  have := Gcd_any (S (-84)) (S 36) w (fun _ => by
    rw [valS_S, valS_S]; exact gcd_small (A := 84) (B := 36) (by omega) (by omega) h1) (Nat.le_trans h84.size (by decide)) (Nat.le_trans h36.size (by decide))
  rw [binB_S hc, binE_S hc, show gcdI (-84) 36 = 12 by decide, show resB 12 = S 12 from if_pos h12, show resE 12 = 0 from if_pos h12, t_m84, t_36, t_12] at this
  exact this













theorem check_lit (s : ByteArray) (w : World) (h : canon s.data.toList = false) (hs : s.size ≤ 10) :
    Calls Tryz.prog 168 #[.string s] w fun e w' => e = .returned (.int .i64 3) ∧ w = w' := by
  have := check_any s w (by omega)
  rwa [show chk s.data.toList = 3 by unfold chk; rw [h, if_neg (by simp)]] at this

theorem quo_one (w : World) :
    Calls Tryz.prog 206 #[.string ⟨#[45, 49, 55]⟩, .string ⟨#[53]⟩] w fun e w' => e = .returned (.tuple #[.string ⟨#[45, 52]⟩, .int .i64 0]) ∧ Kp [] w w' := by
  have := quo_lit (-17) 5 (-4) w (by decide) (by decide) (by decide) (by decide) (by decide)
  rwa [t_m17, t_5, t_m4] at this
theorem quo_two (w : World) :
    Calls Tryz.prog 206 #[.string ⟨#[49, 55]⟩, .string ⟨#[45, 53]⟩] w fun e w' => e = .returned (.tuple #[.string ⟨#[45, 52]⟩, .int .i64 0]) ∧ Kp [] w w' := by
  have := quo_lit 17 (-5) (-4) w (by decide) (by decide) (by decide) (by decide) (by decide)
  rwa [t_17, t_m5, t_m4] at this








theorem made {w : World} (o : Obj) : (w.alloc o).heap[w.heap.size]? = some o := by
  show (w.heap.push _)[w.heap.size]? = _; rw [Array.getElem?_push_size]
theorem kept {w w' : World} {o : Obj} (hk : Kp [] (w.alloc o) w') : w'.heap[w.heap.size]? = some o :=
  (hk.block _ (by simp) (by simp)).trans (made o)
theorem keptOn {w w' : World} {g : Nat} {o : Obj} (hk : Kp [] w w') (hb : w.heap[g]? = some o) : w'.heap[g]? = some o := by
  refine (hk.block g ?_ (by simp)).trans hb
  rcases Nat.lt_or_ge g w.heap.size with hlt | hge
  · exact hlt
  · rw [Array.getElem?_eq_none hge] at hb; cases hb
def rows52 : Array Value := #[.string ⟨#[45, 49, 55]⟩, .string ⟨#[53]⟩, .string ⟨#[45, 52]⟩, .string ⟨#[51]⟩, .string ⟨#[49, 55]⟩, .string ⟨#[45, 53]⟩, .string ⟨#[45, 52]⟩, .string ⟨#[45, 51]⟩]
theorem cell_of {W : World} {g n : Nat} {cs : Array Value} {T : Nat} (hb : W.heap[g]? = some (.cells cs T (0, 0))) : W.cell? ⟨g, n, none⟩ = cs[n]? := by
  simp [World.cell?, hb]










































































































































end Go.Proofs.YtcgilcmhandgfaaGreatDoor
