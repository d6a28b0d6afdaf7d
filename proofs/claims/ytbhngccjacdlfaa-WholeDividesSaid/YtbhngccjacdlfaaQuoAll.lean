/- Quo and Rem for every two texts. -/
import Derived.Test.YtbhngccjacdlfaaTakeMany
import Derived.Test.YtbhngccjacdlfaaQuo
namespace Go.Proofs.Ytbhngccjacdlfaa
open Go.RowKit

theorem takeOut_texts (a b : ByteArray) : TakeOutAll a b := by
  intro h h0
  obtain ⟨x, y, rfl, rfl, hx, hy⟩ := chkL2 h
  rw [valS_S] at h0
  rw [valS_S, valS_S]
  exact takeOut_all (by omega) (Nat.lt_of_lt_of_le hx.lt (pow_le (by omega)))
theorem Quo_all (a b : ByteArray) (w : World) (ha : a.size ≤ 9223372036854775807) (hb : b.size ≤ 9223372036854775807) :
    Calls Try.prog 26 #[.string a, .string b] w fun e w' => e = .returned (.tuple #[.string (divB Int.fdiv a b), .int .i64 (divE Int.fdiv a b)]) ∧ Kp [] w w' :=
  Quo_any a b w (takeOut_texts a b) ha hb
theorem Rem_all (a b : ByteArray) (w : World) (ha : a.size ≤ 9223372036854775807) (hb : b.size ≤ 9223372036854775807) :
    Calls Try.prog 27 #[.string a, .string b] w fun e w' => e = .returned (.tuple #[.string (divB Int.fmod a b), .int .i64 (divE Int.fmod a b)]) ∧ Kp [] w w' :=
  Rem_any a b w (takeOut_texts a b) ha hb

theorem divB_S {f : Int → Int → Int} {x y : Int} (hx : Ok x) (hy : Ok y) (h0 : y ≠ 0) : divB f (S x) (S y) = resB (f x y) := by
  unfold divB
  rw [if_pos (show chkL [S x, S y] = 0 from chkL_map (zs := [x, y]) (by intro z hz; simp at hz; rcases hz with rfl | rfl <;> assumption)), valS_S, valS_S, if_neg h0]
theorem divE_S {f : Int → Int → Int} {x y : Int} (hx : Ok x) (hy : Ok y) (h0 : y ≠ 0) : divE f (S x) (S y) = resE (f x y) := by
  unfold divE
  rw [if_pos (show chkL [S x, S y] = 0 from chkL_map (zs := [x, y]) (by intro z hz; simp at hz; rcases hz with rfl | rfl <;> assumption)), valS_S, valS_S, if_neg h0]
theorem quoS (x y : Int) (w : World) (hx : Ok x) (hy : Ok y) (h0 : y ≠ 0) (h : Ok (x.fdiv y)) :
    Calls Try.prog 26 #[.string (S x), .string (S y)] w fun e w' => e = .returned (.tuple #[.string (S (x.fdiv y)), .int .i64 0]) ∧ Kp [] w w' := by
  have := Quo_all (S x) (S y) w (Nat.le_trans hx.size (by decide)) (Nat.le_trans hy.size (by decide))
  rw [divB_S hx hy h0, divE_S hx hy h0, show resB (x.fdiv y) = S (x.fdiv y) from if_pos h, show resE (x.fdiv y) = 0 from if_pos h] at this
  exact this
theorem remS (x y : Int) (w : World) (hx : Ok x) (hy : Ok y) (h0 : y ≠ 0) (h : Ok (x.fmod y)) :
    Calls Try.prog 27 #[.string (S x), .string (S y)] w fun e w' => e = .returned (.tuple #[.string (S (x.fmod y)), .int .i64 0]) ∧ Kp [] w w' := by
  have := Rem_all (S x) (S y) w (Nat.le_trans hx.size (by decide)) (Nat.le_trans hy.size (by decide))
  rw [divB_S hx hy h0, divE_S hx hy h0, show resB (x.fmod y) = S (x.fmod y) from if_pos h, show resE (x.fmod y) = 0 from if_pos h] at this
  exact this
end Go.Proofs.Ytbhngccjacdlfaa
