/- The reference's Gcd, and its Divide for all texts. -/
import Derived.Test.YtbhngccjacdlfaaRShared
import Derived.Test.YtbhngccjacdlfaaM14
import Derived.Test.YtbhngccjacdlfaaM19
namespace Go.Proofs.Ytbhngccjacdlfaa
open Go.RowKit
open Go.Lib (nDigits itoa decDigits)

theorem gcd_ok {x y : Int} (hx : Ok x) (hy : Ok y) : Ok (gcdI x y) := by
  unfold Ok gcdI
  rw [Int.natAbs_natCast]
  rcases Nat.eq_zero_or_pos x.natAbs with h | h
  · rw [h, Nat.gcd_zero_left]; exact hy
  · exact Nat.le_trans (nd_mono (Nat.gcd_le_left _ h)) hx
set_option maxHeartbeats 1000000 in
theorem RGcd_any (a b : ByteArray) (w : World) (ha : a.size ≤ 9223372036854775807) (hb : b.size ≤ 9223372036854775807) :
    Calls Try.prog 30 #[.string a, .string b] w fun e w' => e = .returned (.tuple #[.string (binB gcdI a b), .int .i64 (binE gcdI a b)]) ∧ Kp [] w w' := by
  have q1 := Lib.hid (fun W => both_any a b W ha hb)
  by_cases h : chkL [a, b] = 0
  · obtain ⟨x, y, rfl, rfl, hx, hy⟩ := chkL2 h
    have q2 := Lib.hid (fun W => shared_any x y W hx hy)
    have hok : Ok (gcdI x y) := gcd_ok hx hy
    have e1 : resB (gcdI x y) = S (gcdI x y) := if_pos hok
    have e2 : resE (gcdI x y) = 0 := if_pos hok
    rw [binB_S h, binE_S h]
    rw [h] at q1
    show Calls Try.prog 30 #[.string (S x), .string (S y)] w fun e w' => e = .returned (.tuple #[.string (resB (gcdI x y)), .int .i64 (resE (gcdI x y))]) ∧ Kp [] w w'
    rw [e1, e2]
    clear hx hy h ha hb hok e1 e2
    change Hid (∀ W, Calls Try.prog 58 #[.string (S x), .string (S y)] W fun e w' => e = .returned (.string (S (gcdI x y))) ∧ Kp [] W w') at q2
    generalize S (gcdI x y) = r at *
    generalize S x = a at *
    generalize S y = b at *
    go_enter Try.func30, Try.ntmps30
    go_wp2_with fail
    refine (q1.out _).mono ?_
    rintro e w' ⟨rfl, rfl⟩
    go_wp2_with fail
    refine (q2.out _).mono ?_
    rintro e w' ⟨rfl, hk⟩
    go_wp2
    go_ret2
    exact ⟨rfl, hk⟩
  · have hv1 : Hid (binB gcdI a b = ⟨#[]⟩) := by show binB gcdI a b = _; unfold binB; rw [if_neg h]
    have hv2 : Hid (binE gcdI a b = chkL [a, b]) := by show binE gcdI a b = _; unfold binE; rw [if_neg h]
    have hb2 : (chkL [a, b] != 0) = true := bne_iff_ne.2 h
    rw [hv1.out, hv2.out]
    clear h hv1 hv2 ha hb
    generalize chkL [a, b] = c at *
    go_enter Try.func30, Try.ntmps30
    go_wp2_with fail
    refine (q1.out _).mono ?_
    rintro e w' ⟨rfl, rfl⟩
    go_wp2
    go_ret2
    exact ⟨rfl, Kp.refl _ _⟩


theorem RDivide_any (a b : ByteArray) (w : World) (ha : a.size ≤ 9223372036854775807) (hb : b.size ≤ 9223372036854775807) :
    Calls Try.prog 28 #[.string a, .string b] w fun e w' => e = .returned (.tuple #[.string (divB Int.fdiv a b), .string (divB Int.fmod a b), .int .i64 (divE Int.fdiv a b)]) ∧ Kp [] w w' ∧ divE Int.fdiv a b = divE Int.fmod a b := by
  by_cases h : chkL [a, b] = 0
  · obtain ⟨x, y, rfl, rfl, hx, hy⟩ := chkL2 h
    unfold divB divE
    rw [if_pos h, if_pos h, if_pos h, if_pos h, valS_S, valS_S]
    by_cases h0 : y = 0
    · subst h0
      rw [if_pos rfl, if_pos rfl, if_pos rfl, if_pos rfl]
      exact (RDivide_zero _ w ha h).mono (fun e w' hh => ⟨hh.1, hh.2, rfl⟩)
    · have o1 := fdiv_ok h0 hx
      have o2 := fmod_ok (x := x) h0 hy
      rw [if_neg h0, if_neg h0, if_neg h0, if_neg h0, show resB (x.fdiv y) = S (x.fdiv y) from if_pos o1, show resB (x.fmod y) = S (x.fmod y) from if_pos o2, show resE (x.fdiv y) = 0 from if_pos o1, show resE (x.fmod y) = 0 from if_pos o2]
      exact (RDivide_ok x y w h hx hy h0).mono (fun e w' hh => ⟨hh.1, hh.2, rfl⟩)
  · unfold divB divE
    rw [if_neg h, if_neg h, if_neg h, if_neg h]
    exact (RDivide_bad a b w ha hb h).mono (fun e w' hh => ⟨hh.1, hh.2, rfl⟩)
end Go.Proofs.Ytbhngccjacdlfaa
