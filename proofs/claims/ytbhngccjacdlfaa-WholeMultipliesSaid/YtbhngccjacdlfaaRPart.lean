/- The reference's Parted: quotient and remainder. -/
import Derived.Test.YtbhngccjacdlfaaRDiv
import Derived.Test.YtbhngccjacdlfaaM31
import Derived.Test.YtbhngccjacdlfaaRPartM
namespace Go.Proofs.Ytbhngccjacdlfaa
open Go.RowKit
open Go.Lib (nDigits itoa decDigits)

set_option maxRecDepth 100000 in
set_option maxHeartbeats 4000000 in
theorem parted_brief (x y : Int) (w : World) (hb : Brief x y) (hy : y ≠ 0) (sx : (S x).size ≤ 1000) (sy : (S y).size ≤ 1000) :
    Calls Try.prog 56 #[.string (S x), .string (S y)] w fun e w' => e = .returned (.tuple #[.string (S (x.fdiv y)), .string (S (x.fmod y))]) ∧ Kp [] w w' := by
  have q1 := Lib.hid (fun W => brief_S x y W (by omega) (by omega) hb)
  obtain ⟨x1, x2, y1, y2⟩ := brief_lt hb
  have f := fmod_side (x := x) hy
  have hfd := fdiv_small (x := x) hy
  have q2 := Lib.hid (fun W => of_any (x.fdiv y) W (by omega) (by omega))
  have q3 := Lib.hid (fun W => of_any (x.fmod y) W (by omega) (by omega))
  have hex := part_exact (x := x) hy
  have hy0 : (y == 0) = false := beq_eq_false_iff_ne.2 hy
  have ts := tmod_side (x := x) hy
  have tf := tmod_fix (x := x) hy
  obtain ⟨T, hT⟩ : ∃ T, x.tmod y = T := ⟨_, rfl⟩
  rw [hT] at ts tf
  generalize x.fdiv y = D at *
  generalize x.fmod y = F at *
  have t1 : -1000000000000000000 < T ∧ T < 1000000000000000000 := by omega
  have f1 : -1000000000000000000 < F ∧ F < 1000000000000000000 := by omega
  have d1 : -2000000000000000000 < D ∧ D < 2000000000000000000 := by omega
  obtain ⟨t2, t3⟩ := t1
  obtain ⟨f2, f3⟩ := f1
  obtain ⟨d2, d3⟩ := d1
  generalize S D = rd at *
  generalize S F = rf at *
  generalize S x = s at *
  generalize S y = t at *
  clear hb f hfd ts sx sy
  rcases tf with ⟨ha, rfl⟩ | ⟨ha, hb, rfl⟩
  · rcases ha with rfl | ⟨ha, hb⟩
    · rw [Int.sub_zero] at hex
      have hw : wrap64 (x.tdiv y) = D := by rw [hex]; unfold wrap64; omega
      go_enter Try.func56, Try.ntmps56
      go_wp2_with fail
      refine (q1.out _).mono ?_
      rintro e w1 ⟨rfl, rfl⟩
      go_wp2_with fail
      try rw [hw]
      with_reducible refine (q2.out _).mono ?_
      rintro e w2 ⟨rfl, k2⟩
      go_wp2_with fail
      with_reducible refine (q3.out _).mono ?_
      rintro e w3 ⟨rfl, k3⟩
      go_wp2
      go_ret2
      exact ⟨rfl, k2.trans k3⟩
    · have ha2 : (F != 0) = true := bne_iff_ne.2 ha
      have hb3 : (!(decide (F < 0) == decide (y < 0))) = false := hb
      have hw : wrap64 ((x - F).tdiv y) = D := by rw [hex]; unfold wrap64; omega
      clear ha hb
      go_enter Try.func56, Try.ntmps56
      go_wp2_with fail
      refine (q1.out _).mono ?_
      rintro e w1 ⟨rfl, rfl⟩
      go_wp2_with fail
      try rw [hw]
      with_reducible refine (q2.out _).mono ?_
      rintro e w2 ⟨rfl, k2⟩
      go_wp2_with fail
      with_reducible refine (q3.out _).mono ?_
      rintro e w3 ⟨rfl, k3⟩
      go_wp2
      go_ret2
      exact ⟨rfl, k2.trans k3⟩
  · have ha2 : (T != 0) = true := bne_iff_ne.2 ha
    clear ha
    have w1 : wrap64 (T + y) = T + y := by unfold wrap64; omega
    have hb3 : (!(decide (T < 0) == decide (y < 0))) = true := hb
    have hw : wrap64 ((x - (T + y)).tdiv y) = D := by rw [hex]; unfold wrap64; omega
    clear hb
    go_enter Try.func56, Try.ntmps56
    go_wp2_with fail
    refine (q1.out _).mono ?_
    rintro e w1 ⟨rfl, rfl⟩
    go_wp2_with fail
    try rw [hw]
    with_reducible refine (q2.out _).mono ?_
    rintro e w2 ⟨rfl, k2⟩
    go_wp2_with fail
    with_reducible refine (q3.out _).mono ?_
    rintro e w3 ⟨rfl, k3⟩
    go_wp2
    go_ret2
    exact ⟨rfl, k2.trans k3⟩
end Go.Proofs.Ytbhngccjacdlfaa
