/- Texts RPlus: each says in its own first comment what it proves. -/
import Derived.Test.YtiommpdbbpddpaaGreatM18
import Derived.Test.YtiommpdbbpddpaaGreatM16
import Derived.Test.YtiommpdbbpddpaaGreatM17
/- The reference's Plus: the sum of two integers of any size. -/
namespace Go.Proofs.YtiommpdbbpddpaaGreat
open Go.RowKit
open Go.Lib (nDigits itoa decDigits)

theorem brief_lt {x y : Int} (h : Brief x y) : -1000000000000000000 < x ∧ x < 1000000000000000000 ∧ -1000000000000000000 < y ∧ y < 1000000000000000000 := by
  have h1 := (nd_le_iff (u := x.natAbs) (k := 18) (by omega)).1 h.1
  have h2 := (nd_le_iff (u := y.natAbs) (k := 18) (by omega)).1 h.2
  have e : 10 ^ 18 = 1000000000000000000 := rfl
  omega
theorem abs_sz {z : Int} {k : Nat} (h : nDigits z.natAbs ≤ k) : (S z).size ≤ k + 1 := Nat.le_trans (S_size z) (by omega)
def pMax (u v : Nat) : Nat := (if nDigits u < nDigits v then nDigits v else nDigits u) + 1
theorem pMax_le {u v k : Nat} (hu : nDigits u ≤ k) (hv : nDigits v ≤ k) : pMax u v ≤ k + 1 := by unfold pMax; split <;> omega
theorem nd_add {u v k : Nat} (hk : 1 ≤ k) (hu : nDigits u ≤ k) (hv : nDigits v ≤ k) : nDigits (u + v) ≤ k + 1 := by
  have h1 := (nd_le_iff hk).1 hu
  have h2 := (nd_le_iff hk).1 hv
  refine (nd_le_iff (by omega)).2 ?_
  rw [Nat.pow_succ]; omega
theorem nd_sub {u v k : Nat} (hk : 1 ≤ k) (hu : nDigits u ≤ k) : nDigits (u - v) ≤ k := by
  have h1 := (nd_le_iff hk).1 hu
  exact (nd_le_iff hk).2 (by omega)

set_option maxRecDepth 100000 in
set_option maxHeartbeats 2000000 in
theorem plus_any (x y : Int) (w : World) (hx : nDigits x.natAbs ≤ 3000) (hy : nDigits y.natAbs ≤ 3000) :
    Calls Tryz.prog 77 #[.string (S x), .string (S y)] w fun e w' => e = .returned (.string (S (x + y))) ∧ Kp [] w w' := by
  have sx := abs_sz hx
  have sy := abs_sz hy
  by_cases hb : Brief x y
  · have q1 := Lib.hid (fun W => brief_S x y W (by omega) (by omega) hb)
    obtain ⟨x1, x2, y1, y2⟩ := brief_lt hb
    have q2 := Lib.hid (fun W => of_any (x + y) W (by omega) (by omega))
    generalize S (x + y) = r at *
    generalize S x = s at *
    generalize S y = t at *
    clear hb hx hy sx sy
    go_enter Tryz.func77, Tryz.ntmps77
    go_wp2_with fail
    refine (q1.out _).mono ?_
    rintro e w1 ⟨rfl, rfl⟩
    go_wp2_with fail
    refine (q2.out _).mono ?_
    rintro e w2 ⟨rfl, k2⟩
    go_wp2
    go_ret
    exact ⟨rfl, k2⟩
  · have q1 := Lib.hid (fun W => brief_not x y W (by omega) (by omega) hb)
    have q2 := size_S x (by omega)
    have q3 := size_S y (by omega)
    have q4 := Lib.hid (fun W => below_any x W)
    have q5 := Lib.hid (fun W => below_any y W)
    have q6 := Lib.hid (fun W => rless_S x.natAbs y.natAbs W)
    clear hb
    by_cases hs : decide (x < 0) = decide (y < 0)
    · have hsb : (decide (x < 0) == decide (y < 0)) = true := by rw [hs]; simp
      have q7 := Lib.hid (fun W => paper_add x.natAbs y.natAbs (pMax x.natAbs y.natAbs) W rfl (Nat.le_trans (pMax_le hx hy) (by omega)))
      have q8 := Lib.hid (fun W => signed_any (x.natAbs + y.natAbs) (decide (x < 0)) W (Nat.le_trans (abs_sz (k := 3001) (by rw [Int.natAbs_natCast]; exact nd_add (by omega) hx hy)) (by omega)))
      have hv : (if decide (x < 0) = true then -((x.natAbs + y.natAbs : Nat) : Int) else ((x.natAbs + y.natAbs : Nat) : Int)) = x + y := by
        have hs' : x < 0 ↔ y < 0 := by simpa using hs
        by_cases h : x < 0
        · rw [if_pos (by simpa using h)]; omega
        · rw [if_neg (by simpa using h)]; omega
      rw [hv] at q8
      generalize S (x + y) = r at *
      generalize S ((x.natAbs + y.natAbs : Nat) : Int) = p at *
      generalize S (x.natAbs : Int) = m at *
      generalize S (y.natAbs : Int) = n at *
      generalize S x = s at *
      generalize S y = t at *
      generalize decide (x < 0) = d at *
      generalize decide (y < 0) = f at *
      clear hv hx hy sx sy hs
      go_enter Tryz.func77, Tryz.ntmps77
      go_wp2_with fail
      refine (q1.out _).mono ?_
      rintro e w1 ⟨rfl, rfl⟩
      go_wp2_with fail
      refine (q2.out _).mono ?_
      rintro e w2 ⟨rfl, rfl⟩
      go_wp2_with fail
      refine (q3.out _).mono ?_
      rintro e w3 ⟨rfl, rfl⟩
      go_wp2_with fail
      refine (q4.out _).mono ?_
      rintro e w4 ⟨rfl, rfl⟩
      go_wp2_with fail
      refine (q5.out _).mono ?_
      rintro e w5 ⟨rfl, rfl⟩
      go_wp2_with fail
      refine (q7.out _).mono ?_
      rintro e w7 ⟨rfl, k7⟩
      go_wp2_with fail
      refine (q4.out _).mono ?_
      rintro e w8 ⟨rfl, rfl⟩
      go_wp2_with fail
      refine (q8.out _).mono ?_
      rintro e w9 ⟨rfl, rfl⟩
      go_wp2
      go_ret
      exact ⟨rfl, k7⟩
    · have hsb : (decide (x < 0) == decide (y < 0)) = false := by
        cases h1 : decide (x < 0) <;> cases h2 : decide (y < 0) <;> simp_all
      have hs' : ¬ (x < 0 ↔ y < 0) := by simpa using hs
      by_cases hl : x.natAbs < y.natAbs
      · have hlb : decide (x.natAbs < y.natAbs) = true := decide_eq_true hl
        have q7 := Lib.hid (fun W => paper_sub y.natAbs x.natAbs (pMax y.natAbs x.natAbs) W (Nat.le_of_lt hl) rfl (Nat.le_trans (pMax_le hy hx) (by omega)))
        have q8 := Lib.hid (fun W => signed_any (y.natAbs - x.natAbs) (decide (y < 0)) W (Nat.le_trans (abs_sz (k := 3000) (by rw [Int.natAbs_natCast]; exact nd_sub (by omega) hy)) (by omega)))
        have hv : (if decide (y < 0) = true then -((y.natAbs - x.natAbs : Nat) : Int) else ((y.natAbs - x.natAbs : Nat) : Int)) = x + y := by
          by_cases h : y < 0
          · rw [if_pos (by simpa using h)]; omega
          · rw [if_neg (by simpa using h)]; omega
        rw [hv] at q8
        rw [hlb] at q6
        generalize S (x + y) = r at *
        generalize S ((y.natAbs - x.natAbs : Nat) : Int) = p at *
        generalize S (x.natAbs : Int) = m at *
        generalize S (y.natAbs : Int) = n at *
        generalize S x = s at *
        generalize S y = t at *
        generalize decide (x < 0) = d at *
        generalize decide (y < 0) = f at *
        clear hv hx hy sx sy hs hs' hl hlb
        go_enter Tryz.func77, Tryz.ntmps77
        go_wp2_with fail
        refine (q1.out _).mono ?_
        rintro e w1 ⟨rfl, rfl⟩
        go_wp2_with fail
        refine (q2.out _).mono ?_
        rintro e w2 ⟨rfl, rfl⟩
        go_wp2_with fail
        refine (q3.out _).mono ?_
        rintro e w3 ⟨rfl, rfl⟩
        go_wp2_with fail
        refine (q4.out _).mono ?_
        rintro e w4 ⟨rfl, rfl⟩
        go_wp2_with fail
        refine (q5.out _).mono ?_
        rintro e w5 ⟨rfl, rfl⟩
        go_wp2_with fail
        refine (q6.out _).mono ?_
        rintro e w6 ⟨rfl, rfl⟩
        go_wp2_with fail
        refine (q7.out _).mono ?_
        rintro e w7 ⟨rfl, k7⟩
        go_wp2_with fail
        refine (q5.out _).mono ?_
        rintro e w8 ⟨rfl, rfl⟩
        go_wp2_with fail
        refine (q8.out _).mono ?_
        rintro e w9 ⟨rfl, rfl⟩
        go_wp2
        go_ret
        exact ⟨rfl, k7⟩
      · have hlb : decide (x.natAbs < y.natAbs) = false := decide_eq_false hl
        have q7 := Lib.hid (fun W => paper_sub x.natAbs y.natAbs (pMax x.natAbs y.natAbs) W (Nat.le_of_not_lt hl) rfl (Nat.le_trans (pMax_le hx hy) (by omega)))
        have q8 := Lib.hid (fun W => signed_any (x.natAbs - y.natAbs) (decide (x < 0)) W (Nat.le_trans (abs_sz (k := 3000) (by rw [Int.natAbs_natCast]; exact nd_sub (by omega) hx)) (by omega)))
        have hv : (if decide (x < 0) = true then -((x.natAbs - y.natAbs : Nat) : Int) else ((x.natAbs - y.natAbs : Nat) : Int)) = x + y := by
          by_cases h : x < 0
          · rw [if_pos (by simpa using h)]; omega
          · rw [if_neg (by simpa using h)]; omega
        rw [hv] at q8
        rw [hlb] at q6
        generalize S (x + y) = r at *
        generalize S ((x.natAbs - y.natAbs : Nat) : Int) = p at *
        generalize S (x.natAbs : Int) = m at *
        generalize S (y.natAbs : Int) = n at *
        generalize S x = s at *
        generalize S y = t at *
        generalize decide (x < 0) = d at *
        generalize decide (y < 0) = f at *
        clear hv hx hy sx sy hs hs' hl hlb
        go_enter Tryz.func77, Tryz.ntmps77
        go_wp2_with fail
        refine (q1.out _).mono ?_
        rintro e w1 ⟨rfl, rfl⟩
        go_wp2_with fail
        refine (q2.out _).mono ?_
        rintro e w2 ⟨rfl, rfl⟩
        go_wp2_with fail
        refine (q3.out _).mono ?_
        rintro e w3 ⟨rfl, rfl⟩
        go_wp2_with fail
        refine (q4.out _).mono ?_
        rintro e w4 ⟨rfl, rfl⟩
        go_wp2_with fail
        refine (q5.out _).mono ?_
        rintro e w5 ⟨rfl, rfl⟩
        go_wp2_with fail
        refine (q6.out _).mono ?_
        rintro e w6 ⟨rfl, rfl⟩
        go_wp2_with fail
        refine (q7.out _).mono ?_
        rintro e w7 ⟨rfl, k7⟩
        go_wp2_with fail
        refine (q4.out _).mono ?_
        rintro e w8 ⟨rfl, rfl⟩
        go_wp2_with fail
        refine (q8.out _).mono ?_
        rintro e w9 ⟨rfl, rfl⟩
        go_wp2
        go_ret
        exact ⟨rfl, k7⟩

theorem plus_all : PlusAll := fun x y W hx hy => plus_any x y W (Nat.le_trans hx (by omega)) (Nat.le_trans hy (by omega))
end Go.Proofs.YtiommpdbbpddpaaGreat
