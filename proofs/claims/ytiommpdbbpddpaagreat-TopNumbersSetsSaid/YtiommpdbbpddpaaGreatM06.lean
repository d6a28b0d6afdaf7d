/- Texts Long, Add: each says in its own first comment what it proves. -/
import Derived.Test.YtiommpdbbpddpaaGreatM02
import Derived.Test.YtiommpdbbpddpaaGreatM01
import Derived.Test.YtiommpdbbpddpaaGreatM04
import Derived.Test.YtiommpdbbpddpaaGreatM03
import Derived.Test.YtiommpdbbpddpaaGreatM05
/- Walks over (*number).long and (*number).low. -/
namespace Go.Proofs.YtiommpdbbpddpaaGreat
open Go.RowKit
open Go.Lib (nDigits)

set_option maxRecDepth 100000 in
set_option maxHeartbeats 2000000 in
theorem low_any (g A : Nat) (m : Bool) (w : World) (hA : Num w g A m) :
    Calls Tryz.prog 155 #[.pointer (some ⟨g, 0, none⟩)] w fun e w' => e = .returned (.int .u64 ((wd A 1 * 1000000000 + wd A 0 : Nat) : Int)) ∧ ∃ n, w' = w.drewN n := by
  have h1 := hA.1.word (i := 1) (by omega)
  have h0 := hA.1.word (i := 0) (by omega)
  have l1 := wd_lt A 1
  have l0 := wd_lt A 0
  have q1 : IntKind.u64.wrap ((wd A 1 : Int) * 1000000000) = (wd A 1 : Int) * 1000000000 := by rw [IntKind.wrap_u64]; omega
  have q2 : IntKind.u64.wrap ((wd A 1 : Int) * 1000000000 + (wd A 0 : Int)) = (wd A 1 : Int) * 1000000000 + (wd A 0 : Int) := by rw [IntKind.wrap_u64]; omega
  go_enter Tryz.func155, Tryz.ntmps155
  go_wp2
  go_quiet (fail)
  go_wp2
  go_ret
  exact ⟨by first | (simp; done) | simp [q1], nq, rfl⟩
end Go.Proofs.YtiommpdbbpddpaaGreat

/- Walk over (*number).add: sums of numbers with signs. -/
namespace Go.Proofs.YtiommpdbbpddpaaGreat
open Go.RowKit

set_option maxRecDepth 100000 in
set_option maxHeartbeats 2000000 in
theorem add_same (g b A B : Nat) (m : Bool) (w : World) (hA : Num w g A m) (hB : Num w b B m) (hgb : g ≠ b) (hA' : A < B9 ^ 228) (hB' : B < B9 ^ 228) :
    Calls Tryz.prog 126 #[.pointer (some ⟨g, 0, none⟩), .pointer (some ⟨b, 0, none⟩)] w fun e w' => e = .returned (.tuple #[]) ∧ Num w' g (A + B) (m && decide (A + B ≠ 0)) ∧ Kp [g] w w' := by
  have h1 := hA.1.sgn
  have h2 := hB.1.sgn
  have hm : (m == m) = true := by simp
  go_enter Tryz.func126, Tryz.ntmps126
  go_wp2
  go_quiet (fail)
  go_wp2_with fail
  refine (grow_any g b A B m m _ ⟨hA.1.drewN _, hA.2⟩ ⟨hB.1.drewN _, hB.2⟩ hgb hA' hB').mono ?_
  rintro e w' ⟨rfl, hn, hk⟩
  go_wp2
  go_end0
  exact ⟨rfl, hn, ((Kp.refl _ _).drewN _).trans hk⟩

set_option maxRecDepth 100000 in
set_option maxHeartbeats 2000000 in
theorem add_ge (g b A B : Nat) (m mb : Bool) (w : World) (hA : Num w g A m) (hB : Num w b B mb) (hgb : g ≠ b) (hm : (m == mb) = false) (hBA : B ≤ A) :
    Calls Tryz.prog 126 #[.pointer (some ⟨g, 0, none⟩), .pointer (some ⟨b, 0, none⟩)] w fun e w' => e = .returned (.tuple #[]) ∧ Num w' g (A - B) (m && decide (A - B ≠ 0)) ∧ Kp [g] w w' := by
  have h1 := hA.1.sgn
  have h2 := hB.1.sgn
  have ho : 0 ≤ ordN A B := by
    unfold ordN
    rw [if_neg (by omega)]; split <;> omega
  go_enter Tryz.func126, Tryz.ntmps126
  go_wp2
  go_quiet (fail)
  go_wp2_with fail
  refine (against_any g b A B m mb _ ⟨hA.1.drewN _, hA.2⟩ ⟨hB.1.drewN _, hB.2⟩).mono ?_
  rintro e w' ⟨rfl, n, rfl⟩
  go_wp2_with fail
  refine (shrink_any g b A B m mb _ ⟨hA.1.drewN _, hA.2⟩ ⟨hB.1.drewN _, hB.2⟩ hgb hBA).mono ?_
  rintro e w' ⟨rfl, hn, hk⟩
  go_wp2
  go_end0
  exact ⟨rfl, hn, ((Kp.refl _ _).drewN _).trans hk⟩

set_option maxRecDepth 100000 in
set_option maxHeartbeats 2000000 in
theorem add_lt (g b A B : Nat) (m mb : Bool) (w : World) (hA : Num w g A m) (hB : Num w b B mb) (_hgb : g ≠ b) (hm : (m == mb) = false) (hBA : A < B) :
    Calls Tryz.prog 126 #[.pointer (some ⟨g, 0, none⟩), .pointer (some ⟨b, 0, none⟩)] w fun e w' => e = .returned (.tuple #[]) ∧ Num w' g (B - A) (mb && decide (B - A ≠ 0)) ∧ Kp [g] w w' := by
  have h1 := hA.1.sgn
  have h2 := hB.1.sgn
  have hg := hA.1.lt
  have hb := hB.1.lt
  have ho : ordN A B < 0 := by
    unfold ordN
    rw [if_pos hBA]; omega
  go_enter Tryz.func126, Tryz.ntmps126
  go_wp2
  go_quiet (fail)
  go_wp2_with fail
  refine (against_any g b A B m mb _ ⟨hA.1.drewN _, hA.2⟩ ⟨hB.1.drewN _, hB.2⟩).mono ?_
  rintro e w' ⟨rfl, n, rfl⟩
  go_wp2_with fail
  have hr : Num ((w.drewN (nq + n)).alloc (.cells Tryz.zeroCells148 148)) w.heap.size 0 false :=
    ⟨by rw [nw_zero]; exact (NumF.made (w.drewN (nq + n))).congr fun i _ => (wd_zero i).symm, B9p_pos _⟩
  refine (set_any w.heap.size b 0 B false mb _ hr ⟨(hB.1.drewN _).alloc _, hB.2⟩ (by omega)).mono ?_
  rintro e w2 ⟨rfl, hn2, hk2⟩
  have hA2 : Num w2 g A m := ⟨((hA.1.drewN (nq + n)).alloc _).kp hk2 (by simp; omega), hA.2⟩
  have hB2 : Num w2 b B mb := ⟨((hB.1.drewN (nq + n)).alloc _).kp hk2 (by simp; omega), hB.2⟩
  go_wp2_with fail
  refine (shrink_any w.heap.size g B A mb m _ hn2 hA2 (by omega) (by omega)).mono ?_
  rintro e w3 ⟨rfl, hn3, hk3⟩
  have hA3 : Num w3 g A m := ⟨hA2.1.kp hk3 (by simp; omega), hA2.2⟩
  go_wp2_with fail
  refine (set_any g w.heap.size A (B - A) m _ _ hA3 hn3 (by omega)).mono ?_
  rintro e w4 ⟨rfl, hn4, hk4⟩
  go_wp2
  go_end0
  refine ⟨rfl, hn4, ?_⟩
  have k0 : Kp [g] w ((w.drewN (nq + n)).alloc (.cells Tryz.zeroCells148 148)) := ((Kp.refl _ _).drewN _).alloc _
  exact ((k0.step hk2 (by simp)).step hk3 (by simp)).trans hk4

/-- the sum of two signed numbers -/
theorem add_any (g b : Nat) (x y : Int) (w : World) (hA : Num w g x.natAbs (decide (x < 0))) (hB : Num w b y.natAbs (decide (y < 0))) (hgb : g ≠ b) (hA' : x.natAbs < B9 ^ 228) (hB' : y.natAbs < B9 ^ 228) :
    Calls Tryz.prog 126 #[.pointer (some ⟨g, 0, none⟩), .pointer (some ⟨b, 0, none⟩)] w fun e w' => e = .returned (.tuple #[]) ∧ Num w' g (x + y).natAbs (decide (x + y < 0)) ∧ Kp [g] w w' := by
  by_cases hs : decide (x < 0) = decide (y < 0)
  · rw [← hs] at hB
    refine (add_same g b _ _ _ w hA hB hgb hA' hB').mono fun e w' ⟨he, hn, hk⟩ => ⟨he, ?_, hk⟩
    have hs' : x < 0 ↔ y < 0 := by simpa using hs
    have e1 : x.natAbs + y.natAbs = (x + y).natAbs := by omega
    have e2 : (decide (x < 0) && decide (x.natAbs + y.natAbs ≠ 0)) = decide (x + y < 0) := by
      rw [Bool.eq_iff_iff]; simp; omega
    rw [e2, e1] at hn; exact hn
  · have hm : (decide (x < 0) == decide (y < 0)) = false := beq_eq_false_iff_ne.2 hs
    have hs' : ¬ (x < 0 ↔ y < 0) := by simpa using hs
    by_cases hBA : y.natAbs ≤ x.natAbs
    · refine (add_ge g b _ _ _ _ w hA hB hgb hm hBA).mono fun e w' ⟨he, hn, hk⟩ => ⟨he, ?_, hk⟩
      have e1 : x.natAbs - y.natAbs = (x + y).natAbs := by omega
      have e2 : (decide (x < 0) && decide (x.natAbs - y.natAbs ≠ 0)) = decide (x + y < 0) := by
        rw [Bool.eq_iff_iff]; simp; omega
      rw [e2, e1] at hn; exact hn
    · refine (add_lt g b _ _ _ _ w hA hB hgb hm (by omega)).mono fun e w' ⟨he, hn, hk⟩ => ⟨he, ?_, hk⟩
      have e1 : y.natAbs - x.natAbs = (x + y).natAbs := by omega
      have e2 : (decide (y < 0) && decide (y.natAbs - x.natAbs ≠ 0)) = decide (x + y < 0) := by
        rw [Bool.eq_iff_iff]; simp; omega
      rw [e2, e1] at hn; exact hn
end Go.Proofs.YtiommpdbbpddpaaGreat
