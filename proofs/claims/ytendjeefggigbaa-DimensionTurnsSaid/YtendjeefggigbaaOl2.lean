/- Laws of package dimension: Names, Holds, Sums, Meets return true. -/
import Derived.Test.YtendjeefggigbaaOl1
namespace Go.Proofs.Ytendjeefggigbaa
open Go.RowKit

theorem lmE_0 {l h : Int} (e : lmE l h = 0) : (-100000 ≤ l ∧ l ≤ 100000) ∧ (-100000 ≤ h ∧ h ≤ 100000) ∧ l ≤ h := by
  rw [lmE_eq] at e
  by_cases c : inR l = true ∧ inR h = true
  · rw [if_pos c] at e
    by_cases d : h < l
    · rw [if_pos d] at e; omega
    · exact ⟨inR_iff.1 c.1, inR_iff.1 c.2, by omega⟩
  · rw [if_neg c] at e; omega
theorem lmE_ok {l h : Int} (a : -100000 ≤ l ∧ l ≤ 100000) (b : -100000 ≤ h ∧ h ≤ 100000) (c : l ≤ h) : lmE l h = 0 := by
  rw [lmE_eq, if_pos ⟨inR_iff.2 a, inR_iff.2 b⟩, if_neg (by omega)]
theorem lmE_in {l h : Int} (c : l ≤ h) : lmE l h = 0 ∨ lmE l h = 2 := by
  rw [lmE_eq]
  by_cases d : inR l = true ∧ inR h = true
  · rw [if_pos d, if_neg (by omega)]; exact .inl rfl
  · rw [if_neg d]; exact .inr rfl
theorem hasB_iff {l h v : Int} : hasB l h v = true ↔ l ≤ v ∧ v ≤ h := by unfold hasB; simp
theorem hasB_f {l h v : Int} (c : ¬ (l ≤ v ∧ v ≤ h)) : hasB l h v = false := by
  rcases Bool.eq_false_or_eq_true (hasB l h v) with e | e
  · exact absurd (hasB_iff.1 e) c
  · exact e
def Lw (F : Nat) (args : Array Value) (w : World) : Prop := Calls Try.prog F args w fun r w' => r = .returned (.bool true) ∧ Kb w w'
theorem names_true (s : ByteArray) (l h n0 n1 n2 : Int) (w : World) : Lw 3 #[.string s, .agg #[.int .i64 l, .int .i64 h], .agg #[.int .i64 n0, .int .i64 n1, .int .i64 n2]] w := by
  by_cases hs : 100 < s.size
  · exact names_long s l h n0 n1 n2 hs dawake w
  · exact names_core s l h n0 n1 n2 _ _ _ _ _ hs (dOf n0 n1 n2) (rOf n0 n1 n2) (dName s (by omega)) (rName s (by omega)) (dCheck l h) (rCheck l h) dawake w
theorem holds_true (l h m k v : Int) (w : World) : Lw 4 #[.agg #[.int .i64 l, .int .i64 h], .agg #[.int .i64 m, .int .i64 k], .int .i64 v] w :=
  holds_core l h m k v _ _ _ _ _ _ _ (dContains l h v) (rContains l h v) (dInside l h m k) (rInside l h m k) (dNeg l h) (rNeg l h) dawake w
theorem sums_true (l h m k : Int) (w : World) : Lw 5 #[.agg #[.int .i64 l, .int .i64 h], .agg #[.int .i64 m, .int .i64 k]] w :=
  sums_core l h m k _ _ _ _ _ _ (dMeet l h m k) (rMeet l h m k) (dAdd l h m k) (rAdd l h m k) dawake w
theorem mx_in (l m : Int) : l ≤ mxI l m ∧ m ≤ mxI l m ∧ (mxI l m = l ∨ mxI l m = m) := by unfold mxI; split <;> omega
theorem mn_in (h k : Int) : mnI h k ≤ h ∧ mnI h k ≤ k ∧ (mnI h k = h ∨ mnI h k = k) := by unfold mnI; split <;> omega
theorem meets_true (l h m k v : Int) (w : World) : Lw 8 #[.agg #[.int .i64 l, .int .i64 h], .agg #[.int .i64 m, .int .i64 k], .int .i64 v] w := by
  have q1 := rCheck l h
  have q2 := rCheck m k
  by_cases ea : lmE l h = 0
  · by_cases eb : lmE m k = 0
    · rw [ea] at q1
      rw [eb] at q2
      have q3 := dContains l h v
      have q4 := dContains m k v
      have q5 := dInside l h m k
      have q6 := dMeet l h m k
      have e2 : lm2 l h m k = 0 := (lm2_0 ea).trans eb
      rw [ea, zB_0] at q3
      rw [eb, zB_0] at q4
      rw [e2, zB_0] at q5
      obtain ⟨a1, a2, a3⟩ := lmE_0 ea
      obtain ⟨b1, b2, b3⟩ := lmE_0 eb
      obtain ⟨x1, x2, x3⟩ := mx_in l m
      obtain ⟨y1, y2, y3⟩ := mn_in h k
      by_cases hc : mnI h k < mxI l m
      · have et : mtE' l h m k = 16 := mtE_x e2 hc
        rw [et, zI_e (by decide), zI_e (by decide)] at q6
        have hi : (hasB m k l && hasB m k h) = false := by
          rcases Bool.eq_false_or_eq_true (hasB m k l && hasB m k h) with e | e
          · rw [Bool.and_eq_true, hasB_iff, hasB_iff] at e; omega
          · exact e
        rw [hi] at q5
        rcases Bool.eq_false_or_eq_true (hasB l h v) with e | e
        · have e' : hasB m k v = false := hasB_f (fun c => by have := hasB_iff.1 e; omega)
          rw [e] at q3
          rw [e'] at q4
          exact meets_c2 l h m k v q1 q2 q3 q4 q5 q6 dawake w
        · rw [e] at q3
          exact meets_c1 l h m k v _ q1 q2 q3 q4 q5 q6 dawake w
      · have et : mtE' l h m k = 0 := mtE_o e2 hc
        rw [et, zI_0, zI_0] at q6
        have q7 := dContains (mxI l m) (mnI h k) v
        rw [lmE_ok (by omega) (by omega) (by omega), zB_0] at q7
        have hz : hasB (mxI l m) (mnI h k) v = (hasB l h v && hasB m k v) := by
          rw [Bool.eq_iff_iff, Bool.and_eq_true, hasB_iff, hasB_iff, hasB_iff]; omega
        rw [hz] at q7
        have hin : (hasB m k l && hasB m k h) = true ↔ (mxI l m = l ∧ mnI h k = h) := by
          rw [Bool.and_eq_true, hasB_iff, hasB_iff]; omega
        generalize mxI l m = x at *
        generalize mnI h k = y at *
        rcases Bool.eq_false_or_eq_true (hasB m k l && hasB m k h) with ei | ei
        · obtain ⟨rfl, rfl⟩ := hin.1 ei
          rw [ei] at q5
          rcases Bool.eq_false_or_eq_true (hasB x y v) with e | e
          · rw [e] at q3 q7
            rw [Bool.true_and] at q7
            exact meets_m2a x y m k v _ q1 q2 q3 q4 q5 q6 q7 dawake w
          · rw [e] at q3 q7
            rw [Bool.false_and] at q7
            exact meets_m1a x y m k v _ q1 q2 q3 q4 q5 q6 q7 dawake w
        · have hn : ¬ (x = l ∧ y = h) := fun c => by rw [hin.2 c] at ei; cases ei
          rw [ei] at q5
          by_cases hx : x = l
          · subst hx
            have hy : (y == h) = false := beq_eq_false_iff_ne.2 (fun c => hn ⟨rfl, c⟩)
            rcases Bool.eq_false_or_eq_true (hasB x h v) with e | e
            · rw [e] at q3 q7
              rw [Bool.true_and] at q7
              exact meets_m2c x h m k v y hy _ q1 q2 q3 q4 q5 q6 q7 dawake w
            · rw [e] at q3 q7
              rw [Bool.false_and] at q7
              exact meets_m1c x h m k v y hy _ q1 q2 q3 q4 q5 q6 q7 dawake w
          · have hx' : (x == l) = false := beq_eq_false_iff_ne.2 hx
            rcases Bool.eq_false_or_eq_true (hasB l h v) with e | e
            · rw [e] at q3 q7
              rw [Bool.true_and] at q7
              exact meets_m2b l h m k v x y hx' _ q1 q2 q3 q4 q5 q6 q7 dawake w
            · rw [e] at q3 q7
              rw [Bool.false_and] at q7
              exact meets_m1b l h m k v x y hx' _ q1 q2 q3 q4 q5 q6 q7 dawake w
    · rw [ea] at q1
      exact meets_o2 l h m k v _ (ne_b eb) q1 q2 dawake w
  · exact meets_o1 l h m k v _ (ne_b ea) q1 dawake w
end Go.Proofs.Ytendjeefggigbaa
