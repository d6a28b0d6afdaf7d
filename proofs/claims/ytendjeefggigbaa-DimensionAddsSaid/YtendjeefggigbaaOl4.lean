/- Laws of package dimension: Adds returns true. -/
import Derived.Test.YtendjeefggigbaaOl2
import Derived.Test.YtendjeefggigbaaOl3
namespace Go.Proofs.Ytendjeefggigbaa
open Go.RowKit

theorem w64 {z : Int} (h : -1000000 ≤ z ∧ z ≤ 1000000) : wrap64 z = z := by unfold wrap64; omega
theorem wi64 {z : Int} (h : -1000000 ≤ z ∧ z ≤ 1000000) : IntKind.i64.wrap z = z := IntWalk.i64_in _ (by omega)
theorem tm_in {p n : Int} (hp : 0 ≤ p) (hn : 0 < n) : 0 ≤ p.tmod n ∧ p.tmod n < n := by
  rw [Int.tmod_eq_emod_of_nonneg hp]
  exact ⟨Int.emod_nonneg _ (by omega), Int.emod_lt_of_pos _ hn⟩
theorem adds_true (l h m k p q : Int) (hp : 0 ≤ p ∧ p ≤ 65535) (hq : 0 ≤ q ∧ q ≤ 65535) (w : World) : Lw 9 #[.agg #[.int .i64 l, .int .i64 h], .agg #[.int .i64 m, .int .i64 k], .agg #[.int .u16 p, .int .u16 q]] w := by
  have q1 := rCheck l h
  have q2 := rCheck m k
  by_cases ea : lmE l h = 0
  · by_cases eb : lmE m k = 0
    · rw [ea] at q1
      rw [eb] at q2
      obtain ⟨a1, a2, a3⟩ := lmE_0 ea
      obtain ⟨b1, b2, b3⟩ := lmE_0 eb
      have q3 := dNeg l h
      rw [ea, zI_0, zI_0, w64 (show -1000000 ≤ -h ∧ -h ≤ 1000000 by omega), w64 (show -1000000 ≤ -l ∧ -l ≤ 1000000 by omega)] at q3
      have q4 := dAdd l h (-h) (-l)
      have e2 : lm2 l h (-h) (-l) = 0 := (lm2_0 ea).trans (lmE_ok (by omega) (by omega) (by omega))
      rw [adE_0 e2, w64 (show -1000000 ≤ l + -h ∧ l + -h ≤ 1000000 by omega), w64 (show -1000000 ≤ h + -l ∧ h + -l ≤ 1000000 by omega)] at q4
      have q5 := dAdd l h m k
      have e3 : lm2 l h m k = 0 := (lm2_0 ea).trans eb
      rw [adE_0 e3, w64 (show -1000000 ≤ l + m ∧ l + m ≤ 1000000 by omega), w64 (show -1000000 ≤ h + k ∧ h + k ≤ 1000000 by omega)] at q5
      have t1 := tm_in (p := p) (n := h - l + 1) hp.1 (by omega)
      have t2 := tm_in (p := q) (n := k - m + 1) hq.1 (by omega)
      have f1 : IntKind.i64.wrap (h - l) = h - l := wi64 (by omega)
      have f2 : IntKind.i64.wrap (h - l + 1) = h - l + 1 := wi64 (by omega)
      have f5 : IntKind.i64.wrap (l + p.tmod (h - l + 1)) = l + p.tmod (h - l + 1) := wi64 (by omega)
      have f6 : IntKind.i64.wrap (k - m) = k - m := wi64 (by omega)
      have f7 : IntKind.i64.wrap (k - m + 1) = k - m + 1 := wi64 (by omega)
      have f10 : IntKind.i64.wrap (m + q.tmod (k - m + 1)) = m + q.tmod (k - m + 1) := wi64 (by omega)
      have f11 : IntKind.i64.wrap p = p := wi64 (by omega)
      have f12 : IntKind.i64.wrap q = q := wi64 (by omega)
      have f15 : wrap64 (l + p.tmod (h - l + 1) + (m + q.tmod (k - m + 1))) = l + p.tmod (h - l + 1) + (m + q.tmod (k - m + 1)) := w64 (by omega)
      have f16 : wrap64 (l + m) = l + m := w64 (by omega)
      have f17 : wrap64 (h + k) = h + k := w64 (by omega)
      rcases lmE_in (show l + m ≤ h + k by omega) with es | es
      · rw [es, zI_0, zI_0] at q5
        have q6 := dContains (l + m) (h + k) (l + p.tmod (h - l + 1) + (m + q.tmod (k - m + 1)))
        rw [es, zB_0, hasB_iff.2 (by omega)] at q6
        rcases lmE_in (show l + -h ≤ h + -l by omega) with ez | ez
        · rw [ez, zI_0, zI_0] at q4
          exact adds_zo l h m k p q _ _ (l + -h) (h + -l) q1 q2 q3 (by omega) (by omega) (by rw [w64 (by omega)]; omega) q4 _ _ _ _ _ _ _ _ _ f1 f2 (by omega) rfl f5 f6 f7 (by omega) rfl f10 f11 f12 f15 f16 f17 q5 q6 dawake w
        · rw [ez, zI_e (by decide), zI_e (by decide)] at q4
          exact adds_eo l h m k p q _ _ _ q1 q2 q3 (by decide) q4 _ _ _ _ _ _ _ _ _ f1 f2 (by omega) rfl f5 f6 f7 (by omega) rfl f10 f11 f12 f15 f16 f17 q5 q6 dawake w
      · rw [es, zI_e (by decide), zI_e (by decide)] at q5
        rcases lmE_in (show l + -h ≤ h + -l by omega) with ez | ez
        · rw [ez, zI_0, zI_0] at q4
          exact adds_ze l h m k p q _ _ (l + -h) (h + -l) q1 q2 q3 (by omega) (by omega) (by rw [w64 (by omega)]; omega) q4 q5 dawake w
        · rw [ez, zI_e (by decide), zI_e (by decide)] at q4
          exact adds_ee l h m k p q _ _ _ q1 q2 q3 (by decide) q4 q5 dawake w
    · rw [ea] at q1
      exact adds_o2 l h m k p q _ (ne_b eb) q1 q2 dawake w
  · exact adds_o1 l h m k p q _ (ne_b ea) q1 dawake w
end Go.Proofs.Ytendjeefggigbaa
