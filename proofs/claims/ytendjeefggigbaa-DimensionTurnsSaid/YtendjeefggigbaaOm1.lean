/- Paths of dimensions: the mathematics of joins. -/
import Derived.Test.YtendjeefggigbaaOp5
import Derived.Test.YtendjeefggigbaaOl2
namespace Go.Proofs.Ytendjeefggigbaa
open Go.RowKit

theorem w64 {z : Int} (h : -9000000000000000000 ≤ z) (h2 : z ≤ 9000000000000000000) : wrap64 z = z := by
  unfold wrap64
  omega
abbrev DimT.ax (d : DimT) : Int := d.2.2.1
abbrev DimT.lo (d : DimT) : Int := d.2.2.2.1
abbrev DimT.hi (d : DimT) : Int := d.2.2.2.2
theorem vdD_0 {d : DimT} (e : vdD d = 0) : nmE d.1 = 0 ∧ nmE d.2.1 = 0 ∧ (d.1.toList == d.2.1.toList) = false ∧ 0 ≤ d.2.2.1 ∧ d.2.2.1 < 3 ∧ lmE d.2.2.2.1 d.2.2.2.2 = 0 := by
  obtain ⟨f, t, a, l, h⟩ := d
  exact vdE_0 e
theorem vdD_mk {d : DimT} (h1 : nmE d.1 = 0) (h2 : nmE d.2.1 = 0) (h3 : (d.1.toList == d.2.1.toList) = false) (h4 : 0 ≤ d.2.2.1) (h5 : d.2.2.1 < 3) (h6 : lmE d.2.2.2.1 d.2.2.2.2 = 0) : vdD d = 0 := by
  obtain ⟨f, t, a, l, h⟩ := d
  dsimp only at h1 h2 h3 h4 h5 h6
  show vdE f t a l h = 0
  unfold vdE
  rw [h1, h2, fst_0, firstE_one, fst_0, h3, fE_f, fst_0, decide_eq_false (show ¬ a < 0 by omega), decide_eq_false (show ¬ 3 ≤ a by omega), Bool.or_false, fE_f, fst_0, firstE_one, firstE_one, h6]
/-- the dimension of two, where no error comes up -/
def jn (p x : DimT) : DimT := (p.1, x.2.1, p.2.2.1, p.2.2.2.1 + x.2.2.2.1, p.2.2.2.2 + x.2.2.2.2)
theorem jnD_form (p x : DimT) : jnD p x = ((zS (jnD p x).2 p.1, zS (jnD p x).2 x.2.1, zI (jnD p x).2 p.2.2.1, zI (jnD p x).2 (wrap64 (p.2.2.2.1 + x.2.2.2.1)), zI (jnD p x).2 (wrap64 (p.2.2.2.2 + x.2.2.2.2))), (jnD p x).2) := by
  obtain ⟨f, t, a, l, h⟩ := p
  obtain ⟨g, u, c, m, k⟩ := x
  rfl
theorem jnD_err (p x : DimT) : (jnD p x).2 = firstE [firstE [vdD p, vdD x], fE (p.2.2.1 != x.2.2.1 || !(p.2.1.toList == x.1.toList)) 8, fE (p.1.toList == x.2.1.toList) 7, firstE [lmE (wrap64 (p.2.2.2.1 + x.2.2.2.1)) (wrap64 (p.2.2.2.2 + x.2.2.2.2))]] := by
  obtain ⟨f, t, a, l, h⟩ := p
  obtain ⟨g, u, c, m, k⟩ := x
  rfl
theorem jn_conv {p x : DimT} (h : (jnD p x).2 = 0) : vdD p = 0 ∧ vdD x = 0 ∧ p.2.2.1 = x.2.2.1 ∧ (p.2.1.toList == x.1.toList) = true := by
  rw [jnD_err] at h
  by_cases e1 : vdD p = 0
  · by_cases e2 : vdD x = 0
    · rw [e1, e2, fst_0, firstE_one, fst_0] at h
      refine ⟨e1, e2, ?_⟩
      rcases Bool.eq_false_or_eq_true (p.2.2.1 != x.2.2.1) with hx | hx
      · rw [hx, Bool.true_or, fE_t, fst_e (by decide)] at h; cases h
      · rcases Bool.eq_false_or_eq_true (p.2.1.toList == x.1.toList) with hn | hn
        · exact ⟨by simpa using hx, hn⟩
        · rw [hn, Bool.not_false, Bool.or_true, fE_t, fst_e (by decide)] at h; cases h
    · rw [e1, fst_0, firstE_one, fst_e e2] at h; exact absurd h e2
  · rw [fst_e e1, fst_e e1] at h; exact absurd h e1
theorem jn_fact {p x : DimT} (hp : vdD p = 0) (hx : vdD x = 0) (ha : p.2.2.1 = x.2.2.1) (ht : (p.2.1.toList == x.1.toList) = true) :
    ((p.1.toList == x.2.1.toList) = true ∧ (jnD p x).2 = 7) ∨ ((p.1.toList == x.2.1.toList) = false ∧ ¬ (-100000 ≤ p.2.2.2.1 + x.2.2.2.1 ∧ p.2.2.2.2 + x.2.2.2.2 ≤ 100000) ∧ (jnD p x).2 = 2) ∨
    ((p.1.toList == x.2.1.toList) = false ∧ (-100000 ≤ p.2.2.2.1 + x.2.2.2.1 ∧ p.2.2.2.2 + x.2.2.2.2 ≤ 100000) ∧ jnD p x = (jn p x, 0) ∧ vdD (jn p x) = 0) := by
  have he := jnD_err p x
  obtain ⟨a1, a2, a3, a4, a5, a6⟩ := vdD_0 hp
  obtain ⟨b1, b2, b3, b4, b5, b6⟩ := vdD_0 hx
  obtain ⟨c1, c2, c3⟩ := lmE_0 a6
  obtain ⟨d1, d2, d3⟩ := lmE_0 b6
  rw [hp, hx, fst_0, firstE_one, fst_0, show (p.2.2.1 != x.2.2.1) = false by simp [ha], ht, Bool.not_true, Bool.or_false, fE_f, fst_0, firstE_one, w64 (by omega) (by omega), w64 (by omega) (by omega)] at he
  rcases Bool.eq_false_or_eq_true (p.1.toList == x.2.1.toList) with hs | hs
  · rw [hs, fE_t, fst_e (by decide)] at he
    exact .inl ⟨hs, he⟩
  · rw [hs, fE_f, fst_0, firstE_one] at he
    by_cases hr : -100000 ≤ p.2.2.2.1 + x.2.2.2.1 ∧ p.2.2.2.2 + x.2.2.2.2 ≤ 100000
    · have hz := lmE_ok (l := p.2.2.2.1 + x.2.2.2.1) (h := p.2.2.2.2 + x.2.2.2.2) ⟨hr.1, by omega⟩ ⟨by omega, hr.2⟩ (by omega)
      rw [hz] at he
      refine .inr (.inr ⟨hs, hr, ?_, vdD_mk a1 b2 hs a4 a5 hz⟩)
      rw [jnD_form, he, zS_0, zS_0, zI_0, zI_0, zI_0, w64 (by omega) (by omega), w64 (by omega) (by omega)]
      rfl
    · refine .inr (.inl ⟨hs, hr, ?_⟩)
      rcases lmE_in (l := p.2.2.2.1 + x.2.2.2.1) (h := p.2.2.2.2 + x.2.2.2.2) (by omega) with hz | hz
      · obtain ⟨e1, e2, e3⟩ := lmE_0 hz
        exact absurd ⟨e1.1, e2.2⟩ hr
      · rw [he, hz]
end Go.Proofs.Ytendjeefggigbaa
