/- Fits of a hole H that are right: limits, clearance, kind in numbers; the laws' own runRight and runFits. -/
import Derived.Test.YtmjkiccoimhfkaaDoorFg2
namespace Go.Proofs.YtmjkiccoimhfkaaDoor
open Go.RowKit

abbrev fitV (z k gh gs : Int) : Value := .agg #[.int .i64 z, .bool true, .int .i64 4, .int .i64 gh, .bool false, .int .i64 k, .int .i64 gs]
/-- the number of the error of a fit of a hole H -/
def c16 (z k gh gs : Int) : Int := if ((szE z) != 0) = true then szE z else if ((clE 4 gh) != 0) = true then clE 4 gh else if ((clE k gs) != 0) = true then clE k gs else if ((glE z true 4 gh) != 0) = true then glE z true 4 gh else glE z false k gs
theorem r16c (z k gh gs : Int) : Cg 20 #[fitV z k gh gs] (.int .i64 (c16 z k gh gs)) := (r16_any z k gh gs).to (by unfold c16; (repeat' split) <;> rfl)
structure RtF (z k gh gs : Int) : Prop where
  z1 : 1 ≤ z
  z2 : z ≤ 100000
  k0 : 0 ≤ k
  k9 : k ≤ 9
  h5 : 5 ≤ gh
  h12 : gh ≤ 12
  s5 : 5 ≤ gs
  s12 : gs ≤ 12
  eh : glE z true 4 gh = 0
  es : glE z false k gs = 0
theorem ne_t {a : Int} (h : ¬ (a != 0) = true) : a = 0 := by simpa using h
theorem c16_ok {z k gh gs : Int} (h : c16 z k gh gs = 0) : RtF z k gh gs := by
  unfold c16 at h
  split at h
  · rename_i h1; rw [h] at h1; exact absurd h1 (by decide)
  rename_i h1
  split at h
  · rename_i h1; rw [h] at h1; exact absurd h1 (by decide)
  rename_i h2
  split at h
  · rename_i h1; rw [h] at h1; exact absurd h1 (by decide)
  rename_i h3
  split at h
  · rename_i h1; rw [h] at h1; exact absurd h1 (by decide)
  rename_i h4
  replace h1 := ne_t h1
  have g2 := clE_ok (ne_t h2)
  have g3 := clE_ok (ne_t h3)
  have hz : 1 ≤ z ∧ z ≤ 100000 := by
    unfold szE at h1
    split at h1
    · assumption
    · omega
  exact ⟨hz.1, hz.2, g3.1.1, g3.1.2, g2.2.1, g2.2.2, g3.2.1, g3.2.2, ne_t h4, h⟩
theorem fE_ne {a : Int} (h : a = 0) : ¬ (a != 0) = true := by simp [h]
theorem c16_of {z k gh gs : Int} (r : RtF z k gh gs) : c16 z k gh gs = 0 := by
  have e1 : szE z = 0 := if_pos ⟨r.z1, r.z2⟩
  have e2 : clE 4 gh = 0 := by unfold clE grE; rw [if_pos (by omega), if_pos ⟨r.h5, r.h12⟩]
  have e3 : clE k gs = 0 := by unfold clE grE; rw [if_pos ⟨r.k0, r.k9⟩, if_pos ⟨r.s5, r.s12⟩]
  unfold c16
  rw [if_neg (fE_ne e1), if_neg (fE_ne e2), if_neg (fE_ne e3), if_neg (fE_ne r.eh), r.es]
/-- the deviations of the shaft -/
def dnI (z k gs : Int) : Int := dvLo k.toNat (shiI z k.toNat) (tolI z gs)
def upI (z k gs : Int) : Int := dvHi k.toNat (shiI z k.toNat) (tolI z gs)
theorem dn_bd (z k gs : Int) : -462 ≤ dnI z k gs ∧ dnI z k gs ≤ 110 ∧ -110 ≤ upI z k gs ∧ upI z k gs ≤ 462 := by
  have hs := shiI_bd z k.toNat; have ht := tolI_bd z gs
  exact dv_bd k.toNat (shiI z k.toNat) (tolI z gs) hs.1 hs.2 (by omega) ht.2
theorem shi4 (z : Int) : shiI z 4 = 0 := by
  unfold shiI shiP
  rw [show shfI 4 = 0 from rfl, Int.mul_zero]; rfl
section
variable {z k gh gs : Int} (r : RtF z k gh gs)
include r
theorem RtF.dvh : dvE z 4 gh = 0 := by unfold dvE clE grE; rw [if_pos ⟨r.z1, r.z2⟩, if_pos (by omega), if_pos ⟨r.h5, r.h12⟩]
theorem RtF.dvs : dvE z k gs = 0 := by unfold dvE clE grE; rw [if_pos ⟨r.z1, r.z2⟩, if_pos ⟨r.k0, r.k9⟩, if_pos ⟨r.s5, r.s12⟩]
theorem RtF.hl : glL z true 4 gh = z := by
  unfold glL dvL devLo dvHi
  rw [if_pos r.eh, if_pos r.dvh, if_pos rfl, show (4 : Int).toNat = 4 from rfl, if_pos (by omega), shi4]; omega
theorem RtF.hh : glH z true 4 gh = z + tolI z gh := by
  unfold glH dvH devHi dvLo
  rw [if_pos r.eh, if_pos r.dvh, if_pos rfl, show (4 : Int).toNat = 4 from rfl, if_pos (by omega), shi4]; omega
theorem RtF.sl : glL z false k gs = z + dnI z k gs := by
  unfold glL dvL devLo dnI
  rw [if_pos r.es, if_pos r.dvs, if_neg (by decide)]
theorem RtF.sh : glH z false k gs = z + upI z k gs := by
  unfold glH dvH devHi upI
  rw [if_pos r.es, if_pos r.dvs, if_neg (by decide)]
theorem RtF.lims : 1 ≤ z + dnI z k gs ∧ z + upI z k gs ≤ 100000 ∧ z + tolI z gh ≤ 100000 := by
  have e1 := r.eh; have e2 := r.es
  have a1 := r.dvh; have a2 := r.dvs
  have b1 : dvH z true 4 gh = tolI z gh := by
    unfold dvH devHi dvLo
    rw [if_pos r.dvh, if_pos rfl, show (4 : Int).toNat = 4 from rfl, if_pos (by omega), shi4]; omega
  have b2 : dvL z false k gs = dnI z k gs := by unfold dvL devLo dnI; rw [if_pos r.dvs, if_neg (by decide)]
  have b3 : dvH z false k gs = upI z k gs := by unfold dvH devHi upI; rw [if_pos r.dvs, if_neg (by decide)]
  unfold glE at e1 e2
  rw [if_pos a1, b1] at e1
  rw [if_pos a2, b2, b3] at e2
  refine ⟨?_, ?_, ?_⟩
  · split at e2 <;> omega
  · split at e2 <;> omega
  · split at e1 <;> omega
theorem RtF.cls : Cg 34 #[fitV z k gh gs] (.int .i64 0) := (fcls_any z k gh gs).to (by
  have e2 : clE 4 gh = 0 := by unfold clE grE; rw [if_pos (by omega), if_pos ⟨r.h5, r.h12⟩]
  have e3 : clE k gs = 0 := by unfold clE grE; rw [if_pos ⟨r.k0, r.k9⟩, if_pos ⟨r.s5, r.s12⟩]
  have := r.z1; have := r.z2
  rw [if_neg (by omega), if_neg (by omega), if_neg (fE_ne e2), if_neg (fE_ne e3)])
theorem RtF.lim : Cg 17 #[fitV z k gh gs] (.tuple #[.agg #[.int .i64 z, .int .i64 (z + tolI z gh)], .agg #[.int .i64 (z + dnI z k gs), .int .i64 (z + upI z k gs)], .int .i64 0]) := by
  have q1 := gLimits z 4 gh true
  have q2 := gLimits z k gs false
  rw [r.hl, r.hh, r.eh] at q1
  rw [r.sl, r.sh, r.es] at q2
  exact fLim_any z k gh gs _ _ _ _ r.cls q1.cg q2.cg
/-- the clearance -/
theorem RtF.clr : Cg 8 #[fitV z k gh gs] (.tuple #[.agg #[.int .i64 (-upI z k gs), .int .i64 (tolI z gh - dnI z k gs)], .int .i64 0]) := by
  have b := dn_bd z k gs
  have t := tolI_bd z gh
  have := r.z1; have := r.z2
  refine (fClr_any z k gh gs _ _ _ _ r.lim).to ?_
  rw [Go.IntWalk.wrap64_in (z - (z + upI z k gs)) (by omega), Go.IntWalk.wrap64_in (z + tolI z gh - (z + dnI z k gs)) (by omega), show z - (z + upI z k gs) = -upI z k gs by omega, show z + tolI z gh - (z + dnI z k gs) = tolI z gh - dnI z k gs by omega]
def kdI (l h : Int) : Int := if 0 ≤ l then 0 else if h ≤ 0 then 2 else 1
theorem RtF.kind : Cg 10 #[fitV z k gh gs] (.tuple #[.int .i64 (kdI (-upI z k gs) (tolI z gh - dnI z k gs)), .int .i64 0]) := (fKnd_any z k gh gs _ _ r.clr).to (by
  unfold kdI; (repeat' split) <;> rfl)
end
theorem rt0 : RtF 25000 3 7 6 := c16_ok (by decide)
theorem fRun : Cg 7 #[] (.bool true) := by
  have q := rt0.clr
  rw [show -upI 25000 3 6 = 7 by decide, show tolI 25000 7 - dnI 25000 3 6 = 41 by decide] at q
  exact fRun_any q
end Go.Proofs.YtmjkiccoimhfkaaDoor
