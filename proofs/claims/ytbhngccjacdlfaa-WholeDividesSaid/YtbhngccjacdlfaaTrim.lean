/- Walk over (*number).trim: leading zero words are left out, and the minus of 0. -/
import Derived.Test.YtbhngccjacdlfaaRows
import Derived.WalkKit
import Derived.WalkSpells
import Derived.WalkLawsBesides
import Derived.Lib.Hide
import Derived.Deep.LoopGhost
import Derived.Deep.QuietTactic
import Derived.BigQuiet
import Derived.Test.YtbhngccjacdlfaaMem
namespace Go.Proofs.Ytbhngccjacdlfaa
open Go.RowKit

def tc (f : Nat → Nat) : Nat → Nat
  | 0 => 0
  | c + 1 => if f c = 0 then tc f c else c + 1

set_option maxRecDepth 100000 in
set_option maxHeartbeats 1000000 in
theorem trim_any (g c : Nat) (f : Nat → Nat) (m : Bool) (w : World) (hN : NumF w g f c m) (hc : c ≤ 229) :
    Calls Try.prog 75 #[.pointer (some ⟨g, 0, none⟩)] w fun e w' => e = .returned (.tuple #[]) ∧ NumF w' g f (tc f c) (m && decide (tc f c ≠ 0)) ∧ Kp [g] w w' := by
  go_enter Try.func75, Try.ntmps75
  go_wp2
  go_loopg [] c (fun k wr => k ≤ c ∧ NumF wr g f k m ∧ Hid (tc f k = tc f c) ∧ Kp [g] w wr)
  case atStart => exact ⟨Nat.le_refl _, hN, rfl, Kp.refl _ _⟩
  case round =>
    obtain ⟨hk, hn, ht, hkp⟩ := hrel
    have hcnt := hn.cnt
    have hfr := hn.free 229
    have hfm := hn.free 230
    have hsg := hn.sgn
    cases gk with
    | zero =>
      go_wp2
      go_quiet (fail)
      go_wp2
      go_end0
      have e : tc f c = 0 := ht.out.symm
      exact ⟨rfl, by rw [e]; simpa using (hn.drewN nq).setM false, (hkp.drewN nq).setCell (.inl (by simp)) _⟩
    | succ j =>
      have hw := hn.word (i := j) (by omega)
      have hlo : (0 : Int) ≤ (j : Int) := by omega
      have hhi : (j : Int) < 229 := by omega
      rw [Int.natCast_succ] at hcnt
      go_wp2
      by_cases hz : f j = 0
      · have hb : ((f j : Int) == 0) = true := by simp [hz]
        have hg : decide ((0 : Int) < (j : Int) + 1) = true := decide_eq_true (by omega)
        have hz' := Lib.hid hz; clear hz
        go_quiet (fail)
        go_wp2
        go_roundg j
        case measure => omega
        case rel =>
          exact ⟨by omega, (hn.drewN nq).setC j, by rw [← ht.out]; show _ = if f j = 0 then _ else _; rw [if_pos hz'.out], (hkp.drewN nq).setCell (.inl (by simp)) _⟩
      · have hb : ((f j : Int) == 0) = false := by simp [hz]
        have hg : decide ((0 : Int) < (j : Int) + 1) = true := decide_eq_true (by omega)
        have hc0 : ((j : Int) + 1 == 0) = false := beq_eq_false_iff_ne.2 (by omega)
        have hz' := Lib.hid hz; clear hz
        go_quiet (fail)
        go_wp2
        go_end0
        have e : tc f c = j + 1 := by rw [← ht.out]; show (if f j = 0 then _ else _) = _; rw [if_neg hz'.out]
        exact ⟨rfl, by rw [e]; simpa using hn.drewN nq, hkp.drewN nq⟩
end Go.Proofs.Ytbhngccjacdlfaa
