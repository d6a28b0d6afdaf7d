/- Walks over (*number).long and (*number).low. -/
import Derived.Test.YtbhngccjacdlfaaArr
import Derived.Test.YtbhngccjacdlfaaTxt2
namespace Go.Proofs.Ytbhngccjacdlfaa
open Go.RowKit
open Go.Lib (nDigits)

def ndz (t : Nat) : Nat := if t = 0 then 0 else nDigits t
theorem ndz_step {t : Nat} (h : 0 < t) : ndz t = ndz (t / 10) + 1 := by
  unfold ndz
  rw [if_neg (by omega)]
  by_cases h10 : t < 10
  · rw [Go.Lib.nDigits_small h10, if_pos (by omega)]
  · rw [Go.Lib.nDigits_big h10, if_neg (by omega)]
theorem ndz_le {t : Nat} (h : t < 1000000000) : ndz t ≤ 9 := by
  unfold ndz; split
  · omega
  · exact nd_le (by omega) (by rw [show (10 : Nat) ^ 9 = 1000000000 from rfl]; exact h)

set_option maxRecDepth 100000 in
set_option maxHeartbeats 2000000 in
theorem long_any (g A : Nat) (m : Bool) (w : World) (hA : Num w g A m) :
    Calls Try.prog 63 #[.pointer (some ⟨g, 0, none⟩)] w fun e w' => e = .returned (.bool (decide (1024 < nDigits A))) ∧ ∃ n, w' = w.drewN n := by
  have hca := hA.1.cnt
  have ha := nw_le hA.2
  by_cases h0 : A = 0
  · subst h0
    rw [nw_zero] at hca
    have hv : Hid (decide (1024 < nDigits 0) = false) := by
      show decide _ = _
      rw [Go.Lib.nDigits_small (by omega)]; rfl
    go_enter Try.func63, Try.ntmps63
    go_wp2
    go_ret
    exact ⟨by rw [hv.out]; rfl, 0, rfl⟩
  · have hn0 := nw_ne h0
    have hpos : 0 < nw A := by omega
    have hb : ((nw A : Int) == 0) = false := beq_eq_false_iff_ne.2 (by omega)
    have hnd := Lib.hid (nd_words (u := A) (by omega))
    have htop := Lib.hid (wd_top hpos)
    obtain ⟨j, hj⟩ : ∃ j, nw A = j + 1 := ⟨nw A - 1, by omega⟩
    rw [hj] at hca hb ha
    have hnd2 : Hid (nDigits A = 9 * j + ndz (wd A j)) := by
      have h1 := hnd.out; have h2 := htop.out
      rw [hj, show j + 1 - 1 = j by omega] at h1 h2
      show nDigits A = _
      unfold ndz; rw [if_neg h2]; exact h1
    have hw := hA.1.word (i := j) (by omega)
    have l1 := wd_lt A j
    have hj0 : (0 : Int) ≤ (j : Int) := by omega
    have hj1 : (j : Int) < 229 := by omega
    rw [Int.natCast_succ] at hca hb
    clear hn0 hpos hnd htop hj h0
    go_enter Try.func63, Try.ntmps63
    go_wp2
    go_quiet (fail)
    go_wp2
    go_loopg [3, 4] (wd A j) (fun k s3 s4 wr => ∃ (d : Nat), s4 = .int .u32 (k : Int) ∧ s3 = .int .i64 (d : Int) ∧ k ≤ wd A j ∧ d + ndz k = nDigits A ∧ w.drewN nq = wr)
    case atStart => exact ⟨9 * j, rfl, val_i (by omega), Nat.le_refl _, hnd2.out.symm, rfl⟩
    case round =>
      obtain ⟨d, rfl, rfl, hk, hd, rfl⟩ := hrel
      have hdz : ndz gk ≤ 9 := ndz_le (by omega)
      have hA9 : nDigits A ≤ 2061 := by have := hnd2.out; have := ndz_le l1; omega
      have hd1 : (d : Int) ≤ 2061 := by omega
      have hk2 : (gk : Int) < 1000000000 := by omega
      by_cases hp : 0 < gk
      · have hd' := Lib.hid hd; clear hd
        have hs := Lib.hid (ndz_step hp)
        have hp' : (0 : Int) < (gk : Int) := by omega
        go_wp2
        go_roundg (gk / 10)
        case measure => omega
        case rel => exact ⟨d + 1, val_i (by omega), val_i (by omega), by omega, by rw [← hd'.out, hs.out]; omega, rfl⟩
      · obtain rfl : gk = 0 := by omega
        have e : d = nDigits A := by rw [← hd]; unfold ndz; simp
        subst e
        clear hd
        go_wp2
        go_ret
        exact ⟨by simp; omega, nq, rfl⟩

set_option maxRecDepth 100000 in
set_option maxHeartbeats 2000000 in
theorem low_any (g A : Nat) (m : Bool) (w : World) (hA : Num w g A m) :
    Calls Try.prog 82 #[.pointer (some ⟨g, 0, none⟩)] w fun e w' => e = .returned (.int .u64 ((wd A 1 * 1000000000 + wd A 0 : Nat) : Int)) ∧ ∃ n, w' = w.drewN n := by
  have h1 := hA.1.word (i := 1) (by omega)
  have h0 := hA.1.word (i := 0) (by omega)
  have l1 := wd_lt A 1
  have l0 := wd_lt A 0
  have q1 : IntKind.u64.wrap ((wd A 1 : Int) * 1000000000) = (wd A 1 : Int) * 1000000000 := by rw [IntKind.wrap_u64]; omega
  have q2 : IntKind.u64.wrap ((wd A 1 : Int) * 1000000000 + (wd A 0 : Int)) = (wd A 1 : Int) * 1000000000 + (wd A 0 : Int) := by rw [IntKind.wrap_u64]; omega
  go_enter Try.func82, Try.ntmps82
  go_wp2
  go_quiet (fail)
  go_wp2
  go_ret
  exact ⟨by simp [q1, q2], nq, rfl⟩
end Go.Proofs.Ytbhngccjacdlfaa
