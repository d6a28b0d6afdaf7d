/- Walk over (*number).shrink: the magnitude of a difference. -/
import Derived.Test.YtbhngccjacdlfaaKit
namespace Go.Proofs.Ytbhngccjacdlfaa
open Go.RowKit

theorem wrap_u32_sub {x y b t : Nat} (hx : x < 1000000000) (hy : y < 1000000000) (hb : b ≤ 1) (ht : t ≤ 1000000000) (h : x + b * 1000000000 = y + t) :
    IntKind.u32.wrap ((x : Int) + IntKind.u32.wrap ((b : Int) * 1000000000 - (t : Int))) = (y : Int) := by
  rw [IntKind.wrap_u32, IntKind.wrap_u32]; omega

set_option maxRecDepth 100000 in
set_option maxHeartbeats 2000000 in
theorem shrink_any (g b A B : Nat) (m mb : Bool) (w : World) (hA : Num w g A m) (hB : Num w b B mb) (hgb : g ≠ b) (hBA : B ≤ A) :
    Calls Try.prog 88 #[.pointer (some ⟨g, 0, none⟩), .pointer (some ⟨b, 0, none⟩)] w fun e w' => e = .returned (.tuple #[]) ∧ Num w' g (A - B) (m && decide (A - B ≠ 0)) ∧ Kp [g] w w' := by
  have hca := hA.1.cnt
  have ha := nw_le hA.2
  go_enter Try.func88, Try.ntmps88
  go_wp2
  clear hca
  go_loopw [4, 11] (fun s4 s11 wr => ∃ k : Nat, k ≤ nw A ∧ s11 = .int .i64 k ∧ s4 = .int .u32 (bw A B k) ∧ NumF wr g (mix (wd (A - B)) (wd A) k) (nw A) m ∧ Num wr b B mb ∧ Kp [g] w wr)
    (fun _ i _ => nw A - (intOf i).toNat)
  case atStart => exact ⟨0, Nat.zero_le _, rfl, by rw [bw_zero]; rfl, by rw [mix_zero]; exact hA.1, hB, Kp.refl _ _⟩
  case round =>
    obtain ⟨k, hk, rfl, rfl, hn, hbn, hkp⟩ := hrel
    have hk1 : (k : Int) ≤ 229 := by omega
    have hbw := bw_le A B k
    have hfr := hn.free k
    by_cases hlt : k < nw A
    · have hwa := hn.word (i := k) (by omega)
      rw [mix_ge _ _ (Nat.le_refl _)] at hwa
      have hwb := hbn.1.word (i := k) (by omega)
      have l1 := wd_lt A k
      have l2 := wd_lt B k
      have l3 := wd_lt (A - B) k
      have e1 := Lib.hid (wd_sub A B k hBA)
      have e2 := Lib.hid (bw_succ A B k)
      by_cases hs : wd A k < wd B k + bw A B k
      · have hs' : (wd A k : Int) < (wd B k : Int) + (bw A B k : Int) := by omega
        clear hs
        go_wp2
        go_region
        all_goals go_wp2
        go_roundw
        case rel =>
          have e1 := e1.out
          have e2 := e2.out
          unfold B9 at e1
          rw [if_pos (by omega)] at e2
          rw [e2] at e1
          refine ⟨k + 1, by omega, by go_num, by rw [e2]; rfl, ?_, ⟨(hbn.1.far (p := ⟨g, k, none⟩) (fun e => hgb e.symm) _).drew, hbn.2⟩, (hkp.setCell (.inl (by simp)) _).drew⟩
          rw [← mix_set]; exact (hn.setW' (by omega) (by omega)).drew
        case measure => simp [intOf]; omega
      · have hs' : ¬ (wd A k : Int) < (wd B k : Int) + (bw A B k : Int) := by omega
        clear hs
        go_wp2
        go_region
        all_goals go_wp2
        go_roundw
        case rel =>
          have e1 := e1.out
          have e2 := e2.out
          unfold B9 at e1
          rw [if_neg (by omega)] at e2
          rw [e2] at e1
          refine ⟨k + 1, by omega, by go_num, by rw [e2]; rfl, ?_, ⟨(hbn.1.far (p := ⟨g, k, none⟩) (fun e => hgb e.symm) _).drew, hbn.2⟩, (hkp.setCell (.inl (by simp)) _).drew⟩
          rw [← mix_set]; exact (hn.setW' (by omega) (by omega)).drew
        case measure => simp [intOf]; omega
    · obtain rfl : k = nw A := by omega
      go_wp2_with fail
      have hX : A - B < B9 ^ nw A := Nat.lt_of_le_of_lt (Nat.sub_le _ _) (lt_pow_nw A)
      refine (trim_num g (nw A) (A - B) _ m _ hn (by omega) hX (fun i _ => ?_)).mono ?_
      · by_cases h2 : i < nw A
        · rw [mix_lt _ _ h2]
        · rw [mix_ge _ _ (by omega), wd_beyond (by omega), wd_of_lt (Nat.lt_of_lt_of_le hX (pow_le (by omega)))]
      rintro e w' ⟨rfl, hnum, hkp'⟩
      go_wp2
      go_end0
      exact ⟨rfl, hnum, hkp.trans hkp'⟩
end Go.Proofs.Ytbhngccjacdlfaa
