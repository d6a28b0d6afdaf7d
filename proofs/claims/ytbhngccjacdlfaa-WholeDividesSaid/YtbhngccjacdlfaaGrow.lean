/- Walks over (*number).grow: the magnitude of a sum. -/
import Derived.Test.YtbhngccjacdlfaaKit
namespace Go.Proofs.Ytbhngccjacdlfaa
open Go.RowKit

set_option maxRecDepth 100000 in
set_option maxHeartbeats 2000000 in
theorem grow_any (g b A B : Nat) (m mb : Bool) (w : World) (hA : Num w g A m) (hB : Num w b B mb) (hgb : g ≠ b) (hA' : A < B9 ^ 228) (hB' : B < B9 ^ 228) :
    Calls Try.prog 87 #[.pointer (some ⟨g, 0, none⟩), .pointer (some ⟨b, 0, none⟩)] w fun e w' => e = .returned (.tuple #[]) ∧ Num w' g (A + B) (m && decide (A + B ≠ 0)) ∧ Kp [g] w w' := by
  have hca := hA.1.cnt
  have hcb := hB.1.cnt
  have ha := nw_le hA'
  have hb := nw_le hB'
  go_enter Try.func87, Try.ntmps87
  go_wp2
  go_quiet (fail)
  all_goals go_wp2
  · have hE : nw A ≤ (nw B) ∧ nw B ≤ (nw B) ∧ (nw B) ≤ 228 := by omega
    obtain ⟨hE1, hE2, hE3⟩ := hE
    clear ha hb hca hcb
    go_loopw [5, 18] (fun s5 s18 wr => ∃ k : Nat, k ≤ (nw B) ∧ s18 = .int .i64 k ∧ s5 = .int .u32 (cy A B k) ∧ NumF wr g (mix (wd (A + B)) (wd A) k) (nw A) m ∧ Num wr b B mb ∧ Kp [g] w wr)
      (fun _ i _ => (nw B) - (intOf i).toNat)
    case atStart => exact ⟨0, Nat.zero_le _, rfl, by rw [cy_zero]; rfl, by rw [mix_zero]; exact hA.1.drewN _, ⟨hB.1.drewN _, hB.2⟩, (Kp.refl _ _).drewN _⟩
    case round =>
      obtain ⟨k, hk, rfl, rfl, hn, hbn, hkp⟩ := hrel
      have hk1 : (k : Int) ≤ 228 := by omega
      have hcy := cy_le A B k
      have hfr := hn.free k
      by_cases hlt : k < (nw B)
      · have hwa := hn.word (i := k) (by omega)
        rw [mix_ge _ _ (Nat.le_refl _)] at hwa
        have hwb := hbn.1.word (i := k) (by omega)
        have l1 := wd_lt A k
        have l2 := wd_lt B k
        go_wp2
        go_quiet (fail)
        go_wp2
        go_roundw
        case rel =>
          have e1 := wd_add A B k
          have e2 := cy_succ A B k
          unfold B9 at e1 e2
          refine ⟨k + 1, by omega, by go_num, val_i (by omega), ?_, ⟨(hbn.1.drewN _).far (p := ⟨g, k, none⟩) (fun e => hgb e.symm) _, hbn.2⟩, (hkp.drewN _).setCell (.inl (by simp)) _⟩
          rw [← mix_set]; exact (hn.drewN _).setW' (by omega) (by omega)
        case measure => simp [intOf]; omega
      · obtain rfl : k = (nw B) := by omega
        have hcnt := hn.cnt
        have hf2 := hn.free 229
        have hwe := hn.word (i := (nw B)) (by omega)
        rw [mix_ge _ _ (Nat.le_refl _)] at hwe
        go_wp2_with fail
        have hX : A + B < B9 ^ ((nw B) + 1) := by
          have a1 := Nat.lt_of_lt_of_le (lt_pow_nw A) (pow_le hE1)
          have a2 := Nat.lt_of_lt_of_le (lt_pow_nw B) (pow_le hE2)
          rw [Nat.pow_succ]; unfold B9 at *; omega
        have hn2 : NumF ((wr.setCell ⟨g, (nw B), none⟩ (.int .u32 (cy A B (nw B)))).setCell ⟨g, 229, none⟩ (.int .i64 (((nw B) : Int) + 1))) g (wd (A + B)) ((nw B) + 1) m := by
          refine (((hn.setW (i := (nw B)) (by omega) (cy A B (nw B))).setC' (x := (nw B) + 1) (by omega))).congr (fun i _ => ?_)
          unfold upd
          by_cases h1 : i = (nw B)
          · subst h1
            rw [if_pos rfl]
            have a1 := Nat.lt_of_lt_of_le (lt_pow_nw A) (pow_le hE1)
            have a2 := Nat.lt_of_lt_of_le (lt_pow_nw B) (pow_le hE2)
            have e1 := wd_add A B (nw B)
            rw [wd_of_lt a1, wd_of_lt a2] at e1; simp only [Nat.zero_add] at e1
            rw [← e1, Nat.mod_eq_of_lt]; unfold B9; omega
          · rw [if_neg h1]
            by_cases h2 : i < (nw B)
            · rw [mix_lt _ _ h2]
            · rw [mix_ge _ _ (by omega), wd_of_lt (Nat.lt_of_lt_of_le (lt_pow_nw A) (pow_le (by omega))), wd_of_lt (Nat.lt_of_lt_of_le hX (pow_le (by omega)))]
        refine (trim_num g ((nw B) + 1) (A + B) _ m _ hn2 (by omega) hX (fun _ _ => rfl)).mono ?_
        rintro e w' ⟨rfl, hnum, hkp'⟩
        go_wp2
        go_end0
        exact ⟨rfl, hnum, ((hkp.setCell (.inl (by simp)) _).setCell (.inl (by simp)) _).trans hkp'⟩
  · have hE : nw A ≤ (nw A) ∧ nw B ≤ (nw A) ∧ (nw A) ≤ 228 := by omega
    obtain ⟨hE1, hE2, hE3⟩ := hE
    clear ha hb hca hcb
    go_loopw [5, 18] (fun s5 s18 wr => ∃ k : Nat, k ≤ (nw A) ∧ s18 = .int .i64 k ∧ s5 = .int .u32 (cy A B k) ∧ NumF wr g (mix (wd (A + B)) (wd A) k) (nw A) m ∧ Num wr b B mb ∧ Kp [g] w wr)
      (fun _ i _ => (nw A) - (intOf i).toNat)
    case atStart => exact ⟨0, Nat.zero_le _, rfl, by rw [cy_zero]; rfl, by rw [mix_zero]; exact hA.1.drewN _, ⟨hB.1.drewN _, hB.2⟩, (Kp.refl _ _).drewN _⟩
    case round =>
      obtain ⟨k, hk, rfl, rfl, hn, hbn, hkp⟩ := hrel
      have hk1 : (k : Int) ≤ 228 := by omega
      have hcy := cy_le A B k
      have hfr := hn.free k
      by_cases hlt : k < (nw A)
      · have hwa := hn.word (i := k) (by omega)
        rw [mix_ge _ _ (Nat.le_refl _)] at hwa
        have hwb := hbn.1.word (i := k) (by omega)
        have l1 := wd_lt A k
        have l2 := wd_lt B k
        go_wp2
        go_quiet (fail)
        go_wp2
        go_roundw
        case rel =>
          have e1 := wd_add A B k
          have e2 := cy_succ A B k
          unfold B9 at e1 e2
          refine ⟨k + 1, by omega, by go_num, val_i (by omega), ?_, ⟨(hbn.1.drewN _).far (p := ⟨g, k, none⟩) (fun e => hgb e.symm) _, hbn.2⟩, (hkp.drewN _).setCell (.inl (by simp)) _⟩
          rw [← mix_set]; exact (hn.drewN _).setW' (by omega) (by omega)
        case measure => simp [intOf]; omega
      · obtain rfl : k = (nw A) := by omega
        have hcnt := hn.cnt
        have hf2 := hn.free 229
        have hwe := hn.word (i := (nw A)) (by omega)
        rw [mix_ge _ _ (Nat.le_refl _)] at hwe
        go_wp2_with fail
        have hX : A + B < B9 ^ ((nw A) + 1) := by
          have a1 := Nat.lt_of_lt_of_le (lt_pow_nw A) (pow_le hE1)
          have a2 := Nat.lt_of_lt_of_le (lt_pow_nw B) (pow_le hE2)
          rw [Nat.pow_succ]; unfold B9 at *; omega
        have hn2 : NumF ((wr.setCell ⟨g, (nw A), none⟩ (.int .u32 (cy A B (nw A)))).setCell ⟨g, 229, none⟩ (.int .i64 (((nw A) : Int) + 1))) g (wd (A + B)) ((nw A) + 1) m := by
          refine (((hn.setW (i := (nw A)) (by omega) (cy A B (nw A))).setC' (x := (nw A) + 1) (by omega))).congr (fun i _ => ?_)
          unfold upd
          by_cases h1 : i = (nw A)
          · subst h1
            rw [if_pos rfl]
            have a1 := Nat.lt_of_lt_of_le (lt_pow_nw A) (pow_le hE1)
            have a2 := Nat.lt_of_lt_of_le (lt_pow_nw B) (pow_le hE2)
            have e1 := wd_add A B (nw A)
            rw [wd_of_lt a1, wd_of_lt a2] at e1; simp only [Nat.zero_add] at e1
            rw [← e1, Nat.mod_eq_of_lt]; unfold B9; omega
          · rw [if_neg h1]
            by_cases h2 : i < (nw A)
            · rw [mix_lt _ _ h2]
            · rw [mix_ge _ _ (by omega), wd_of_lt (Nat.lt_of_lt_of_le (lt_pow_nw A) (pow_le (by omega))), wd_of_lt (Nat.lt_of_lt_of_le hX (pow_le (by omega)))]
        refine (trim_num g ((nw A) + 1) (A + B) _ m _ hn2 (by omega) hX (fun _ _ => rfl)).mono ?_
        rintro e w' ⟨rfl, hnum, hkp'⟩
        go_wp2
        go_end0
        exact ⟨rfl, hnum, ((hkp.setCell (.inl (by simp)) _).setCell (.inl (by simp)) _).trans hkp'⟩
end Go.Proofs.Ytbhngccjacdlfaa
