/- Texts Growa, Shrink, Word, Prefix: each says in its own first comment what it proves. -/
import Derived.Test.YtiommpdbbpddpaaGreatM02
import Derived.Test.YtiommpdbbpddpaaGreatM01
import Derived.Lib.Strings
/- Walks over (*number).grow: the magnitude of a sum. -/
namespace Go.Proofs.YtiommpdbbpddpaaGreat
open Go.RowKit

set_option maxRecDepth 100000 in
set_option maxHeartbeats 2000000 in
theorem grow_any (g b A B : Nat) (m mb : Bool) (w : World) (hA : Num w g A m) (hB : Num w b B mb) (hgb : g ≠ b) (hA' : A < B9 ^ 228) (hB' : B < B9 ^ 228) :
    Calls Tryz.prog 145 #[.pointer (some ⟨g, 0, none⟩), .pointer (some ⟨b, 0, none⟩)] w fun e w' => e = .returned (.tuple #[]) ∧ Num w' g (A + B) (m && decide (A + B ≠ 0)) ∧ Kp [g] w w' := by
  have hca := hA.1.cnt
  have hcb := hB.1.cnt
  have ha := nw_le hA'
  have hb := nw_le hB'
  go_enter Tryz.func145, Tryz.ntmps145
  go_wp2
  go_quiet (fail)
  all_goals go_wp2
  · have hE : nw A ≤ (nw B) ∧ nw B ≤ (nw B) ∧ (nw B) ≤ 228 := by omega
    obtain ⟨hE1, hE2, hE3⟩ := hE
    clear ha hb hca hcb
    go_loopw [5, 18] (fun s5 s18 wr => ∃ k : Nat, k ≤ (nw B) ∧ s18 = .int .i64 k ∧ s5 = .int .u32 (cy A B k) ∧ NumF wr g (mix (wd (A + B)) (wd A) k) (nw A) m ∧ Num wr b B mb ∧ Kp [g] w wr)
      (fun _ i _ => (nw B) - (intOf i).toNat)
    case atStart => exact ⟨0, Nat.zero_le _, rfl, by rw [cy_zero]; rfl, by rw [mix_zero]; exact hA.1.drewN _, ⟨hB.1.drewN _, hB.2⟩, (Kp.refl _ _).drewN _⟩
    case round =>
      obtain ⟨k, hk, rfl, rfl, hn, hbn, hkp⟩ := hrel
      have hk1 : (k : Int) ≤ 228 := by omega
      have hcy := cy_le A B k
      have hfr := hn.free k
      by_cases hlt : k < (nw B)
      · have hwa := hn.word (i := k) (by omega)
        rw [mix_ge _ _ (Nat.le_refl _)] at hwa
        have hwb := hbn.1.word (i := k) (by omega)
        have l1 := wd_lt A k
        have l2 := wd_lt B k
        go_wp2
        go_quiet (fail)
        go_wp2
        go_roundw
        case rel =>
          have e1 := wd_add A B k
          have e2 := cy_succ A B k
          unfold B9 at e1 e2
          refine ⟨k + 1, by omega, by go_num, val_i (by omega), ?_, ⟨(hbn.1.drewN _).far (p := ⟨g, k, none⟩) (fun e => hgb e.symm) _, hbn.2⟩, (hkp.drewN _).setCell (.inl (by simp)) _⟩
          rw [← mix_set]; exact (hn.drewN _).setW' (by omega) (by omega)
        case measure => simp [intOf]; omega
      · obtain rfl : k = (nw B) := by omega
        have hcnt := hn.cnt
        have hf2 := hn.free 229
        have hwe := hn.word (i := (nw B)) (by omega)
        rw [mix_ge _ _ (Nat.le_refl _)] at hwe
        go_wp2_with fail
        have hX : A + B < B9 ^ ((nw B) + 1) := by
          have a1 := Nat.lt_of_lt_of_le (lt_pow_nw A) (pow_le hE1)
          have a2 := Nat.lt_of_lt_of_le (lt_pow_nw B) (pow_le hE2)
          rw [Nat.pow_succ]; unfold B9 at *; omega
        have hn2 : NumF ((wr.setCell ⟨g, (nw B), none⟩ (.int .u32 (cy A B (nw B)))).setCell ⟨g, 229, none⟩ (.int .i64 (((nw B) : Int) + 1))) g (wd (A + B)) ((nw B) + 1) m := by
          refine (((hn.setW (i := (nw B)) (by omega) (cy A B (nw B))).setC' (x := (nw B) + 1) (by omega))).congr (fun i _ => ?_)
          unfold upd
          by_cases h1 : i = (nw B)
          · subst h1
            rw [if_pos rfl]
            have a1 := Nat.lt_of_lt_of_le (lt_pow_nw A) (pow_le hE1)
            have a2 := Nat.lt_of_lt_of_le (lt_pow_nw B) (pow_le hE2)
            have e1 := wd_add A B (nw B)
            rw [wd_of_lt a1, wd_of_lt a2] at e1; simp only [Nat.zero_add] at e1
            rw [← e1, Nat.mod_eq_of_lt]; unfold B9; omega
          · rw [if_neg h1]
            by_cases h2 : i < (nw B)
            · rw [mix_lt _ _ h2]
            · rw [mix_ge _ _ (by omega), wd_of_lt (Nat.lt_of_lt_of_le (lt_pow_nw A) (pow_le (by omega))), wd_of_lt (Nat.lt_of_lt_of_le hX (pow_le (by omega)))]
        refine (trim_num g ((nw B) + 1) (A + B) _ m _ hn2 (by omega) hX (fun _ _ => rfl)).mono ?_
        rintro e w' ⟨rfl, hnum, hkp'⟩
        go_wp2
        go_end0
        exact ⟨rfl, hnum, ((hkp.setCell (.inl (by simp)) _).setCell (.inl (by simp)) _).trans hkp'⟩
  · have hE : nw A ≤ (nw A) ∧ nw B ≤ (nw A) ∧ (nw A) ≤ 228 := by omega
    obtain ⟨hE1, hE2, hE3⟩ := hE
    clear ha hb hca hcb
    go_loopw [5, 18] (fun s5 s18 wr => ∃ k : Nat, k ≤ (nw A) ∧ s18 = .int .i64 k ∧ s5 = .int .u32 (cy A B k) ∧ NumF wr g (mix (wd (A + B)) (wd A) k) (nw A) m ∧ Num wr b B mb ∧ Kp [g] w wr)
      (fun _ i _ => (nw A) - (intOf i).toNat)
    case atStart => exact ⟨0, Nat.zero_le _, rfl, by rw [cy_zero]; rfl, by rw [mix_zero]; exact hA.1.drewN _, ⟨hB.1.drewN _, hB.2⟩, (Kp.refl _ _).drewN _⟩
    case round =>
      obtain ⟨k, hk, rfl, rfl, hn, hbn, hkp⟩ := hrel
      have hk1 : (k : Int) ≤ 228 := by omega
      have hcy := cy_le A B k
      have hfr := hn.free k
      by_cases hlt : k < (nw A)
      · have hwa := hn.word (i := k) (by omega)
        rw [mix_ge _ _ (Nat.le_refl _)] at hwa
        have hwb := hbn.1.word (i := k) (by omega)
        have l1 := wd_lt A k
        have l2 := wd_lt B k
        go_wp2
        go_quiet (fail)
        go_wp2
        go_roundw
        case rel =>
          have e1 := wd_add A B k
          have e2 := cy_succ A B k
          unfold B9 at e1 e2
          refine ⟨k + 1, by omega, by go_num, val_i (by omega), ?_, ⟨(hbn.1.drewN _).far (p := ⟨g, k, none⟩) (fun e => hgb e.symm) _, hbn.2⟩, (hkp.drewN _).setCell (.inl (by simp)) _⟩
          rw [← mix_set]; exact (hn.drewN _).setW' (by omega) (by omega)
        case measure => simp [intOf]; omega
      · obtain rfl : k = (nw A) := by omega
        have hcnt := hn.cnt
        have hf2 := hn.free 229
        have hwe := hn.word (i := (nw A)) (by omega)
        rw [mix_ge _ _ (Nat.le_refl _)] at hwe
        go_wp2_with fail
        have hX : A + B < B9 ^ ((nw A) + 1) := by
          have a1 := Nat.lt_of_lt_of_le (lt_pow_nw A) (pow_le hE1)
          have a2 := Nat.lt_of_lt_of_le (lt_pow_nw B) (pow_le hE2)
          rw [Nat.pow_succ]; unfold B9 at *; omega
        have hn2 : NumF ((wr.setCell ⟨g, (nw A), none⟩ (.int .u32 (cy A B (nw A)))).setCell ⟨g, 229, none⟩ (.int .i64 (((nw A) : Int) + 1))) g (wd (A + B)) ((nw A) + 1) m := by
          refine (((hn.setW (i := (nw A)) (by omega) (cy A B (nw A))).setC' (x := (nw A) + 1) (by omega))).congr (fun i _ => ?_)
          unfold upd
          by_cases h1 : i = (nw A)
          · subst h1
            rw [if_pos rfl]
            have a1 := Nat.lt_of_lt_of_le (lt_pow_nw A) (pow_le hE1)
            have a2 := Nat.lt_of_lt_of_le (lt_pow_nw B) (pow_le hE2)
            have e1 := wd_add A B (nw A)
            rw [wd_of_lt a1, wd_of_lt a2] at e1; simp only [Nat.zero_add] at e1
            rw [← e1, Nat.mod_eq_of_lt]; unfold B9; omega
          · rw [if_neg h1]
            by_cases h2 : i < (nw A)
            · rw [mix_lt _ _ h2]
            · rw [mix_ge _ _ (by omega), wd_of_lt (Nat.lt_of_lt_of_le (lt_pow_nw A) (pow_le (by omega))), wd_of_lt (Nat.lt_of_lt_of_le hX (pow_le (by omega)))]
        refine (trim_num g ((nw A) + 1) (A + B) _ m _ hn2 (by omega) hX (fun _ _ => rfl)).mono ?_
        rintro e w' ⟨rfl, hnum, hkp'⟩
        go_wp2
        go_end0
        exact ⟨rfl, hnum, ((hkp.setCell (.inl (by simp)) _).setCell (.inl (by simp)) _).trans hkp'⟩
end Go.Proofs.YtiommpdbbpddpaaGreat

/- Walk over (*number).shrink: the magnitude of a difference. -/
namespace Go.Proofs.YtiommpdbbpddpaaGreat
open Go.RowKit

set_option maxRecDepth 100000 in
set_option maxHeartbeats 2000000 in
theorem shrink_any (g b A B : Nat) (m mb : Bool) (w : World) (hA : Num w g A m) (hB : Num w b B mb) (hgb : g ≠ b) (hBA : B ≤ A) :
    Calls Tryz.prog 147 #[.pointer (some ⟨g, 0, none⟩), .pointer (some ⟨b, 0, none⟩)] w fun e w' => e = .returned (.tuple #[]) ∧ Num w' g (A - B) (m && decide (A - B ≠ 0)) ∧ Kp [g] w w' := by
  have hca := hA.1.cnt
  have ha := nw_le hA.2
  go_enter Tryz.func147, Tryz.ntmps147
  go_wp2
  clear hca
  go_loopw [4, 11] (fun s4 s11 wr => ∃ k : Nat, k ≤ nw A ∧ s11 = .int .i64 k ∧ s4 = .int .u32 (bw A B k) ∧ NumF wr g (mix (wd (A - B)) (wd A) k) (nw A) m ∧ Num wr b B mb ∧ Kp [g] w wr)
    (fun _ i _ => nw A - (intOf i).toNat)
  case atStart => exact ⟨0, Nat.zero_le _, rfl, by rw [bw_zero]; rfl, by rw [mix_zero]; exact hA.1, hB, Kp.refl _ _⟩
  case round =>
    obtain ⟨k, hk, rfl, rfl, hn, hbn, hkp⟩ := hrel
    have hk1 : (k : Int) ≤ 229 := by omega
    have hbw := bw_le A B k
    have hfr := hn.free k
    by_cases hlt : k < nw A
    · have hwa := hn.word (i := k) (by omega)
      rw [mix_ge _ _ (Nat.le_refl _)] at hwa
      have hwb := hbn.1.word (i := k) (by omega)
      have l1 := wd_lt A k
      have l2 := wd_lt B k
      have l3 := wd_lt (A - B) k
      have e1 := Lib.hid (wd_sub A B k hBA)
      have e2 := Lib.hid (bw_succ A B k)
      by_cases hs : wd A k < wd B k + bw A B k
      · have hs' : (wd A k : Int) < (wd B k : Int) + (bw A B k : Int) := by omega
        clear hs
        go_wp2
        go_region
        all_goals go_wp2
        go_roundw
        case rel =>
          have e1 := e1.out
          have e2 := e2.out
          unfold B9 at e1
          rw [if_pos (by omega)] at e2
          rw [e2] at e1
          refine ⟨k + 1, by omega, by go_num, by rw [e2]; rfl, ?_, ⟨(hbn.1.far (p := ⟨g, k, none⟩) (fun e => hgb e.symm) _).drew, hbn.2⟩, (hkp.setCell (.inl (by simp)) _).drew⟩
          rw [← mix_set]; exact (hn.setW' (by omega) (by omega)).drew
        case measure => simp [intOf]; omega
      · have hs' : ¬ (wd A k : Int) < (wd B k : Int) + (bw A B k : Int) := by omega
        clear hs
        go_wp2
        go_region
        all_goals go_wp2
        go_roundw
        case rel =>
          have e1 := e1.out
          have e2 := e2.out
          unfold B9 at e1
          rw [if_neg (by omega)] at e2
          rw [e2] at e1
          refine ⟨k + 1, by omega, by go_num, by rw [e2]; rfl, ?_, ⟨(hbn.1.far (p := ⟨g, k, none⟩) (fun e => hgb e.symm) _).drew, hbn.2⟩, (hkp.setCell (.inl (by simp)) _).drew⟩
          rw [← mix_set]; exact (hn.setW' (by omega) (by omega)).drew
        case measure => simp [intOf]; omega
    · obtain rfl : k = nw A := by omega
      go_wp2_with fail
      have hX : A - B < B9 ^ nw A := Nat.lt_of_le_of_lt (Nat.sub_le _ _) (lt_pow_nw A)
      refine (trim_num g (nw A) (A - B) _ m _ hn (by omega) hX (fun i _ => ?_)).mono ?_
      · by_cases h2 : i < nw A
        · rw [mix_lt _ _ h2]
        · rw [mix_ge _ _ (by omega), wd_beyond (by omega), wd_of_lt (Nat.lt_of_lt_of_le hX (pow_le (by omega)))]
      rintro e w' ⟨rfl, hnum, hkp'⟩
      go_wp2
      go_end0
      exact ⟨rfl, hnum, hkp.trans hkp'⟩
end Go.Proofs.YtiommpdbbpddpaaGreat

/- Walk over word: the value of at most nine digits. -/
namespace Go.Proofs.YtiommpdbbpddpaaGreat
open Go.RowKit

theorem take_snoc (s : ByteArray) (k : Nat) (h : k < s.size) : s.data.toList.take (k + 1) = s.data.toList.take k ++ [s[k]] := by
  rw [List.take_succ_eq_append_getElem (by simpa using h)]; rfl
theorem dig_at {s : ByteArray} (h : s.data.toList.all isDig = true) {k : Nat} (hk : k < s.size) : 48 ≤ s[k].toNat ∧ s[k].toNat ≤ 57 := by
  rw [List.all_eq_true] at h
  exact (isDig_iff _).1 (h s[k] (by
    have : s[k] = s.data.toList[k]'(by simpa using hk) := rfl
    rw [this]; exact List.getElem_mem _))

set_option maxHeartbeats 1000000 in
theorem word_any (s : ByteArray) (w : World) (hd : s.data.toList.all isDig = true) (hs : s.size ≤ 9) :
    Calls Tryz.prog 142 #[.string s] w fun e w' => e = .returned (.int .u32 (valN s.data.toList : Int)) ∧ w = w' := by
  go_enter Tryz.func142, Tryz.ntmps142
  go_wp2
  go_loop [3, 7] (fun a i => ∃ k : Nat, k ≤ s.size ∧ i = .int .i64 k ∧ a = .int .u32 (valN (s.data.toList.take k) : Int)) (fun _ i => s.size - (intOf i).toNat)
  case atStart => exact ⟨0, Nat.zero_le _, rfl, rfl⟩
  case round =>
    obtain ⟨k, hk, rfl, rfl⟩ := hrel
    by_cases hlt : k < s.size
    · have hsn := valN_snoc (s.data.toList.take k) s[k]
      rw [← take_snoc s k hlt] at hsn
      have HS := Lib.hid hsn; clear hsn
      have hb := dig_at hd hlt
      have hv : valN (s.data.toList.take k) < 100000000 := by
        have h1 := valN_lt _ (all_take hd k)
        rw [List.length_take] at h1
        exact Nat.lt_of_lt_of_le h1 (by rw [show 100000000 = 10 ^ 8 from rfl]; exact Nat.pow_le_pow_right (by decide) (by omega))
      obtain ⟨hb1, hb2⟩ := hb
      go_wp2
      go_round
      case rel => exact ⟨k + 1, by omega, by go_num, val_i (by rw [HS.out]; omega)⟩
      case measure => simp [intOf]; omega
    · obtain rfl : k = s.size := by omega
      go_wp2
      go_ret
      exact ⟨by rw [List.take_of_length_le (by simp)]; rfl, rfl⟩
end Go.Proofs.YtiommpdbbpddpaaGreat

/- Walks over strings.TrimPrefix where a minus sign is taken away, and over (*number).set, low. -/
namespace Go.Proofs.YtiommpdbbpddpaaGreat
open Go.RowKit

/-- a text without its minus sign -/
def magB (s : ByteArray) : ByteArray := if isNeg s.data.toList then s.extract 1 s.size else s
theorem magB_list (s : ByteArray) : (magB s).data.toList = mag s.data.toList := by
  unfold magB
  cases hl : s.data.toList with
  | nil => simp [isNeg, mag, hl]
  | cons c t =>
    have hs : s.size = t.length + 1 := by
      have : s.data.toList.length = s.size := by simp
      rw [← this, hl]; rfl
    by_cases h : c = 45
    · subst h
      have he : (s.extract 1 s.size).data.toList = (s.data.toList.take s.size).drop 1 := by rw [Lib.extract_data, List.drop_take]
      simp only [isNeg, beq_self_eq_true, if_true, mag]
      rw [he, hl, hs, List.take_of_length_le (by simp)]; rfl
    · simp [isNeg, mag, h, hl]

theorem prefix_hit (s : ByteArray) (h : 1 ≤ s.size) : ((s.extract 0 1).toList == [45]) = isNeg s.data.toList := by
  rw [Lib.extract_toList]
  cases hl : s.data.toList with
  | nil => rw [Lib.size_eq, hl] at h; simp at h
  | cons c t => simp [isNeg]
theorem prefix_miss (s : ByteArray) (h : ¬ 1 ≤ s.size) : isNeg s.data.toList = false := by
  have : s.data.toList = [] := List.eq_nil_of_length_eq_zero (by rw [← Lib.size_eq]; omega)
  rw [this]; rfl

set_option maxHeartbeats 400000 in
theorem prefix_any (s : ByteArray) (w : World) (hs : s.size ≤ 9223372036854775807) :
    Calls Tryz.prog 152 #[.string s, .string ⟨#[45]⟩] w fun e w' => e = .returned (.bool (isNeg s.data.toList)) ∧ w = w' := by
  by_cases h0 : 1 ≤ s.size
  · go_enter Tryz.func152, Tryz.ntmps152
    go_wp2
    go_ret
    exact ⟨by rw [← prefix_hit s h0]; rfl, rfl⟩
  · go_enter Tryz.func152, Tryz.ntmps152
    go_wp2
    go_ret
    exact ⟨by rw [prefix_miss s h0]; rfl, rfl⟩

set_option maxHeartbeats 400000 in
theorem trimP_any (s : ByteArray) (w : World) (hs : s.size ≤ 9223372036854775807) :
    Calls Tryz.prog 139 #[.string s, .string ⟨#[45]⟩] w fun e w' => e = .returned (.string (magB s)) ∧ w = w' := by
  cases hn : isNeg s.data.toList with
  | true =>
    have h1 : 1 ≤ s.size := by
      rcases Nat.lt_or_ge 0 s.size with h | h
      · exact h
      · rw [prefix_miss s (by omega)] at hn; cases hn
    have hm : Hid (magB s = s.extract 1 s.size) := by show magB s = _; unfold magB; rw [hn]; rfl
    have H := Lib.hid hn; clear hn
    go_enter Tryz.func139, Tryz.ntmps139
    go_wp2_with fail
    refine (prefix_any s _ hs).mono ?_
    rw [H.out]
    rintro e w' ⟨rfl, rfl⟩
    go_wp2
    go_ret
    exact ⟨by rw [hm.out]; rfl, rfl⟩
  | false =>
    have hm : Hid (magB s = s) := by show magB s = _; unfold magB; rw [hn]; rfl
    have H := Lib.hid hn; clear hn
    go_enter Tryz.func139, Tryz.ntmps139
    go_wp2_with fail
    refine (prefix_any s _ hs).mono ?_
    rw [H.out]
    rintro e w' ⟨rfl, rfl⟩
    go_wp2
    go_ret
    exact ⟨by rw [hm.out]; rfl, rfl⟩

set_option maxHeartbeats 400000 in
theorem trimPrefix_any (s : ByteArray) (w : World) (hs : s.size ≤ 9223372036854775807) :
    Calls Tryz.prog 117 #[.string s, .string ⟨#[45]⟩] w fun e w' => e = .returned (.string (magB s)) ∧ w = w' := by
  go_enter Tryz.func117, Tryz.ntmps117
  go_wp2_with fail
  refine (trimP_any s _ hs).mono ?_
  rintro e w' ⟨rfl, rfl⟩
  go_wp2
  go_ret
  exact ⟨rfl, rfl⟩
end Go.Proofs.YtiommpdbbpddpaaGreat
