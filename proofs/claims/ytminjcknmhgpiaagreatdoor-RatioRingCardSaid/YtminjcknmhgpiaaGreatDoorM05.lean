/- Texts Set, Mul: each says in its own first comment what it proves. -/
import Derived.Test.YtminjcknmhgpiaaGreatDoorM02
import Derived.Laws.CopyOwn
import Derived.RegionTactic
import Derived.BigRegion
/- Walk over (*number).set: one number gets the value of another. -/
namespace Go.Proofs.YtminjcknmhgpiaaGreatDoor
open Go.RowKit

theorem copy_num (b g M : Nat) (f F : Nat → Nat) (c : Nat) (m : Bool) (w : World) (hn : NumF w g f c m) (hM : M ≤ 229) (hF : ∀ i, i < M → w.cell? ⟨b, i, none⟩ = some (.int .u32 (F i : Int))) :
    ∃ w2, (∀ ty nq, (Builtin.copy_ #[149, 149] ty #[.slice (some ⟨g, 0, none⟩) 229 229, .slice (some ⟨b, 0, none⟩) M 229]).run Tryz.prog (w.drewN nq) = .ok (goInt M) (w2.drewN nq)) ∧
      NumF w2 g (mix F f M) c m ∧ Kp [g] w w2 := by
  obtain ⟨cs, T, h1, h2, h3, h4, h5⟩ := hn
  have hl : ((List.range M).map fun i => Value.int .u32 (F i : Int)).length = M := by simp
  refine ⟨w.setRow g (cs.toList.take 0 ++ ((List.range M).map fun i => Value.int .u32 (F i : Int)) ++ cs.toList.drop (0 + ((List.range M).map fun i => Value.int .u32 (F i : Int)).length)).toArray, ?_, ?_, ?_⟩
  · intro ty nq
    have := run_copy_row (P := Tryz.prog) (w.drewN nq) 149 149 ty 121 g 0 229 229 ⟨b, 0, none⟩ M 229 cs T ((List.range M).map fun i => Value.int .u32 (F i : Int)) Tryz.underlying149 (by kernel_rfl) h1
      (by rw [hl]; exact (Nat.min_eq_left hM).symm) (fun j v hj => by
        rw [List.getElem?_map] at hj
        by_cases hjM : j < M
        · rw [List.getElem?_range hjM] at hj; simp at hj; subst hj
          have e : (⟨b, 0, none⟩ : Addr).add j = ⟨b, j, none⟩ := by unfold Addr.add; split <;> simp_all
          rw [e]; exact hF j hjM
        · rw [List.getElem?_eq_none (by simpa using hjM)] at hj; cases hj) (by rw [hl, h2]; omega) (fun v hv => by
        obtain ⟨i, _, rfl⟩ := List.mem_map.1 hv; rfl)
    rw [hl] at this ⊢
    exact this
  · have hcs : ∀ i : Nat, (cs.toList.take 0 ++ ((List.range M).map fun i => Value.int .u32 (F i : Int)) ++ cs.toList.drop (0 + ((List.range M).map fun i => Value.int .u32 (F i : Int)).length)).toArray[i]? = if i < M then some (.int .u32 (F i : Int)) else cs[i]? := by
      intro i
      rw [hl]
      simp only [List.take_zero, List.nil_append, Nat.zero_add, List.getElem?_toArray, List.getElem?_append, List.length_map, List.length_range]
      by_cases hi : i < M
      · simp [hi]
      · rw [if_neg hi, if_neg hi, List.getElem?_drop, show M + (i - M) = i by omega]; simp
    refine ⟨_, T, setRow_heap w g cs _ T _ h1, ?_, fun i hi => ?_, ?_, ?_⟩
    · simp [h2]; omega
    · rw [hcs]; by_cases h : i < M
      · rw [if_pos h, mix_lt _ _ h]
      · rw [if_neg h, mix_ge _ _ (by omega)]; exact h3 i hi
    · rw [hcs, if_neg (by omega)]; exact h4
    · rw [hcs, if_neg (by omega)]; exact h5
  · exact ⟨rfl, rfl, rfl, by simp [World.setRow], fun k _ hk => setRow_other w g k _ (by simpa using hk)⟩

theorem set_close {A B M : Nat} (hM : nw A ≤ M) (hM' : nw B ≤ M) (i : Nat) : mix (wd B) (wd A) M i = wd B i := by
  by_cases h : i < M
  · rw [mix_lt _ _ h]
  · rw [mix_ge _ _ (by omega), wd_beyond (by omega), wd_beyond (by omega)]

set_option maxRecDepth 100000 in
set_option maxHeartbeats 4000000 in
theorem set_lt (g b A B : Nat) (m mb : Bool) (w : World) (hA : Num w g A m) (hB : Num w b B mb) (hgb : g ≠ b) (hcase : nw A < nw B) :
    Calls Tryz.prog 184 #[.pointer (some ⟨g, 0, none⟩), .pointer (some ⟨b, 0, none⟩)] w fun e w' => e = .returned (.tuple #[]) ∧ Num w' g B mb ∧ Kp [g] w w' := by
  have hca := hA.1.cnt
  have hcb := hB.1.cnt
  have ha := nw_le hA.2
  have hb := nw_le hB.2
  obtain ⟨w2, hcp, hn2, hkp2⟩ := copy_num b g (nw B) (wd A) (wd B) (nw A) m w hA.1 (by omega) (fun i hi => hB.1.word (by omega))
  have hn2' := hn2.congr (fun i _ => set_close (A := A) (B := B) (M := nw B) (by omega) (by omega) i)
  have hb2 := hB.1.kp hkp2 (by simpa using fun e => hgb e.symm)
  have hcb2 := hb2.cnt
  have hsb2 := hb2.sgn
  have hcn2 := hn2'.cnt
  have hsn2 := hn2'.sgn
  have hf1 := hn2'.free 229
  have hf2 := hn2'.free 230
  have hsl := fun W => sl_high b (nw B) (by omega) W
  have hsl2 := fun W => sl_all g W
  have hcp1 := fun ty => hcp ty 1
  change ∀ ty, Sem.run _ _ w.drew = Result.ok _ w2.drew at hcp1
  clear hcp hn2
  go_enter Tryz.func184, Tryz.ntmps184
  go_wp2
  go_region
  go_wp2
  go_region
  go_wp2
  go_end0
  exact ⟨rfl, ⟨((hn2'.setC (nw B)).setM mb).drew.drew, hB.2⟩, ((hkp2.setCell (.inl (by simp)) _).setCell (.inl (by simp)) _).drew.drew⟩

set_option maxRecDepth 100000 in
set_option maxHeartbeats 4000000 in
theorem set_ge (g b A B : Nat) (m mb : Bool) (w : World) (hA : Num w g A m) (hB : Num w b B mb) (hgb : g ≠ b) (hcase : ¬ nw A < nw B) :
    Calls Tryz.prog 184 #[.pointer (some ⟨g, 0, none⟩), .pointer (some ⟨b, 0, none⟩)] w fun e w' => e = .returned (.tuple #[]) ∧ Num w' g B mb ∧ Kp [g] w w' := by
  have hca := hA.1.cnt
  have hcb := hB.1.cnt
  have ha := nw_le hA.2
  have hb := nw_le hB.2
  obtain ⟨w2, hcp, hn2, hkp2⟩ := copy_num b g (nw A) (wd A) (wd B) (nw A) m w hA.1 (by omega) (fun i hi => hB.1.word (by omega))
  have hn2' := hn2.congr (fun i _ => set_close (A := A) (B := B) (M := nw A) (by omega) (by omega) i)
  have hb2 := hB.1.kp hkp2 (by simpa using fun e => hgb e.symm)
  have hcb2 := hb2.cnt
  have hsb2 := hb2.sgn
  have hcn2 := hn2'.cnt
  have hsn2 := hn2'.sgn
  have hf1 := hn2'.free 229
  have hf2 := hn2'.free 230
  have hsl := fun W => sl_high b (nw A) (by omega) W
  have hsl2 := fun W => sl_all g W
  have hcp1 := fun ty => hcp ty 1
  change ∀ ty, Sem.run _ _ w.drew = Result.ok _ w2.drew at hcp1
  clear hcp hn2
  go_enter Tryz.func184, Tryz.ntmps184
  go_wp2
  go_region
  go_wp2
  go_region
  go_wp2
  go_end0
  exact ⟨rfl, ⟨((hn2'.setC (nw B)).setM mb).drew.drew, hB.2⟩, ((hkp2.setCell (.inl (by simp)) _).setCell (.inl (by simp)) _).drew.drew⟩

theorem set_any (g b A B : Nat) (m mb : Bool) (w : World) (hA : Num w g A m) (hB : Num w b B mb) (hgb : g ≠ b) :
    Calls Tryz.prog 184 #[.pointer (some ⟨g, 0, none⟩), .pointer (some ⟨b, 0, none⟩)] w fun e w' => e = .returned (.tuple #[]) ∧ Num w' g B mb ∧ Kp [g] w w' := by
  by_cases h : nw A < nw B
  · exact set_lt g b A B m mb w hA hB hgb h
  · exact set_ge g b A B m mb w hA hB hgb h
end Go.Proofs.YtminjcknmhgpiaaGreatDoor

/- Walk over (*number).multiply: the product of two numbers. -/
namespace Go.Proofs.YtminjcknmhgpiaaGreatDoor
open Go.RowKit

theorem mul_T (P x B i j : Nat) : P + B9 ^ i * x * (B % B9 ^ (j + 1)) = P + B9 ^ i * x * (B % B9 ^ j) + B9 ^ (i + j) * (x * wd B j) := by
  rw [mod_succ, Nat.mul_add, ← Nat.add_assoc, Nat.pow_add]
  congr 1
  rw [← Nat.mul_assoc, Nat.mul_assoc _ x, Nat.mul_comm x, ← Nat.mul_assoc (B9 ^ i), Nat.mul_assoc (B9 ^ i * B9 ^ j)]
theorem mix_set' {F F' G : Nat → Nat} {k : Nat} (h : ∀ n, n < k → F n = F' n) : upd (mix F G k) k (F' k) = mix F' G (k + 1) := by
  rw [← mix_set F' G k]
  funext n
  unfold upd
  by_cases h1 : n = k
  · rw [if_pos h1, if_pos h1]
  · rw [if_neg h1, if_neg h1]
    by_cases h2 : n < k
    · rw [mix_lt _ _ h2, mix_lt _ _ h2, h n h2]
    · rw [mix_ge _ _ (by omega), mix_ge _ _ (by omega)]
theorem mul_round (A B i j c : Nat) (hc : c < 1000000000)
    (hq : (A % B9 ^ i * B + B9 ^ i * wd A i * (B % B9 ^ j)) / B9 ^ (i + j) = A % B9 ^ i * B / B9 ^ (i + j) + c) :
    (wd (A % B9 ^ i * B) (i + j) + wd A i * wd B j + c) / 1000000000 < 1000000000 ∧
    (A % B9 ^ i * B + B9 ^ i * wd A i * (B % B9 ^ (j + 1))) / B9 ^ (i + (j + 1)) = A % B9 ^ i * B / B9 ^ (i + (j + 1)) + (wd (A % B9 ^ i * B) (i + j) + wd A i * wd B j + c) / 1000000000 ∧
    upd (mix (wd (A % B9 ^ i * B + B9 ^ i * wd A i * (B % B9 ^ j))) (wd (A % B9 ^ i * B)) (i + j)) (i + j) ((wd (A % B9 ^ i * B) (i + j) + wd A i * wd B j + c) % 1000000000) =
      mix (wd (A % B9 ^ i * B + B9 ^ i * wd A i * (B % B9 ^ (j + 1)))) (wd (A % B9 ^ i * B)) (i + (j + 1)) := by
  have l1 := wd_lt A i
  have l2 := wd_lt B j
  have l3 := wd_lt (A % B9 ^ i * B) (i + j)
  have hmul : wd A i * wd B j ≤ 999999999 * 999999999 := Nat.mul_le_mul (by omega) (by omega)
  refine ⟨by omega, ?_, ?_⟩
  · rw [mul_T]; exact row_carry _ _ (i + j) _ c hq
  · have e := row_word _ _ (i + j) (wd A i * wd B j) c hq
    rw [mul_T, show 1000000000 = B9 from rfl, e]
    exact mix_set' fun n hn => (wd_low _ _ n (i + j) hn).symm
theorem mul_done (A B i c : Nat) (hc : c < 1000000000)
    (hq : (A % B9 ^ i * B + B9 ^ i * wd A i * (B % B9 ^ nw B)) / B9 ^ (i + nw B) = A % B9 ^ i * B / B9 ^ (i + nw B) + c) :
    ∀ n, upd (mix (wd (A % B9 ^ i * B + B9 ^ i * wd A i * (B % B9 ^ nw B))) (wd (A % B9 ^ i * B)) (i + nw B)) (i + nw B) c n = wd (A % B9 ^ (i + 1) * B) n := by
  have hB := lt_pow_nw B
  have hT : A % B9 ^ i * B + B9 ^ i * wd A i * (B % B9 ^ nw B) = A % B9 ^ (i + 1) * B := by
    rw [Nat.mod_eq_of_lt hB, mod_succ, Nat.add_mul]
  rw [hT] at hq ⊢
  have hP : A % B9 ^ i * B < B9 ^ (i + nw B) := by
    rw [Nat.pow_add]; exact Nat.mul_lt_mul'' (Nat.mod_lt _ (B9p_pos i)) hB
  rw [Nat.div_eq_of_lt hP, Nat.zero_add] at hq
  have hT' : A % B9 ^ (i + 1) * B < B9 ^ (i + nw B + 1) := by
    rw [show i + nw B + 1 = (i + 1) + nw B by omega, Nat.pow_add _ (i + 1)]; exact Nat.mul_lt_mul'' (Nat.mod_lt _ (B9p_pos (i + 1))) hB
  have hw : wd (A % B9 ^ (i + 1) * B) (i + nw B) = c := by rw [wd_eq, hq]; exact Nat.mod_eq_of_lt hc
  intro n
  unfold upd
  by_cases h1 : n = i + nw B
  · rw [if_pos h1, h1, hw]
  · rw [if_neg h1]
    by_cases h2 : n < i + nw B
    · rw [mix_lt _ _ h2]
    · rw [mix_ge _ _ (by omega), wd_of_lt (Nat.lt_of_lt_of_le hP (pow_le (by omega))), wd_of_lt (Nat.lt_of_lt_of_le hT' (pow_le (by omega)))]

set_option maxRecDepth 100000 in
set_option maxHeartbeats 4000000 in
theorem multiply_any (g a b A B : Nat) (ma mb : Bool) (w : World) (hg : NumF w g (fun _ => 0) 0 false) (hA : Num w a A ma) (hB : Num w b B mb) (hga : g ≠ a) (hgb : g ≠ b) (hA' : A < B9 ^ 114) (hB' : B < B9 ^ 114) :
    Calls Tryz.prog 109 #[.pointer (some ⟨g, 0, none⟩), .pointer (some ⟨a, 0, none⟩), .pointer (some ⟨b, 0, none⟩)] w fun e w' => e = .returned (.tuple #[]) ∧ Num w' g (A * B) ((ma != mb) && decide (A * B ≠ 0)) ∧ Kp [g] w w' := by
  have hca := hA.1.cnt
  have ha := nw_le hA'
  have hb := nw_le hB'
  have hsl := fun W => sl_high a (nw A) (by omega) W
  have hsl2 := fun W => sl_high b (nw B) (by omega) W
  go_enter Tryz.func109, Tryz.ntmps109
  go_wp2
  go_quiet (fail)
  go_wp2
  clear hca
  go_loopw [21] (fun s21 wr => ∃ i : Nat, i ≤ nw A ∧ s21 = .int .i64 i ∧ NumF wr g (wd (A % B9 ^ i * B)) 0 false ∧ Num wr a A ma ∧ Num wr b B mb ∧ Kp [g] w wr)
    (fun i _ => nw A - (intOf i).toNat)
  case atStart => exact ⟨0, Nat.zero_le _, rfl, (hg.drewN _).congr (fun i _ => by simp [Nat.mod_one, wd_zero]), ⟨hA.1.drewN _, hA.2⟩, ⟨hB.1.drewN _, hB.2⟩, (Kp.refl _ _).drewN _⟩
  case round =>
    obtain ⟨i, hi, rfl, hn, hAn, hBn, hkp⟩ := hrel
    have hi1 : (i : Int) ≤ 114 := by omega
    by_cases hlt : i < nw A
    · have hwa := hAn.1.word (i := i) (by omega)
      have hcb := hBn.1.cnt
      have l1 := wd_lt A i
      go_wp2
      go_quiet (fail)
      go_wp2
      clear hcb hwa
      obtain ⟨wo, hwo⟩ : ∃ wo : World, wo = wr := ⟨_, rfl⟩
      subst hwo
      go_loopw [8, 35] (fun s8 s35 wq => ∃ j : Nat, j ≤ nw B ∧ s35 = .int .i64 j ∧ ∃ c : Nat, s8 = .int .u64 (c : Int) ∧ c < 1000000000 ∧ (A % B9 ^ i * B + B9 ^ i * wd A i * (B % B9 ^ j)) / B9 ^ (i + j) = A % B9 ^ i * B / B9 ^ (i + j) + c ∧
          NumF wq g (mix (wd (A % B9 ^ i * B + B9 ^ i * wd A i * (B % B9 ^ j))) (wd (A % B9 ^ i * B)) (i + j)) 0 false ∧ Num wq a A ma ∧ Num wq b B mb ∧ Kp [g] w wq)
        (fun _ j _ => nw B - (intOf j).toNat)
      case atStart =>
        refine ⟨0, Nat.zero_le _, rfl, 0, rfl, by omega, by simp [Nat.mod_one], ?_, ⟨hAn.1.drewN _, hAn.2⟩, ⟨hBn.1.drewN _, hBn.2⟩, hkp.drewN _⟩
        refine (hn.drewN _).congr fun n _ => ?_
        simp only [Nat.pow_zero, Nat.mod_one, Nat.mul_zero, Nat.add_zero]
        by_cases h : n < i
        · rw [mix_lt _ _ h]
        · rw [mix_ge _ _ (by omega)]
      case round =>
        obtain ⟨j, hj, rfl, c, rfl, hc, hq, hn2, hAn2, hBn2, hkp2⟩ := hrel
        have hj1 : (j : Int) ≤ 114 := by omega
        by_cases hlt2 : j < nw B
        · have hwb := hBn2.1.word (i := j) (by omega)
          have hwn := hn2.word (i := i + j) (by omega)
          rw [mix_ge _ _ (Nat.le_refl _)] at hwn
          have hfr := hn2.free (i + j)
          have l2 := wd_lt B j
          have l3 := wd_lt (A % B9 ^ i * B) (i + j)
          have hmul : wd A i * wd B j ≤ 999999999 * 999999999 := Nat.mul_le_mul (by omega) (by omega)
          have hmul' : (wd A i : Int) * (wd B j : Int) ≤ 999999998000000001 := by rw [← Int.natCast_mul]; omega
          have hmul0 : 0 ≤ (wd A i : Int) * (wd B j : Int) := by rw [← Int.natCast_mul]; omega
          clear hmul
          have hq' := Lib.hid hq; clear hq
          go_wp2
          go_roundw
          case rel =>
            obtain ⟨r1, r2, r3⟩ := mul_round A B i j c hc hq'.out
            refine ⟨j + 1, by omega, by go_num, _, val_i (by simp), r1, r2, ?_, ⟨hAn2.1.far (p := ⟨g, i + j, none⟩) (fun e => hga e.symm) _, hAn2.2⟩, ⟨hBn2.1.far (p := ⟨g, i + j, none⟩) (fun e => hgb e.symm) _, hBn2.2⟩, hkp2.setCell (.inl (by simp)) _⟩
            rw [← r3]; exact hn2.setW' (by omega) (by simp)
          case measure => simp [intOf]; omega
        · obtain rfl : j = nw B := by omega
          have hcb := hBn2.1.cnt
          have hfr := hn2.free (i + nw B)
          have hwn := hn2.word (i := i + nw B) (by omega)
          have hq' := Lib.hid hq; clear hq
          go_wp2
          go_region
          go_wp2
          go_roundw
          case rel =>
            refine ⟨i + 1, by omega, by go_num, ?_, ⟨(hAn2.1.far (p := ⟨g, i + nw B, none⟩) (fun e => hga e.symm) _).drew, hAn2.2⟩, ⟨(hBn2.1.far (p := ⟨g, i + nw B, none⟩) (fun e => hgb e.symm) _).drew, hBn2.2⟩, (hkp2.setCell (.inl (by simp)) _).drew⟩
            exact ((hn2.setW (i := i + nw B) (by omega) c).congr fun n _ => mul_done A B i c hc hq'.out n).drew
          case measure => simp [intOf]; omega
    · obtain rfl : i = nw A := by omega
      have hca := hAn.1.cnt
      have hcb := hBn.1.cnt
      have hsa := hAn.1.sgn
      have hsb := hBn.1.sgn
      have hcg := hn.cnt
      have hsg := hn.sgn
      have hf1 := hn.free 229
      have hf2 := hn.free 230
      go_wp2
      go_region
      go_wp2
      go_region
      go_wp2_with fail
      have hX : A * B < B9 ^ (nw A + nw B) := by
        rw [Nat.pow_add]; exact Nat.mul_lt_mul'' (lt_pow_nw A) (lt_pow_nw B)
      have hmod : A % B9 ^ nw A * B = A * B := by rw [Nat.mod_eq_of_lt (lt_pow_nw A)]
      have hn2 := ((hn.setC' (x := nw A + nw B) (y := (nw A : Int) + (nw B : Int)) (by omega)).setM (!(ma == mb))).drew.drew
      rw [hmod] at hn2
      refine (trim_num g (nw A + nw B) (A * B) _ _ _ hn2 (by omega) hX (fun _ _ => rfl)).mono ?_
      rintro e w' ⟨rfl, hnum, hkp'⟩
      go_wp2
      go_end0
      exact ⟨rfl, hnum, ((hkp.setCell (.inl (by simp)) _).setCell (.inl (by simp)) _).drew.drew.trans hkp'⟩
end Go.Proofs.YtminjcknmhgpiaaGreatDoor
