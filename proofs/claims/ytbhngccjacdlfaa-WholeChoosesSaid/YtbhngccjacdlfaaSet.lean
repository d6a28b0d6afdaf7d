/- Walk over (*number).set: one number gets the value of another. -/
import Derived.Test.YtbhngccjacdlfaaArr
import Derived.Laws.CopyOwn
import Derived.RegionTactic
import Derived.BigRegion
namespace Go.Proofs.Ytbhngccjacdlfaa
open Go.RowKit

theorem copy_num (b g M : Nat) (f F : Nat → Nat) (c : Nat) (m : Bool) (w : World) (hn : NumF w g f c m) (hM : M ≤ 229) (hF : ∀ i, i < M → w.cell? ⟨b, i, none⟩ = some (.int .u32 (F i : Int))) :
    ∃ w2, (∀ ty nq, (Builtin.copy_ #[91, 91] ty #[.slice (some ⟨g, 0, none⟩) 229 229, .slice (some ⟨b, 0, none⟩) M 229]).run Try.prog (w.drewN nq) = .ok (goInt M) (w2.drewN nq)) ∧
      NumF w2 g (mix F f M) c m ∧ Kp [g] w w2 := by
  obtain ⟨cs, T, h1, h2, h3, h4, h5⟩ := hn
  have hl : ((List.range M).map fun i => Value.int .u32 (F i : Int)).length = M := by simp
  refine ⟨w.setRow g (cs.toList.take 0 ++ ((List.range M).map fun i => Value.int .u32 (F i : Int)) ++ cs.toList.drop (0 + ((List.range M).map fun i => Value.int .u32 (F i : Int)).length)).toArray, ?_, ?_, ?_⟩
  · intro ty nq
    have := run_copy_row (P := Try.prog) (w.drewN nq) 91 91 ty 63 g 0 229 229 ⟨b, 0, none⟩ M 229 cs T ((List.range M).map fun i => Value.int .u32 (F i : Int)) Try.underlying91 (by kernel_rfl) h1
      (by rw [hl]; exact (Nat.min_eq_left hM).symm) (fun j v hj => by
        rw [List.getElem?_map] at hj
        by_cases hjM : j < M
        · rw [List.getElem?_range hjM] at hj; simp at hj; subst hj
          have e : (⟨b, 0, none⟩ : Addr).add j = ⟨b, j, none⟩ := by unfold Addr.add; split <;> simp_all
          rw [e]; exact hF j hjM
        · rw [List.getElem?_eq_none (by simpa using hjM)] at hj; cases hj) (by rw [hl, h2]; omega) (fun v hv => by
        obtain ⟨i, _, rfl⟩ := List.mem_map.1 hv; rfl)
    rw [hl] at this ⊢
    exact this
  · have hcs : ∀ i : Nat, (cs.toList.take 0 ++ ((List.range M).map fun i => Value.int .u32 (F i : Int)) ++ cs.toList.drop (0 + ((List.range M).map fun i => Value.int .u32 (F i : Int)).length)).toArray[i]? = if i < M then some (.int .u32 (F i : Int)) else cs[i]? := by
      intro i
      rw [hl]
      simp only [List.take_zero, List.nil_append, Nat.zero_add, List.getElem?_toArray, List.getElem?_append, List.length_map, List.length_range]
      by_cases hi : i < M
      · simp [hi]
      · rw [if_neg hi, if_neg hi, List.getElem?_drop, show M + (i - M) = i by omega]; simp
    refine ⟨_, T, setRow_heap w g cs _ T _ h1, ?_, fun i hi => ?_, ?_, ?_⟩
    · simp [h2]; omega
    · rw [hcs]; by_cases h : i < M
      · rw [if_pos h, mix_lt _ _ h]
      · rw [if_neg h, mix_ge _ _ (by omega)]; exact h3 i hi
    · rw [hcs, if_neg (by omega)]; exact h4
    · rw [hcs, if_neg (by omega)]; exact h5
  · exact ⟨rfl, rfl, rfl, by simp [World.setRow], fun k _ hk => setRow_other w g k _ (by simpa using hk)⟩

theorem set_close {A B M : Nat} (hM : nw A ≤ M) (hM' : nw B ≤ M) (i : Nat) : mix (wd B) (wd A) M i = wd B i := by
  by_cases h : i < M
  · rw [mix_lt _ _ h]
  · rw [mix_ge _ _ (by omega), wd_beyond (by omega), wd_beyond (by omega)]

set_option maxRecDepth 100000 in
set_option maxHeartbeats 4000000 in
theorem set_lt (g b A B : Nat) (m mb : Bool) (w : World) (hA : Num w g A m) (hB : Num w b B mb) (hgb : g ≠ b) (hcase : nw A < nw B) :
    Calls Try.prog 85 #[.pointer (some ⟨g, 0, none⟩), .pointer (some ⟨b, 0, none⟩)] w fun e w' => e = .returned (.tuple #[]) ∧ Num w' g B mb ∧ Kp [g] w w' := by
  have hca := hA.1.cnt
  have hcb := hB.1.cnt
  have ha := nw_le hA.2
  have hb := nw_le hB.2
  obtain ⟨w2, hcp, hn2, hkp2⟩ := copy_num b g (nw B) (wd A) (wd B) (nw A) m w hA.1 (by omega) (fun i hi => hB.1.word (by omega))
  have hn2' := hn2.congr (fun i _ => set_close (A := A) (B := B) (M := nw B) (by omega) (by omega) i)
  have hb2 := hB.1.kp hkp2 (by simpa using fun e => hgb e.symm)
  have hcb2 := hb2.cnt
  have hsb2 := hb2.sgn
  have hcn2 := hn2'.cnt
  have hsn2 := hn2'.sgn
  have hf1 := hn2'.free 229
  have hf2 := hn2'.free 230
  have hsl := fun W => sl_high b (nw B) (by omega) W
  have hsl2 := fun W => sl_all g W
  have hcp1 := fun ty => hcp ty 1
  change ∀ ty, Sem.run _ _ w.drew = Result.ok _ w2.drew at hcp1
  clear hcp hn2
  go_enter Try.func85, Try.ntmps85
  go_wp2
  go_region
  go_wp2
  go_region
  go_wp2
  go_end0
  exact ⟨rfl, ⟨((hn2'.setC (nw B)).setM mb).drew.drew, hB.2⟩, ((hkp2.setCell (.inl (by simp)) _).setCell (.inl (by simp)) _).drew.drew⟩

set_option maxRecDepth 100000 in
set_option maxHeartbeats 4000000 in
theorem set_ge (g b A B : Nat) (m mb : Bool) (w : World) (hA : Num w g A m) (hB : Num w b B mb) (hgb : g ≠ b) (hcase : ¬ nw A < nw B) :
    Calls Try.prog 85 #[.pointer (some ⟨g, 0, none⟩), .pointer (some ⟨b, 0, none⟩)] w fun e w' => e = .returned (.tuple #[]) ∧ Num w' g B mb ∧ Kp [g] w w' := by
  have hca := hA.1.cnt
  have hcb := hB.1.cnt
  have ha := nw_le hA.2
  have hb := nw_le hB.2
  obtain ⟨w2, hcp, hn2, hkp2⟩ := copy_num b g (nw A) (wd A) (wd B) (nw A) m w hA.1 (by omega) (fun i hi => hB.1.word (by omega))
  have hn2' := hn2.congr (fun i _ => set_close (A := A) (B := B) (M := nw A) (by omega) (by omega) i)
  have hb2 := hB.1.kp hkp2 (by simpa using fun e => hgb e.symm)
  have hcb2 := hb2.cnt
  have hsb2 := hb2.sgn
  have hcn2 := hn2'.cnt
  have hsn2 := hn2'.sgn
  have hf1 := hn2'.free 229
  have hf2 := hn2'.free 230
  have hsl := fun W => sl_high b (nw A) (by omega) W
  have hsl2 := fun W => sl_all g W
  have hcp1 := fun ty => hcp ty 1
  change ∀ ty, Sem.run _ _ w.drew = Result.ok _ w2.drew at hcp1
  clear hcp hn2
  go_enter Try.func85, Try.ntmps85
  go_wp2
  go_region
  go_wp2
  go_region
  go_wp2
  go_end0
  exact ⟨rfl, ⟨((hn2'.setC (nw B)).setM mb).drew.drew, hB.2⟩, ((hkp2.setCell (.inl (by simp)) _).setCell (.inl (by simp)) _).drew.drew⟩

theorem set_any (g b A B : Nat) (m mb : Bool) (w : World) (hA : Num w g A m) (hB : Num w b B mb) (hgb : g ≠ b) :
    Calls Try.prog 85 #[.pointer (some ⟨g, 0, none⟩), .pointer (some ⟨b, 0, none⟩)] w fun e w' => e = .returned (.tuple #[]) ∧ Num w' g B mb ∧ Kp [g] w w' := by
  by_cases h : nw A < nw B
  · exact set_lt g b A B m mb w hA hB hgb h
  · exact set_ge g b A B m mb w hA hB hgb h
end Go.Proofs.Ytbhngccjacdlfaa
