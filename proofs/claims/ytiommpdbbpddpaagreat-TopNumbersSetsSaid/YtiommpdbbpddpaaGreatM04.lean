/- Texts Against, Scale, Set, Mul: each says in its own first comment what it proves. -/
import Derived.Test.YtiommpdbbpddpaaGreatM02
import Derived.Laws.CopyOwn
import Derived.RegionTactic
import Derived.BigRegion
/- Walks over order and (*number).against: the order of two magnitudes. -/
namespace Go.Proofs.YtiommpdbbpddpaaGreat
open Go.RowKit

/-- the order of two magnitudes -/
def ordN (A B : Nat) : Int := if A < B then -1 else if A = B then 0 else 1

theorem order_any (b : Bool) (w : World) :
    Calls Tryz.prog 140 #[.bool b] w fun e w' => e = .returned (.int .i64 (if b then -1 else 1)) ∧ w' = w := by
  cases b
  all_goals
    go_enter Tryz.func140, Tryz.ntmps140
    go_wp2
    go_ret
    exact ⟨rfl, rfl⟩
theorem order_quiet (b : Bool) (w : World) (a n : Nat) :
    Calls Tryz.prog 140 #[.bool b] (w.drewN (a + n)) fun e w' => e = .returned (.int .i64 (if b then -1 else 1)) ∧ ∃ m, w' = w.drewN (a + m) :=
  (order_any b _).mono fun _ _ ⟨he, hw⟩ => ⟨he, n, hw⟩

theorem lt_of_nw {A B : Nat} (h : nw A < nw B) : A < B := by
  rcases Nat.lt_or_ge A B with h1 | h1
  · exact h1
  · have h2 := nw_le (A := B) (k := nw A) (Nat.lt_of_le_of_lt h1 (lt_pow_nw A)); omega
theorem ordN_lt {A B : Nat} (h : A < B) : ordN A B = -1 := by unfold ordN; rw [if_pos h]
theorem ordN_gt {A B : Nat} (h : B < A) : ordN A B = 1 := by unfold ordN; rw [if_neg (by omega), if_neg (by omega)]
theorem ordN_eq (A : Nat) : ordN A A = 0 := by unfold ordN; rw [if_neg (by omega), if_pos rfl]
theorem lt_of_word {A B j : Nat} (hq : A / B9 ^ (j + 1) = B / B9 ^ (j + 1)) (h : wd A j < wd B j) : A < B := ge_of_words j h hq.symm

set_option maxRecDepth 100000 in
set_option maxHeartbeats 2000000 in
theorem against_ne (g b A B : Nat) (m mb : Bool) (w : World) (hA : Num w g A m) (hB : Num w b B mb) (hne : nw A ≠ nw B) :
    Calls Tryz.prog 146 #[.pointer (some ⟨g, 0, none⟩), .pointer (some ⟨b, 0, none⟩)] w fun e w' => e = .returned (.int .i64 (ordN A B)) ∧ ∃ n, w' = w.drewN n := by
  have hca := hA.1.cnt
  have hcb := hB.1.cnt
  have ha := nw_le hA.2
  have hb := nw_le hB.2
  have hbn : ((nw A : Int) != (nw B : Int)) = true := bne_iff_ne.2 (by omega)
  by_cases hlt : nw A < nw B
  · have hv := Lib.hid (ordN_lt (lt_of_nw hlt))
    have hd : decide (nw A < nw B) = true := decide_eq_true (by omega)
    clear hne hlt
    go_enter Tryz.func146, Tryz.ntmps146
    go_wp2
    go_quiet (fail)
    go_wp2
    go_quiet ((go_at_call 140; exact order_quiet _ _ _ _))
    go_wp2
    go_ret
    exact ⟨by rw [hv.out]; rfl, by first | exact ⟨_, rfl⟩ | (simp only [World.drewN_drewN]; exact ⟨_, rfl⟩)⟩
  · have hv := Lib.hid (ordN_gt (lt_of_nw (show nw B < nw A by omega)))
    have hd : decide (nw A < nw B) = false := decide_eq_false (by omega)
    clear hne hlt
    go_enter Tryz.func146, Tryz.ntmps146
    go_wp2
    go_quiet (fail)
    go_wp2
    go_quiet ((go_at_call 140; exact order_quiet _ _ _ _))
    go_wp2
    go_ret
    exact ⟨by rw [hv.out]; rfl, by first | exact ⟨_, rfl⟩ | (simp only [World.drewN_drewN]; exact ⟨_, rfl⟩)⟩

set_option maxRecDepth 100000 in
set_option maxHeartbeats 2000000 in
theorem against_eq (g b A B : Nat) (m mb : Bool) (w : World) (hA : Num w g A m) (hB : Num w b B mb) (he : nw A = nw B) :
    Calls Tryz.prog 146 #[.pointer (some ⟨g, 0, none⟩), .pointer (some ⟨b, 0, none⟩)] w fun e w' => e = .returned (.int .i64 (ordN A B)) ∧ ∃ n, w' = w.drewN n := by
  have hca := hA.1.cnt
  have hcb := hB.1.cnt
  rw [← he] at hcb
  have ha := nw_le hA.2
  have hbn : ((nw A : Int) != (nw A : Int)) = false := by simp
  have H := Lib.hid he; clear he
  go_enter Tryz.func146, Tryz.ntmps146
  go_wp2
  go_quiet (fail)
  go_wp2
  clear hca hcb
  go_loopg [5] (nw A) (fun k s5 wr => ∃ (n : Nat) (i : Int), s5 = .int .i64 i ∧ i + 1 = k ∧ k ≤ nw A ∧ A / B9 ^ k = B / B9 ^ k ∧ w.drewN n = wr)
  case atStart => exact ⟨_, _, rfl, by omega, Nat.le_refl _, by rw [Nat.div_eq_of_lt (lt_pow_nw A), H.out, Nat.div_eq_of_lt (lt_pow_nw B)], rfl⟩
  case round =>
    obtain ⟨n, i, rfl, hi, hk, hq, rfl⟩ := hrel
    cases gk with
    | zero =>
      obtain rfl : i = -1 := by omega
      have hv : Hid (ordN A B = 0) := by
        have : A = B := by simpa using hq
        subst this; exact ordN_eq A
      clear hq hi
      go_wp2
      go_ret
      exact ⟨by rw [hv.out]; rfl, _, rfl⟩
    | succ j =>
      obtain rfl : i = (j : Int) := by omega
      have hwa := hA.1.word (i := j) (by omega)
      have hwb := hB.1.word (i := j) (by omega)
      have hj : (j : Int) < 229 := by omega
      have l1 := wd_lt A j
      have l2 := wd_lt B j
      clear hi
      have hq' := Lib.hid hq; clear hq
      by_cases h0 : wd A j = wd B j
      · have hb0 : ((wd A j : Int) != (wd B j : Int)) = false := by rw [h0]; simp
        have h0' := Lib.hid h0; clear h0
        go_wp2
        go_quiet (fail)
        go_wp2
        go_roundg j
        case measure => omega
        case rel => exact ⟨_, _, rfl, by omega, by omega, by rw [div_step A, div_step B, hq'.out, h0'.out], rfl⟩
      · have hb0 : ((wd A j : Int) != (wd B j : Int)) = true := bne_iff_ne.2 (by omega)
        by_cases hlt : wd A j < wd B j
        · have hv := Lib.hid (ordN_lt (lt_of_word hq'.out hlt))
          have hd : decide (wd A j < wd B j) = true := decide_eq_true (by omega)
          clear h0 hlt
          go_wp2
          go_quiet (fail)
          go_wp2
          go_quiet ((go_at_call 140; exact order_quiet _ _ _ _))
          go_wp2
          go_ret
          exact ⟨by rw [hv.out]; rfl, by first | exact ⟨_, rfl⟩ | (simp only [World.drewN_drewN]; exact ⟨_, rfl⟩)⟩
        · have hv := Lib.hid (ordN_gt (lt_of_word hq'.out.symm (show wd B j < wd A j by omega)))
          have hd : decide (wd A j < wd B j) = false := decide_eq_false (by omega)
          clear h0 hlt
          go_wp2
          go_quiet (fail)
          go_wp2
          go_quiet ((go_at_call 140; exact order_quiet _ _ _ _))
          go_wp2
          go_ret
          exact ⟨by rw [hv.out]; rfl, by first | exact ⟨_, rfl⟩ | (simp only [World.drewN_drewN]; exact ⟨_, rfl⟩)⟩

theorem against_any (g b A B : Nat) (m mb : Bool) (w : World) (hA : Num w g A m) (hB : Num w b B mb) :
    Calls Tryz.prog 146 #[.pointer (some ⟨g, 0, none⟩), .pointer (some ⟨b, 0, none⟩)] w fun e w' => e = .returned (.int .i64 (ordN A B)) ∧ ∃ n, w' = w.drewN n := by
  by_cases h : nw A = nw B
  · exact against_eq g b A B m mb w hA hB h
  · exact against_ne g b A B m mb w hA hB h
end Go.Proofs.YtiommpdbbpddpaaGreat

/- Walks over (*number).scale, (*number).split and (*number).low: a number times a word, and divided by one. -/
namespace Go.Proofs.YtiommpdbbpddpaaGreat
open Go.RowKit

set_option maxRecDepth 100000 in
set_option maxHeartbeats 2000000 in
theorem scale_any (g A p : Nat) (m : Bool) (w : World) (hA : Num w g A m) (hA' : A < B9 ^ 228) (hp : 0 < p) (hp' : p < 1000000000) :
    Calls Tryz.prog 161 #[.pointer (some ⟨g, 0, none⟩), .int .u32 (p : Int)] w fun e w' => e = .returned (.tuple #[]) ∧ Num w' g (A * p) (m && decide (A * p ≠ 0)) ∧ Kp [g] w w' := by
  have hca := hA.1.cnt
  have ha := nw_le hA'
  have hsl := fun W => sl_high g (nw A) (by omega) W
  go_enter Tryz.func161, Tryz.ntmps161
  go_wp2
  go_quiet (fail)
  go_wp2
  clear hca
  go_loopw [4, 17] (fun s4 s17 wr => ∃ k : Nat, k ≤ nw A ∧ s17 = .int .i64 k ∧ s4 = .int .u64 (cm A p k) ∧ NumF wr g (mix (wd (A * p)) (wd A) k) (nw A) m ∧ Kp [g] w wr)
    (fun _ i _ => nw A - (intOf i).toNat)
  case atStart => exact ⟨0, Nat.zero_le _, rfl, by rw [cm_zero]; rfl, by rw [mix_zero]; exact hA.1.drewN _, (Kp.refl _ _).drewN _⟩
  case round =>
    obtain ⟨k, hk, rfl, rfl, hn, hkp⟩ := hrel
    have hk1 : (k : Int) ≤ 229 := by omega
    have hcm := cm_lt A p k hp
    have hfr := hn.free k
    by_cases hlt : k < nw A
    · have hwa := hn.word (i := k) (by omega)
      rw [mix_ge _ _ (Nat.le_refl _)] at hwa
      have l1 := wd_lt A k
      have hmul : wd A k * p ≤ 999999999 * 999999999 := Nat.mul_le_mul (by omega) (by omega)
      have hmul' : (wd A k : Int) * (p : Int) ≤ 999999998000000001 := by rw [← Int.natCast_mul]; omega
      have hmul0 : 0 ≤ (wd A k : Int) * (p : Int) := by rw [← Int.natCast_mul]; omega
      clear hmul
      go_wp2
      go_roundw
      case rel =>
        have e1 := wd_mul A p k
        have e2 := cm_succ A p k
        unfold B9 at e1 e2
        refine ⟨k + 1, by omega, by go_num, val_i (by rw [e2]; simp), ?_, hkp.setCell (.inl (by simp)) _⟩
        rw [← mix_set]; exact hn.setW' (by omega) (by rw [← e1]; simp)
      case measure => simp [intOf]; omega
    · obtain rfl : k = nw A := by omega
      have hcnt := hn.cnt
      have hf2 := hn.free 229
      have hwe := hn.word (i := nw A) (by omega)
      go_wp2
      go_region
      go_wp2_with fail
      have hX : A * p < B9 ^ (nw A + 1) := by
        rw [Nat.pow_succ]; exact Nat.mul_lt_mul'' (lt_pow_nw A) hp'
      have htop : wd (A * p) (nw A) = cm A p (nw A) := by
        have := cm_top p (lt_pow_nw A)
        rw [Nat.div_eq_of_lt hX] at this; omega
      have hn2 := ((hn.setW (i := nw A) (by omega) (cm A p (nw A))).setC' (x := nw A + 1) (y := (nw A : Int) + 1) (by omega)).drew
      rw [← htop, mix_set] at hn2
      rw [← htop]
      refine (trim_num g (nw A + 1) (A * p) _ m _ hn2 (by omega) hX (fun i _ => ?_)).mono ?_
      · by_cases h2 : i < nw A + 1
        · rw [mix_lt _ _ h2]
        · rw [mix_ge _ _ (by omega), wd_beyond (by omega), wd_of_lt (Nat.lt_of_lt_of_le hX (pow_le (by omega)))]
      rintro e w' ⟨rfl, hnum, hkp'⟩
      go_wp2
      go_end0
      exact ⟨rfl, hnum, ((hkp.setCell (.inl (by simp)) _).setCell (.inl (by simp)) _).drew.trans hkp'⟩

set_option maxRecDepth 100000 in
set_option maxHeartbeats 2000000 in
theorem split_any (g A p : Nat) (m : Bool) (w : World) (hA : Num w g A m) (hp : 0 < p) (hp' : p < 1000000000) :
    Calls Tryz.prog 160 #[.pointer (some ⟨g, 0, none⟩), .int .u32 (p : Int)] w fun e w' => e = .returned (.int .u32 ((A % p : Nat) : Int)) ∧ Num w' g (A / p) (m && decide (A / p ≠ 0)) ∧ Kp [g] w w' := by
  have hca := hA.1.cnt
  have ha := nw_le hA.2
  have hp0 : (0 : Int) < (p : Int) := by omega
  go_enter Tryz.func160, Tryz.ntmps160
  go_wp2
  clear hca
  go_loopg [5, 6] (nw A) (fun k s5 s6 wr => ∃ (i : Int), s6 = .int .i64 i ∧ i + 1 = k ∧ k ≤ nw A ∧ s5 = .int .u64 ((rs A p k : Nat) : Int) ∧ NumF wr g (mix (wd A) (wd (A / p)) k) (nw A) m ∧ Kp [g] w wr)
  case atStart => exact ⟨_, rfl, by omega, Nat.le_refl _, by rw [rs_top p (lt_pow_nw A)]; rfl, hA.1.congr (fun i _ => by
    by_cases h : i < nw A
    · rw [mix_lt _ _ h]
    · rw [mix_ge _ _ (by omega), wd_beyond (by omega), wd_beyond (Nat.le_trans (nw_le (Nat.lt_of_le_of_lt (Nat.div_le_self _ _) (lt_pow_nw A))) (by omega))]), Kp.refl _ _⟩
  case round =>
    obtain ⟨i, rfl, hi, hk, rfl, hn, hkp⟩ := hrel
    have hr := rs_lt A p gk hp
    cases gk with
    | zero =>
      obtain rfl : i = -1 := by omega
      clear hi
      go_wp2_with fail
      have hX : A / p < B9 ^ nw A := Nat.lt_of_le_of_lt (Nat.div_le_self _ _) (lt_pow_nw A)
      refine (trim_num g (nw A) (A / p) _ m _ hn (by omega) hX (fun i _ => ?_)).mono ?_
      · rw [mix_ge _ _ (by omega)]
      rintro e w' ⟨rfl, hnum, hkp'⟩
      have h0 := Lib.hid (rs_zero A p)
      go_wp2
      go_ret
      exact ⟨by rw [← h0.out]; rfl, hnum, hkp.trans hkp'⟩
    | succ j =>
      obtain rfl : i = (j : Int) := by omega
      have hwa := hn.word (i := j) (by omega)
      rw [mix_lt _ _ (by omega)] at hwa
      have hfr := hn.free j
      have hj : (j : Int) < 229 := by omega
      have l1 := wd_lt A j
      clear hi
      go_wp2
      go_region
      go_wp2
      go_roundg j
      case measure => omega
      case rel =>
        have e1 := wd_div A p j hp
        have e2 := rs_step A p j
        unfold B9 at e1 e2
        have l3 := wd_lt (A / p) j
        refine ⟨_, rfl, by omega, by omega, val_i ?_, ?_, (hkp.setCell (.inl (by simp)) _).drew⟩
        · rw [← e2]; simp
        · rw [← mix_down]
          refine (hn.setW' (by omega) ?_).drew
          have e3 : ((rs A p (j + 1) : Int) * 1000000000 + (wd A j : Int)) / (p : Int) = (wd (A / p) j : Int) := by rw [← e1]; simp
          rw [e3]; omega
end Go.Proofs.YtiommpdbbpddpaaGreat

/- Walk over (*number).set: one number gets the value of another. -/
namespace Go.Proofs.YtiommpdbbpddpaaGreat
open Go.RowKit

theorem copy_num (b g M : Nat) (f F : Nat → Nat) (c : Nat) (m : Bool) (w : World) (hn : NumF w g f c m) (hM : M ≤ 229) (hF : ∀ i, i < M → w.cell? ⟨b, i, none⟩ = some (.int .u32 (F i : Int))) :
    ∃ w2, (∀ ty nq, (Builtin.copy_ #[170, 170] ty #[.slice (some ⟨g, 0, none⟩) 229 229, .slice (some ⟨b, 0, none⟩) M 229]).run Tryz.prog (w.drewN nq) = .ok (goInt M) (w2.drewN nq)) ∧
      NumF w2 g (mix F f M) c m ∧ Kp [g] w w2 := by
  obtain ⟨cs, T, h1, h2, h3, h4, h5⟩ := hn
  have hl : ((List.range M).map fun i => Value.int .u32 (F i : Int)).length = M := by simp
  refine ⟨w.setRow g (cs.toList.take 0 ++ ((List.range M).map fun i => Value.int .u32 (F i : Int)) ++ cs.toList.drop (0 + ((List.range M).map fun i => Value.int .u32 (F i : Int)).length)).toArray, ?_, ?_, ?_⟩
  · intro ty nq
    have := run_copy_row (P := Tryz.prog) (w.drewN nq) 170 170 ty 137 g 0 229 229 ⟨b, 0, none⟩ M 229 cs T ((List.range M).map fun i => Value.int .u32 (F i : Int)) Tryz.underlying170 (by kernel_rfl) h1
      (by rw [hl]; exact (Nat.min_eq_left hM).symm) (fun j v hj => by
        rw [List.getElem?_map] at hj
        by_cases hjM : j < M
        · rw [List.getElem?_range hjM] at hj; simp at hj; subst hj
          have e : (⟨b, 0, none⟩ : Addr).add j = ⟨b, j, none⟩ := by unfold Addr.add; split <;> simp_all
          rw [e]; exact hF j hjM
        · rw [List.getElem?_eq_none (by simpa using hjM)] at hj; cases hj) (by rw [hl, h2]; omega) (fun v hv => by
        obtain ⟨i, _, rfl⟩ := List.mem_map.1 hv; rfl)
    rw [hl] at this ⊢
    exact this
  · have hcs : ∀ i : Nat, (cs.toList.take 0 ++ ((List.range M).map fun i => Value.int .u32 (F i : Int)) ++ cs.toList.drop (0 + ((List.range M).map fun i => Value.int .u32 (F i : Int)).length)).toArray[i]? = if i < M then some (.int .u32 (F i : Int)) else cs[i]? := by
      intro i
      rw [hl]
      simp only [List.take_zero, List.nil_append, Nat.zero_add, List.getElem?_toArray, List.getElem?_append, List.length_map, List.length_range]
      by_cases hi : i < M
      · simp [hi]
      · rw [if_neg hi, if_neg hi, List.getElem?_drop, show M + (i - M) = i by omega]; simp
    refine ⟨_, T, setRow_heap w g cs _ T _ h1, ?_, fun i hi => ?_, ?_, ?_⟩
    · simp [h2]; omega
    · rw [hcs]; by_cases h : i < M
      · rw [if_pos h, mix_lt _ _ h]
      · rw [if_neg h, mix_ge _ _ (by omega)]; exact h3 i hi
    · rw [hcs, if_neg (by omega)]; exact h4
    · rw [hcs, if_neg (by omega)]; exact h5
  · exact ⟨rfl, rfl, rfl, by simp [World.setRow], fun k _ hk => setRow_other w g k _ (by simpa using hk), Nat.le_refl _⟩

theorem set_close {A B M : Nat} (hM : nw A ≤ M) (hM' : nw B ≤ M) (i : Nat) : mix (wd B) (wd A) M i = wd B i := by
  by_cases h : i < M
  · rw [mix_lt _ _ h]
  · rw [mix_ge _ _ (by omega), wd_beyond (by omega), wd_beyond (by omega)]

set_option maxRecDepth 100000 in
set_option maxHeartbeats 4000000 in
theorem set_lt (g b A B : Nat) (m mb : Bool) (w : World) (hA : Num w g A m) (hB : Num w b B mb) (hgb : g ≠ b) (hcase : nw A < nw B) :
    Calls Tryz.prog 148 #[.pointer (some ⟨g, 0, none⟩), .pointer (some ⟨b, 0, none⟩)] w fun e w' => e = .returned (.tuple #[]) ∧ Num w' g B mb ∧ Kp [g] w w' := by
  have hca := hA.1.cnt
  have hcb := hB.1.cnt
  have ha := nw_le hA.2
  have hb := nw_le hB.2
  obtain ⟨w2, hcp, hn2, hkp2⟩ := copy_num b g (nw B) (wd A) (wd B) (nw A) m w hA.1 (by omega) (fun i hi => hB.1.word (by omega))
  have hn2' := hn2.congr (fun i _ => set_close (A := A) (B := B) (M := nw B) (by omega) (by omega) i)
  have hb2 := hB.1.kp hkp2 (by simpa using fun e => hgb e.symm)
  have hcb2 := hb2.cnt
  have hsb2 := hb2.sgn
  have hcn2 := hn2'.cnt
  have hsn2 := hn2'.sgn
  have hf1 := hn2'.free 229
  have hf2 := hn2'.free 230
  have hsl := fun W => sl_high b (nw B) (by omega) W
  have hsl2 := fun W => sl_all g W
  have hcp1 := fun ty => hcp ty 1
  change ∀ ty, Sem.run _ _ w.drew = Result.ok _ w2.drew at hcp1
  clear hcp hn2
  go_enter Tryz.func148, Tryz.ntmps148
  go_wp2
  go_region
  go_wp2
  go_region
  go_wp2
  go_end0
  exact ⟨rfl, ⟨((hn2'.setC (nw B)).setM mb).drew.drew, hB.2⟩, ((hkp2.setCell (.inl (by simp)) _).setCell (.inl (by simp)) _).drew.drew⟩

set_option maxRecDepth 100000 in
set_option maxHeartbeats 4000000 in
theorem set_ge (g b A B : Nat) (m mb : Bool) (w : World) (hA : Num w g A m) (hB : Num w b B mb) (hgb : g ≠ b) (hcase : ¬ nw A < nw B) :
    Calls Tryz.prog 148 #[.pointer (some ⟨g, 0, none⟩), .pointer (some ⟨b, 0, none⟩)] w fun e w' => e = .returned (.tuple #[]) ∧ Num w' g B mb ∧ Kp [g] w w' := by
  have hca := hA.1.cnt
  have hcb := hB.1.cnt
  have ha := nw_le hA.2
  have hb := nw_le hB.2
  obtain ⟨w2, hcp, hn2, hkp2⟩ := copy_num b g (nw A) (wd A) (wd B) (nw A) m w hA.1 (by omega) (fun i hi => hB.1.word (by omega))
  have hn2' := hn2.congr (fun i _ => set_close (A := A) (B := B) (M := nw A) (by omega) (by omega) i)
  have hb2 := hB.1.kp hkp2 (by simpa using fun e => hgb e.symm)
  have hcb2 := hb2.cnt
  have hsb2 := hb2.sgn
  have hcn2 := hn2'.cnt
  have hsn2 := hn2'.sgn
  have hf1 := hn2'.free 229
  have hf2 := hn2'.free 230
  have hsl := fun W => sl_high b (nw A) (by omega) W
  have hsl2 := fun W => sl_all g W
  have hcp1 := fun ty => hcp ty 1
  change ∀ ty, Sem.run _ _ w.drew = Result.ok _ w2.drew at hcp1
  clear hcp hn2
  go_enter Tryz.func148, Tryz.ntmps148
  go_wp2
  go_region
  go_wp2
  go_region
  go_wp2
  go_end0
  exact ⟨rfl, ⟨((hn2'.setC (nw B)).setM mb).drew.drew, hB.2⟩, ((hkp2.setCell (.inl (by simp)) _).setCell (.inl (by simp)) _).drew.drew⟩

theorem set_any (g b A B : Nat) (m mb : Bool) (w : World) (hA : Num w g A m) (hB : Num w b B mb) (hgb : g ≠ b) :
    Calls Tryz.prog 148 #[.pointer (some ⟨g, 0, none⟩), .pointer (some ⟨b, 0, none⟩)] w fun e w' => e = .returned (.tuple #[]) ∧ Num w' g B mb ∧ Kp [g] w w' := by
  by_cases h : nw A < nw B
  · exact set_lt g b A B m mb w hA hB hgb h
  · exact set_ge g b A B m mb w hA hB hgb h
end Go.Proofs.YtiommpdbbpddpaaGreat

/- Walk over (*number).multiply: the product of two numbers. -/
namespace Go.Proofs.YtiommpdbbpddpaaGreat
open Go.RowKit

theorem mul_T (P x B i j : Nat) : P + B9 ^ i * x * (B % B9 ^ (j + 1)) = P + B9 ^ i * x * (B % B9 ^ j) + B9 ^ (i + j) * (x * wd B j) := by
  rw [mod_succ, Nat.mul_add, ← Nat.add_assoc, Nat.pow_add]
  congr 1
  rw [← Nat.mul_assoc, Nat.mul_assoc _ x, Nat.mul_comm x, ← Nat.mul_assoc (B9 ^ i), Nat.mul_assoc (B9 ^ i * B9 ^ j)]
theorem mix_set' {F F' G : Nat → Nat} {k : Nat} (h : ∀ n, n < k → F n = F' n) : upd (mix F G k) k (F' k) = mix F' G (k + 1) := by
  rw [← mix_set F' G k]
  funext n
  unfold upd
  by_cases h1 : n = k
  · rw [if_pos h1, if_pos h1]
  · rw [if_neg h1, if_neg h1]
    by_cases h2 : n < k
    · rw [mix_lt _ _ h2, mix_lt _ _ h2, h n h2]
    · rw [mix_ge _ _ (by omega), mix_ge _ _ (by omega)]
theorem mul_round (A B i j c : Nat) (hc : c < 1000000000)
    (hq : (A % B9 ^ i * B + B9 ^ i * wd A i * (B % B9 ^ j)) / B9 ^ (i + j) = A % B9 ^ i * B / B9 ^ (i + j) + c) :
    (wd (A % B9 ^ i * B) (i + j) + wd A i * wd B j + c) / 1000000000 < 1000000000 ∧
    (A % B9 ^ i * B + B9 ^ i * wd A i * (B % B9 ^ (j + 1))) / B9 ^ (i + (j + 1)) = A % B9 ^ i * B / B9 ^ (i + (j + 1)) + (wd (A % B9 ^ i * B) (i + j) + wd A i * wd B j + c) / 1000000000 ∧
    upd (mix (wd (A % B9 ^ i * B + B9 ^ i * wd A i * (B % B9 ^ j))) (wd (A % B9 ^ i * B)) (i + j)) (i + j) ((wd (A % B9 ^ i * B) (i + j) + wd A i * wd B j + c) % 1000000000) =
      mix (wd (A % B9 ^ i * B + B9 ^ i * wd A i * (B % B9 ^ (j + 1)))) (wd (A % B9 ^ i * B)) (i + (j + 1)) := by
  have l1 := wd_lt A i
  have l2 := wd_lt B j
  have l3 := wd_lt (A % B9 ^ i * B) (i + j)
  have hmul : wd A i * wd B j ≤ 999999999 * 999999999 := Nat.mul_le_mul (by omega) (by omega)
  refine ⟨by omega, ?_, ?_⟩
  · rw [mul_T]; exact row_carry _ _ (i + j) _ c hq
  · have e := row_word _ _ (i + j) (wd A i * wd B j) c hq
    rw [mul_T, show 1000000000 = B9 from rfl, e]
    exact mix_set' fun n hn => (wd_low _ _ n (i + j) hn).symm
theorem mul_done (A B i c : Nat) (hc : c < 1000000000)
    (hq : (A % B9 ^ i * B + B9 ^ i * wd A i * (B % B9 ^ nw B)) / B9 ^ (i + nw B) = A % B9 ^ i * B / B9 ^ (i + nw B) + c) :
    ∀ n, upd (mix (wd (A % B9 ^ i * B + B9 ^ i * wd A i * (B % B9 ^ nw B))) (wd (A % B9 ^ i * B)) (i + nw B)) (i + nw B) c n = wd (A % B9 ^ (i + 1) * B) n := by
  have hB := lt_pow_nw B
  have hT : A % B9 ^ i * B + B9 ^ i * wd A i * (B % B9 ^ nw B) = A % B9 ^ (i + 1) * B := by
    rw [Nat.mod_eq_of_lt hB, mod_succ, Nat.add_mul]
  rw [hT] at hq ⊢
  have hP : A % B9 ^ i * B < B9 ^ (i + nw B) := by
    rw [Nat.pow_add]; exact Nat.mul_lt_mul'' (Nat.mod_lt _ (B9p_pos i)) hB
  rw [Nat.div_eq_of_lt hP, Nat.zero_add] at hq
  have hT' : A % B9 ^ (i + 1) * B < B9 ^ (i + nw B + 1) := by
    rw [show i + nw B + 1 = (i + 1) + nw B by omega, Nat.pow_add _ (i + 1)]; exact Nat.mul_lt_mul'' (Nat.mod_lt _ (B9p_pos (i + 1))) hB
  have hw : wd (A % B9 ^ (i + 1) * B) (i + nw B) = c := by rw [wd_eq, hq]; exact Nat.mod_eq_of_lt hc
  intro n
  unfold upd
  by_cases h1 : n = i + nw B
  · rw [if_pos h1, h1, hw]
  · rw [if_neg h1]
    by_cases h2 : n < i + nw B
    · rw [mix_lt _ _ h2]
    · rw [mix_ge _ _ (by omega), wd_of_lt (Nat.lt_of_lt_of_le hP (pow_le (by omega))), wd_of_lt (Nat.lt_of_lt_of_le hT' (pow_le (by omega)))]

set_option maxRecDepth 100000 in
set_option maxHeartbeats 4000000 in
theorem multiply_any (g a b A B : Nat) (ma mb : Bool) (w : World) (hg : NumF w g (fun _ => 0) 0 false) (hA : Num w a A ma) (hB : Num w b B mb) (hga : g ≠ a) (hgb : g ≠ b) (hA' : A < B9 ^ 114) (hB' : B < B9 ^ 114) :
    Calls Tryz.prog 121 #[.pointer (some ⟨g, 0, none⟩), .pointer (some ⟨a, 0, none⟩), .pointer (some ⟨b, 0, none⟩)] w fun e w' => e = .returned (.tuple #[]) ∧ Num w' g (A * B) ((ma != mb) && decide (A * B ≠ 0)) ∧ Kp [g] w w' := by
  have hca := hA.1.cnt
  have ha := nw_le hA'
  have hb := nw_le hB'
  have hsl := fun W => sl_high a (nw A) (by omega) W
  have hsl2 := fun W => sl_high b (nw B) (by omega) W
  go_enter Tryz.func121, Tryz.ntmps121
  go_wp2
  go_quiet (fail)
  go_wp2
  clear hca
  go_loopw [21] (fun s21 wr => ∃ i : Nat, i ≤ nw A ∧ s21 = .int .i64 i ∧ NumF wr g (wd (A % B9 ^ i * B)) 0 false ∧ Num wr a A ma ∧ Num wr b B mb ∧ Kp [g] w wr)
    (fun i _ => nw A - (intOf i).toNat)
  case atStart => exact ⟨0, Nat.zero_le _, rfl, (hg.drewN _).congr (fun i _ => by simp [Nat.mod_one, wd_zero]), ⟨hA.1.drewN _, hA.2⟩, ⟨hB.1.drewN _, hB.2⟩, (Kp.refl _ _).drewN _⟩
  case round =>
    obtain ⟨i, hi, rfl, hn, hAn, hBn, hkp⟩ := hrel
    have hi1 : (i : Int) ≤ 114 := by omega
    by_cases hlt : i < nw A
    · have hwa := hAn.1.word (i := i) (by omega)
      have hcb := hBn.1.cnt
      have l1 := wd_lt A i
      go_wp2
      go_quiet (fail)
      go_wp2
      clear hcb hwa
      obtain ⟨wo, hwo⟩ : ∃ wo : World, wo = wr := ⟨_, rfl⟩
      subst hwo
      go_loopw [8, 35] (fun s8 s35 wq => ∃ j : Nat, j ≤ nw B ∧ s35 = .int .i64 j ∧ ∃ c : Nat, s8 = .int .u64 (c : Int) ∧ c < 1000000000 ∧ (A % B9 ^ i * B + B9 ^ i * wd A i * (B % B9 ^ j)) / B9 ^ (i + j) = A % B9 ^ i * B / B9 ^ (i + j) + c ∧
          NumF wq g (mix (wd (A % B9 ^ i * B + B9 ^ i * wd A i * (B % B9 ^ j))) (wd (A % B9 ^ i * B)) (i + j)) 0 false ∧ Num wq a A ma ∧ Num wq b B mb ∧ Kp [g] w wq)
        (fun _ j _ => nw B - (intOf j).toNat)
      case atStart =>
        refine ⟨0, Nat.zero_le _, rfl, 0, rfl, by omega, by simp [Nat.mod_one], ?_, ⟨hAn.1.drewN _, hAn.2⟩, ⟨hBn.1.drewN _, hBn.2⟩, hkp.drewN _⟩
        refine (hn.drewN _).congr fun n _ => ?_
        simp only [Nat.pow_zero, Nat.mod_one, Nat.mul_zero, Nat.add_zero]
        by_cases h : n < i
        · rw [mix_lt _ _ h]
        · rw [mix_ge _ _ (by omega)]
      case round =>
        obtain ⟨j, hj, rfl, c, rfl, hc, hq, hn2, hAn2, hBn2, hkp2⟩ := hrel
        have hj1 : (j : Int) ≤ 114 := by omega
        by_cases hlt2 : j < nw B
        · have hwb := hBn2.1.word (i := j) (by omega)
          have hwn := hn2.word (i := i + j) (by omega)
          rw [mix_ge _ _ (Nat.le_refl _)] at hwn
          have hfr := hn2.free (i + j)
          have l2 := wd_lt B j
          have l3 := wd_lt (A % B9 ^ i * B) (i + j)
          have hmul : wd A i * wd B j ≤ 999999999 * 999999999 := Nat.mul_le_mul (by omega) (by omega)
          have hmul' : (wd A i : Int) * (wd B j : Int) ≤ 999999998000000001 := by rw [← Int.natCast_mul]; omega
          have hmul0 : 0 ≤ (wd A i : Int) * (wd B j : Int) := by rw [← Int.natCast_mul]; omega
          clear hmul
          have hq' := Lib.hid hq; clear hq
          go_wp2
          go_roundw
          case rel =>
            obtain ⟨r1, r2, r3⟩ := mul_round A B i j c hc hq'.out
            refine ⟨j + 1, by omega, by go_num, _, val_i (by simp), r1, r2, ?_, ⟨hAn2.1.far (p := ⟨g, i + j, none⟩) (fun e => hga e.symm) _, hAn2.2⟩, ⟨hBn2.1.far (p := ⟨g, i + j, none⟩) (fun e => hgb e.symm) _, hBn2.2⟩, hkp2.setCell (.inl (by simp)) _⟩
            rw [← r3]; exact hn2.setW' (by omega) (by simp)
          case measure => simp [intOf]; omega
        · obtain rfl : j = nw B := by omega
          have hcb := hBn2.1.cnt
          have hfr := hn2.free (i + nw B)
          have hwn := hn2.word (i := i + nw B) (by omega)
          have hq' := Lib.hid hq; clear hq
          go_wp2
          go_region
          go_wp2
          go_roundw
          case rel =>
            refine ⟨i + 1, by omega, by go_num, ?_, ⟨(hAn2.1.far (p := ⟨g, i + nw B, none⟩) (fun e => hga e.symm) _).drew, hAn2.2⟩, ⟨(hBn2.1.far (p := ⟨g, i + nw B, none⟩) (fun e => hgb e.symm) _).drew, hBn2.2⟩, (hkp2.setCell (.inl (by simp)) _).drew⟩
            exact ((hn2.setW (i := i + nw B) (by omega) c).congr fun n _ => mul_done A B i c hc hq'.out n).drew
          case measure => simp [intOf]; omega
    · obtain rfl : i = nw A := by omega
      have hca := hAn.1.cnt
      have hcb := hBn.1.cnt
      have hsa := hAn.1.sgn
      have hsb := hBn.1.sgn
      have hcg := hn.cnt
      have hsg := hn.sgn
      have hf1 := hn.free 229
      have hf2 := hn.free 230
      go_wp2
      go_region
      go_wp2
      go_region
      go_wp2_with fail
      have hX : A * B < B9 ^ (nw A + nw B) := by
        rw [Nat.pow_add]; exact Nat.mul_lt_mul'' (lt_pow_nw A) (lt_pow_nw B)
      have hmod : A % B9 ^ nw A * B = A * B := by rw [Nat.mod_eq_of_lt (lt_pow_nw A)]
      have hn2 := ((hn.setC' (x := nw A + nw B) (y := (nw A : Int) + (nw B : Int)) (by omega)).setM (!(ma == mb))).drew.drew
      rw [hmod] at hn2
      refine (trim_num g (nw A + nw B) (A * B) _ _ _ hn2 (by omega) hX (fun _ _ => rfl)).mono ?_
      rintro e w' ⟨rfl, hnum, hkp'⟩
      go_wp2
      go_end0
      exact ⟨rfl, hnum, ((hkp.setCell (.inl (by simp)) _).setCell (.inl (by simp)) _).drew.drew.trans hkp'⟩
end Go.Proofs.YtiommpdbbpddpaaGreat
