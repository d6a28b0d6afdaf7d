/- Texts Take: each says in its own first comment what it proves. -/
import Derived.Test.YtobfboemgelmoaaDoorM08
import Derived.Test.YtobfboemgelmoaaDoorM04
import Derived.Lib.SliceRun
/- Walk over (*number).takeOut, where the divisor is greater or has one word. -/
namespace Go.Proofs.YtobfboemgelmoaaDoor
open Go.RowKit

theorem setCells_num (g : Nat) : ∀ (n o : Nat) (w : World) (f : Nat → Nat) (c : Nat) (m : Bool), NumF w g f c m → o + n ≤ 229 →
    NumF (w.setCells g o (List.replicate n (.int .u32 0))) g (fun i => if o ≤ i ∧ i < o + n then 0 else f i) c m ∧ Kp [g] w (w.setCells g o (List.replicate n (.int .u32 0)))
  | 0, o, w, f, c, m, h, _ => ⟨h.congr fun i _ => by rw [if_neg (by omega)], Kp.refl _ _⟩
  | n + 1, o, w, f, c, m, h, ho => by
    have h1 := h.setW' (i := o) (x := 0) (y := 0) (by omega) rfl
    obtain ⟨h2, h3⟩ := setCells_num g n (o + 1) _ _ c m h1 (by omega)
    rw [List.replicate_succ]
    refine ⟨h2.congr fun i _ => ?_, ((Kp.refl [g] w).setCell (p := ⟨g, o, none⟩) (.inl (by simp)) (.int .u32 0)).trans h3⟩
    unfold upd
    by_cases h1 : i = o
    · subst h1; rw [if_neg (by omega), if_pos rfl, if_pos (by omega)]
    · by_cases h2 : o + 1 ≤ i ∧ i < o + 1 + n
      · rw [if_pos h2, if_pos (by omega)]
      · rw [if_neg h2, if_neg h1, if_neg (by omega)]
theorem zero_u32 : ∀ w : World, (zeroValue 52).run Tryd.prog w = .ok (.int .u32 0) w := fun _ => by kernel_rfl
theorem drewN_setCells (g : Nat) (vs : List Value) : ∀ (o : Nat) (w : World) (n : Nat), (w.drewN n).setCells g o vs = (w.setCells g o vs).drewN n := by
  induction vs with
  | nil => intro o w n; rfl
  | cons v t ih => intro o w n; show ((w.drewN n).setCell _ _).setCells _ _ _ = _; rw [show (w.drewN n).setCell ⟨g, o, none⟩ v = (w.setCell ⟨g, o, none⟩ v).drewN n from rfl, ih]; rfl
theorem clear_num (g M : Nat) (f : Nat → Nat) (c : Nat) (m : Bool) (w : World) (hn : NumF w g f c m) (hM : M ≤ 229) (hM0 : 0 < M) :
    ∃ w2, (∀ ty nq, (Builtin.clear_ #[71] ty #[.slice (some ⟨g, 0, none⟩) M 229]).run Tryd.prog (w.drewN nq) = .ok (.tuple #[]) (w2.drewN nq)) ∧
      NumF w2 g (mix (fun _ => 0) f M) c m ∧ Kp [g] w w2 := by
  obtain ⟨h2, h3⟩ := setCells_num g M 0 w f c m hn (by omega)
  refine ⟨w.setCells g 0 (List.replicate M (.int .u32 0)), fun ty nq => ?_, h2.congr fun i _ => ?_, h3⟩
  · rw [← drewN_setCells]
    exact Lib.run_clear_slice (P := Tryd.prog) (w.drewN nq) 71 52 ty (.int .u32 0) Tryd.underlying71 zero_u32 rfl rfl g 0 M 229 hM0
      (fun j hj => by rw [Nat.zero_add, (hn.drewN nq).word (by omega)]; rfl) (fun j hj => (hn.drewN nq).free _)
  · by_cases h : i < M
    · rw [mix_lt _ _ h, if_pos (by omega)]
    · rw [mix_ge _ _ (by omega), if_neg (by omega)]

/-- what takeOut does with A and B -/
def TakeOutOk (A B : Nat) : Prop := ∀ (g b q : Nat) (mA mB : Bool) (w : World), Num w g A mA → Num w b B mB → NumF w q (fun _ => 0) 0 false → g ≠ b → g ≠ q → b ≠ q → mA = (mA && decide (A ≠ 0)) →
    Calls Tryd.prog 48 #[.pointer (some ⟨g, 0, none⟩), .pointer (some ⟨b, 0, none⟩), .pointer (some ⟨q, 0, none⟩)] w fun e w' => e = .returned (.tuple #[]) ∧ Num w' g (A % B) (mA && decide (A % B ≠ 0)) ∧ Num w' q (A / B) false ∧ Kp [g, q] w w'

theorem ordN_neg {A B : Nat} : ordN A B < 0 ↔ A < B := by
  unfold ordN; split
  · simp [*]
  · split <;> simp [*] <;> omega

set_option maxRecDepth 100000 in
set_option maxHeartbeats 2000000 in
theorem takeOut_less {A B : Nat} (hAB : A < B) : TakeOutOk A B := by
  intro g b q mA mB w hA hB hq hgb hgq hbq hm
  have ho := ordN_neg.2 hAB
  have hv : Hid (Num w g (A % B) (mA && decide (A % B ≠ 0)) ∧ Num w q (A / B) false) := by
    show _ ∧ _
    rw [Nat.mod_eq_of_lt hAB, Nat.div_eq_of_lt hAB, ← hm]
    exact ⟨hA, ⟨by rw [nw_zero]; exact hq.congr fun i _ => (wd_zero i).symm, B9p_pos _⟩⟩
  clear hm
  go_enter Tryd.func48, Tryd.ntmps48
  go_wp2_with fail
  refine (against_any g b A B mA mB _ hA hB).mono ?_
  rintro e w' ⟨rfl, n, rfl⟩
  go_wp2
  refine bodyPost_ret (results_none rfl _ _ _) rfl ?_
  exact ⟨rfl, ⟨hv.out.1.1.drewN _, hv.out.1.2⟩, ⟨hv.out.2.1.drewN _, hv.out.2.2⟩, (Kp.refl _ _).drewN _⟩

set_option maxRecDepth 100000 in
set_option maxHeartbeats 4000000 in
theorem takeOut_one {A B : Nat} (hAB : ¬ A < B) (hB1 : nw B = 1) : TakeOutOk A B := by
  intro g b q mA mB w hA hB hq hgb hgq hbq hm
  have ho : ¬ ordN A B < 0 := fun h => hAB (ordN_neg.1 h)
  have hBlt : B < 1000000000 := by have := lt_pow_nw B; rw [hB1] at this; simpa [B9] using this
  have hB0 : 0 < B := by
    rcases Nat.eq_zero_or_pos B with h | h
    · rw [h, nw_zero] at hB1; omega
    · exact h
  have hwB : wd B 0 = B := by rw [wd_eq]; simp; exact Nat.mod_eq_of_lt hBlt
  have hA0 : 0 < nw A := by
    rcases Nat.eq_zero_or_pos (nw A) with h | h
    · have := nw_eq_zero h; omega
    · exact h
  have ha := nw_le hA.2
  clear hm hAB
  have hq0 : Num w q 0 false := ⟨by rw [nw_zero]; exact hq.congr fun i _ => (wd_zero i).symm, B9p_pos _⟩
  go_enter Tryd.func48, Tryd.ntmps48
  go_wp2_with fail
  refine (against_any g b A B mA mB _ hA hB).mono ?_
  rintro e w' ⟨rfl, n, rfl⟩
  have hcb := hB.1.cnt
  rw [hB1] at hcb
  clear hB1
  go_wp2_with fail
  refine (set_any q g 0 A false mA _ ⟨hq0.1.drewN n, hq0.2⟩ ⟨hA.1.drewN n, hA.2⟩ (fun e => hgq e.symm)).mono ?_
  rintro e w1 ⟨rfl, hq1, hk1⟩
  have hA1 : Num w1 g A mA := ⟨(hA.1.drewN n).kp hk1 (by simpa using hgq), hA.2⟩
  have hB1 : Num w1 b B mB := ⟨(hB.1.drewN n).kp hk1 (by simpa using hbq), hB.2⟩
  have hsq := hq1.1.sgn
  have hfq := hq1.1.free 230
  have hwb := hB1.1.word (i := 0) (by omega)
  rw [hwB] at hwb
  have hq2 := hq1.1.setM false
  go_wp2_with fail
  refine (split_any q A B false _ ⟨hq2, hq1.2⟩ hB0 hBlt).mono ?_
  rintro e w2 ⟨rfl, hq3, hk3⟩
  have hA3 : Num w2 g A mA := ⟨(hA1.1.far (p := ⟨q, 230, none⟩) hgq _).kp hk3 (by simpa using hgq), hA.2⟩
  obtain ⟨w4, hcl, hn4, hk4⟩ := clear_num g (nw A) (wd A) (nw A) mA w2 hA3.1 ha hA0
  have hcl1 := fun ty => hcl ty 1
  change ∀ ty, Sem.run _ _ w2.drew = Result.ok _ w4.drew at hcl1
  clear hcl
  have hsl := fun W => sl_high g (nw A) ha W
  have hca := hA3.1.cnt
  have hw0 := hn4.word (i := 0) (by omega)
  have hf0 := hn4.free 0
  have hf1 := hn4.free 229
  have hc4 := hn4.cnt
  go_wp2
  go_region
  go_wp2_with fail
  have hrlt : A % B < 1000000000 := Nat.lt_trans (Nat.mod_lt _ hB0) hBlt
  have hX : A % B < B9 ^ 1 := by rw [Nat.pow_one]; exact hrlt
  have hn5 := ((hn4.setW' (i := 0) (x := A % B) (y := (A : Int) % (B : Int)) (by omega) (by simp)).setC' (x := 1) (y := 1) rfl).drew
  have k5 : Kp [g] w2 ((w4.setCell ⟨g, 0, none⟩ (.int .u32 ((A : Int) % (B : Int)))).setCell ⟨g, 229, none⟩ (.int .i64 1)).drew := ((hk4.setCell (.inl (by simp)) _).setCell (.inl (by simp)) _).drew
  refine (trim_num g 1 (A % B) _ mA _ hn5 (by omega) hX (fun i hi => ?_)).mono ?_
  · unfold upd
    by_cases h0 : i = 0
    · subst h0; rw [if_pos rfl, wd_eq]; simp; exact (Nat.mod_eq_of_lt hrlt).symm
    · rw [if_neg h0, wd_of_lt (Nat.lt_of_lt_of_le hX (pow_le (by omega)))]
      by_cases h1 : i < nw A
      · rw [mix_lt _ _ h1]
      · rw [mix_ge _ _ (by omega), wd_beyond (by omega)]
  rintro e w6 ⟨rfl, hn6, hk6⟩
  have hq6 : Num w6 q (A / B) false := by
    have := (hq3.1.kp k5 (by simpa using fun e => hgq e.symm)).kp hk6 (by simpa using fun e => hgq e.symm)
    exact ⟨by simpa using this, hq3.2⟩
  go_wp2
  refine bodyPost_ret (results_none rfl _ _ _) rfl ?_
  refine ⟨rfl, hn6, hq6, ?_⟩
  have k1 : Kp [g, q] w w1 := ((Kp.refl _ _).drewN n).step hk1 (by simp <;> omega)
  have k3 := (k1.setCell (p := ⟨q, 230, none⟩) (.inl (by simp)) (.bool false)).step hk3 (by simp <;> omega)
  exact (k3.step k5 (by simp <;> omega)).step hk6 (by simp <;> omega)

theorem takeOut_small {A B : Nat} (h : A < B ∨ nw B = 1) : TakeOutOk A B := by
  by_cases hAB : A < B
  · exact takeOut_less hAB
  · exact takeOut_one hAB (h.resolve_left hAB)
end Go.Proofs.YtobfboemgelmoaaDoor
