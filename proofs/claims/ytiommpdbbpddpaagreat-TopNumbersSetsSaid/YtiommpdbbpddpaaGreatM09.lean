/- Texts Take, KnuthA, Guess: each says in its own first comment what it proves. -/
import Derived.Test.YtiommpdbbpddpaaGreatM07
import Derived.Test.YtiommpdbbpddpaaGreatM04
import Derived.Lib.SliceRun
import Derived.Test.YtiommpdbbpddpaaGreatM02
/- Walk over (*number).takeOut, where the divisor is greater or has one word. -/
namespace Go.Proofs.YtiommpdbbpddpaaGreat
open Go.RowKit

theorem setCells_num (g : Nat) : ∀ (n o : Nat) (w : World) (f : Nat → Nat) (c : Nat) (m : Bool), NumF w g f c m → o + n ≤ 229 →
    NumF (w.setCells g o (List.replicate n (.int .u32 0))) g (fun i => if o ≤ i ∧ i < o + n then 0 else f i) c m ∧ Kp [g] w (w.setCells g o (List.replicate n (.int .u32 0)))
  | 0, o, w, f, c, m, h, _ => ⟨h.congr fun i _ => by rw [if_neg (by omega)], Kp.refl _ _⟩
  | n + 1, o, w, f, c, m, h, ho => by
    have h1 := h.setW' (i := o) (x := 0) (y := 0) (by omega) rfl
    obtain ⟨h2, h3⟩ := setCells_num g n (o + 1) _ _ c m h1 (by omega)
    rw [List.replicate_succ]
    refine ⟨h2.congr fun i _ => ?_, ((Kp.refl [g] w).setCell (p := ⟨g, o, none⟩) (.inl (by simp)) (.int .u32 0)).trans h3⟩
    unfold upd
    by_cases h1 : i = o
    · subst h1; rw [if_neg (by omega), if_pos rfl, if_pos (by omega)]
    · by_cases h2 : o + 1 ≤ i ∧ i < o + 1 + n
      · rw [if_pos h2, if_pos (by omega)]
      · rw [if_neg h2, if_neg h1, if_neg (by omega)]
theorem zero_u32 : ∀ w : World, (zeroValue 137).run Tryz.prog w = .ok (.int .u32 0) w := fun _ => by kernel_rfl
theorem drewN_setCells (g : Nat) (vs : List Value) : ∀ (o : Nat) (w : World) (n : Nat), (w.drewN n).setCells g o vs = (w.setCells g o vs).drewN n := by
  induction vs with
  | nil => intro o w n; rfl
  | cons v t ih => intro o w n; show ((w.drewN n).setCell _ _).setCells _ _ _ = _; rw [show (w.drewN n).setCell ⟨g, o, none⟩ v = (w.setCell ⟨g, o, none⟩ v).drewN n from rfl, ih]; rfl
theorem clear_num (g M : Nat) (f : Nat → Nat) (c : Nat) (m : Bool) (w : World) (hn : NumF w g f c m) (hM : M ≤ 229) (hM0 : 0 < M) :
    ∃ w2, (∀ ty nq, (Builtin.clear_ #[170] ty #[.slice (some ⟨g, 0, none⟩) M 229]).run Tryz.prog (w.drewN nq) = .ok (.tuple #[]) (w2.drewN nq)) ∧
      NumF w2 g (mix (fun _ => 0) f M) c m ∧ Kp [g] w w2 := by
  obtain ⟨h2, h3⟩ := setCells_num g M 0 w f c m hn (by omega)
  refine ⟨w.setCells g 0 (List.replicate M (.int .u32 0)), fun ty nq => ?_, h2.congr fun i _ => ?_, h3⟩
  · rw [← drewN_setCells]
    exact Lib.run_clear_slice (P := Tryz.prog) (w.drewN nq) 170 137 ty (.int .u32 0) Tryz.underlying170 zero_u32 rfl rfl g 0 M 229 hM0
      (fun j hj => by rw [Nat.zero_add, (hn.drewN nq).word (by omega)]; rfl) (fun j hj => (hn.drewN nq).free _)
  · by_cases h : i < M
    · rw [mix_lt _ _ h, if_pos (by omega)]
    · rw [mix_ge _ _ (by omega), if_neg (by omega)]

/-- what takeOut does with A and B -/
def TakeOutOk (A B : Nat) : Prop := ∀ (g b q : Nat) (mA mB : Bool) (w : World), Num w g A mA → Num w b B mB → NumF w q (fun _ => 0) 0 false → g ≠ b → g ≠ q → b ≠ q → mA = (mA && decide (A ≠ 0)) →
    Calls Tryz.prog 154 #[.pointer (some ⟨g, 0, none⟩), .pointer (some ⟨b, 0, none⟩), .pointer (some ⟨q, 0, none⟩)] w fun e w' => e = .returned (.tuple #[]) ∧ Num w' g (A % B) (mA && decide (A % B ≠ 0)) ∧ Num w' q (A / B) false ∧ Kp [g, q] w w'

theorem ordN_neg {A B : Nat} : ordN A B < 0 ↔ A < B := by
  unfold ordN; split
  · simp [*]
  · split <;> simp [*] <;> omega

set_option maxRecDepth 100000 in
set_option maxHeartbeats 2000000 in
theorem takeOut_less {A B : Nat} (hAB : A < B) : TakeOutOk A B := by
  intro g b q mA mB w hA hB hq hgb hgq hbq hm
  have ho := ordN_neg.2 hAB
  have hv : Hid (Num w g (A % B) (mA && decide (A % B ≠ 0)) ∧ Num w q (A / B) false) := by
    show _ ∧ _
    rw [Nat.mod_eq_of_lt hAB, Nat.div_eq_of_lt hAB, ← hm]
    exact ⟨hA, ⟨by rw [nw_zero]; exact hq.congr fun i _ => (wd_zero i).symm, B9p_pos _⟩⟩
  clear hm
  go_enter Tryz.func154, Tryz.ntmps154
  go_wp2_with fail
  refine (against_any g b A B mA mB _ hA hB).mono ?_
  rintro e w' ⟨rfl, n, rfl⟩
  go_wp2
  refine bodyPost_ret (results_none rfl _ _ _) rfl ?_
  exact ⟨rfl, ⟨hv.out.1.1.drewN _, hv.out.1.2⟩, ⟨hv.out.2.1.drewN _, hv.out.2.2⟩, (Kp.refl _ _).drewN _⟩

set_option maxRecDepth 100000 in
set_option maxHeartbeats 4000000 in
theorem takeOut_one {A B : Nat} (hAB : ¬ A < B) (hB1 : nw B = 1) : TakeOutOk A B := by
  intro g b q mA mB w hA hB hq hgb hgq hbq hm
  have ho : ¬ ordN A B < 0 := fun h => hAB (ordN_neg.1 h)
  have hBlt : B < 1000000000 := by have := lt_pow_nw B; rw [hB1] at this; simpa [B9] using this
  have hB0 : 0 < B := by
    rcases Nat.eq_zero_or_pos B with h | h
    · rw [h, nw_zero] at hB1; omega
    · exact h
  have hwB : wd B 0 = B := by rw [wd_eq]; simp; exact Nat.mod_eq_of_lt hBlt
  have hA0 : 0 < nw A := by
    rcases Nat.eq_zero_or_pos (nw A) with h | h
    · have := nw_eq_zero h; omega
    · exact h
  have ha := nw_le hA.2
  clear hm hAB
  have hq0 : Num w q 0 false := ⟨by rw [nw_zero]; exact hq.congr fun i _ => (wd_zero i).symm, B9p_pos _⟩
  go_enter Tryz.func154, Tryz.ntmps154
  go_wp2_with fail
  refine (against_any g b A B mA mB _ hA hB).mono ?_
  rintro e w' ⟨rfl, n, rfl⟩
  have hcb := hB.1.cnt
  rw [hB1] at hcb
  clear hB1
  go_wp2_with fail
  refine (set_any q g 0 A false mA _ ⟨hq0.1.drewN n, hq0.2⟩ ⟨hA.1.drewN n, hA.2⟩ (fun e => hgq e.symm)).mono ?_
  rintro e w1 ⟨rfl, hq1, hk1⟩
  have hA1 : Num w1 g A mA := ⟨(hA.1.drewN n).kp hk1 (by simpa using hgq), hA.2⟩
  have hB1 : Num w1 b B mB := ⟨(hB.1.drewN n).kp hk1 (by simpa using hbq), hB.2⟩
  have hsq := hq1.1.sgn
  have hfq := hq1.1.free 230
  have hwb := hB1.1.word (i := 0) (by omega)
  rw [hwB] at hwb
  have hq2 := hq1.1.setM false
  go_wp2_with fail
  refine (split_any q A B false _ ⟨hq2, hq1.2⟩ hB0 hBlt).mono ?_
  rintro e w2 ⟨rfl, hq3, hk3⟩
  have hA3 : Num w2 g A mA := ⟨(hA1.1.far (p := ⟨q, 230, none⟩) hgq _).kp hk3 (by simpa using hgq), hA.2⟩
  obtain ⟨w4, hcl, hn4, hk4⟩ := clear_num g (nw A) (wd A) (nw A) mA w2 hA3.1 ha hA0
  have hcl1 := fun ty => hcl ty 1
  change ∀ ty, Sem.run _ _ w2.drew = Result.ok _ w4.drew at hcl1
  clear hcl
  have hsl := fun W => sl_high g (nw A) ha W
  have hca := hA3.1.cnt
  have hw0 := hn4.word (i := 0) (by omega)
  have hf0 := hn4.free 0
  have hf1 := hn4.free 229
  have hc4 := hn4.cnt
  go_wp2
  go_region
  go_wp2_with fail
  have hrlt : A % B < 1000000000 := Nat.lt_trans (Nat.mod_lt _ hB0) hBlt
  have hX : A % B < B9 ^ 1 := by rw [Nat.pow_one]; exact hrlt
  have hn5 := ((hn4.setW' (i := 0) (x := A % B) (y := (A : Int) % (B : Int)) (by omega) (by simp)).setC' (x := 1) (y := 1) rfl).drew
  have k5 : Kp [g] w2 ((w4.setCell ⟨g, 0, none⟩ (.int .u32 ((A : Int) % (B : Int)))).setCell ⟨g, 229, none⟩ (.int .i64 1)).drew := ((hk4.setCell (.inl (by simp)) _).setCell (.inl (by simp)) _).drew
  refine (trim_num g 1 (A % B) _ mA _ hn5 (by omega) hX (fun i hi => ?_)).mono ?_
  · unfold upd
    by_cases h0 : i = 0
    · subst h0; rw [if_pos rfl, wd_eq]; simp; exact (Nat.mod_eq_of_lt hrlt).symm
    · rw [if_neg h0, wd_of_lt (Nat.lt_of_lt_of_le hX (pow_le (by omega)))]
      by_cases h1 : i < nw A
      · rw [mix_lt _ _ h1]
      · rw [mix_ge _ _ (by omega), wd_beyond (by omega)]
  rintro e w6 ⟨rfl, hn6, hk6⟩
  have hq6 : Num w6 q (A / B) false := by
    have := (hq3.1.kp k5 (by simpa using fun e => hgq e.symm)).kp hk6 (by simpa using fun e => hgq e.symm)
    exact ⟨by simpa using this, hq3.2⟩
  go_wp2
  refine bodyPost_ret (results_none rfl _ _ _) rfl ?_
  refine ⟨rfl, hn6, hq6, ?_⟩
  have k1 : Kp [g, q] w w1 := ((Kp.refl _ _).drewN n).step hk1 (by simp <;> omega)
  have k3 := (k1.setCell (p := ⟨q, 230, none⟩) (.inl (by simp)) (.bool false)).step hk3 (by simp <;> omega)
  exact (k3.step k5 (by simp <;> omega)).step hk6 (by simp <;> omega)

end Go.Proofs.YtiommpdbbpddpaaGreat

/- Walks over whole.less and (*number).addAt. -/
namespace Go.Proofs.YtiommpdbbpddpaaGreat
open Go.RowKit

def lessW (x t : Nat) : Nat := if x < t % 1000000000 then x + 1000000000 - t % 1000000000 else x - t % 1000000000
def lessN (x t : Nat) : Nat := if x < t % 1000000000 then t / 1000000000 + 1 else t / 1000000000
theorem less_eq (x t : Nat) : x + lessN x t * B9 = lessW x t + t := by
  unfold lessN lessW B9
  split <;> omega
theorem lessW_lt {x : Nat} (t : Nat) (hx : x < B9) : lessW x t < B9 := by
  unfold lessW B9 at *
  split <;> omega
theorem ret_two {k1 k2 : IntKind} {a b c d : Int} (h1 : a = c) (h2 : b = d) : Ending.returned (.tuple #[.int k1 a, .int k2 b]) = Ending.returned (.tuple #[.int k1 c, .int k2 d]) := by rw [h1, h2]

set_option maxHeartbeats 1000000 in
theorem less_any (x t : Nat) (w : World) (hx : x < 1000000000) (ht : t < 4000000000000000000) :
    Calls Tryz.prog 165 #[.int .u32 (x : Int), .int .u64 (t : Int)] w fun e w' => e = .returned (.tuple #[.int .u32 (lessW x t : Int), .int .u64 (lessN x t : Int)]) ∧ w = w' := by
  have hm : t % 1000000000 < 1000000000 := by omega
  by_cases h : x < t % 1000000000
  · have e1 : Hid (lessW x t = x + 1000000000 - t % 1000000000) := if_pos h
    have e2 : Hid (lessN x t = t / 1000000000 + 1) := if_pos h
    go_enter Tryz.func165, Tryz.ntmps165
    go_wp2
    go_ret2
    exact ⟨ret_two (by rw [e1.out]; omega) (by rw [e2.out]; omega), rfl⟩
  · have e1 : Hid (lessW x t = x - t % 1000000000) := if_neg h
    have e2 : Hid (lessN x t = t / 1000000000) := if_neg h
    go_enter Tryz.func165, Tryz.ntmps165
    go_wp2
    go_ret2
    exact ⟨ret_two (by rw [e1.out]; omega) (by rw [e2.out]; omega), rfl⟩

theorem part_at {r at_ X : Nat} (i : Nat) (hr : r < B9 ^ at_) : wd (r + B9 ^ at_ * X) (at_ + i) = wd X i := by
  unfold wd
  rw [Nat.pow_add, ← Nat.div_div_eq_div_mul, div_low, Nat.div_eq_of_lt hr, Nat.zero_add]
theorem part_mod {r at_ X k : Nat} : ∀ n, n < at_ + k → wd (r + B9 ^ at_ * (X % B9 ^ k)) n = wd (r + B9 ^ at_ * X) n := by
  intro n hn
  have e : r + B9 ^ at_ * X = r + B9 ^ at_ * (X % B9 ^ k) + B9 ^ (at_ + k) * (X / B9 ^ k) := by
    conv => lhs; rw [← Nat.mod_add_div X (B9 ^ k)]
    rw [Nat.mul_add, Nat.pow_add, Nat.mul_assoc, Nat.add_assoc]
  rw [e, wd_low _ _ _ _ hn]

set_option maxRecDepth 100000 in
set_option maxHeartbeats 2000000 in
theorem addAt_any (g p r V at_ X c : Nat) (m mb : Bool) (w : World) (hn : NumF w g (wd (r + B9 ^ at_ * X)) c m) (hV : Num w p V mb) (hgp : g ≠ p) (hr : r < B9 ^ at_) (hX : X < B9 ^ nw V) (hat : at_ + nw V ≤ 229) :
    Calls Tryz.prog 166 #[.pointer (some ⟨g, 0, none⟩), .pointer (some ⟨p, 0, none⟩), .int .i64 (at_ : Int)] w fun e w' => e = .returned (.tuple #[]) ∧ NumF w' g (wd (r + B9 ^ at_ * ((X + V) % B9 ^ nw V))) c m ∧ Kp [g] w w' := by
  have hcv := hV.1.cnt
  have hb := nw_le hV.2
  have hsl := fun W => sl_high p (nw V) hb W
  go_enter Tryz.func166, Tryz.ntmps166
  go_wp2
  go_quiet (fail)
  go_wp2
  clear hcv
  have lowF : ∀ Z i : Nat, i < at_ → wd (r + B9 ^ at_ * Z) i = wd r i := fun Z i hi => wd_low _ _ _ _ hi
  go_loopw [6, 19] (fun s6 s19 wr => ∃ k : Nat, k ≤ nw V ∧ s19 = .int .i64 k ∧ s6 = .int .u32 (cy X V k) ∧ NumF wr g (mix (wd (r + B9 ^ at_ * (X + V))) (wd (r + B9 ^ at_ * X)) (at_ + k)) c m ∧ Num wr p V mb ∧ Kp [g] w wr)
    (fun _ i _ => nw V - (intOf i).toNat)
  case atStart =>
    refine ⟨0, Nat.zero_le _, rfl, by rw [cy_zero]; rfl, (hn.drewN _).congr fun i _ => ?_, ⟨hV.1.drewN _, hV.2⟩, (Kp.refl _ _).drewN _⟩
    by_cases h : i < at_
    · rw [mix_lt _ _ (by omega), lowF _ _ h, lowF _ _ h]
    · rw [mix_ge _ _ (by omega)]
  case round =>
    obtain ⟨k, hk, rfl, rfl, hn2, hV2, hkp⟩ := hrel
    have hk1 : (at_ : Int) + (k : Int) ≤ 229 := by omega
    have hcy := cy_le X V k
    by_cases hlt : k < nw V
    · have hwa := hn2.word (i := at_ + k) (by omega)
      rw [mix_ge _ _ (Nat.le_refl _), part_at k hr] at hwa
      have hwb := hV2.1.word (i := k) (by omega)
      have hfr := hn2.free (at_ + k)
      have l1 := wd_lt X k
      have l2 := wd_lt V k
      go_wp2
      go_roundw
      case rel =>
        have e1 := wd_add X V k
        have e2 := cy_succ X V k
        unfold B9 at e1 e2
        refine ⟨k + 1, by omega, by go_num, val_i (by omega), ?_, ⟨hV2.1.far (p := ⟨g, at_ + k, none⟩) (fun e => hgp e.symm) _, hV2.2⟩, hkp.setCell (.inl (by simp)) _⟩
        rw [show at_ + (k + 1) = at_ + k + 1 by omega, ← mix_set, part_at k hr]; exact hn2.setW' (by omega) (by omega)
      case measure => simp [intOf]; omega
    · obtain rfl : k = nw V := by omega
      go_wp2
      go_end0
      refine ⟨rfl, hn2.congr fun i _ => ?_, hkp⟩
      have hlt1 : r + B9 ^ at_ * X < B9 ^ (at_ + nw V) := by
        rw [Nat.pow_add]
        have h2 := Nat.mul_le_mul_left (B9 ^ at_) (show X + 1 ≤ B9 ^ nw V from hX)
        rw [Nat.mul_add] at h2; omega
      have hlt2 : r + B9 ^ at_ * ((X + V) % B9 ^ nw V) < B9 ^ (at_ + nw V) := by
        rw [Nat.pow_add]
        have h2 := Nat.mul_le_mul_left (B9 ^ at_) (show (X + V) % B9 ^ nw V + 1 ≤ B9 ^ nw V from Nat.mod_lt _ (B9p_pos _))
        rw [Nat.mul_add] at h2; omega
      by_cases h : i < at_ + nw V
      · rw [mix_lt _ _ h, part_mod i h]
      · rw [mix_ge _ _ (by omega), wd_of_lt (Nat.lt_of_lt_of_le hlt1 (pow_le (by omega))), wd_of_lt (Nat.lt_of_lt_of_le hlt2 (pow_le (by omega)))]
end Go.Proofs.YtiommpdbbpddpaaGreat

/- Walk over (*number).guess: how often a part can be taken, or one more. -/
namespace Go.Proofs.YtiommpdbbpddpaaGreat
open Go.RowKit

theorem wd_up (R at_ i : Nat) : wd R (at_ + i) = wd (R / B9 ^ at_) i := by
  unfold wd; rw [Nat.pow_add, ← Nat.div_div_eq_div_mul]

/-- the loop of guess, from a first guess on -/
def GuessInv (f _s t _u0 Q q r : Nat) : Prop := q * f + r = t ∧ Q ≤ q ∧ q ≤ 999999999 ∧ r < 2000000000
theorem guess_inv {f s t u0 Q q r : Nat} (h : GuessInv f s t u0 Q q r) (l1 : f < 1000000000) (l2 : s < 1000000000)
    (hkeep : ∀ q r : Nat, q * f + r = t → Q ≤ q → r * 1000000000 + u0 < q * s → Q ≤ q - 1 ∧ (q - 1) * f + (r + f) = t ∧ 1 ≤ q) (hlt : r * 1000000000 + u0 < q * s) :
    GuessInv f s t u0 Q (q - 1) (r + f) ∧ 1 ≤ q := by
  obtain ⟨h1, h2, h3, h4⟩ := h
  obtain ⟨k1, k2, k3⟩ := hkeep q r h1 h2 hlt
  have hs : q * s ≤ 999999999 * 999999999 := Nat.mul_le_mul h3 (by omega)
  exact ⟨⟨k2, k1, by omega, by omega⟩, k3⟩

set_option maxRecDepth 100000 in
set_option maxHeartbeats 4000000 in
theorem guess_core (g p at_ k f s t u2 u1 u0 Q : Nat) (w : World) (hat : at_ + k ≤ 226)
    (hcv : w.cell? ⟨p, 229, none⟩ = some (.int .i64 ((k + 2 : Nat) : Int))) (f1 : w.cell? ⟨p, k + 1, none⟩ = some (.int .u32 (f : Int))) (f2 : w.cell? ⟨p, k, none⟩ = some (.int .u32 (s : Int)))
    (n1 : w.cell? ⟨g, at_ + (k + 2), none⟩ = some (.int .u32 (u2 : Int))) (n2 : w.cell? ⟨g, at_ + (k + 1), none⟩ = some (.int .u32 (u1 : Int))) (n3 : w.cell? ⟨g, at_ + k, none⟩ = some (.int .u32 (u0 : Int)))
    (hf0 : 0 < f) (l1 : f < 1000000000) (l2 : s < 1000000000) (l3 : u2 < 1000000000) (l4 : u1 < 1000000000) (l5 : u0 < 1000000000)
    (ht : Hid (t = u2 * 1000000000 + u1)) (hlead : Hid (t < (f + 1) * 1000000000)) (hfirst : Hid (Q ≤ t / f)) (hq9 : Hid (Q < 1000000000))
    (hkeep : Hid (∀ q r : Nat, q * f + r = t → Q ≤ q → r * 1000000000 + u0 < q * s → Q ≤ q - 1 ∧ (q - 1) * f + (r + f) = t ∧ 1 ≤ q))
    (hgood : Hid (∀ q r : Nat, q * f + r = t → q ≤ 1000000000 → ¬ r * 1000000000 + u0 < q * s → q ≤ Q + 1)) :
    Calls Tryz.prog 164 #[.pointer (some ⟨g, 0, none⟩), .pointer (some ⟨p, 0, none⟩), .int .i64 (at_ : Int)] w fun e w' => ∃ q n : Nat, e = .returned (.int .u64 (q : Int)) ∧ Q ≤ q ∧ q ≤ Q + 1 ∧ q < 1000000000 ∧ w' = w.drewN n := by
  obtain ⟨q0, hq0⟩ : ∃ q0 : Nat, q0 = t / f := ⟨_, rfl⟩
  have hq1 : q0 * f ≤ t := by rw [hq0]; exact Nat.div_mul_le_self t f
  have hq2 : t - q0 * f < f := by
    have h1 := Nat.div_add_mod t f
    have h2 := Nat.mod_lt t hf0
    rw [Nat.mul_comm, ← hq0] at h1
    omega
  have hqt : q0 ≤ t := by rw [hq0]; exact Nat.div_le_self t f
  have hd : (t : Int) / (f : Int) = (q0 : Int) := by rw [hq0]; rfl
  obtain ⟨m0, hm0⟩ : ∃ m0 : Nat, m0 = q0 * f := ⟨_, rfl⟩
  have hm : (q0 : Int) * (f : Int) = (m0 : Int) := by rw [hm0]; simp
  have Hm0 := Lib.hid hm0
  rw [← hm0] at hq1 hq2
  have hQ0 : Hid (Q ≤ q0) := by show Q ≤ q0; rw [hq0]; exact hfirst.out
  have a1 : (u2 : Int) * 1000000000 + (u1 : Int) = (t : Int) := by have := ht.out; omega
  have a2 : t < 1000000000000000000 := by have := ht.out; omega
  have hA : 999999999 < q0 → 999999999 * f ≤ t := fun h => by
    rw [hm0] at hq1
    exact Nat.le_trans (Nat.mul_le_mul_right f (Nat.le_of_lt h)) hq1
  clear hq0 hm0
  by_cases hbig : 999999999 < q0
  · have hA1 := hA hbig
    clear hA
    go_enter Tryz.func164, Tryz.ntmps164
    go_wp2
    go_quiet (fail)
    go_wp2
    clear hcv f1 f2
    go_quiet (fail)
    go_wp2
    clear n1 n2 hd hm a1
    have n4 : w.cell? ⟨g, at_ + (k + 2) - 2, none⟩ = some (.int .u32 (u0 : Int)) := by rw [show at_ + (k + 2) - 2 = at_ + k by omega]; exact n3
    go_loopw [11, 12] (fun s11 s12 wr => ∃ q r n : Nat, s11 = .int .u64 (q : Int) ∧ s12 = .int .u64 (r : Int) ∧ Hid (GuessInv f s t u0 Q q r) ∧ wr = w.drewN n) (fun a _ _ => (intOf a).toNat)
    case atStart => exact ⟨999999999, t - 999999999 * f, _, rfl, val_i (by omega), ⟨by omega, Nat.le_of_lt_succ (by have := hq9.out; omega), Nat.le_refl _, by have := hlead.out; omega⟩, rfl⟩
    case round =>
      obtain ⟨q, r, n, rfl, rfl, hinv, rfl⟩ := hrel
      have hq9' : q ≤ 999999999 := hinv.out.2.2.1
      have hr9 : r < 2000000000 := hinv.out.2.2.2
      obtain ⟨z, hz⟩ : ∃ z : Nat, z = q * s := ⟨_, rfl⟩
      have hz1 : (q : Int) * (s : Int) = (z : Int) := by rw [hz]; simp
      have hz2 : z ≤ 999999998000000001 := by rw [hz]; exact Nat.le_trans (Nat.mul_le_mul hq9' (show s ≤ 999999999 by omega)) (by decide)
      have Hz := Lib.hid hz; clear hz
      by_cases hlt : r * 1000000000 + u0 < z
      · have hgi := guess_inv hinv.out l1 l2 hkeep.out (by rw [← Hz.out]; exact hlt)
        have h1q : 1 ≤ q := hgi.2
        have Hgi := Lib.hid hgi.1; clear hgi
        go_wp2
        go_roundw
        case rel => exact ⟨q - 1, r + f, _, val_i (by omega), val_i (by omega), Hgi, rfl⟩
        case measure => simp [intOf]; omega
      · have hg := Lib.hid (hgood.out q r hinv.out.1 (by omega) (by rw [← Hz.out]; exact hlt))
        have hQq := Lib.hid hinv.out.2.1
        clear hinv
        go_wp2
        go_ret
        exact ⟨q, _, rfl, hQq.out, hg.out, by omega, rfl⟩
  · clear hA
    go_enter Tryz.func164, Tryz.ntmps164
    go_wp2
    go_quiet (fail)
    go_wp2
    clear hcv f1 f2
    go_quiet (fail)
    go_wp2
    clear n1 n2 hd hm a1
    have n4 : w.cell? ⟨g, at_ + (k + 2) - 2, none⟩ = some (.int .u32 (u0 : Int)) := by rw [show at_ + (k + 2) - 2 = at_ + k by omega]; exact n3
    go_loopw [11, 12] (fun s11 s12 wr => ∃ q r n : Nat, s11 = .int .u64 (q : Int) ∧ s12 = .int .u64 (r : Int) ∧ Hid (GuessInv f s t u0 Q q r) ∧ wr = w.drewN n) (fun a _ _ => (intOf a).toNat)
    case atStart => exact ⟨q0, t - m0, _, rfl, val_i (by omega), ⟨by rw [← Hm0.out]; omega, hQ0.out, by omega, by omega⟩, rfl⟩
    case round =>
      obtain ⟨q, r, n, rfl, rfl, hinv, rfl⟩ := hrel
      have hq9' : q ≤ 999999999 := hinv.out.2.2.1
      have hr9 : r < 2000000000 := hinv.out.2.2.2
      obtain ⟨z, hz⟩ : ∃ z : Nat, z = q * s := ⟨_, rfl⟩
      have hz1 : (q : Int) * (s : Int) = (z : Int) := by rw [hz]; simp
      have hz2 : z ≤ 999999998000000001 := by rw [hz]; exact Nat.le_trans (Nat.mul_le_mul hq9' (show s ≤ 999999999 by omega)) (by decide)
      have Hz := Lib.hid hz; clear hz
      by_cases hlt : r * 1000000000 + u0 < z
      · have hgi := guess_inv hinv.out l1 l2 hkeep.out (by rw [← Hz.out]; exact hlt)
        have h1q : 1 ≤ q := hgi.2
        have Hgi := Lib.hid hgi.1; clear hgi
        go_wp2
        go_roundw
        case rel => exact ⟨q - 1, r + f, _, val_i (by omega), val_i (by omega), Hgi, rfl⟩
        case measure => simp [intOf]; omega
      · have hg := Lib.hid (hgood.out q r hinv.out.1 (by omega) (by rw [← Hz.out]; exact hlt))
        have hQq := Lib.hid hinv.out.2.1
        clear hinv
        go_wp2
        go_ret
        exact ⟨q, _, rfl, hQq.out, hg.out, by omega, rfl⟩

theorem guess_any (g p R V at_ k c : Nat) (m mb : Bool) (w : World) (hn : NumF w g (wd R) c m) (hV : Num w p V mb) (hk : nw V = k + 2) (hat : at_ + (k + 2) < 229)
    (hU : R / B9 ^ at_ < V * B9) :
    Calls Tryz.prog 164 #[.pointer (some ⟨g, 0, none⟩), .pointer (some ⟨p, 0, none⟩), .int .i64 (at_ : Int)] w fun e w' => ∃ q n : Nat, e = .returned (.int .u64 (q : Int)) ∧ R / B9 ^ at_ / V ≤ q ∧ q ≤ R / B9 ^ at_ / V + 1 ∧ q < 1000000000 ∧ w' = w.drewN n := by
  have hcv := hV.1.cnt
  rw [hk] at hcv
  have hVlt : V < B9 ^ (k + 2) := by have := lt_pow_nw V; rwa [hk] at this
  have hVge : B9 ^ (k + 1) ≤ V := by
    rcases Nat.lt_or_ge V (B9 ^ (k + 1)) with h | h
    · have := nw_le h; omega
    · exact h
  have hUlt : R / B9 ^ at_ < B9 ^ (k + 3) := Nat.lt_trans hU (by rw [Nat.pow_succ B9 (k + 2)]; exact Nat.mul_lt_mul_of_pos_right hVlt B9_pos)
  have f1 := hV.1.word (i := k + 1) (by omega)
  have f2 := hV.1.word (i := k) (by omega)
  have n1 := hn.word (i := at_ + (k + 2)) (by omega)
  have n2 := hn.word (i := at_ + (k + 1)) (by omega)
  have n3 := hn.word (i := at_ + k) (by omega)
  rw [wd_up] at n1 n2 n3
  have hV2 := lead_V hVlt
  have hT := lead_U hUlt
  have hf0 : 0 < wd V (k + 1) := by have := wd_top (A := V) (by omega); rw [hk] at this; exact Nat.pos_of_ne_zero this
  exact guess_core g p at_ k (wd V (k + 1)) (wd V k) _ _ _ _ _ w (by omega) hcv f1 f2 n1 n2 n3 hf0 (wd_lt _ _) (wd_lt _ _) (wd_lt _ _) (wd_lt _ _) (wd_lt _ _) rfl
    (lead_lt hU hVlt) (guess_first hV2 hT (wd_lt _ _) hf0) (quo_lt hU) (fun q r h1 h2 h3 => guess_keep hV2 hT h1 h2 h3) (fun q r h1 h2 h3 => guess_good hV2 hT h1 h2 hVge h3)
end Go.Proofs.YtiommpdbbpddpaaGreat
