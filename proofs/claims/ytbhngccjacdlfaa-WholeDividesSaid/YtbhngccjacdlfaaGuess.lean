/- Walk over (*number).guess: how often a part can be taken, or one more. -/
import Derived.Test.YtbhngccjacdlfaaKnuthA
namespace Go.Proofs.Ytbhngccjacdlfaa
open Go.RowKit

theorem wd_up (R at_ i : Nat) : wd R (at_ + i) = wd (R / B9 ^ at_) i := by
  unfold wd; rw [Nat.pow_add, ← Nat.div_div_eq_div_mul]

/-- the loop of guess, from a first guess on -/
def GuessInv (f s t u0 Q q r : Nat) : Prop := q * f + r = t ∧ Q ≤ q ∧ q ≤ 999999999 ∧ r < 2000000000
theorem guess_inv {f s t u0 Q q r : Nat} (h : GuessInv f s t u0 Q q r) (l1 : f < 1000000000) (l2 : s < 1000000000)
    (hkeep : ∀ q r : Nat, q * f + r = t → Q ≤ q → r * 1000000000 + u0 < q * s → Q ≤ q - 1 ∧ (q - 1) * f + (r + f) = t ∧ 1 ≤ q) (hlt : r * 1000000000 + u0 < q * s) :
    GuessInv f s t u0 Q (q - 1) (r + f) ∧ 1 ≤ q := by
  obtain ⟨h1, h2, h3, h4⟩ := h
  obtain ⟨k1, k2, k3⟩ := hkeep q r h1 h2 hlt
  have hs : q * s ≤ 999999999 * 999999999 := Nat.mul_le_mul h3 (by omega)
  exact ⟨⟨k2, k1, by omega, by omega⟩, k3⟩

set_option maxRecDepth 100000 in
set_option maxHeartbeats 4000000 in
theorem guess_core (g p at_ k f s t u2 u1 u0 Q : Nat) (w : World) (hat : at_ + k ≤ 226)
    (hcv : w.cell? ⟨p, 229, none⟩ = some (.int .i64 ((k + 2 : Nat) : Int))) (f1 : w.cell? ⟨p, k + 1, none⟩ = some (.int .u32 (f : Int))) (f2 : w.cell? ⟨p, k, none⟩ = some (.int .u32 (s : Int)))
    (n1 : w.cell? ⟨g, at_ + (k + 2), none⟩ = some (.int .u32 (u2 : Int))) (n2 : w.cell? ⟨g, at_ + (k + 1), none⟩ = some (.int .u32 (u1 : Int))) (n3 : w.cell? ⟨g, at_ + k, none⟩ = some (.int .u32 (u0 : Int)))
    (hf0 : 0 < f) (l1 : f < 1000000000) (l2 : s < 1000000000) (l3 : u2 < 1000000000) (l4 : u1 < 1000000000) (l5 : u0 < 1000000000)
    (ht : Hid (t = u2 * 1000000000 + u1)) (hlead : Hid (t < (f + 1) * 1000000000)) (hfirst : Hid (Q ≤ t / f)) (hq9 : Hid (Q < 1000000000))
    (hkeep : Hid (∀ q r : Nat, q * f + r = t → Q ≤ q → r * 1000000000 + u0 < q * s → Q ≤ q - 1 ∧ (q - 1) * f + (r + f) = t ∧ 1 ≤ q))
    (hgood : Hid (∀ q r : Nat, q * f + r = t → q ≤ 1000000000 → ¬ r * 1000000000 + u0 < q * s → q ≤ Q + 1)) :
    Calls Try.prog 99 #[.pointer (some ⟨g, 0, none⟩), .pointer (some ⟨p, 0, none⟩), .int .i64 (at_ : Int)] w fun e w' => ∃ q n : Nat, e = .returned (.int .u64 (q : Int)) ∧ Q ≤ q ∧ q ≤ Q + 1 ∧ q < 1000000000 ∧ w' = w.drewN n := by
  obtain ⟨q0, hq0⟩ : ∃ q0 : Nat, q0 = t / f := ⟨_, rfl⟩
  have hq1 : q0 * f ≤ t := by rw [hq0]; exact Nat.div_mul_le_self t f
  have hq2 : t - q0 * f < f := by
    have h1 := Nat.div_add_mod t f
    have h2 := Nat.mod_lt t hf0
    rw [Nat.mul_comm, ← hq0] at h1
    omega
  have hqt : q0 ≤ t := by rw [hq0]; exact Nat.div_le_self t f
  have hd : (t : Int) / (f : Int) = (q0 : Int) := by rw [hq0]; rfl
  obtain ⟨m0, hm0⟩ : ∃ m0 : Nat, m0 = q0 * f := ⟨_, rfl⟩
  have hm : (q0 : Int) * (f : Int) = (m0 : Int) := by rw [hm0]; simp
  have Hm0 := Lib.hid hm0
  rw [← hm0] at hq1 hq2
  have hQ0 : Hid (Q ≤ q0) := by show Q ≤ q0; rw [hq0]; exact hfirst.out
  have a1 : (u2 : Int) * 1000000000 + (u1 : Int) = (t : Int) := by have := ht.out; omega
  have a2 : t < 1000000000000000000 := by have := ht.out; omega
  have hA : 999999999 < q0 → 999999999 * f ≤ t := fun h => by
    rw [hm0] at hq1
    exact Nat.le_trans (Nat.mul_le_mul_right f (Nat.le_of_lt h)) hq1
  clear hq0 hm0
  by_cases hbig : 999999999 < q0
  · have hA1 := hA hbig
    clear hA
    go_enter Try.func99, Try.ntmps99
    go_wp2
    go_quiet (fail)
    go_wp2
    clear hcv f1 f2
    go_quiet (fail)
    go_wp2
    clear n1 n2 hd hm a1
    have n4 : w.cell? ⟨g, at_ + (k + 2) - 2, none⟩ = some (.int .u32 (u0 : Int)) := by rw [show at_ + (k + 2) - 2 = at_ + k by omega]; exact n3
    go_loopw [11, 12] (fun s11 s12 wr => ∃ q r n : Nat, s11 = .int .u64 (q : Int) ∧ s12 = .int .u64 (r : Int) ∧ Hid (GuessInv f s t u0 Q q r) ∧ wr = w.drewN n) (fun a _ _ => (intOf a).toNat)
    case atStart => exact ⟨999999999, t - 999999999 * f, _, rfl, val_i (by omega), ⟨by omega, Nat.le_of_lt_succ (by have := hq9.out; omega), Nat.le_refl _, by have := hlead.out; omega⟩, rfl⟩
    case round =>
      obtain ⟨q, r, n, rfl, rfl, hinv, rfl⟩ := hrel
      have hq9' : q ≤ 999999999 := hinv.out.2.2.1
      have hr9 : r < 2000000000 := hinv.out.2.2.2
      obtain ⟨z, hz⟩ : ∃ z : Nat, z = q * s := ⟨_, rfl⟩
      have hz1 : (q : Int) * (s : Int) = (z : Int) := by rw [hz]; simp
      have hz2 : z ≤ 999999998000000001 := by rw [hz]; exact Nat.le_trans (Nat.mul_le_mul hq9' (show s ≤ 999999999 by omega)) (by decide)
      have Hz := Lib.hid hz; clear hz
      by_cases hlt : r * 1000000000 + u0 < z
      · have hgi := guess_inv hinv.out l1 l2 hkeep.out (by rw [← Hz.out]; exact hlt)
        have h1q : 1 ≤ q := hgi.2
        have Hgi := Lib.hid hgi.1; clear hgi
        go_wp2
        go_roundw
        case rel => exact ⟨q - 1, r + f, _, val_i (by omega), val_i (by omega), Hgi, rfl⟩
        case measure => simp [intOf]; omega
      · have hg := Lib.hid (hgood.out q r hinv.out.1 (by omega) (by rw [← Hz.out]; exact hlt))
        have hQq := Lib.hid hinv.out.2.1
        clear hinv
        go_wp2
        go_ret
        exact ⟨q, _, rfl, hQq.out, hg.out, by omega, rfl⟩
  · clear hA
    go_enter Try.func99, Try.ntmps99
    go_wp2
    go_quiet (fail)
    go_wp2
    clear hcv f1 f2
    go_quiet (fail)
    go_wp2
    clear n1 n2 hd hm a1
    have n4 : w.cell? ⟨g, at_ + (k + 2) - 2, none⟩ = some (.int .u32 (u0 : Int)) := by rw [show at_ + (k + 2) - 2 = at_ + k by omega]; exact n3
    go_loopw [11, 12] (fun s11 s12 wr => ∃ q r n : Nat, s11 = .int .u64 (q : Int) ∧ s12 = .int .u64 (r : Int) ∧ Hid (GuessInv f s t u0 Q q r) ∧ wr = w.drewN n) (fun a _ _ => (intOf a).toNat)
    case atStart => exact ⟨q0, t - m0, _, rfl, val_i (by omega), ⟨by rw [← Hm0.out]; omega, hQ0.out, by omega, by omega⟩, rfl⟩
    case round =>
      obtain ⟨q, r, n, rfl, rfl, hinv, rfl⟩ := hrel
      have hq9' : q ≤ 999999999 := hinv.out.2.2.1
      have hr9 : r < 2000000000 := hinv.out.2.2.2
      obtain ⟨z, hz⟩ : ∃ z : Nat, z = q * s := ⟨_, rfl⟩
      have hz1 : (q : Int) * (s : Int) = (z : Int) := by rw [hz]; simp
      have hz2 : z ≤ 999999998000000001 := by rw [hz]; exact Nat.le_trans (Nat.mul_le_mul hq9' (show s ≤ 999999999 by omega)) (by decide)
      have Hz := Lib.hid hz; clear hz
      by_cases hlt : r * 1000000000 + u0 < z
      · have hgi := guess_inv hinv.out l1 l2 hkeep.out (by rw [← Hz.out]; exact hlt)
        have h1q : 1 ≤ q := hgi.2
        have Hgi := Lib.hid hgi.1; clear hgi
        go_wp2
        go_roundw
        case rel => exact ⟨q - 1, r + f, _, val_i (by omega), val_i (by omega), Hgi, rfl⟩
        case measure => simp [intOf]; omega
      · have hg := Lib.hid (hgood.out q r hinv.out.1 (by omega) (by rw [← Hz.out]; exact hlt))
        have hQq := Lib.hid hinv.out.2.1
        clear hinv
        go_wp2
        go_ret
        exact ⟨q, _, rfl, hQq.out, hg.out, by omega, rfl⟩

theorem guess_any (g p R V at_ k c : Nat) (m mb : Bool) (w : World) (hn : NumF w g (wd R) c m) (hV : Num w p V mb) (hk : nw V = k + 2) (hat : at_ + (k + 2) < 229)
    (hU : R / B9 ^ at_ < V * B9) :
    Calls Try.prog 99 #[.pointer (some ⟨g, 0, none⟩), .pointer (some ⟨p, 0, none⟩), .int .i64 (at_ : Int)] w fun e w' => ∃ q n : Nat, e = .returned (.int .u64 (q : Int)) ∧ R / B9 ^ at_ / V ≤ q ∧ q ≤ R / B9 ^ at_ / V + 1 ∧ q < 1000000000 ∧ w' = w.drewN n := by
  have hcv := hV.1.cnt
  rw [hk] at hcv
  have hVlt : V < B9 ^ (k + 2) := by have := lt_pow_nw V; rwa [hk] at this
  have hVge : B9 ^ (k + 1) ≤ V := by
    rcases Nat.lt_or_ge V (B9 ^ (k + 1)) with h | h
    · have := nw_le h; omega
    · exact h
  have hUlt : R / B9 ^ at_ < B9 ^ (k + 3) := Nat.lt_trans hU (by rw [Nat.pow_succ B9 (k + 2)]; exact Nat.mul_lt_mul_of_pos_right hVlt B9_pos)
  have f1 := hV.1.word (i := k + 1) (by omega)
  have f2 := hV.1.word (i := k) (by omega)
  have n1 := hn.word (i := at_ + (k + 2)) (by omega)
  have n2 := hn.word (i := at_ + (k + 1)) (by omega)
  have n3 := hn.word (i := at_ + k) (by omega)
  rw [wd_up] at n1 n2 n3
  have hV2 := lead_V hVlt
  have hT := lead_U hUlt
  have hf0 : 0 < wd V (k + 1) := by have := wd_top (A := V) (by omega); rw [hk] at this; exact Nat.pos_of_ne_zero this
  exact guess_core g p at_ k (wd V (k + 1)) (wd V k) _ _ _ _ _ w (by omega) hcv f1 f2 n1 n2 n3 hf0 (wd_lt _ _) (wd_lt _ _) (wd_lt _ _) (wd_lt _ _) (wd_lt _ _) rfl
    (lead_lt hU hVlt) (guess_first hV2 hT (wd_lt _ _) hf0) (quo_lt hU) (fun q r h1 h2 h3 => guess_keep hV2 hT h1 h2 h3) (fun q r h1 h2 h3 => guess_good hV2 hT h1 h2 hVge h3)
end Go.Proofs.Ytbhngccjacdlfaa
