/- Walks over whole.less and (*number).addAt. -/
import Derived.Test.YtbhngccjacdlfaaArr
import Derived.Test.YtbhngccjacdlfaaKnuth
namespace Go.Proofs.Ytbhngccjacdlfaa
open Go.RowKit

def lessW (x t : Nat) : Nat := if x < t % 1000000000 then x + 1000000000 - t % 1000000000 else x - t % 1000000000
def lessN (x t : Nat) : Nat := if x < t % 1000000000 then t / 1000000000 + 1 else t / 1000000000
theorem less_eq (x t : Nat) : x + lessN x t * B9 = lessW x t + t := by
  unfold lessN lessW B9
  split <;> omega
theorem lessW_lt {x : Nat} (t : Nat) (hx : x < B9) : lessW x t < B9 := by
  unfold lessW B9 at *
  split <;> omega
theorem lessN_le (x t : Nat) : lessN x t ≤ t / 1000000000 + 1 := by unfold lessN; split <;> omega
theorem ret_two {k1 k2 : IntKind} {a b c d : Int} (h1 : a = c) (h2 : b = d) : Ending.returned (.tuple #[.int k1 a, .int k2 b]) = Ending.returned (.tuple #[.int k1 c, .int k2 d]) := by rw [h1, h2]

set_option maxHeartbeats 1000000 in
theorem less_any (x t : Nat) (w : World) (hx : x < 1000000000) (ht : t < 4000000000000000000) :
    Calls Try.prog 100 #[.int .u32 (x : Int), .int .u64 (t : Int)] w fun e w' => e = .returned (.tuple #[.int .u32 (lessW x t : Int), .int .u64 (lessN x t : Int)]) ∧ w = w' := by
  have hm : t % 1000000000 < 1000000000 := by omega
  by_cases h : x < t % 1000000000
  · have e1 : Hid (lessW x t = x + 1000000000 - t % 1000000000) := if_pos h
    have e2 : Hid (lessN x t = t / 1000000000 + 1) := if_pos h
    go_enter Try.func100, Try.ntmps100
    go_wp2
    go_ret2
    exact ⟨ret_two (by rw [e1.out]; omega) (by rw [e2.out]; omega), rfl⟩
  · have e1 : Hid (lessW x t = x - t % 1000000000) := if_neg h
    have e2 : Hid (lessN x t = t / 1000000000) := if_neg h
    go_enter Try.func100, Try.ntmps100
    go_wp2
    go_ret2
    exact ⟨ret_two (by rw [e1.out]; omega) (by rw [e2.out]; omega), rfl⟩

theorem part_at {r at_ X : Nat} (i : Nat) (hr : r < B9 ^ at_) : wd (r + B9 ^ at_ * X) (at_ + i) = wd X i := by
  unfold wd
  rw [Nat.pow_add, ← Nat.div_div_eq_div_mul, div_low, Nat.div_eq_of_lt hr, Nat.zero_add]
theorem part_mod {r at_ X k : Nat} : ∀ n, n < at_ + k → wd (r + B9 ^ at_ * (X % B9 ^ k)) n = wd (r + B9 ^ at_ * X) n := by
  intro n hn
  have e : r + B9 ^ at_ * X = r + B9 ^ at_ * (X % B9 ^ k) + B9 ^ (at_ + k) * (X / B9 ^ k) := by
    conv => lhs; rw [← Nat.mod_add_div X (B9 ^ k)]
    rw [Nat.mul_add, Nat.pow_add, Nat.mul_assoc, Nat.add_assoc]
  rw [e, wd_low _ _ _ _ hn]

set_option maxRecDepth 100000 in
set_option maxHeartbeats 2000000 in
theorem addAt_any (g p r V at_ X c : Nat) (m mb : Bool) (w : World) (hn : NumF w g (wd (r + B9 ^ at_ * X)) c m) (hV : Num w p V mb) (hgp : g ≠ p) (hr : r < B9 ^ at_) (hX : X < B9 ^ nw V) (hat : at_ + nw V ≤ 229) :
    Calls Try.prog 101 #[.pointer (some ⟨g, 0, none⟩), .pointer (some ⟨p, 0, none⟩), .int .i64 (at_ : Int)] w fun e w' => e = .returned (.tuple #[]) ∧ NumF w' g (wd (r + B9 ^ at_ * ((X + V) % B9 ^ nw V))) c m ∧ Kp [g] w w' := by
  have hcv := hV.1.cnt
  have hb := nw_le hV.2
  have hsl := fun W => sl_high p (nw V) hb W
  go_enter Try.func101, Try.ntmps101
  go_wp2
  go_quiet (fail)
  go_wp2
  clear hcv
  have lowF : ∀ Z i : Nat, i < at_ → wd (r + B9 ^ at_ * Z) i = wd r i := fun Z i hi => wd_low _ _ _ _ hi
  go_loopw [6, 19] (fun s6 s19 wr => ∃ k : Nat, k ≤ nw V ∧ s19 = .int .i64 k ∧ s6 = .int .u32 (cy X V k) ∧ NumF wr g (mix (wd (r + B9 ^ at_ * (X + V))) (wd (r + B9 ^ at_ * X)) (at_ + k)) c m ∧ Num wr p V mb ∧ Kp [g] w wr)
    (fun _ i _ => nw V - (intOf i).toNat)
  case atStart =>
    refine ⟨0, Nat.zero_le _, rfl, by rw [cy_zero]; rfl, (hn.drewN _).congr fun i _ => ?_, ⟨hV.1.drewN _, hV.2⟩, (Kp.refl _ _).drewN _⟩
    by_cases h : i < at_
    · rw [mix_lt _ _ (by omega), lowF _ _ h, lowF _ _ h]
    · rw [mix_ge _ _ (by omega)]
  case round =>
    obtain ⟨k, hk, rfl, rfl, hn2, hV2, hkp⟩ := hrel
    have hk1 : (at_ : Int) + (k : Int) ≤ 229 := by omega
    have hcy := cy_le X V k
    by_cases hlt : k < nw V
    · have hwa := hn2.word (i := at_ + k) (by omega)
      rw [mix_ge _ _ (Nat.le_refl _), part_at k hr] at hwa
      have hwb := hV2.1.word (i := k) (by omega)
      have hfr := hn2.free (at_ + k)
      have l1 := wd_lt X k
      have l2 := wd_lt V k
      go_wp2
      go_roundw
      case rel =>
        have e1 := wd_add X V k
        have e2 := cy_succ X V k
        unfold B9 at e1 e2
        refine ⟨k + 1, by omega, by go_num, val_i (by omega), ?_, ⟨hV2.1.far (p := ⟨g, at_ + k, none⟩) (fun e => hgp e.symm) _, hV2.2⟩, hkp.setCell (.inl (by simp)) _⟩
        rw [show at_ + (k + 1) = at_ + k + 1 by omega, ← mix_set, part_at k hr]; exact hn2.setW' (by omega) (by omega)
      case measure => simp [intOf]; omega
    · obtain rfl : k = nw V := by omega
      go_wp2
      go_end0
      refine ⟨rfl, hn2.congr fun i _ => ?_, hkp⟩
      have hlt1 : r + B9 ^ at_ * X < B9 ^ (at_ + nw V) := by
        rw [Nat.pow_add]
        have h2 := Nat.mul_le_mul_left (B9 ^ at_) (show X + 1 ≤ B9 ^ nw V from hX)
        rw [Nat.mul_add] at h2; omega
      have hlt2 : r + B9 ^ at_ * ((X + V) % B9 ^ nw V) < B9 ^ (at_ + nw V) := by
        rw [Nat.pow_add]
        have h2 := Nat.mul_le_mul_left (B9 ^ at_) (show (X + V) % B9 ^ nw V + 1 ≤ B9 ^ nw V from Nat.mod_lt _ (B9p_pos _))
        rw [Nat.mul_add] at h2; omega
      by_cases h : i < at_ + nw V
      · rw [mix_lt _ _ h, part_mod i h]
      · rw [mix_ge _ _ (by omega), wd_of_lt (Nat.lt_of_lt_of_le hlt1 (pow_le (by omega))), wd_of_lt (Nat.lt_of_lt_of_le hlt2 (pow_le (by omega)))]
end Go.Proofs.Ytbhngccjacdlfaa
