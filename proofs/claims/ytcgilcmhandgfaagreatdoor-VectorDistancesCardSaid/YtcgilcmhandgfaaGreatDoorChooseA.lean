/- What WholeChooses needs: sums of binomials, Binomial at every k, Total of a slice of the call's own. -/
import Derived.Test.YtcgilcmhandgfaaGreatDoorM19
import Derived.Test.YtcgilcmhandgfaaGreatDoorM17
import Derived.Test.YtcgilcmhandgfaaGreatDoorM11
namespace Go.Proofs.YtcgilcmhandgfaaGreatDoor
open Go.RowKit

/-- the sum of the binomials of n below k -/
def chSum (n : Nat) : Nat → Nat
  | 0 => 0
  | k + 1 => chSum n k + ch n k
theorem chSum_succ (n : Nat) : ∀ k : Nat, chSum (n + 1) (k + 1) = chSum n k + chSum n (k + 1)
  | 0 => by simp [chSum, ch_zero]
  | k + 1 => by
    have ih := chSum_succ n k
    have e : chSum (n + 1) (k + 1 + 1) = chSum (n + 1) (k + 1) + (ch n k + ch n (k + 1)) := rfl
    have e1 : chSum n (k + 1 + 1) = chSum n (k + 1) + ch n (k + 1) := rfl
    have e2 : chSum n (k + 1) = chSum n k + ch n k := rfl
    omega
theorem chSum_all : ∀ n : Nat, chSum n (n + 1) = 2 ^ n
  | 0 => rfl
  | n + 1 => by
    have h := chSum_all n
    have e := chSum_succ n (n + 1)
    have e1 : chSum n (n + 1 + 1) = chSum n (n + 1) + ch n (n + 1) := rfl
    rw [ch_gt n (n + 1) (by omega)] at e1
    rw [Nat.pow_succ]
    omega
theorem chSum_list (n : Nat) : ∀ k : Nat, ((List.range k).map fun i => (ch n i : Int)).sum = (chSum n k : Int)
  | 0 => rfl
  | k + 1 => by rw [List.range_succ, List.map_append, List.sum_append, chSum_list n k]; simp [chSum]
theorem ch_le : ∀ n k : Nat, ch n k ≤ 2 ^ n
  | _, 0 => by rw [ch_zero]; exact Nat.one_le_two_pow
  | 0, _ + 1 => by show 0 ≤ _; omega
  | n + 1, k + 1 => by
    have h1 := ch_le n k
    have h2 := ch_le n (k + 1)
    have e : ch (n + 1) (k + 1) = ch n k + ch n (k + 1) := rfl
    rw [Nat.pow_succ]; omega
theorem ch_ok {n k : Nat} (hn : n ≤ 60) : Ok (ch n k : Int) := by
  refine ok_small ?_
  rw [Int.natAbs_natCast]
  exact Nat.lt_of_le_of_lt (Nat.le_trans (ch_le n k) (Nat.pow_le_pow_right (by decide) hn)) (by decide)

/-- the number of sets of k elements among n, for every k -/
def chI (n : Nat) (k : Int) : Nat := if 0 ≤ k then ch n k.toNat else 0
theorem chI_nat (n k : Nat) : chI n (k : Int) = ch n k := by unfold chI; rw [if_pos (by omega), Int.toNat_natCast]
theorem chI_ok {n : Nat} (k : Int) (hn : n ≤ 60) : Ok (chI n k : Int) := by
  unfold chI; split
  · exact ch_ok hn
  · exact ok_small (by decide)


















/-- each binomial is the sum of two, and is the same from both ends -/
theorem chI_pascal (n : Nat) (k : Int) (hk : 0 ≤ k) : chI (n + 1) k = chI n k + chI n (k - 1) := by
  obtain ⟨j, rfl⟩ := Int.eq_ofNat_of_zero_le hk
  rw [chI_nat, chI_nat]
  cases j with
  | zero => rw [ch_zero, ch_zero]; rfl
  | succ j =>
    rw [show ((j + 1 : Nat) : Int) - 1 = (j : Int) by omega, chI_nat]
    show ch n j + ch n (j + 1) = _
    omega
theorem chI_symm (n : Nat) (k : Int) (hk : 0 ≤ k) : chI n k = chI n (n - k) := by
  obtain ⟨j, rfl⟩ := Int.eq_ofNat_of_zero_le hk
  rw [chI_nat]
  by_cases h : j ≤ n
  · rw [show (n : Int) - (j : Int) = ((n - j : Nat) : Int) by omega, chI_nat]; exact ch_symm n j h
  · rw [ch_gt n j (by omega)]; unfold chI; rw [if_neg (by omega)]

theorem kp_grown {w w' : World} (k : Kp [] w w') : w.grownBy w' none := ⟨k.os, k.tape, k.output, k.size, fun i hi _ => k.block i hi (by simp)⟩
theorem grown_kp {w0 w w' : World} {row : Option Nat} (k : Kp [] w0 w) (hg : w.grownBy w' row) (hrow : ∀ i, row = some i → w0.heap.size ≤ i) : Kp [] w0 w' :=
  ⟨hg.os.trans k.os, hg.tape.trans k.tape, hg.output.trans k.output, Nat.le_trans k.size hg.size, fun i hi _ =>
    (hg.block i (Nat.lt_of_lt_of_le hi k.size) (fun e => by have := hrow i e.symm; omega)).trans (k.block i hi (by simp))⟩
/-- texts in a slice of the call's own -/
theorem strs_own {w : World} {base e g cap n : Nat} {ss : List ByteArray} (h : w.ownsRow base e 1 (.slice (some ⟨g, 0, none⟩) n cap) n (ss.map Value.string)) : Strs w g 0 ss ∧ n = ss.length := by
  have hn : n = ss.length := by have := h.1; simp at this; exact this.symm
  refine ⟨fun i hi => ?_, hn⟩
  have := h.cellAt i (by omega)
  rw [List.getElem?_map, List.getElem?_eq_getElem hi] at this
  rw [Nat.zero_add]; exact this
end Go.Proofs.YtcgilcmhandgfaaGreatDoor
