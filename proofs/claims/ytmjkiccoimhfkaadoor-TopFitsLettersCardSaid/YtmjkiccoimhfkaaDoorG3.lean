/- The reference of package grades: errors, steps and tolerances. -/
import Derived.Test.YtmjkiccoimhfkaaDoorG2
namespace Go.Proofs.YtmjkiccoimhfkaaDoor
open Go.RowKit
abbrev blkI (l : List Int) : Obj := .cells (l.map fun z => Value.int .i64 z).toArray 3 (0, 0)
theorem cells_new (w : World) (cs : Array Value) (t : TypeId) (fz : Nat × Nat) (j : Nat) {v : Value} (h : cs[j]? = some v) : (w.alloc (.cells cs t fz)).cell? ⟨w.heap.size, j, none⟩ = some v := by
  have e : (w.alloc (.cells cs t fz)).heap[w.heap.size]? = some (.cells cs t fz) := by
    show (w.heap.push _)[w.heap.size]? = _
    simp
  unfold World.cell?
  rw [e]
  exact h
theorem stp_ge7 {z : Int} {k : Nat} (hk : k < 7) (h : stp z ≤ k) : z ≤ endI k := by
  have := stp_cases z
  rcases lt8 (show k < 8 by omega) with rfl | rfl | rfl | rfl | rfl | rfl | rfl | rfl <;> simp only [endI] <;> omega

theorem ends_at {k : Nat} (h : k < 7) : (#[.int .i64 3000, .int .i64 6000, .int .i64 10000, .int .i64 18000, .int .i64 30000, .int .i64 50000, .int .i64 80000] : Array Value)[k]? = some (.int .i64 (endI k)) := by
  rcases lt8 (show k < 8 by omega) with rfl | rfl | rfl | rfl | rfl | rfl | rfl | rfl <;> first | rfl | omega
theorem bases_at {k : Nat} (h : k < 8) : (#[.int .i64 6, .int .i64 8, .int .i64 9, .int .i64 11, .int .i64 13, .int .i64 16, .int .i64 19, .int .i64 22] : Array Value)[k]? = some (.int .i64 (baseI k)) := by
  rcases lt8 h with rfl | rfl | rfl | rfl | rfl | rfl | rfl | rfl <;> rfl
theorem facs_at {k : Nat} (h : k < 8) : (#[.int .i64 7, .int .i64 10, .int .i64 16, .int .i64 25, .int .i64 40, .int .i64 64, .int .i64 100, .int .i64 160] : Array Value)[k]? = some (.int .i64 (facI k)) := by
  rcases lt8 h with rfl | rfl | rfl | rfl | rfl | rfl | rfl | rfl <;> rfl
set_option maxRecDepth 100000 in
set_option maxHeartbeats 2000000 in
theorem rSize (z : Int) : Gq 14 #[.int .i64 z] (.int .i64 (szE z)) := Lib.hid fun w _ => by
  by_cases h1 : z < 1
  · have e : szE z = 2 := by unfold szE; rw [if_neg (by omega)]
    rw [e]; clear e
    go_enter Tryd.func14, Tryd.ntmps14
    go_wp2
    go_ret
    exact ⟨rfl, Kb.refl _⟩
  · by_cases h2 : 100000 < z
    · have e : szE z = 2 := by unfold szE; rw [if_neg (by omega)]
      rw [e]; clear e
      go_enter Tryd.func14, Tryd.ntmps14
      go_wp2
      go_ret
      exact ⟨rfl, Kb.refl _⟩
    · have e : szE z = 0 := by unfold szE; rw [if_pos (by omega)]
      rw [e]; clear e
      go_enter Tryd.func14, Tryd.ntmps14
      go_wp2
      go_ret
      exact ⟨rfl, Kb.refl _⟩
set_option maxRecDepth 100000 in
set_option maxHeartbeats 2000000 in
theorem r15Check (h : Bool) (l g : Int) : Gq 36 #[.agg #[.bool h, .int .i64 l, .int .i64 g]] (.int .i64 (clE l g)) := Lib.hid fun w hg => by
  have kk := (Kb.refl w).alloc (.cells #[.bool h, .int .i64 l, .int .i64 g] 55 (0, 0))
  by_cases h1 : l < 0
  · have e : clE l g = 1 := by unfold clE; rw [if_neg (by omega)]
    rw [e]; clear e
    go_enter Tryd.func36, Tryd.ntmps36
    go_wp2
    go_ret
    exact ⟨rfl, kk⟩
  · by_cases h2 : 9 < l
    · have e : clE l g = 1 := by unfold clE; rw [if_neg (by omega)]
      rw [e]; clear e
      go_enter Tryd.func36, Tryd.ntmps36
      go_wp2
      go_ret
      exact ⟨rfl, kk⟩
    · by_cases h3 : g < 5
      · have e : clE l g = 2 := by unfold clE grE; rw [if_pos (by omega), if_neg (by omega)]
        rw [e]; clear e
        go_enter Tryd.func36, Tryd.ntmps36
        go_wp2
        go_ret
        exact ⟨rfl, kk⟩
      · by_cases h4 : 12 < g
        · have e : clE l g = 2 := by unfold clE grE; rw [if_pos (by omega), if_neg (by omega)]
          rw [e]; clear e
          go_enter Tryd.func36, Tryd.ntmps36
          go_wp2
          go_ret
          exact ⟨rfl, kk⟩
        · have e : clE l g = 0 := by unfold clE grE; rw [if_pos (by omega), if_pos (by omega)]
          rw [e]; clear e
          go_enter Tryd.func36, Tryd.ntmps36
          go_wp2
          go_ret
          exact ⟨rfl, kk⟩
set_option maxRecDepth 100000 in
set_option maxHeartbeats 2000000 in
theorem rAt (z : Int) : Gq 64 #[.int .i64 z] (.int .i64 (stp z)) := Lib.hid fun w _ => by
  have hle := stp_le z
  have HL := Lib.hid (fun k (h : k < stp z) => stp_lt h)
  have HG := Lib.hid (fun k (hk : k < 7) (h : stp z ≤ k) => stp_ge7 hk h)
  generalize stp z = s at *
  have kk := (Kb.refl w).alloc (.cells #[.int .i64 3000, .int .i64 6000, .int .i64 10000, .int .i64 18000, .int .i64 30000, .int .i64 50000, .int .i64 80000] 3 (0, 0))
  have HE := Lib.hid (fun k (hk : k < 7) => cells_new w _ 3 (0, 0) k (ends_at hk))
  go_enter Tryd.func64, Tryd.ntmps64
  go_wp2
  go_loopg [4, 5] 7 (fun gk s4 s5 wr => ∃ k c : Nat, s5 = .int .i64 k ∧ s4 = .int .i64 c ∧ k + gk = 7 ∧ Hid ((k ≤ s → c = k) ∧ (s ≤ k → c = s)) ∧ w.alloc (.cells #[.int .i64 3000, .int .i64 6000, .int .i64 10000, .int .i64 18000, .int .i64 30000, .int .i64 50000, .int .i64 80000] 3 (0, 0)) = wr)
  case atStart => exact ⟨0, 0, rfl, rfl, rfl, ⟨fun _ => rfl, fun h => by omega⟩, rfl⟩
  case round =>
    obtain ⟨k, c, rfl, rfl, hk, hc, rfl⟩ := hrel
    by_cases h7 : k < 7
    · have hx := HE.out k h7
      have hk0 : (0 : Int) ≤ (k : Int) := by omega
      have hk8 : (k : Int) < 7 := by omega
      have Hk := Lib.hid hk
      have hc1 : c ≤ 7 := by have := hc.out; omega
      by_cases hlt : k < s
      · have hy := HL.out k hlt
        have hn : Hid ((k + 1 ≤ s → c + 1 = k + 1) ∧ (s ≤ k + 1 → c + 1 = s)) := by have := hc.out; exact ⟨fun _ => by omega, fun _ => by omega⟩
        generalize endI k = e at *
        clear hk hlt hle hc h7
        go_wp2
        have hk := Hk.out
        go_roundg (gk - 1)
        case measure => omega
        case rel => exact ⟨k + 1, c + 1, by go_num, by go_num, by omega, hn, rfl⟩
      · have hy := HG.out k h7 (by omega)
        have hy' : ¬ endI k < z := by omega
        have hn : Hid ((k + 1 ≤ s → c = k + 1) ∧ (s ≤ k + 1 → c = s)) := by have := hc.out; exact ⟨fun _ => by omega, fun _ => by omega⟩
        generalize endI k = e at *
        clear hk hlt hle hc h7 hy
        go_wp2
        have hk := Hk.out
        go_roundg (gk - 1)
        case measure => omega
        case rel => exact ⟨k + 1, c, by go_num, rfl, by omega, hn, rfl⟩
    · have hE : Hid ((s : Int) = (c : Int)) := by have := hc.out; show (s : Int) = c; omega
      obtain rfl : k = 7 := by omega
      clear hk h7 hc hle
      go_wp2
      go_ret
      exact ⟨by rw [hE.out]; rfl, kk⟩
set_option maxRecDepth 100000 in
set_option maxHeartbeats 2000000 in
theorem rBase (z : Int) : Gq 61 #[.int .i64 z] (.int .i64 (baseI (stp z))) := Lib.hid fun w hg => by
  have q := rAt z
  unfold Gq at q
  have hle := stp_le z
  have k0 := (Kb.refl w).alloc (.cells #[.int .i64 6, .int .i64 8, .int .i64 9, .int .i64 11, .int .i64 13, .int .i64 16, .int .i64 19, .int .i64 22] 3 (0, 0))
  have hg1 := hg.kb k0
  have c := cells_new w _ 3 (0, 0) (stp z) (bases_at (show stp z < 8 by omega))
  have i1 : (0 : Int) ≤ (stp z : Int) := by omega
  have i2 : (stp z : Int) < 8 := by omega
  clear hle hg
  generalize baseI (stp z) = b at *
  generalize stp z = s at *
  go_enter Tryd.func61, Tryd.ntmps61
  go_wp2_with fail
  with_reducible refine (q.out _ hg1).mono ?_
  rintro r w1 ⟨rfl, k1⟩
  have c1 := k1.cell c
  go_wp2
  go_ret
  exact ⟨rfl, k0.trans k1⟩
end Go.Proofs.YtmjkiccoimhfkaaDoor
