/- Package grades: the table of letters, and the functions in it. -/
import Derived.Test.YtmjkiccoimhfkaaDoorG2
import Derived.Test.YtmjkiccoimhfkaaDoorGb
import Derived.Laws.EntriesVeiled
namespace Go.Proofs.YtmjkiccoimhfkaaDoor
open Go.RowKit

def fnI (k : Nat) : Nat := if k < 5 then 47 else if k = 5 then 48 else 49
abbrev cloV (f b : Nat) : Value := .func (.func f) #[] #[.pointer (some ⟨b, 0, none⟩)]
def LT (b : Nat) : Array Value := #[.int .i64 50, cloV 47 b, .int .i64 31, cloV 47 b, .int .i64 16, cloV 47 b, .int .i64 6, cloV 47 b, .int .i64 0, cloV 47 b, .int .i64 0, cloV 48 b, .int .i64 2, cloV 49 b, .int .i64 9, cloV 49 b, .int .i64 15, cloV 49 b, .int .i64 22, cloV 49 b]
theorem lt10 {k : Nat} (h : k < 10) : k = 0 ∨ k = 1 ∨ k = 2 ∨ k = 3 ∨ k = 4 ∨ k = 5 ∨ k = 6 ∨ k = 7 ∨ k = 8 ∨ k = 9 := by omega
theorem lt_ix (b k : Nat) (hk : k < 10) (W : World) : (Instr.index 84 (.agg (LT b)) (.int .i64 (k : Int))).run Tryd.prog W = .ok (.agg #[.int .i64 (shfI k), cloV (fnI k) b]) W := by
  rcases lt10 hk with rfl | rfl | rfl | rfl | rfl | rfl | rfl | rfl | rfl | rfl <;> kernel_rfl
/-- the deviations of a shaft -/
def dvLo (k : Nat) (s t : Int) : Int := if k < 5 then -s - t else if k = 5 then -(t / 2) else s
def dvHi (k : Nat) (s t : Int) : Int := if k < 5 then -s else if k = 5 then t / 2 else s + t
set_option maxRecDepth 100000 in
set_option maxHeartbeats 2000000 in
theorem gclo (k b : Nat) (s t : Int) (hs : 0 ≤ s) (hs2 : s ≤ 1000) (ht : 0 ≤ t) (ht2 : t ≤ 1000) (w : World) (hc : w.cell? ⟨b, 0, none⟩ = some (.int .i64 t)) :
    Calls Tryd.prog (fnI k) #[.int .i64 s, .pointer (some ⟨b, 0, none⟩)] w fun r w' => r = .returned (.agg #[.int .i64 (dvLo k s t), .int .i64 (dvHi k s t)]) ∧ Kb w w' := by
  have kk := (Kb.refl w).alloc (.cells #[.int .i64 (dvLo k s t), .int .i64 (dvHi k s t)] 27 (0, 0))
  have is := Is.made w #[.int .i64 (dvLo k s t), .int .i64 (dvHi k s t)] 27
  have hz := ((Kb.refl w).alloc (.cells #[.int .i64 0, .int .i64 0] 27 (0, 0))).cell hc
  clear hc
  by_cases h1 : k < 5
  · have e1 : fnI k = 47 := if_pos h1
    have e2 : dvLo k s t = -s - t := if_pos h1
    have e3 : dvHi k s t = -s := if_pos h1
    rw [e2, e3] at kk is ⊢
    rw [e1]
    clear e1 e2 e3 h1
    go_enter Tryd.func47, Tryd.ntmps47
    go_wp2
    refine ret_row Tryd.results47 rfl rfl is Tryd.underlying27 rfl (by kernel_rfl) ?_
    exact ⟨rfl, kk⟩
  · by_cases h2 : k = 5
    · have e1 : fnI k = 48 := by unfold fnI; rw [if_neg h1, if_pos h2]
      have e2 : dvLo k s t = -(t / 2) := by unfold dvLo; rw [if_neg h1, if_pos h2]
      have e3 : dvHi k s t = t / 2 := by unfold dvHi; rw [if_neg h1, if_pos h2]
      rw [e2, e3] at kk is ⊢
      rw [e1]
      have e4 : t.tdiv 2 = t / 2 := Int.tdiv_eq_ediv_of_nonneg ht
      obtain ⟨u, hu⟩ : ∃ u, t / 2 = u := ⟨_, rfl⟩
      have hu0 : 0 ≤ u := by omega
      have hu1 : u ≤ 1000 := by omega
      rw [hu] at kk is e4 ⊢
      clear e1 e2 e3 h1 h2 hu
      go_enter Tryd.func48, Tryd.ntmps48
      go_wp2
      refine ret_row Tryd.results48 rfl rfl is Tryd.underlying27 rfl (by kernel_rfl) ?_
      exact ⟨rfl, kk⟩
    · have e1 : fnI k = 49 := by unfold fnI; rw [if_neg h1, if_neg h2]
      have e2 : dvLo k s t = s := by unfold dvLo; rw [if_neg h1, if_neg h2]
      have e3 : dvHi k s t = s + t := by unfold dvHi; rw [if_neg h1, if_neg h2]
      rw [e2, e3] at kk is ⊢
      rw [e1]
      clear e1 e2 e3 h1 h2
      go_enter Tryd.func49, Tryd.ntmps49
      go_wp2
      refine ret_row Tryd.results49 rfl rfl is Tryd.underlying27 rfl (by kernel_rfl) ?_
      exact ⟨rfl, kk⟩
end Go.Proofs.YtmjkiccoimhfkaaDoor
