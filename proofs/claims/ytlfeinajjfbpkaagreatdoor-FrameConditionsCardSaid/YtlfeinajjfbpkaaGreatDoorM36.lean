/- Texts Uc: each says in its own first comment what it proves. -/
import Derived.Test.YtlfeinajjfbpkaaGreatDoorM41
/- Frames: the errors of datums. -/
namespace Go.Proofs.YtlfeinajjfbpkaaGreatDoor
open Go.RowKit

set_option maxRecDepth 100000 in
set_option maxHeartbeats 4000000 in
theorem fmaterial_1 (m : Int)      (h1 : m < 0) (w : World)  : Calls Tryz.prog 49 #[.int .i64 m] w fun r W' => r = .returned (.int .i64 1) ∧ Kb w W' := by
  have kx := Kb.refl w
  go_enter Tryz.func49, Tryz.ntmps49
  go_wp2
  go_ret
  exact ⟨rfl, kx⟩
set_option maxRecDepth 100000 in
set_option maxHeartbeats 4000000 in
theorem fmaterial_2 (m : Int)      (h1 : ¬ m < 0) (h2 : 3 ≤ m) (w : World)  : Calls Tryz.prog 49 #[.int .i64 m] w fun r W' => r = .returned (.int .i64 1) ∧ Kb w W' := by
  have kx := Kb.refl w
  go_enter Tryz.func49, Tryz.ntmps49
  go_wp2
  go_ret
  exact ⟨rfl, kx⟩
set_option maxRecDepth 100000 in
set_option maxHeartbeats 4000000 in
theorem fmaterial_3 (m : Int)      (h1 : ¬ m < 0) (h2 : ¬ 3 ≤ m) (w : World)  : Calls Tryz.prog 49 #[.int .i64 m] w fun r W' => r = .returned (.int .i64 0) ∧ Kb w W' := by
  have kx := Kb.refl w
  go_enter Tryz.func49, Tryz.ntmps49
  go_wp2
  go_ret
  exact ⟨rfl, kx⟩
set_option maxRecDepth 100000 in
theorem fmaterial_any (m : Int)    : Ca 49 #[.int .i64 m] (if m < 0 then (.int .i64 1) else (if 3 ≤ m then (.int .i64 1) else (.int .i64 0))) := Lib.hid fun w => by
  by_cases h1 : m < 0
  · rw [if_pos h1]
    exact fmaterial_1 m h1 w
  · rw [if_neg h1]
    by_cases h2 : 3 ≤ m
    · rw [if_pos h2]
      exact fmaterial_2 m h1 h2 w
    · rw [if_neg h2]
      exact fmaterial_3 m h1 h2 w
/-- the error of a material condition -/
def cmE (m : Int) : Int := fE (decide (m < 0) || decide (3 ≤ m)) 1
theorem fmat (m : Int) : Ca 49 #[.int .i64 m] (.int .i64 (cmE m)) := by
  have q := fmaterial_any m
  have e : (if m < 0 then (Value.int .i64 1) else (if 3 ≤ m then (.int .i64 1) else (.int .i64 0))) = .int .i64 (cmE m) := by
    unfold cmE fE
    by_cases h1 : m < 0
    · simp [h1]
    · by_cases h2 : 3 ≤ m <;> simp [h1, h2]
  rw [e] at q; exact q
/-- the first error of datums: d is one of l, those before it are b -/
def dtE (b : List DatT) (d : DatT) : Int := firstE [firstE [nmE d.1], fE (dnB b d.1) 7, firstE [cmE d.2]]
def dsF (b : List DatT) : List DatT → Int
  | [] => 0
  | d :: l => if dtE b d = 0 then dsF (b ++ [d]) l else dtE b d
def dsE (l : List DatT) : Int := dsF [] l
theorem dsF_drop {l : List DatT} {i : Nat} {d : DatT} (h : l[i]? = some d) : dsF (l.take i) (l.drop i) = if dtE (l.take i) d = 0 then dsF (l.take (i + 1)) (l.drop (i + 1)) else dtE (l.take i) d := by
  obtain ⟨hi, rfl⟩ := List.getElem?_eq_some_iff.1 h
  rw [List.drop_eq_getElem_cons hi, dsF, List.take_append_getElem hi]
theorem DatS.take {w : World} {dp : Option Addr} {dl dc : Nat} {l : List DatT} (h : DatS w (.slice dp dl dc) l) (i : Nat) (hi : i ≤ dl) : DatS w (.slice dp i dc) (l.take i) := by
  have hl := h.len
  obtain ⟨q, cap, h2, h3⟩ := h
  injection h2 with e1 e2 e3
  refine ⟨dp, dc, by simp; omega, fun hp => ?_⟩
  have hp' : 0 < i := by simp at hp; omega
  obtain ⟨b, off, g1, g2, g3, g4⟩ := h3 (by simp; omega)
  refine ⟨b, off, e1.trans g1, g2, g3, fun j hj k hk => ?_⟩
  have hj' : j < i := by simp at hj; omega
  rw [g4 j (by simp; omega) k hk]
  simp [List.getD_eq_getElem?_getD, hj']
theorem DatS.cell {w w1 : World} {b off dl dc : Nat} {l : List DatT} (h : DatS w (.slice (some ⟨b, off, none⟩) dl dc) l) (k : Kb w w1) {i : Nat} {d : DatT} (hd : l[i]? = some d) : w1.cell? ⟨b, off + i * 2, none⟩ = some (.string d.1) ∧ w1.cell? ⟨b, off + i * 2 + 1, none⟩ = some (.int .i64 d.2) := by
  have hl := h.len
  have hi : i < l.length := (List.getElem?_eq_some_iff.1 hd).1
  obtain ⟨b', off', e, hat⟩ := h.at (by omega)
  injection e with e
  injection e with e1 e2
  subst e1 e2
  exact ⟨k.cell (hat i d hd).1, k.cell (hat i d hd).2⟩
theorem Cw.out {w : World} {n : Nat} {args : Array Value} {v : Value} (h : Cw w n args v) (W : World) (k : Kb w W) : Calls Tryz.prog n args W fun r w' => r = .returned v ∧ Kb W w' := h W k
theorem ne_b2 {e : Int} (h : (e != 0) = true) : e ≠ 0 := by simpa using h
end Go.Proofs.YtlfeinajjfbpkaaGreatDoor
