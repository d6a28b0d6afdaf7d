/- Texts Tn1: each says in its own first comment what it proves. -/
import Derived.Test.YtiommpdbbpddpaaGreatM45
/- slices.IndexFunc, ContainsFunc, Grow and Concat at spans; the closure of TopNumbersSets. -/
namespace Go.Proofs.YtiommpdbbpddpaaGreat
open Go.RowKit
open Go.Lib (nDigits itoa decDigits)

/-- a span that the law passes over -/
def bdB (e : Tx) : Bool := decide (15 < e.1.size) || (decide (15 < e.2.size) || (icE e.1 e.2 != 0))
theorem sh15 {a : ByteArray} (h : a.size ≤ 15) : shB a = true := by
  have h1 := cN_le a
  have h2 := cD_le a
  unfold shB
  rw [decide_eq_true (by omega), decide_eq_true (by omega)]
  rfl
theorem some_any {α : Type} (l : List α) (f : α → Bool) (k : Nat) (h : k < l.length) (hf : f l[k] = true) : l.any f = true := List.any_eq_true.2 ⟨_, List.getElem_mem h, hf⟩
theorem none_any {α : Type} (l : List α) (f : α → Bool) (h : ∀ j (hj : j < l.length), f l[j] = false) : l.any f = false := by
  cases e : l.any f with
  | false => rfl
  | true =>
    obtain ⟨x, hx, hf⟩ := List.any_eq_true.1 e
    obtain ⟨j, hj, rfl⟩ := List.getElem_of_mem hx
    rw [h j hj] at hf
    cases hf
set_option maxRecDepth 100000 in
set_option maxHeartbeats 2000000 in
theorem tsets1 (x y : ByteArray) (w : World) (hx : x.size ≤ 9223372036854775807) (hy : y.size ≤ 9223372036854775807) : Calls Tryz.prog 6 #[.agg #[.string x, .string y]] w fun e w' => e = .returned (.bool (bdB (x, y))) ∧ Kp [] w w' := by
  have s := SpB.made w x y
  have c0 := s.c0
  have c1 := s.c1
  have kk : Kp [] w (w.alloc (.cells #[.string x, .string y] 26 (0, 0))) := (Kp.refl _ _).alloc _
  by_cases h1 : (15 : Int) < (x.size : Int)
  · rw [show bdB (x, y) = true by unfold bdB; rw [decide_eq_true (show 15 < x.size by omega)]; rfl]
    clear s
    go_enter Tryz.func6, Tryz.ntmps6
    go_wp2
    go_ret
    exact ⟨rfl, kk⟩
  by_cases h2 : (15 : Int) < (y.size : Int)
  · rw [show bdB (x, y) = true by unfold bdB; rw [decide_eq_true (show 15 < y.size by omega), Bool.true_or, Bool.or_true]]
    clear s
    go_enter Tryz.func6, Tryz.ntmps6
    go_wp2
    go_ret
    exact ⟨rfl, kk⟩
  have q : Hid (∀ W : World, Calls Tryz.prog 7 #[.agg #[.string x, .string y]] W fun r w' => r = .returned (.int .i64 (icE x y)) ∧ Kp [] W w') := Lib.hid fun W => r3check x y W (sh15 (by omega)) (sh15 (by omega))
  rw [show bdB (x, y) = (icE x y != 0) by unfold bdB; rw [decide_eq_false (show ¬ 15 < x.size by omega), decide_eq_false (show ¬ 15 < y.size by omega), Bool.false_or, Bool.false_or]]
  generalize icE x y = E at *
  clear s
  cases hE : (E != 0) with
  | true =>
    go_enter Tryz.func6, Tryz.ntmps6
    go_wp2_with fail
    with_reducible refine (q.out _).mono ?_
    rintro r w1 ⟨rfl, k⟩
    replace kk := kk.trans k
    clear k q c0 c1
    go_wp2
    go_ret
    exact ⟨rfl, kk⟩
  | false =>
    go_enter Tryz.func6, Tryz.ntmps6
    go_wp2_with fail
    with_reducible refine (q.out _).mono ?_
    rintro r w1 ⟨rfl, k⟩
    replace kk := kk.trans k
    clear k q c0 c1
    go_wp2
    go_ret
    exact ⟨rfl, kk⟩

set_option maxRecDepth 100000 in
set_option maxHeartbeats 4000000 in
theorem sindex (F g o c : Nat) (p : Option Addr) (ps : List Tx) (f : Tx → Bool) (w : World) (hs : Spns w g o ps) (hp : 0 < ps.length → p = some ⟨g, o, none⟩ ∧ g < w.heap.size) (hn : ps.length ≤ 9223372036854775807)
    (he : ∀ args w, (callFunc F args).run Tryz.prog w = .ok (.enter F args) w) (hF : Hid (∀ (e : Tx) (he : e ∈ ps) (W : World), Calls Tryz.prog F #[.agg #[.string e.1, .string e.2]] W fun r w' => r = .returned (.bool (f e)) ∧ Kp [] W w')) :
    Calls Tryz.prog 15 #[.slice p ps.length c, .func (.func F) #[] #[]] w fun r w' => ∃ i : Int, r = .returned (.int .i64 i) ∧ decide (0 ≤ i) = ps.any f ∧ Kp [] w w' := by
  have hn1 : (ps.length : Int) ≤ 9223372036854775807 := by omega
  generalize hR : ps.any f = B at *
  have HR := Lib.hid hR
  clear hR
  go_enter Tryz.func15, Tryz.ntmps15
  go_wp2
  go_loopg [8] ps.length (fun gk s8 wr => ∃ k : Nat, s8 = .int .i64 k ∧ k + gk = ps.length ∧ (∀ j (_ : j < k) (h : j < ps.length), f ps[j] = false) ∧ Kp [] w wr)
  case atStart => exact ⟨0, rfl, by omega, fun j hj => by omega, Kp.refl _ _⟩
  case round =>
    obtain ⟨k, rfl, hk, hb, kk⟩ := hrel
    by_cases hlt : k < ps.length
    · obtain ⟨rfl, hg⟩ := hp (by omega)
      have hcs : wr.cell? ⟨g, o + k * 2, none⟩ = some (.string ps[k].1) ∧ wr.cell? ⟨g, o + k * 2 + 1, none⟩ = some (.string ps[k].2) := by
        have h := hs k hlt
        have e : ∀ n, wr.cell? ⟨g, n, none⟩ = w.cell? ⟨g, n, none⟩ := fun n => by
          unfold World.cell?
          simp only [kk.block g hg (by simp)]
        simp only [e]
        exact h
      obtain ⟨c0, c1⟩ := hcs
      have hlt' : (k : Int) < (ps.length : Int) := by omega
      have hz1 : 0 ≤ (k : Int) := by omega
      have Hb := Lib.hid hb
      have Hk := Lib.hid hk
      have HL := Lib.hid hlt
      have q := Lib.hid (hF.out ps[k] (List.getElem_mem hlt))
      cases hc : f ps[k] with
      | true =>
        have HC := Lib.hid (some_any ps f k hlt hc)
        rw [hc] at q
        clear hs hb hk hp hc Hb hF
        generalize ps[k].1 = x at *
        generalize ps[k].2 = y at *
        clear hlt
        go_wp2_with (go_at_fn F; refine (q.out _).mono ?_; rintro e w' ⟨rfl, k2⟩)
        go_wp2
        go_ret
        exact ⟨_, rfl, by rw [← HR.out, HC.out]; simp, kk.trans k2⟩
      | false =>
        have HC := Lib.hid hc
        rw [hc] at q
        clear hs hb hk hp hc hF
        generalize ps[k].1 = x at *
        generalize ps[k].2 = y at *
        clear hlt
        go_wp2_with (go_at_fn F; refine (q.out _).mono ?_; rintro e w' ⟨rfl, k2⟩)
        go_wp2
        have hk := Hk.out
        have hlt := HL.out
        go_roundg (gk - 1)
        case measure => omega
        case rel =>
          refine ⟨k + 1, by go_num, by omega, fun j hj h => ?_, kk.trans k2⟩
          by_cases ejk : j = k
          · subst ejk
            exact HC.out
          · exact Hb.out j (by omega) h
    · have hlt' : ¬ (k : Int) < (ps.length : Int) := by omega
      have HV := Lib.hid (none_any ps f fun j hj => hb j (by omega) hj)
      clear hb hk hlt hs hp hF
      go_wp2
      go_ret
      exact ⟨_, rfl, by rw [← HR.out, HV.out]; simp, kk⟩
set_option maxRecDepth 100000 in
set_option maxHeartbeats 4000000 in
theorem scontains (v : Value) (ps : List Tx) (w : World) (hs : SlT w v ps) (hn : ps.length ≤ 9223372036854775807) (hz : ∀ e ∈ ps, e.1.size ≤ 9223372036854775807 ∧ e.2.size ≤ 9223372036854775807) :
    Calls Tryz.prog 4 #[v, .func (.func 6) #[] #[]] w fun r w' => r = .returned (.bool (ps.any bdB)) ∧ Kp [] w w' := by
  obtain ⟨p, c, rfl, h⟩ := hs
  have q : Hid (Calls Tryz.prog 15 #[.slice p ps.length c, .func (.func 6) #[] #[]] w fun r w' => ∃ i : Int, r = .returned (.int .i64 i) ∧ decide (0 ≤ i) = ps.any bdB ∧ Kp [] w w') := Lib.hid (by
    by_cases h0 : 0 < ps.length
    · obtain ⟨g, o, rfl, hg, hS⟩ := h h0
      exact sindex 6 g o c _ ps bdB w hS (fun _ => ⟨rfl, hg⟩) hn (enters_of Tryz.func6 (by kernel_rfl) rfl) (Lib.hid fun e he W => tsets1 _ _ W (hz e he).1 (hz e he).2)
    · exact sindex 6 0 0 c p ps bdB w (fun i hi => absurd hi (by omega)) (fun h1 => absurd h1 h0) hn (enters_of Tryz.func6 (by kernel_rfl) rfl) (Lib.hid fun e he W => tsets1 _ _ W (hz e he).1 (hz e he).2))
  clear h hz
  generalize ps.any bdB = B at *
  generalize ps.length = n at *
  go_enter Tryz.func4, Tryz.ntmps4
  go_wp2_with fail
  with_reducible refine q.out.mono ?_
  rintro r w1 ⟨i, rfl, hi, k⟩
  by_cases h0 : 0 ≤ i
  · rw [decide_eq_true h0] at hi
    subst hi
    go_wp2
    go_ret
    exact ⟨rfl, k⟩
  · rw [decide_eq_false h0] at hi
    subst hi
    go_wp2
    go_ret
    exact ⟨by simp [h0], k⟩
end Go.Proofs.YtiommpdbbpddpaaGreat
