/- Texts Near: each says in its own first comment what it proves. -/
import Derived.Test.YtcgilcmhandgfaaGreatDoorM55
import Derived.Test.YtcgilcmhandgfaaGreatDoorM56
/- slices.IndexFunc and ContainsFunc at points and at places; near of metrolablaw07. -/
namespace Go.Proofs.YtcgilcmhandgfaaGreatDoor
open Go.RowKit
open Go.Lib (nDigits itoa decDigits)

/-- far from the origin -/
def farP (p : Int × Int) : Bool := decide (p.1 < -9000) || (decide (9000 < p.1) || (decide (p.2 < -9000) || decide (9000 < p.2)))
theorem farP_no {x y : Int} (h : farP (x, y) = false) : -9000 ≤ x ∧ x ≤ 9000 ∧ -9000 ≤ y ∧ y ≤ 9000 := by
  unfold farP at h
  simp at h
  omega
theorem getD_any {α : Type} (l : List α) (f : α → Bool) (k : Nat) (h : k < l.length) (hf : f l[k] = true) : l.any f = true := List.any_eq_true.2 ⟨_, List.getElem_mem h, hf⟩
theorem none_any {α : Type} (l : List α) (f : α → Bool) (h : ∀ j (hj : j < l.length), f l[j] = false) : l.any f = false := by
  cases e : l.any f with
  | false => rfl
  | true =>
    obtain ⟨x, hx, hf⟩ := List.any_eq_true.1 e
    obtain ⟨j, hj, rfl⟩ := List.getElem_of_mem hx
    rw [h j hj] at hf
    cases hf
set_option maxRecDepth 100000 in
theorem near1 (x y : Int) (w : World) : Calls Tryz.prog 106 #[.agg #[.int .i64 x, .int .i64 y]] w fun e w' => e = .returned (.bool (farP (x, y))) ∧ Kp [] w w' := by
  have s := PtB.made w x y
  have c0 := s.c0
  have c1 := s.c1
  have kk : Kp [] w (w.alloc (.cells #[.int .i64 x, .int .i64 y] 49 (0, 0))) := (Kp.refl _ _).alloc _
  clear s
  by_cases h1 : x < -9000
  · rw [show farP (x, y) = true by simp [farP, h1]]
    go_enter Tryz.func106, Tryz.ntmps106
    go_wp2
    go_ret
    exact ⟨rfl, kk⟩
  by_cases h2 : 9000 < x
  · rw [show farP (x, y) = true by simp [farP, h2]]
    go_enter Tryz.func106, Tryz.ntmps106
    go_wp2
    go_ret
    exact ⟨rfl, kk⟩
  by_cases h3 : y < -9000
  · rw [show farP (x, y) = true by simp [farP, h3]]
    go_enter Tryz.func106, Tryz.ntmps106
    go_wp2
    go_ret
    exact ⟨rfl, kk⟩
  by_cases h4 : 9000 < y
  · rw [show farP (x, y) = true by simp [farP, h4]]
    go_enter Tryz.func106, Tryz.ntmps106
    go_wp2
    go_ret
    exact ⟨rfl, kk⟩
  · rw [show farP (x, y) = false by simp [farP, h1, h2, h3, h4]]
    go_enter Tryz.func106, Tryz.ntmps106
    go_wp2
    go_ret
    exact ⟨rfl, kk⟩

set_option maxRecDepth 100000 in
set_option maxHeartbeats 4000000 in
theorem vindex (F g o c : Nat) (p : Option Addr) (ps : List (Int × Int)) (f : Int × Int → Bool) (w : World) (hs : Pts w g o ps) (hp : 0 < ps.length → p = some ⟨g, o, none⟩ ∧ g < w.heap.size) (hn : ps.length ≤ 9223372036854775807)
    (he : ∀ args w, (callFunc F args).run Tryz.prog w = .ok (.enter F args) w) (hF : Hid (∀ (e : Int × Int) (W : World), Calls Tryz.prog F #[.agg #[.int .i64 e.1, .int .i64 e.2]] W fun r w' => r = .returned (.bool (f e)) ∧ Kp [] W w')) :
    Calls Tryz.prog 135 #[.slice p ps.length c, .func (.func F) #[] #[]] w fun r w' => ∃ i : Int, r = .returned (.int .i64 i) ∧ decide (0 ≤ i) = ps.any f ∧ Kp [] w w' := by
  have hn1 : (ps.length : Int) ≤ 9223372036854775807 := by omega
  generalize hR : ps.any f = B at *
  have HR := Lib.hid hR
  clear hR
  go_enter Tryz.func135, Tryz.ntmps135
  go_wp2
  go_loopg [8] ps.length (fun gk s8 wr => ∃ k : Nat, s8 = .int .i64 k ∧ k + gk = ps.length ∧ (∀ j (_ : j < k) (h : j < ps.length), f ps[j] = false) ∧ Kp [] w wr)
  case atStart => exact ⟨0, rfl, by omega, fun j hj => by omega, Kp.refl _ _⟩
  case round =>
    obtain ⟨k, rfl, hk, hb, kk⟩ := hrel
    by_cases hlt : k < ps.length
    · obtain ⟨rfl, hg⟩ := hp (by omega)
      have hcs : wr.cell? ⟨g, o + k * 2, none⟩ = some (.int .i64 ps[k].1) ∧ wr.cell? ⟨g, o + k * 2 + 1, none⟩ = some (.int .i64 ps[k].2) := by
        have h := hs k hlt
        have e : ∀ n, wr.cell? ⟨g, n, none⟩ = w.cell? ⟨g, n, none⟩ := fun n => by
          unfold World.cell?
          simp only [kk.block g hg (by simp)]
        simp only [e]
        exact h
      obtain ⟨c0, c1⟩ := hcs
      have hlt' : (k : Int) < (ps.length : Int) := by omega
      have hz1 : 0 ≤ (k : Int) := by omega
      have Hb := Lib.hid hb
      have Hk := Lib.hid hk
      have HL := Lib.hid hlt
      have q := Lib.hid (hF.out ps[k])
      cases hc : f ps[k] with
      | true =>
        have HC := Lib.hid (getD_any ps f k hlt hc)
        rw [hc] at q
        clear hs hb hk hp hc Hb hF
        generalize ps[k].1 = x at *
        generalize ps[k].2 = y at *
        clear hlt
        go_wp2_with (go_at_fn F; refine (q.out _).mono ?_; rintro e w' ⟨rfl, k2⟩)
        go_wp2
        go_ret
        exact ⟨_, rfl, by rw [← HR.out, HC.out]; simp, kk.trans k2⟩
      | false =>
        have HC := Lib.hid hc
        rw [hc] at q
        clear hs hb hk hp hc
        generalize ps[k].1 = x at *
        generalize ps[k].2 = y at *
        clear hlt
        go_wp2_with (go_at_fn F; refine (q.out _).mono ?_; rintro e w' ⟨rfl, k2⟩)
        go_wp2
        have hk := Hk.out
        have hlt := HL.out
        go_roundg (gk - 1)
        case measure => omega
        case rel =>
          refine ⟨k + 1, by go_num, by omega, fun j hj h => ?_, kk.trans k2⟩
          by_cases ejk : j = k
          · subst ejk
            exact HC.out
          · exact Hb.out j (by omega) h
    · have hlt' : ¬ (k : Int) < (ps.length : Int) := by omega
      have HV := Lib.hid (none_any ps f fun j hj => hb j (by omega) hj)
      clear hb hk hlt hs hp hF
      go_wp2
      go_ret
      exact ⟨_, rfl, by rw [← HR.out, HV.out]; simp, kk⟩
set_option maxRecDepth 100000 in
set_option maxHeartbeats 4000000 in
theorem vcontains (F g o c : Nat) (p : Option Addr) (ps : List (Int × Int)) (f : Int × Int → Bool) (w : World) (hs : Pts w g o ps) (hp : 0 < ps.length → p = some ⟨g, o, none⟩ ∧ g < w.heap.size) (hn : ps.length ≤ 9223372036854775807)
    (he : ∀ args w, (callFunc F args).run Tryz.prog w = .ok (.enter F args) w) (hF : Hid (∀ (e : Int × Int) (W : World), Calls Tryz.prog F #[.agg #[.int .i64 e.1, .int .i64 e.2]] W fun r w' => r = .returned (.bool (f e)) ∧ Kp [] W w')) :
    Calls Tryz.prog 105 #[.slice p ps.length c, .func (.func F) #[] #[]] w fun r w' => r = .returned (.bool (ps.any f)) ∧ Kp [] w w' := by
  have q := Lib.hid (vindex F g o c p ps f w hs hp hn he hF)
  generalize ps.any f = B at *
  generalize ps.length = n at *
  clear hs hp hF he
  go_enter Tryz.func105, Tryz.ntmps105
  go_wp2_with fail
  with_reducible refine q.out.mono ?_
  rintro r w1 ⟨i, rfl, hi, k⟩
  by_cases h0 : 0 ≤ i
  · rw [decide_eq_true h0] at hi
    subst hi
    go_wp2
    go_ret
    exact ⟨rfl, k⟩
  · rw [decide_eq_false h0] at hi
    subst hi
    go_wp2
    go_ret
    exact ⟨congrArg (fun b => Ending.returned (.bool b)) (decide_eq_false (by omega)), k⟩

set_option maxRecDepth 100000 in
theorem vnear (g o c : Nat) (p : Option Addr) (ps : List (Int × Int)) (w : World) (hs : Pts w g o ps) (hp : 0 < ps.length → p = some ⟨g, o, none⟩ ∧ g < w.heap.size) (hn : ps.length ≤ 9223372036854775807) :
    Calls Tryz.prog 48 #[.slice p ps.length c] w fun e w' => e = .returned (.bool (!ps.any farP)) ∧ Kp [] w w' := by
  have q := Lib.hid (vcontains 106 g o c p ps farP w hs hp hn (enters_of Tryz.func106 (by kernel_rfl) rfl) (fun e W => near1 e.1 e.2 W))
  generalize ps.any farP = B at *
  generalize ps.length = n at *
  clear hs hp
  cases B
  · go_enter Tryz.func48, Tryz.ntmps48
    go_wp2_with fail
    with_reducible refine q.out.mono ?_
    rintro e w1 ⟨rfl, k⟩
    go_wp2
    go_ret
    exact ⟨rfl, k⟩
  · go_enter Tryz.func48, Tryz.ntmps48
    go_wp2_with fail
    with_reducible refine q.out.mono ?_
    rintro e w1 ⟨rfl, k⟩
    go_wp2
    go_ret
    exact ⟨rfl, k⟩

end Go.Proofs.YtcgilcmhandgfaaGreatDoor
