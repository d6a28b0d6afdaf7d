/- Texts Vchk8, Vchk9, Vchk: each says in its own first comment what it proves. -/
import Derived.Test.YtegamkilhgekjaaGreatDoorM69
import Derived.Test.YtegamkilhgekjaaGreatDoorM16
import Derived.Deep.RegionHeld3
import Derived.Deep.DrawnRows
import Derived.Test.YtegamkilhgekjaaGreatDoorM24
import Derived.Test.YtegamkilhgekjaaGreatDoorM70
import Derived.Test.YtegamkilhgekjaaGreatDoorM60
/- Order of package vector: the comparison, and slices.SortFunc at twelve ints or fewer. -/
namespace Go.Proofs.YtegamkilhgekjaaGreatDoor
open Go.RowKit
open Go.Lib (nDigits itoa decDigits)

attribute [local go_sem ↓] Go.wp_at_zero Go.wp_at_succ

set_option maxRecDepth 100000 in
set_option maxHeartbeats 4000000 in
theorem cmOr_c (g c : Nat) (H : Nat → Int) (w : World) (hc : ∀ j, j < 3 → w.cell? ⟨g, j, none⟩ = some (.int .i64 (H j))) (hg : g < w.heap.size) :
    Calls Tryz.prog 117 #[.slice (some ⟨g, 0, none⟩) 3 c] w fun e w' => e = .returned (.int .i64 (orI (H 0) (H 1) (H 2))) ∧ Kp [] w w' := by
  have H0 : Hid (∀ j, j < 3 → (∀ i, i < j → H i = 0) → H j ≠ 0 → orI (H 0) (H 1) (H 2) = H j) := Lib.hid fun j hj h hne => by
    unfold orI
    match j, hj with
    | 0, _ => rw [if_pos hne]
    | 1, _ => rw [if_neg (by simp [h 0 (by omega)]), if_pos hne]
    | 2, _ => rw [if_neg (by simp [h 0 (by omega)]), if_neg (by simp [h 1 (by omega)])]
  have H1 : Hid ((∀ i, i < 3 → H i = 0) → orI (H 0) (H 1) (H 2) = 0) := Lib.hid fun h => by
    unfold orI; rw [h 0 (by omega), h 1 (by omega), h 2 (by omega)]; rfl
  generalize orI (H 0) (H 1) (H 2) = R at *
  have HC := Lib.hid hc
  clear hc
  go_enter Tryz.func117, Tryz.ntmps117
  go_wp2_with fail
  go_loopg [8] 3 (fun gk s8 wr => ∃ k : Nat, s8 = .int .i64 k ∧ k + gk = 3 ∧ Hid (∀ i, i < k → H i = 0) ∧ Kp [] w wr)
  case atStart => exact ⟨0, rfl, by omega, Lib.hid (fun _ h => by omega), Kp.refl _ _⟩
  case round =>
    obtain ⟨k, rfl, hk, hz, kk⟩ := hrel
    by_cases hlt : k < 3
    · have c0 : wr.cell? ⟨g, k, none⟩ = some (.int .i64 (H k)) := by rw [World.cell?_of_block (kk.block g hg (by simp))]; exact HC.out k hlt
      have hlt' : (k : Int) < 3 := by omega
      have z1 : 0 ≤ (k : Int) := by omega
      have Hk := Lib.hid hk; have Hl := Lib.hid hlt
      clear hk hlt
      by_cases h0 : H k = 0
      · rw [h0] at c0
        have Hh0 := Lib.hid h0
        clear h0
        go_wp2
        have hk := Hk.out; have hlt := Hl.out
        go_roundg (gk - 1)
        case measure => omega
        case rel => exact ⟨k + 1, by go_num, by omega, Lib.hid (fun i h => if e : i = k then (by rw [e]; exact Hh0.out) else hz.out i (by omega)), kk⟩
      · have hb : (H k != 0) = true := by simp [h0]
        have HR := Lib.hid (H0.out k Hl.out hz.out h0)
        clear h0
        generalize H k = v at *
        go_wp2
        go_ret
        exact ⟨by rw [HR.out]; rfl, kk⟩
    · have hlt' : ¬ (k : Int) < 3 := by omega
      have HR := Lib.hid (H1.out (fun i h => hz.out i (by omega)))
      clear hlt hk
      go_wp2
      go_ret
      exact ⟨by rw [HR.out]; rfl, kk⟩

set_option maxRecDepth 100000 in
set_option maxHeartbeats 4000000 in
theorem compare_m (g o n c : Nat) (G : Nat → Int × Int) (x y : Nat) (w : World) (hx : x < n) (hy : y < n) (hn : n ≤ 64) (hg : g < w.heap.size)
    (hc : ∀ j, j < n → w.cell? ⟨g, o + j * 2, none⟩ = some (.int .i64 (G j).1) ∧ w.cell? ⟨g, o + j * 2 + 1, none⟩ = some (.int .i64 (G j).2)) :
    Calls Tryz.prog 67 #[.slice (some ⟨g, o, none⟩) n c, .int .i64 x, .int .i64 y] w fun e w' => e = .returned (.int .i64 (cfP G x y)) ∧ Kp [] w w' := by
  have qs : Hid (∀ (a b : Int) (W : World), Calls Tryz.prog 88 #[.int .i64 a, .int .i64 b] W fun e w' => e = .returned (.int .i64 (cmI a b)) ∧ Kp [] W w') := fun a b W => compare_i a b W
  have qo : Hid (∀ (a b d : Int) (W : World), Calls Tryz.prog 117 #[.slice (some ⟨W.heap.size, 0, none⟩) 3 3] (W.alloc (.cells #[.int .i64 a, .int .i64 b, .int .i64 d] 3 (0, 0))) fun e w' => e = .returned (.int .i64 (orI a b d)) ∧ Kp [] (W.alloc (.cells #[.int .i64 a, .int .i64 b, .int .i64 d] 3 (0, 0))) w') := fun a b d W => by
    have hh : (W.alloc (.cells #[.int .i64 a, .int .i64 b, .int .i64 d] 3 (0, 0))).heap[W.heap.size]? = some (.cells #[.int .i64 a, .int .i64 b, .int .i64 d] 3 (0, 0)) := heap_alloc_new W _
    exact cmOr_c W.heap.size 3 (fun j => ([a, b, d] : List Int).getD j 0) _ (fun j hj => by
      unfold World.cell?
      rw [hh]
      match j, hj with
      | 0, _ => rfl
      | 1, _ => rfl
      | 2, _ => rfl) (by simp)
  obtain ⟨c0, c1⟩ := hc x hx
  obtain ⟨d0, d1⟩ := hc y hy
  have l1 : (x : Int) < (n : Int) := by omega
  have l2 : (y : Int) < (n : Int) := by omega
  have l3 : 0 ≤ (x : Int) := by omega
  have l4 : 0 ≤ (y : Int) := by omega
  have hn' : (n : Int) ≤ 64 := by omega
  have kk : Kp [] w w := Kp.refl _ _
  unfold cfP
  generalize (G x).1 = x1 at *
  generalize (G x).2 = x2 at *
  generalize (G y).1 = y1 at *
  generalize (G y).2 = y2 at *
  clear hc hx hy hn
  go_enter Tryz.func67, Tryz.ntmps67
  go_wp2_with fail
  go_region_held3 (fun w' => w'.cell? ⟨g, o + x * 2, none⟩ = some (.int .i64 x1) ∧ w'.cell? ⟨g, o + x * 2 + 1, none⟩ = some (.int .i64 x2) ∧ w'.cell? ⟨g, o + y * 2, none⟩ = some (.int .i64 y1) ∧ w'.cell? ⟨g, o + y * 2 + 1, none⟩ = some (.int .i64 y2) ∧ g < w'.heap.size ∧ Kp [] w w')
    (first
      | exact ⟨c0, c1, d0, d1, hg, kk.drew⟩
      | (go_split_ands
         exact ⟨kp_cell k1 (by assumption), kp_cell k1 (by assumption), kp_cell k1 (by assumption), kp_cell k1 (by assumption), Nat.lt_of_lt_of_le (by assumption) k1.size, Kp.trans (by assumption) k1⟩)
      | (go_split_ands
         exact ⟨kp_cell ((Kp.refl [] _).alloc _) (by assumption), kp_cell ((Kp.refl [] _).alloc _) (by assumption), kp_cell ((Kp.refl [] _).alloc _) (by assumption), kp_cell ((Kp.refl [] _).alloc _) (by assumption), Nat.lt_of_lt_of_le (by assumption) ((Kp.refl [] _).alloc _).size, Kp.alloc (by assumption) _⟩)
      | go_keep)
    (first
      | (go_at_call 88; refine (qs.out _ _ _).mono ?_; rintro e w1 ⟨rfl, k1⟩)
      | (go_at_call 117; refine (qo.out _ _ _ _).mono ?_; rintro e w1 ⟨rfl, k1⟩))
  all_goals go_split_ands
  all_goals go_wp2
  all_goals go_ret
  all_goals exact ⟨rfl, by assumption⟩

/-- slices.insertionSortCmpFunc at a list of indices -/
theorem insSort (gd cap n : Nat) (G : Nat → Int × Int) (w W : World) (hgd : w.heap.size ≤ gd) (kW : Kp [] w W) (hn : n ≤ 12) (hown : W.ownsRow w.heap.size 3 1 (.slice (some ⟨gd, 0, none⟩) n cap) n ((List.range n).map encN))
    (rv : Value) (q : Hid (∀ W' : World, Kp [] w W' → ∀ x y : Nat, x < n → y < n → Calls Tryz.prog 67 #[rv, .int .i64 x, .int .i64 y] W' fun e w' => e = .returned (.int .i64 (cfP G x y)) ∧ Kp [] W' w')) :
    Calls Tryz.prog 142 #[.slice (some ⟨gd, 0, none⟩) n cap, .int .i64 0, .int .i64 n, .func (.func 67) #[rv] #[]] W fun e w' => e = .returned (.tuple #[]) ∧ ∃ D, SrtI G n D ∧ w'.ownsRow w.heap.size 3 1 (.slice (some ⟨gd, 0, none⟩) n cap) n (D.map encN) ∧ Kp [] w w' := by
  have eg : ∀ args w, (callFunc 67 args).run Tryz.prog w = .ok (.enter 67 args) w := enters_of Tryz.func67 (by kernel_rfl) rfl
  have hn1 : (n : Int) ≤ 12 := by omega
  have hn2 := Lib.hid hn
  clear hn
  have hz0 : 0 ≤ (n : Int) := by omega
  go_enter Tryz.func142, Tryz.ntmps142
  go_wp2_with fail
  go_loopg [8] n (fun gi s8 wr => ∃ (i : Nat) (D : List Nat), s8 = .int .i64 i ∧ i + gi = n + 1 ∧ Hid (1 ≤ i ∧ DI G n i D) ∧ wr.ownsRow w.heap.size 3 1 (.slice (some ⟨gd, 0, none⟩) n cap) n (D.map encN) ∧ Kp [] w wr)
  case atStart => exact ⟨1, _, rfl, by omega, Lib.hid ⟨by omega, DI.start G n⟩, hown, kW⟩
  case round =>
    clear hown kW
    obtain ⟨gi, rfl⟩ : ∃ z : Nat, z = gk := ⟨_, rfl⟩
    obtain ⟨i, D, rfl, hki, hD, hown, kk⟩ := hrel
    by_cases li : i < n
    · have li' : (i : Int) < (n : Int) := by omega
      have zi : 0 ≤ (i : Int) := by omega
      have Li := Lib.hid li
      have Ki := Lib.hid hki
      have hJ := Lib.hid (DJ.start hD.out.2 li)
      have Hi1 := Lib.hid hD.out.1
      clear li hki hD
      go_wp2_with fail
      go_loopg [9] i (fun gk s9 wr => ∃ D, s9 = .int .i64 gk ∧ Hid (DJ G n i gk D) ∧ wr.ownsRow w.heap.size 3 1 (.slice (some ⟨gd, 0, none⟩) n cap) n (D.map encN) ∧ Kp [] w wr)
      case atStart => exact ⟨D, rfl, hJ, hown, kk⟩
      case round =>
        clear hown kk hJ
        obtain ⟨k, rfl⟩ : ∃ z : Nat, z = gk := ⟨_, rfl⟩
        obtain ⟨D, rfl, hI, hown, kk⟩ := hrel
        by_cases hk0 : k = 0
        · have hd : decide ((0 : Int) < (k : Int)) = false := decide_eq_false (by omega)
          have hd' : decide (0 < k) = false := decide_eq_false (by omega)
          have hS2 : Hid (DI G n (i + 1) D) := by rw [hk0] at hI; exact hI.out.stop0
          clear hk0
          clear hI q
          go_wp2_with fail
          go_quiet (fail)
          all_goals go_wp2
          all_goals have li := Li.out; have hki := Ki.out
          go_roundg (gi - 1)
          case measure => omega
          case rel => exact ⟨i + 1, D, by go_num, by omega, Lib.hid ⟨by omega, hS2.out⟩, hown, kk.drewN _⟩
        · obtain ⟨m, hm⟩ : ∃ m, k = m + 1 := ⟨k - 1, by omega⟩
          have hle : k ≤ i := hI.out.le
          have c1 := own_cell hown k (by have := Li.out; omega)
          have c2 := own_cell hown m (by have := Li.out; omega)
          have f1 := hown.frozenAt k
          have f2 := hown.frozenAt m
          have hw : wrap64 ((k : Int) - 1) = (m : Int) := by have := Li.out; have := hn2.out; unfold wrap64; omega
          have hw2 : IntKind.i64.wrap ((k : Int) - 1) = (m : Int) := by have := Li.out; have := hn2.out; rw [show (k : Int) - 1 = (m : Int) by omega]; exact IntWalk.i64_in _ (by omega)
          have hkp : decide ((0 : Int) < (k : Int)) = true := decide_eq_true (by omega)
          have hkp' : decide (0 < k) = true := decide_eq_true (by omega)
          have b0 : (0 : Int) ≤ (m : Int) := by omega
          have b1 : (k : Int) < (n : Int) := by have := Li.out; omega
          have b2 : (m : Int) < (n : Int) := by have := Li.out; omega
          have b3 : (0 : Int) ≤ (k : Int) := by omega
          have l1 : gN D k < n := hI.out.get k hle
          have l2 : gN D m < n := hI.out.get m (by omega)
          have hsw := Lib.hid fun hb => DJ.swap (G := G) (D := D) (n := n) (i := i) (k := m) (by rw [← hm]; exact hI.out) hb
          have hst := Lib.hid fun hb => DJ.stop (G := G) (D := D) (n := n) (i := i) (k := m) (by rw [← hm]; exact hI.out) hb
          rw [← hm] at hsw hst
          generalize gN D k = a1 at *
          generalize gN D m = a2 at *
          have q2 := Lib.hid fun (W' : World) (k' : Kp [] w W') => q.out W' k' a1 a2 l1 l2
          rw [← cfP_lt] at hsw hst
          generalize cfP G a1 a2 = z at *
          have Hm := Lib.hid hm; have Hle := Lib.hid hle
          clear q l1 l2 hm hle hk0
          go_wp2_with fail
          go_region_held3 (fun w' => Kp [] w w' ∧ w'.cell? ⟨gd, k, none⟩ = some (.int .i64 a1) ∧ w'.cell? ⟨gd, m, none⟩ = some (.int .i64 a2))
            (first
              | exact ⟨kk.drew, c1, c2⟩
              | (go_split_ands
                 exact ⟨Kp.trans (by assumption) k9, kp_cell k9 (by assumption), kp_cell k9 (by assumption)⟩)
              | go_keep)
            (first
              | (go_at_fn 67; refine (q2.out _ kk.drew).mono ?_; rintro e w9 ⟨rfl, k9⟩))
          all_goals
            (have hown4 := (World.ownsRow.drew hown).kept (kp_grown k9) (.inr (by unfold Value.ownBlock; simp))
             replace kk := kk.drew.trans k9
             have c1 := kp_cell k9 c1
             have c2 := kp_cell k9 c2
             have f1 := hown4.frozenAt k
             have f2 := hown4.frozenAt m
             clear q2 k9 hown)
          by_cases hz : z < 0
          · have hI2 := Lib.hid (hsw.out (decide_eq_true hz))
            have hown5 := (hown4.stored k (.int .i64 a2)).1
            have f3 := hown5.frozenAt m
            have c3 : (w9.setCell ⟨gd, k, none⟩ (.int .i64 a2)).cell? ⟨gd, m, none⟩ = some (.int .i64 a2) := (World.cell?_setCell_other _ _ _ _ (by intro e'; simp only [Addr.mk.injEq] at e'; have := Hm.out; omega)).trans c2
            clear hst hsw hI
            go_wp2_with fail
            go_region
            clear c1 c2 c3 f1 f2 f3
            go_wp2
            go_roundg m
            case measure => have := Hm.out; omega
            case rel => exact ⟨_, by go_num, hI2, World.ownsRow.drew (own_swap hown4 k m a2 a1), ((kk.setCell (p := ⟨gd, k, none⟩) (.inr hgd) _).setCell (p := ⟨gd, m, none⟩) (.inr hgd) _).drew⟩
          · have hz' : decide (z < 0) = false := decide_eq_false hz
            have hS2 := Lib.hid (hst.out hz')
            clear hst hsw c1 c2 f1 f2
            go_wp2
            have li := Li.out; have hki := Ki.out
            go_roundg (gi - 1)
            case measure => omega
            case rel => exact ⟨i + 1, _, by go_num, by omega, Lib.hid ⟨by omega, hS2.out⟩, hown4, kk⟩
    · have li' : ¬ (i : Int) < (n : Int) := by omega
      have HS := Lib.hid (hD.out.2.done (by omega))
      clear li hki q hD
      go_wp2
      go_end0
      exact ⟨rfl, D, HS.out, hown, kk⟩

end Go.Proofs.YtegamkilhgekjaaGreatDoor

/- Order of package vector: slices.SortFunc at twelve ints or fewer, the closure, Order. -/
namespace Go.Proofs.YtegamkilhgekjaaGreatDoor
open Go.RowKit
open Go.Lib (nDigits itoa decDigits)

/-- what the sort of n indices gives -/
def SoR (w : World) (T gd cap n : Nat) (G : Nat → Int × Int) (w' : World) : Prop := ∃ D, SrtI G n D ∧ w'.ownsRow w.heap.size T 1 (.slice (some ⟨gd, 0, none⟩) n cap) n (D.map encN) ∧ Kp [] w w'

set_option maxRecDepth 100000 in
set_option maxHeartbeats 4000000 in
theorem pdqSort (gd cap n : Nat) (l : Int) (G : Nat → Int × Int) (w W : World) (hn : n ≤ 12) (rv : Value)
    (q : Hid (Calls Tryz.prog 142 #[.slice (some ⟨gd, 0, none⟩) n cap, .int .i64 0, .int .i64 n, .func (.func 67) #[rv] #[]] W fun e w' => e = .returned (.tuple #[]) ∧ SoR w 3 gd cap n G w')) :
    Calls Tryz.prog 115 #[.slice (some ⟨gd, 0, none⟩) n cap, .int .i64 0, .int .i64 n, .int .i64 l, .func (.func 67) #[rv] #[]] W fun e w' => e = .returned (.tuple #[]) ∧ SoR w 3 gd cap n G w' := by
  have hn1 : (n : Int) ≤ 12 := by omega
  have hz0 : 0 ≤ (n : Int) := by omega
  generalize SoR w 3 gd cap n G = R at *
  clear hn
  go_enter Tryz.func115, Tryz.ntmps115
  go_wp2_with fail
  refine wp_loop_rounds 1 ?_
  rw [rounds_succ]
  go_wp2_with fail
  with_reducible refine q.out.mono ?_
  rintro e w2 ⟨rfl, hR⟩
  have HR := Lib.hid hR
  clear hR q
  go_wp2
  (try simp only [Exit.inBlock, Exit.then])
  refine bodyPost_ret (results_none rfl _ _ _) rfl ?_
  exact ⟨rfl, HR.out⟩

set_option maxRecDepth 100000 in
set_option maxHeartbeats 4000000 in
theorem sortFunc_c (gd cap n : Nat) (G : Nat → Int × Int) (w W : World) (hn : n ≤ 12) (rv : Value)
    (q : Hid (∀ l : Int, Calls Tryz.prog 115 #[.slice (some ⟨gd, 0, none⟩) n cap, .int .i64 0, .int .i64 n, .int .i64 l, .func (.func 67) #[rv] #[]] W fun e w' => e = .returned (.tuple #[]) ∧ SoR w 3 gd cap n G w')) :
    Calls Tryz.prog 66 #[.slice (some ⟨gd, 0, none⟩) n cap, .func (.func 67) #[rv] #[]] W fun e w' => e = .returned (.tuple #[]) ∧ SoR w 3 gd cap n G w' := by
  have hn1 : (n : Int) ≤ 12 := by omega
  have hz0 : 0 ≤ (n : Int) := by omega
  have qb : Hid (Calls Tryz.prog 116 #[.int .u64 n] W fun e w' => e = .returned (.int .i64 (Lib.bitLen n)) ∧ w' = W) := Lib.hid (Tryz.bits_Len n W hz0 (by omega))
  generalize ((Lib.bitLen n : Nat) : Int) = l at *
  generalize SoR w 3 gd cap n G = R at *
  clear hn
  go_enter Tryz.func66, Tryz.ntmps66
  go_wp2_with fail
  with_reducible refine qb.out.mono ?_
  rintro e w2 ⟨rfl, rfl⟩
  go_wp2_with fail
  with_reducible refine (q.out _).mono ?_
  rintro e w2 ⟨rfl, hR⟩
  have HR := Lib.hid hR
  clear hR q
  go_wp2
  go_end0
  exact ⟨rfl, HR.out⟩

theorem sorts (g o c gd cap n : Nat) (p : Option Addr) (G : Nat → Int × Int) (w W : World) (hgd : w.heap.size ≤ gd) (kW : Kp [] w W) (hn : n ≤ 12) (hp : 0 < n → p = some ⟨g, o, none⟩ ∧ g < w.heap.size)
    (hown : W.ownsRow w.heap.size 3 1 (.slice (some ⟨gd, 0, none⟩) n cap) n ((List.range n).map encN))
    (hc : ∀ j, j < n → w.cell? ⟨g, o + j * 2, none⟩ = some (.int .i64 (G j).1) ∧ w.cell? ⟨g, o + j * 2 + 1, none⟩ = some (.int .i64 (G j).2)) :
    Calls Tryz.prog 66 #[.slice (some ⟨gd, 0, none⟩) n cap, .func (.func 67) #[.slice p n c] #[]] W fun e w' => e = .returned (.tuple #[]) ∧ SoR w 3 gd cap n G w' :=
  sortFunc_c gd cap n G w W hn _ (Lib.hid fun l => pdqSort gd cap n l G w W hn _ (Lib.hid (insSort gd cap n G w W hgd kW hn hown _ (Lib.hid fun W' k x y hx hy => by
    obtain ⟨rfl, hg⟩ := hp (by omega)
    exact compare_m g o n c G x y W' hx hy (by omega) (Nat.lt_of_lt_of_le hg k.size) (fun j hj => by
      obtain ⟨h1, h2⟩ := hc j hj
      constructor
      · rw [World.cell?_of_block (k.block g hg (by simp))]; exact h1
      · rw [World.cell?_of_block (k.block g hg (by simp))]; exact h2)))))

/-- the list 0, 1, .. while it is filled -/
def fillL (n k : Nat) : List Nat := List.range k ++ List.replicate (n - k) 0
theorem fillL_0 (n : Nat) : fillL n 0 = List.replicate n 0 := by simp [fillL]
theorem fillL_n (n : Nat) : fillL n n = List.range n := by simp [fillL]
theorem fillL_set (n k : Nat) (h : k < n) : (fillL n k).set k k = fillL n (k + 1) := by
  unfold fillL
  obtain ⟨m, hm⟩ : ∃ m, n - k = m + 1 := ⟨n - k - 1, by omega⟩
  rw [hm, show n - (k + 1) = m by omega, List.replicate_succ, List.set_append_right _ _ (by simp), List.range_succ]
  simp

set_option maxRecDepth 100000 in
set_option maxHeartbeats 4000000 in
theorem order1 (bx g o c n : Nat) (p : Option Addr) (G : Nat → Int × Int) (w : World) (hn : n ≤ 12) (hp : 0 < n → p = some ⟨g, o, none⟩ ∧ g < w.heap.size) (hbx : bx < w.heap.size) (hB : w.cell? ⟨bx, 0, none⟩ = some (.slice p n c))
    (hc : ∀ j, j < n → w.cell? ⟨g, o + j * 2, none⟩ = some (.int .i64 (G j).1) ∧ w.cell? ⟨g, o + j * 2 + 1, none⟩ = some (.int .i64 (G j).2)) :
    Calls Tryz.prog 65 #[.pointer (some ⟨bx, 0, none⟩)] w fun e w' => ∃ sv D, e = .returned sv ∧ SrtI G n D ∧ InL w' sv D ∧ Kp [] w w' := by
  have hn1 : (n : Int) ≤ 12 := by omega
  have hz0 : 0 ≤ (n : Int) := by omega
  have hB1 : Hid (∀ W, Kp [] w W → W.cell? ⟨bx, 0, none⟩ = some (.slice p n c)) := Lib.hid fun W k => by
    rw [World.cell?_of_block (k.block bx hbx (by simp))]; exact hB
  obtain ⟨w1, hw1⟩ : ∃ w1, w1 = w.alloc (.cells (madeCells #[.int .i64 0] n) 3) := ⟨_, rfl⟩
  have kk : Kp [] w w1 := by rw [hw1]; exact (Kp.refl _ _).alloc _
  have cB := hB1.out _ kk
  have hown : w1.ownsRow w.heap.size 3 1 (.slice (some ⟨w.heap.size, 0, none⟩) n n) n ((List.replicate n 0).map encN) := by
    rw [hw1, show (List.replicate n 0).map encN = (madeCells #[.int .i64 0] n).toList by
      refine List.ext_getElem (by simp [size_madeCells]) fun i h1 h2 => ?_
      simp [madeCells, encN, Nat.mod_one]]
    exact World.ownsRow_lit w (madeCells #[.int .i64 0] n) n (Nat.le_refl _) (by unfold maxLen; omega) (by rw [size_madeCells]; omega)
  have hmk : ∀ W : World, (Instr.makeSlice 34 (.int .i64 (n : Int)) (.int .i64 (n : Int))).run Tryz.prog W = .ok (.slice (some ⟨W.heap.size, 0, none⟩) n n) (W.alloc (.cells (madeCells #[.int .i64 0] n) 3)) := fun W => make_ints n (by omega) W
  have qs : Hid (∀ W, Kp [] w W → W.ownsRow w.heap.size 3 1 (.slice (some ⟨w.heap.size, 0, none⟩) n n) n ((List.range n).map encN) → Calls Tryz.prog 66 #[.slice (some ⟨w.heap.size, 0, none⟩) n n, .func (.func 67) #[.slice p n c] #[]] W fun e w' => e = .returned (.tuple #[]) ∧ SoR w 3 w.heap.size n n G w') :=
    Lib.hid fun W k h => sorts g o c w.heap.size n n p G w W (Nat.le_refl _) k hn hp h hc
  have hn2 := Lib.hid hn
  clear hn hp hbx hc
  subst hw1
  go_enter Tryz.func65, Tryz.ntmps65
  go_wp2_with fail
  go_loopg [9] n (fun gk s9 wr => ∃ k : Nat, s9 = .int .i64 k ∧ k + gk = n ∧ wr.ownsRow w.heap.size 3 1 (.slice (some ⟨w.heap.size, 0, none⟩) n n) n ((fillL n k).map encN) ∧ Kp [] w wr)
  case atStart => exact ⟨0, rfl, by omega, by rw [fillL_0]; exact hown, kk⟩
  case round =>
    clear hown kk cB
    obtain ⟨k, rfl, hk, hown, kk⟩ := hrel
    by_cases hlt : k < n
    · have hlt' : (k : Int) < (n : Int) := by omega
      have z1 : 0 ≤ (k : Int) := by omega
      have f1 := hown.frozenAt k
      have c1 := own_cell hown k hlt
      have hown2 := (hown.stored k (.int .i64 k)).1
      rw [show ((fillL n k).map encN).set k (.int .i64 k) = (fillL n (k + 1)).map encN by rw [← fillL_set n k hlt, List.map_set]; rfl] at hown2
      have kk2 := kk.setCell (p := ⟨w.heap.size, k, none⟩) (.inr (Nat.le_refl _)) (.int .i64 k)
      have Hk := Lib.hid hk; have Hl := Lib.hid hlt
      clear hk hlt qs hown kk
      go_wp2
      have hk := Hk.out; have hlt := Hl.out
      go_roundg (gk - 1)
      case measure => omega
      case rel => exact ⟨k + 1, by go_num, by omega, hown2, kk2⟩
    · have hlt' : ¬ (k : Int) < (n : Int) := by omega
      have ek : k = n := by omega
      rw [ek, fillL_n] at hown
      have q := Lib.hid (qs.out _ kk hown)
      have cB := hB1.out _ kk
      clear qs hlt hk ek hown
      go_wp2_with fail
      with_reducible refine q.out.mono ?_
      rintro e w2 ⟨rfl, D, hS, hown2, kk2⟩
      have HS := Lib.hid hS
      clear hS q cB
      go_wp2
      refine bodyPost_ret (v := .slice (some ⟨w.heap.size, 0, none⟩) n n) (by simp [results, Tryz.results65, go_sem]) rfl ?_
      first | exact ⟨_, D, rfl, HS.out, InL.of_own hown2, kk2⟩ | exact ⟨_, rfl, D, HS.out, InL.of_own hown2, kk2⟩

set_option maxRecDepth 100000 in
theorem vresultL_0 (c : Nat) (caps : Array Value) (w : World) (R : World → Value → Prop) (he : ∀ args w, (callFunc c args).run Tryz.prog w = .ok (.enter c args) w) (q : Hid (Calls Tryz.prog c caps w fun e w' => ∃ sv, e = .returned sv ∧ R w' sv ∧ Kp [] w w')) :
    Calls Tryz.prog 64 #[.int .i64 0, .func (.func c) #[] caps] w fun e w' => ∃ sv, e = .returned (.tuple #[sv, .int .i64 0]) ∧ R w' sv ∧ Kp [] w w' := by
  go_enter Tryz.func64, Tryz.ntmps64
  go_wp2_with (go_at_fn c; refine q.out.mono ?_; rintro x w1 ⟨sv, rfl, hR, k⟩)
  go_wp2
  go_ret2
  exact ⟨_, rfl, hR, k⟩
set_option maxRecDepth 100000 in
theorem vresultL_e (f : Value) (e : Int) (w : World) (he : (e != 0) = true) :
    Calls Tryz.prog 64 #[.int .i64 e, f] w fun r w' => r = .returned (.tuple #[.slice none 0 0, .int .i64 e]) ∧ Kp [] w w' := by
  have k0 : Kp [] w (w.alloc (.cells #[.slice none 0 0] 34 (0, 0))) := (Kp.refl _ _).alloc _
  go_enter Tryz.func64, Tryz.ntmps64
  go_wp2
  go_ret2
  exact ⟨rfl, k0⟩

set_option maxRecDepth 100000 in
set_option maxHeartbeats 4000000 in
theorem order_p (g o c : Nat) (p : Option Addr) (ps : List (Int × Int)) (w : World) (hs : Pts w g o ps) (hp : 0 < ps.length → p = some ⟨g, o, none⟩ ∧ g < w.heap.size) (hn : ps.length ≤ 9223372036854775807) (hF : ps.length ≤ 12 ∨ ckP ps ≠ 0) :
    Calls Tryz.prog 18 #[.slice p ps.length c] w fun e w' => ∃ sv, e = .returned (.tuple #[sv, .int .i64 (ckP ps)]) ∧ OrdR ps w' sv ∧ Kp [] w w' := by
  obtain ⟨w1, hw1⟩ : ∃ w1, w1 = w.alloc (.cells #[.slice p ps.length c] 22 (0, 0)) := ⟨_, rfl⟩
  have bx : Boxed w1 w.heap.size 22 (.slice p ps.length c) := by rw [hw1]; exact Boxed.new w _ _
  have kk : Kp [] w w1 := by rw [hw1]; exact (Kp.refl _ _).alloc _
  have hp1 : 0 < ps.length → p = some ⟨g, o, none⟩ ∧ g < w1.heap.size := fun h => ⟨(hp h).1, Nat.lt_of_lt_of_le (hp h).2 kk.size⟩
  have hs1 : Pts w1 g o ps := hs.kp0 hp kk
  have qc := Lib.hid (vCheck g o c p ps w1 hs1 hp1 hn)
  have qr : Hid (∀ W : World, Kp [] w1 W → Calls Tryz.prog 64 #[.int .i64 (ckP ps), .func (.func 65) #[] #[.pointer (some ⟨w.heap.size, 0, none⟩)]] W fun e w' => ∃ sv, e = .returned (.tuple #[sv, .int .i64 (ckP ps)]) ∧ OrdR ps w' sv ∧ Kp [] W w') := fun W k => by
    by_cases h0 : ckP ps = 0
    · rw [h0]
      have hz : w.heap.size < W.heap.size := Nat.lt_of_lt_of_le bx.lt k.size
      have hB : W.cell? ⟨w.heap.size, 0, none⟩ = some (.slice p ps.length c) := (show Boxed W w.heap.size 22 (.slice p ps.length c) from (k.block _ bx.lt (by simp)).trans bx).cell
      have hsW : Pts W g o ps := hs1.kp0 hp1 k
      refine vresultL_0 65 _ W (OrdR ps) (enters_of Tryz.func65 (by kernel_rfl) rfl) (Lib.hid ?_)
      refine (order1 w.heap.size g o c ps.length p (gP ps) W (by omega) (fun h => ⟨(hp1 h).1, Nat.lt_of_lt_of_le (hp1 h).2 k.size⟩) hz hB (fun j hj => by rw [gP_lt hj]; exact hsW j hj)).mono ?_
      rintro e w' ⟨sv, D, he, hS, hL, hk⟩
      exact ⟨sv, he, ⟨D, hL, .inl ⟨h0, hS⟩⟩, hk⟩
    · refine (vresultL_e _ _ W (by simp [h0])).mono ?_
      rintro e w' ⟨he, hk⟩
      exact ⟨_, he, ⟨[], .inl ⟨rfl, _, _, rfl⟩, .inr ⟨h0, rfl⟩⟩, hk⟩
  have cB := bx.cell
  generalize OrdR ps = R at *
  generalize ckP ps = z at *
  generalize hN : ps.length = N at *
  clear hs1 hp1 hs hp bx hn hN hF
  subst hw1
  go_enter Tryz.func18, Tryz.ntmps18
  go_wp2_with fail
  with_reducible refine qc.out.mono ?_
  rintro e w2 ⟨rfl, k⟩
  go_wp2_with fail
  with_reducible refine (qr.out _ k).mono ?_
  rintro e w3 ⟨sv, rfl, hR, k3⟩
  have HR := Lib.hid hR
  replace kk := (kk.trans k).trans k3
  clear k k3 qr qc cB hR
  go_wp2
  go_ret2
  exact ⟨_, rfl, HR.out, kk⟩

end Go.Proofs.YtegamkilhgekjaaGreatDoor

/- VectorChecks, the law. -/
namespace Go.Proofs.YtegamkilhgekjaaGreatDoor
open Go.RowKit
open Go.Lib (nDigits itoa decDigits)

theorem OrdR.list {ps : List (Int × Int)} {w : World} {a b : Value} (ha : OrdR ps w a) (hb : OrdR ps w b) : ∃ L, InL w a L ∧ InL w b L ∧ L.length ≤ 64 := by
  obtain ⟨L, h1, h2⟩ := ha
  obtain ⟨M, k1, k2⟩ := hb
  rcases h2 with ⟨e, hS⟩ | ⟨e, rfl⟩
  · rcases k2 with ⟨_, hT⟩ | ⟨e2, _⟩
    · have hl := hS.len
      have := ckP_len e
      rw [← hS.unique hT] at k1
      exact ⟨L, h1, k1, by omega⟩
    · exact absurd e e2
  · rcases k2 with ⟨e2, _⟩ | ⟨_, rfl⟩
    · exact absurd e2 e
    · exact ⟨[], h1, k1, by simp⟩

set_option maxRecDepth 100000 in
set_option maxHeartbeats 4000000 in
theorem Checks_any (g o c : Nat) (p : Option Addr) (ps : List (Int × Int)) (w : World) (hs : Pts w g o ps) (hp : 0 < ps.length → p = some ⟨g, o, none⟩ ∧ g < w.heap.size) (hn : ps.length ≤ 9223372036854775807) (hT : Tab w) :
    Calls Tryz.prog 3 #[.slice p ps.length c] w fun e w' => e = .returned (.bool true) ∧ Kp [] w w' := by
  have aw : Hid (∀ W, Kp [] w W → Calls Tryz.prog 13 #[] W fun e w' => e = .returned (.bool true) ∧ Kp [] W w') := fun W k => vawake W (tab_kp hT k)
  have hpk : ∀ W, Kp [] w W → (0 < ps.length → p = some ⟨g, o, none⟩ ∧ g < W.heap.size) := fun W k h => ⟨(hp h).1, Nat.lt_of_lt_of_le (hp h).2 k.size⟩
  have q1 : Hid (∀ W, Kp [] w W → Calls Tryz.prog 14 #[.slice p ps.length c] W fun e w' => e = .returned (.tuple #[.int .i64 (iZ (ckP ps) (arS (gP ps) ps.length ps.length)), .int .i64 (ckP ps)]) ∧ Kp [] W w') := fun W k => area_p g o c p ps W (hs.kp0 hp k) (hpk W k) hn
  have q2 : Hid (∀ W, Kp [] w W → Calls Tryz.prog 15 #[.slice p ps.length c] W fun e w' => e = .returned (.tuple #[.int .i64 (iZ (ckP ps) (arS (gP ps) ps.length ps.length)), .int .i64 (ckP ps)]) ∧ Kp [] W w') := fun W k => area_r g o c p ps W (hs.kp0 hp k) (hpk W k) hn
  have q3 : Hid (∀ W, Kp [] w W → Calls Tryz.prog 16 #[.slice p ps.length c] W fun e w' => e = .returned (.tuple #[.bool (bZp (ckP ps) (clB ps)), .int .i64 (ckP ps)]) ∧ Kp [] W w') := fun W k => collinear_p g o c p ps W (hs.kp0 hp k) (hpk W k) hn
  have q4 : Hid (∀ W, Kp [] w W → Calls Tryz.prog 17 #[.slice p ps.length c] W fun e w' => e = .returned (.tuple #[.bool (bZp (ckP ps) (clB ps)), .int .i64 (ckP ps)]) ∧ Kp [] W w') := fun W k => collinear_r g o c p ps W (hs.kp0 hp k) (hpk W k) hn
  have q5 : Hid ((decide (ps.length ≤ 8) || (decide (64 < ps.length) && decide (ps.length < 128))) = true → ∀ W, Kp [] w W → Calls Tryz.prog 18 #[.slice p ps.length c] W fun e w' => ∃ sv, e = .returned (.tuple #[sv, .int .i64 (ckP ps)]) ∧ OrdR ps w' sv ∧ Kp [] W w') := fun hf W k => order_p g o c p ps W (hs.kp0 hp k) (hpk W k) hn (by
    rw [Bool.or_eq_true, Bool.and_eq_true, decide_eq_true_iff, decide_eq_true_iff, decide_eq_true_iff] at hf
    rcases hf with h | ⟨h, _⟩
    · exact .inl (by omega)
    · exact .inr (by unfold ckP; rw [if_pos h]; omega))
  have q6 : Hid (∀ W, Kp [] w W → Calls Tryz.prog 19 #[.slice p ps.length c] W fun e w' => ∃ sv, e = .returned (.tuple #[sv, .int .i64 (ckP ps)]) ∧ OrdR ps w' sv ∧ Kp [] W w') := fun W k => order_r g o c p ps W (hs.kp0 hp k) (hpk W k) hn
  have q7 : Hid (∀ W, Kp [] w W → Calls Tryz.prog 20 #[.slice p ps.length c] W fun e w' => e = .returned (.int .i64 (ckP ps)) ∧ Kp [] W w') := fun W k => vCheck g o c p ps W (hs.kp0 hp k) (hpk W k) hn
  have q8 : Hid (∀ W, Kp [] w W → Calls Tryz.prog 21 #[.slice p ps.length c] W fun e w' => e = .returned (.int .i64 (ckP ps)) ∧ Kp [] W w') := fun W k => rCheckP g o c p ps W (hs.kp0 hp k) (hpk W k) hn
  have q9 : Hid (∀ W a b, OrdR ps W a → OrdR ps W b → Calls Tryz.prog 22 #[a, b] W fun e w' => e = .returned (.bool true) ∧ Kp [] W w') := fun W a b ha hb => by
    obtain ⟨L, h1, h2, h3⟩ := ha.list hb
    exact rSameInts a b L W h1 h2 h3
  have qf := Lib.hid (rFewP p ps.length c w _ rfl)
  have ho : ∀ W W' a, OrdR ps W a → Kp [] W W' → OrdR ps W' a := fun W W' a h k => h.kp k
  generalize OrdR ps = R at *
  generalize (decide (ps.length ≤ 8) || (decide (64 < ps.length) && decide (ps.length < 128))) = few at *
  generalize iZ (ckP ps) (arS (gP ps) ps.length ps.length) = a at *
  generalize bZp (ckP ps) (clB ps) = b at *
  generalize ckP ps = z at *
  generalize ps.length = N at *
  have HO := Lib.hid ho
  clear hs hp hn hpk hT ho
  cases few with
  | false =>
    clear q1 q2 q3 q4 q5 q6 q7 q8 q9
    go_enter Tryz.func3, Tryz.ntmps3
    go_wp2_with fail
    with_reducible refine qf.out.mono ?_
    rintro e w2 ⟨rfl, k⟩
    go_wp2_with fail
    with_reducible refine (aw.out _ k).mono ?_
    rintro e w3 ⟨rfl, k3⟩
    replace k := k.trans k3
    clear k3 aw qf
    go_wp2
    go_ret
    exact ⟨rfl, k⟩
  | true =>
    have q5' := Lib.hid (q5.out rfl)
    clear q5
    go_enter Tryz.func3, Tryz.ntmps3
    go_wp2_with fail
    with_reducible refine qf.out.mono ?_
    rintro e w2 ⟨rfl, k⟩
    go_wp2_with fail
    with_reducible refine (q1.out _ k).mono ?_
    rintro e w3 ⟨rfl, k3⟩
    replace k := k.trans k3
    clear k3
    go_wp2_with fail
    with_reducible refine (q2.out _ k).mono ?_
    rintro e w4 ⟨rfl, k4⟩
    replace k := k.trans k4
    clear k4
    go_wp2_with fail
    with_reducible refine (q3.out _ k).mono ?_
    rintro e w5 ⟨rfl, k5⟩
    replace k := k.trans k5
    clear k5
    go_wp2_with fail
    with_reducible refine (q4.out _ k).mono ?_
    rintro e w6 ⟨rfl, k6⟩
    replace k := k.trans k6
    clear k6
    go_wp2_with fail
    with_reducible refine (q5'.out _ k).mono ?_
    rintro e w7 ⟨s1, rfl, r1, k7⟩
    replace k := k.trans k7
    have R1 := Lib.hid r1
    clear k7 r1
    go_wp2_with fail
    with_reducible refine (q6.out _ k).mono ?_
    rintro e w8 ⟨s2, rfl, r2, k8⟩
    replace k := k.trans k8
    replace R1 := Lib.hid (HO.out _ _ _ R1.out k8)
    have R2 := Lib.hid r2
    clear k8 r2
    go_wp2_with fail
    with_reducible refine (aw.out _ k).mono ?_
    rintro e w9 ⟨rfl, k9⟩
    replace k := k.trans k9
    replace R1 := Lib.hid (HO.out _ _ _ R1.out k9)
    replace R2 := Lib.hid (HO.out _ _ _ R2.out k9)
    clear k9
    go_wp2_with fail
    with_reducible refine (q7.out _ k).mono ?_
    rintro e w10 ⟨rfl, k10⟩
    replace k := k.trans k10
    replace R1 := Lib.hid (HO.out _ _ _ R1.out k10)
    replace R2 := Lib.hid (HO.out _ _ _ R2.out k10)
    clear k10
    go_wp2_with fail
    with_reducible refine (q8.out _ k).mono ?_
    rintro e w11 ⟨rfl, k11⟩
    replace k := k.trans k11
    replace R1 := Lib.hid (HO.out _ _ _ R1.out k11)
    replace R2 := Lib.hid (HO.out _ _ _ R2.out k11)
    clear k11
    go_wp2_with fail
    with_reducible refine (q9.out _ _ _ R1.out R2.out).mono ?_
    rintro e w12 ⟨rfl, k12⟩
    replace k := k.trans k12
    clear k12 q1 q2 q3 q4 q5' q6 q7 q8 q9 aw qf R1 R2 HO
    go_wp2
    go_ret
    exact ⟨rfl, k⟩

end Go.Proofs.YtegamkilhgekjaaGreatDoor
