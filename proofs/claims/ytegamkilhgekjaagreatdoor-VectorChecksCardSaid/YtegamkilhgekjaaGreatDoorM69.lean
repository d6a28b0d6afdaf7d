/- Texts Vchk6, Vchk7: each says in its own first comment what it proves. -/
import Derived.Test.YtegamkilhgekjaaGreatDoorM68
import Derived.Laws.OwnMore
import Derived.Deep.AppendLies
import Derived.Deep.RegionHeld3
import Derived.Deep.DrawnRows
/- Before and Sorted of the reference of layer 7, for points in bounds. -/
namespace Go.Proofs.YtegamkilhgekjaaGreatDoor
open Go.RowKit
open Go.Lib (nDigits itoa decDigits)

set_option maxRecDepth 100000 in
set_option maxHeartbeats 4000000 in
theorem rBefore_c (ax ay bx yb : Int) (w : World) (r : Bool) (hr : r = bfP (ax, ay) (bx, yb)) :
    Calls Tryz.prog 118 #[.agg #[.int .i64 ax, .int .i64 ay], .agg #[.int .i64 bx, .int .i64 yb]] w fun e w' => e = .returned (.bool r) ∧ Kp [] w w' := by
  have kk : Kp [] w ((w.alloc (.cells #[.int .i64 ax, .int .i64 ay] 49 (0, 0))).alloc (.cells #[.int .i64 bx, .int .i64 yb] 49 (0, 0))) := ((Kp.refl _ _).alloc _).alloc _
  have s0 := (PtB.made w ax ay).alloc (.cells #[.int .i64 bx, .int .i64 yb] 49 (0, 0))
  have s1 := PtB.made (w.alloc (.cells #[.int .i64 ax, .int .i64 ay] 49 (0, 0))) bx yb
  simp only [World.size_alloc] at s1
  have c0 := s0.c0
  have c1 := s0.c1
  have d0 := s1.c0
  have d1 := s1.c1
  clear s0 s1
  by_cases h1 : ax < bx
  · rw [show r = true by rw [hr, bfP_iff]; exact .inl h1]
    clear hr
    go_enter Tryz.func118, Tryz.ntmps118
    go_wp2
    go_ret
    exact ⟨rfl, kk⟩
  · by_cases h2 : ax = bx
    · subst h2
      by_cases h3 : ay < yb
      · rw [show r = true by rw [hr, bfP_iff]; exact .inr ⟨rfl, h3⟩]
        clear hr
        go_enter Tryz.func118, Tryz.ntmps118
        go_wp2
        go_ret
        exact ⟨rfl, kk⟩
      · rw [show r = false by rw [hr, ← Bool.not_eq_true, bfP_iff]; simp; omega]
        clear hr
        go_enter Tryz.func118, Tryz.ntmps118
        go_wp2
        go_ret
        exact ⟨rfl, kk⟩
    · have h2' : (ax == bx) = false := by simp [h2]
      rw [show r = false by rw [hr, ← Bool.not_eq_true, bfP_iff]; simp; omega]
      clear hr h2
      go_enter Tryz.func118, Tryz.ntmps118
      go_wp2
      go_ret
      exact ⟨rfl, kk⟩

theorem int9_info : (Tryz.prog.info? 3).map (fun i => (i.zero, i.size, i.bytes)) = some (some (.int .i64 0), 1, 8) := by kernel_rfl
theorem kp_cell {W W' : World} {b i : Nat} {v : Value} (k : Kp [] W W') (h : W.cell? ⟨b, i, none⟩ = some v) : W'.cell? ⟨b, i, none⟩ = some v := by
  rw [World.cell?_of_block (k.block b (World.block_lt_of_cell? W _ h) (by simp))]; exact h
theorem own_swap {w : World} {base T g n cap : Nat} {M : List Nat} (h : w.ownsRow base T 1 (.slice (some ⟨g, 0, none⟩) n cap) n (M.map encN)) (i j a b : Nat) :
    ((w.setCell ⟨g, i, none⟩ (.int .i64 a)).setCell ⟨g, j, none⟩ (.int .i64 b)).ownsRow base T 1 (.slice (some ⟨g, 0, none⟩) n cap) n (((M.set i a).set j b).map encN) := by
  have := ((h.stored i (.int .i64 a)).1.stored j (.int .i64 b)).1
  rw [List.map_set, List.map_set]
  exact this
theorem own_cell {w : World} {base T g n cap : Nat} {M : List Nat} (h : w.ownsRow base T 1 (.slice (some ⟨g, 0, none⟩) n cap) n (M.map encN)) (j : Nat) (hj : j < n) :
    w.cell? ⟨g, j, none⟩ = some (.int .i64 (gN M j)) := by
  have hl : M.length = n := by have := h.1; simp at this; omega
  rw [h.cellAt j (by omega)]
  simp [gN_lt (show j < M.length by omega), encN]

attribute [local go_sem ↓] Go.wp_at_zero Go.wp_at_succ

set_option maxRecDepth 100000 in
set_option maxHeartbeats 4000000 in
theorem rSorted (g o c : Nat) (p : Option Addr) (ps : List (Int × Int)) (w : World) (hs : Pts w g o ps) (hp : 0 < ps.length → p = some ⟨g, o, none⟩ ∧ g < w.heap.size) (hn : ps.length ≤ 64) :
    Calls Tryz.prog 68 #[.slice p ps.length c] w fun e w' => ∃ sv L, e = .returned sv ∧ SrtI (gP ps) ps.length L ∧ InL w' sv L ∧ Kp [] w w' := by
  have hn1 : (ps.length : Int) ≤ 64 := by omega
  have hcc : ∀ j, j < ps.length → ∀ W, Kp [] w W → W.cell? ⟨g, o + j * 2, none⟩ = some (.int .i64 (gP ps j).1) ∧ W.cell? ⟨g, o + j * 2 + 1, none⟩ = some (.int .i64 (gP ps j).2) := fun j hj W k => by rw [gP_lt hj]; exact hs.kp0 hp k j hj
  have hp1 : 0 < ps.length → p = some ⟨g, o, none⟩ := fun h => (hp h).1
  have qs : Hid (∀ (W : World) (i j : Nat), Calls Tryz.prog 118 #[.agg #[.int .i64 (gP ps i).1, .int .i64 (gP ps i).2], .agg #[.int .i64 (gP ps j).1, .int .i64 (gP ps j).2]] W fun e w' => e = .returned (.bool (bfP (gP ps i) (gP ps j))) ∧ Kp [] W w') := fun W i j => rBefore_c _ _ _ _ W _ rfl
  generalize gP ps = G at *
  generalize hN : ps.length = N at *
  have hqa := Lib.hid hcc
  have hqp := Lib.hid hp1
  clear hs hp hcc hp1 hN ps
  have hn2 := Lib.hid hn
  clear hn
  have hz0 : 0 ≤ (N : Int) := by omega
  obtain ⟨i0, hi0, hz0', hz1, hz2⟩ := info_parts int9_info
  go_enter Tryz.func68, Tryz.ntmps68
  go_wp2_with fail
  go_loopg [3, 4] N (fun gi s3 s4 wr => ∃ (i : Nat) (sv : Value) (L : List Nat), sv = s3 ∧ s4 = .int .i64 i ∧ i + gi = N ∧ Hid (SrtI G i L) ∧ wr.ownsRow w.heap.size 3 1 sv i (L.map encN) ∧ Kp [] w wr)
  case atStart => exact ⟨0, _, [], rfl, rfl, by omega, Lib.hid (SrtI.start G), World.ownsRow_nil _ _ _ _, Kp.refl _ _⟩
  case round =>
    obtain ⟨gi, rfl⟩ : ∃ z : Nat, z = gk := ⟨_, rfl⟩
    obtain ⟨i, sv, L, rfl, rfl, hki, hS, hown, kk⟩ := hrel
    by_cases li : i < N
    · have li' : (i : Int) < (N : Int) := by omega
      have zi : 0 ≤ (i : Int) := by omega
      obtain rfl := hqp.out (by omega)
      have Li := Lib.hid li
      have Ki := Lib.hid hki
      clear li hki
      go_wp2_with (first | (at_builtin; refine wpList_append_own _ rfl _ _ 34 rfl w.heap.size 3 i0 (.int .i64 0) 1 8 Tryz.underlying34 hi0 hz0' hz1 hz2 rfl (by decide) _ _ _ rfl (hown.alloc _) ⟨wr.heap.size, 0, none⟩ 1 1 [.int .i64 i] rfl rfl ?c1 ?c2 ?c3 ?c4 ?c5 ?_) | fail)
      case c2 => rfl
      case c3 => have := Li.out; unfold maxLen; omega
      case c4 => have := Li.out; omega
      case c5 => have := kk.size; simp; omega
      · intro sv' w2 hown2 hgrow _
        have hk3 : Kp [] w w2 := grown_kp (kk.alloc _) hgrow (fun b hb => (hown.lt b hb).1)
        obtain ⟨n1, hn1⟩ : ∃ n1, n1 = i + 1 := ⟨_, rfl⟩
        have hown3 : w2.ownsRow w.heap.size 3 1 sv' n1 ((L ++ [i]).map encN) := by rw [List.map_append, hn1]; exact hown2
        obtain ⟨gg, cap, rfl, hgb, -⟩ := hown3.form (by omega)
        have Hn1 := Lib.hid hn1
        have zn1 : (0 : Int) ≤ (n1 : Int) := by omega
        have zn2 : (n1 : Int) ≤ 65 := by have := Li.out; have := hn2.out; omega
        clear hown2 hgrow hown kk hn1
        go_wp2_with fail
        go_loopg [5] i (fun gk s5 wr => ∃ M, s5 = .int .i64 gk ∧ Hid (InsI G i gk M) ∧ wr.ownsRow w.heap.size 3 1 (.slice (some ⟨gg, 0, none⟩) n1 cap) n1 (M.map encN) ∧ Kp [] w wr)
        case atStart => exact ⟨_, rfl, Lib.hid (InsI.start hS.out), hown3, hk3⟩
        case round =>
          clear hown3 hk3
          obtain ⟨k, rfl⟩ : ∃ z : Nat, z = gk := ⟨_, rfl⟩
          obtain ⟨M, rfl, hI, hown, kk⟩ := hrel
          by_cases hk0 : k = 0
          · have hd : decide ((0 : Int) < (k : Int)) = false := decide_eq_false (by omega)
            have hd' : decide (0 < k) = false := decide_eq_false (by omega)
            have hS2 : Hid (SrtI G (i + 1) M) := by rw [hk0] at hI; exact hI.out.stop0
            clear hk0
            clear hI qs
            go_wp2_with fail
            go_quiet (fail)
            all_goals go_wp2
            all_goals have li := Li.out; have hki := Ki.out
            go_roundg (gi - 1)
            case measure => omega
            case rel => exact ⟨i + 1, _, M, rfl, by go_num, by omega, hS2, by rw [← Hn1.out]; exact hown, kk.drewN _⟩
          · obtain ⟨m, hm⟩ : ∃ m, k = m + 1 := ⟨k - 1, by omega⟩
            have hle : k ≤ i := hI.out.le
            have hlen : M.length = i + 1 := hI.out.len
            have c1 := own_cell hown k (by have := Hn1.out; omega)
            have c2 := own_cell hown m (by have := Hn1.out; omega)
            have f1 := hown.frozenAt k
            have f2 := hown.frozenAt m
            have hw : wrap64 ((k : Int) - 1) = (m : Int) := by have := Li.out; have := hn2.out; unfold wrap64; omega
            have hw2 : IntKind.i64.wrap ((k : Int) - 1) = (m : Int) := by have := Li.out; have := hn2.out; rw [show (k : Int) - 1 = (m : Int) by omega]; exact IntWalk.i64_in _ (by omega)
            have hkp : decide ((0 : Int) < (k : Int)) = true := decide_eq_true (by omega)
            have hkp' : decide (0 < k) = true := decide_eq_true (by omega)
            have b0 : (0 : Int) ≤ (m : Int) := by omega
            have b1 : (k : Int) < (n1 : Int) := by have := Hn1.out; omega
            have b2 : (m : Int) < (n1 : Int) := by have := Hn1.out; omega
            have b3 : (0 : Int) ≤ (k : Int) := by omega
            have l1 : gN M k < N := by have := hI.out.lt (gN_mem (show k < M.length by omega)); have := Li.out; omega
            have l2 : gN M m < N := by have := hI.out.lt (gN_mem (show m < M.length by omega)); have := Li.out; omega
            have hsw := Lib.hid fun hb => InsI.swap (G := G) (M := M) (n := i) (k := m) (by rw [← hm]; exact hI.out) hb
            have hst := Lib.hid fun hb => InsI.stop (G := G) (M := M) (n := i) (k := m) (by rw [← hm]; exact hI.out) hb
            rw [← hm] at hsw hst
            generalize gN M k = a1 at *
            generalize gN M m = a2 at *
            obtain ⟨d0, d1⟩ := hqa.out a1 l1 wr kk
            obtain ⟨e0, e1⟩ := hqa.out a2 l2 wr kk
            have l1' : (a1 : Int) < (N : Int) := by omega
            have l2' : (a2 : Int) < (N : Int) := by omega
            have l3 : (0 : Int) ≤ (a1 : Int) := by omega
            have l4 : (0 : Int) ≤ (a2 : Int) := by omega
            have q := Lib.hid fun W : World => qs.out W a1 a2
            generalize bfP (G a1) (G a2) = b at *
            generalize (G a1).1 = x1 at *
            generalize (G a1).2 = y1 at *
            generalize (G a2).1 = x2 at *
            generalize (G a2).2 = y2 at *
            have Hm := Lib.hid hm; have Hle := Lib.hid hle
            clear qs l1 l2 hm hle hlen hk0
            go_wp2_with fail
            go_region_held3 (fun w' => Kp [] w w' ∧ w'.cell? ⟨gg, k, none⟩ = some (.int .i64 a1) ∧ w'.cell? ⟨gg, m, none⟩ = some (.int .i64 a2) ∧ w'.cell? ⟨g, o + a1 * 2, none⟩ = some (.int .i64 x1) ∧ w'.cell? ⟨g, o + a1 * 2 + 1, none⟩ = some (.int .i64 y1) ∧ w'.cell? ⟨g, o + a2 * 2, none⟩ = some (.int .i64 x2) ∧ w'.cell? ⟨g, o + a2 * 2 + 1, none⟩ = some (.int .i64 y2))
              (first
                | exact ⟨kk.drew, c1, c2, d0, d1, e0, e1⟩
                | (go_split_ands
                   exact ⟨Kp.trans (by assumption) k9, kp_cell k9 (by assumption), kp_cell k9 (by assumption), kp_cell k9 (by assumption), kp_cell k9 (by assumption), kp_cell k9 (by assumption), kp_cell k9 (by assumption)⟩)
                | go_keep)
              (first
                | (go_at_call 118; refine (q.out _).mono ?_; rintro e w9 ⟨rfl, k9⟩))
            all_goals
              (have hown4 := (World.ownsRow.drew hown).kept (kp_grown k9) (.inr (by unfold Value.ownBlock; simp))
               replace kk := kk.drew.trans k9
               have c1 := kp_cell k9 c1
               have c2 := kp_cell k9 c2
               have f1 := hown4.frozenAt k
               have f2 := hown4.frozenAt m
               clear q k9 d0 d1 e0 e1 hown)
            all_goals cases b with
              | false =>
                have hS2 := Lib.hid (hst.out rfl)
                clear hst hsw c1 c2 f1 f2
                go_wp2
                have li := Li.out; have hki := Ki.out
                go_roundg (gi - 1)
                case measure => omega
                case rel => exact ⟨i + 1, _, M, rfl, by go_num, by omega, hS2, by rw [← Hn1.out]; exact hown4, kk⟩
              | true =>
                have hI2 := Lib.hid (hsw.out rfl)
                have hown5 := (hown4.stored k (.int .i64 a2)).1
                have f3 := hown5.frozenAt m
                have c3 : (w9.setCell ⟨gg, k, none⟩ (.int .i64 a2)).cell? ⟨gg, m, none⟩ = some (.int .i64 a2) := (World.cell?_setCell_other _ _ _ _ (by intro e'; simp only [Addr.mk.injEq] at e'; have := Hm.out; omega)).trans c2
                clear hst hsw hI
                go_wp2_with fail
                go_region
                clear c1 c2 c3 f1 f2 f3
                go_wp2
                go_roundg m
                case measure => have := Hm.out; omega
                case rel => exact ⟨_, by go_num, hI2, World.ownsRow.drew (own_swap hown4 k m a2 a1), ((kk.setCell (p := ⟨gg, k, none⟩) (.inr hgb) _).setCell (p := ⟨gg, m, none⟩) (.inr hgb) _).drew⟩
    · have li' : ¬ (i : Int) < (N : Int) := by omega
      have ei := Lib.hid (show i = N by omega)
      clear li hki qs
      go_wp2
      refine bodyPost_ret (v := sv) (by simp [results, Tryz.results68, go_sem]) rfl ?_
      exact ⟨sv, rfl, L, by rw [← ei.out]; exact hS.out, InL.of_own hown, kk⟩

end Go.Proofs.YtegamkilhgekjaaGreatDoor

/- Twice, Area, Collinear, Order and SameInts of the reference of layer 7. -/
namespace Go.Proofs.YtegamkilhgekjaaGreatDoor
open Go.RowKit
open Go.Lib (nDigits itoa decDigits)

theorem arS_le (g : Nat → Int × Int) (n k : Nat) (hg : ∀ j, (g j).1.natAbs ≤ 100000 ∧ (g j).2.natAbs ≤ 100000) : (arS g n k).natAbs ≤ k * 20000000000 := by
  induction k with
  | zero => simp [arS]
  | succ k ih =>
    unfold arS
    have m1 := mul_bd (hg k).1 (hg ((k + 1) % n)).2
    have m2 := mul_bd (hg k).2 (hg ((k + 1) % n)).1
    omega

set_option maxRecDepth 100000 in
set_option maxHeartbeats 4000000 in
theorem rTwice (g o c : Nat) (p : Option Addr) (ps : List (Int × Int)) (w : World) (hs : Pts w g o ps) (hp : 0 < ps.length → p = some ⟨g, o, none⟩ ∧ g < w.heap.size) (hn : ps.length ≤ 64) (hb : ∀ q ∈ ps, PB q) :
    Calls Tryz.prog 59 #[.slice p ps.length c] w fun e w' => e = .returned (.int .i64 (arS (gP ps) ps.length ps.length)) ∧ Kp [] w w' := by
  have hcc : ∀ j, j < ps.length → ∀ W, Kp [] w W → W.cell? ⟨g, o + j * 2, none⟩ = some (.int .i64 (gP ps j).1) ∧ W.cell? ⟨g, o + j * 2 + 1, none⟩ = some (.int .i64 (gP ps j).2) := fun j hj W k => by rw [gP_lt hj]; exact hs.kp0 hp k j hj
  have hp1 : 0 < ps.length → p = some ⟨g, o, none⟩ := fun h => (hp h).1
  have qs : Hid (∀ (W : World) (i j : Nat), Calls Tryz.prog 114 #[.agg #[.int .i64 (gP ps i).1, .int .i64 (gP ps i).2], .agg #[.int .i64 (gP ps j).1, .int .i64 (gP ps j).2]] W fun e w' => e = .returned (.int .i64 ((gP ps i).1 * (gP ps j).2 - (gP ps i).2 * (gP ps j).1)) ∧ Kp [] W w') := fun W i j => by
    have a := gP_pb hb i
    have b := gP_pb hb j
    exact rTurn7 _ _ _ _ W (by have := a.1; omega) (by have := a.2; omega) (by have := b.1; omega) (by have := b.2; omega)
  have hst : ∀ k, arS (gP ps) ps.length (k + 1) = arS (gP ps) ps.length k + ((gP ps k).1 * (gP ps ((k + 1) % ps.length)).2 - (gP ps k).2 * (gP ps ((k + 1) % ps.length)).1) := fun _ => rfl
  have hT0 : arS (gP ps) ps.length 0 = 0 := rfl
  have hle : ∀ k, k ≤ ps.length → (arS (gP ps) ps.length k).natAbs ≤ 1280000000000 := fun k hk => by
    have := arS_le (gP ps) ps.length k (fun j => gP_pb hb j)
    omega
  have hbd : ∀ i j, ((gP ps i).1 * (gP ps j).2 - (gP ps i).2 * (gP ps j).1).natAbs ≤ 20000000000 := fun i j => by
    have a := gP_pb hb i
    have b := gP_pb hb j
    have m1 := mul_bd a.1 b.2
    have m2 := mul_bd a.2 b.1
    omega
  generalize gP ps = G at *
  generalize hN : ps.length = N at *
  generalize arS G N = T at *
  have hqa := Lib.hid hcc
  have hqs := Lib.hid hst
  have hql := Lib.hid hle
  have hqp := Lib.hid hp1
  have hqb := Lib.hid hbd
  clear hs hp hb hcc hst hle hp1 hbd hN ps
  have hn1 := Lib.hid hn
  have hn2 : (N : Int) ≤ 64 := by omega
  have hn3 : 0 ≤ (N : Int) := by omega
  clear hn
  go_enter Tryz.func59, Tryz.ntmps59
  go_wp2_with fail
  go_loopg [3, 4] N (fun gk s3 s4 wr => ∃ k : Nat, s4 = .int .i64 k ∧ k + gk = N ∧ s3 = .int .i64 (T k) ∧ Kp [] w wr)
  case atStart => exact ⟨0, rfl, by omega, by rw [hT0], Kp.refl _ _⟩
  case round =>
    obtain ⟨k, rfl, hk, rfl, kk⟩ := hrel
    by_cases hlt : k < N
    · obtain ⟨j, hj⟩ : ∃ j, j = (k + 1) % N := ⟨_, rfl⟩
      have hjn : j < N := by rw [hj]; exact Nat.mod_lt _ (by omega)
      have hmod : ((k : Int) + 1) % (N : Int) = (j : Int) := by
        rw [hj]; simp
      obtain rfl := hqp.out (by omega)
      obtain ⟨c0, c1⟩ := hqa.out k hlt wr kk
      obtain ⟨d0, d1⟩ := hqa.out j hjn wr kk
      have q := Lib.hid fun W : World => qs.out W k j
      have hst := hqs.out k
      rw [← hj] at hst
      have hl1 := hql.out k (by omega)
      have hl2 := hqb.out k j
      have a1 : -10000000000000 ≤ T k := by omega
      have a2 : T k ≤ 10000000000000 := by omega
      have hlt' : (k : Int) < (N : Int) := by omega
      have hjn' : (j : Int) < (N : Int) := by omega
      have hz1 : 0 ≤ (k : Int) := by omega
      have hz2 : 0 ≤ (j : Int) := by omega
      have hmx : Tryz.prog.follows .mixedOrders = true := by kernel_rfl
      generalize (G k).1 * (G j).2 - (G k).2 * (G j).1 = v at *
      generalize (G k).1 = e1 at *
      generalize (G k).2 = e2 at *
      generalize (G j).1 = f1 at *
      generalize (G j).2 = f2 at *
      generalize hT1 : T (k + 1) = t1 at *
      generalize hTk : T k = t at *
      have hT1 := Lib.hid hT1
      have ht := Lib.hid hst
      have a3 : -100000000000 ≤ v := by omega
      have a4 : v ≤ 100000000000 := by omega
      have hK := Lib.hid hk
      have HL := Lib.hid hlt
      clear hst hl1 hl2 qs hT0 hj hjn hk hlt hTk
      go_wp2_with fail
      go_region_with (go_at_call 114; refine (q.out _).mono ?_; rintro e w9 ⟨rfl, k9⟩)
      all_goals
        (replace kk := kk.drew.trans k9
         clear q k9 c0 c1 d0 d1 hmod)
      all_goals go_wp2
      all_goals
        (have hk := hK.out
         have hlt := HL.out
         go_roundg (gk - 1)
         case measure => omega
         case rel => exact ⟨k + 1, by go_num, by omega, by rw [hT1.out, ht.out], kk⟩)
    · have ek : k = N := by omega
      subst ek
      have hlt' : ¬ (k : Int) < (k : Int) := by omega
      have HT : Hid (∃ t, t = T k) := ⟨_, rfl⟩
      obtain ⟨t, ht⟩ := HT.out
      rw [← ht]
      have Ht := Lib.hid ht
      clear qs hlt hk hn1 hT0 hqa hqs hql hqp hqb ht HT
      go_wp2
      go_ret
      exact ⟨by rw [← Ht.out]; rfl, kk⟩

theorem ckP_len {ps : List (Int × Int)} (h : ckP ps = 0) : ps.length ≤ 64 := by
  unfold ckP at h
  split at h
  · cases h
  · omega
theorem ckP_pb {ps : List (Int × Int)} (h : ckP ps = 0) : ∀ q ∈ ps, PB q := fun q hq => by
  unfold ckP at h
  rw [if_neg (show ¬ 64 < ps.length by have := ckP_len (ps := ps) (by unfold ckP; exact h); omega)] at h
  split at h
  · rename_i hall
    have := List.all_eq_true.1 hall q hq
    unfold inP at this
    rw [Bool.and_eq_true, inB_iff, inB_iff] at this
    unfold PB
    omega
  · cases h

/-- all points of a list are collinear -/
def clB (ps : List (Int × Int)) : Bool := decide (∀ i, i < ps.length → ∀ j, j < i → ∀ k, k < j → w3 ps i j k = 0)
theorem clB_0 {ps : List (Int × Int)} (i j k : Nat) (h1 : i < ps.length) (h2 : j < i) (h3 : k < j) (h : w3 ps i j k ≠ 0) : clB ps = false :=
  decide_eq_false fun hh => h (hh i h1 j h2 k h3)
theorem clB_1 {ps : List (Int × Int)} (h : ∀ i j k, i < ps.length → j < i → k < j → w3 ps i j k = 0) : clB ps = true :=
  decide_eq_true fun i h1 j h2 k h3 => h i j k h1 h2 h3
/-- the answer beside an error -/
def bZp (e : Int) (b : Bool) : Bool := if e = 0 then b else false
def iZ (e z : Int) : Int := if e = 0 then z else 0

set_option maxRecDepth 100000 in
set_option maxHeartbeats 4000000 in
theorem area_r (g o c : Nat) (p : Option Addr) (ps : List (Int × Int)) (w : World) (hs : Pts w g o ps) (hp : 0 < ps.length → p = some ⟨g, o, none⟩ ∧ g < w.heap.size) (hn : ps.length ≤ 9223372036854775807) :
    Calls Tryz.prog 15 #[.slice p ps.length c] w fun e w' => e = .returned (.tuple #[.int .i64 (iZ (ckP ps) (arS (gP ps) ps.length ps.length)), .int .i64 (ckP ps)]) ∧ Kp [] w w' := by
  have qc := Lib.hid (rCheckP g o c p ps w hs hp hn)
  by_cases h0 : ckP ps = 0
  · have qe : Hid (∀ W : World, Kp [] w W → Calls Tryz.prog 59 #[.slice p ps.length c] W fun e w' => e = .returned (.int .i64 (arS (gP ps) ps.length ps.length)) ∧ Kp [] W w') := fun W k =>
      rTwice g o c p ps W (hs.kp0 hp k) (fun h => ⟨(hp h).1, Nat.lt_of_lt_of_le (hp h).2 k.size⟩) (ckP_len h0) (ckP_pb h0)
    rw [h0] at qc ⊢
    rw [show iZ 0 (arS (gP ps) ps.length ps.length) = arS (gP ps) ps.length ps.length from if_pos rfl]
    generalize arS (gP ps) ps.length ps.length = v at *
    generalize ps.length = N at *
    clear hs hp hn h0
    go_enter Tryz.func15, Tryz.ntmps15
    go_wp2_with fail
    with_reducible refine qc.out.mono ?_
    rintro e w2 ⟨rfl, k⟩
    go_wp2_with fail
    with_reducible refine (qe.out _ k).mono ?_
    rintro e w3 ⟨rfl, k3⟩
    replace k := k.trans k3
    clear k3 qe qc
    go_wp2
    go_ret2
    exact ⟨rfl, k⟩
  · rw [show iZ (ckP ps) (arS (gP ps) ps.length ps.length) = 0 from if_neg h0]
    have hb : (ckP ps != 0) = true := by simp [h0]
    generalize ckP ps = z at *
    generalize ps.length = N at *
    clear hs hp hn h0
    go_enter Tryz.func15, Tryz.ntmps15
    go_wp2_with fail
    with_reducible refine qc.out.mono ?_
    rintro e w2 ⟨rfl, k⟩
    clear qc
    go_wp2
    go_ret2
    exact ⟨rfl, k⟩

set_option maxRecDepth 100000 in
set_option maxHeartbeats 4000000 in
theorem collinear_r (g o c : Nat) (p : Option Addr) (ps : List (Int × Int)) (w : World) (hs : Pts w g o ps) (hp : 0 < ps.length → p = some ⟨g, o, none⟩ ∧ g < w.heap.size) (hn : ps.length ≤ 9223372036854775807) :
    Calls Tryz.prog 17 #[.slice p ps.length c] w fun e w' => e = .returned (.tuple #[.bool (bZp (ckP ps) (clB ps)), .int .i64 (ckP ps)]) ∧ Kp [] w w' := by
  have qc := Lib.hid (rCheckP g o c p ps w hs hp hn)
  by_cases h0 : ckP ps = 0
  · have qe : Hid (∀ W : World, Kp [] w W → Calls Tryz.prog 63 #[.slice p ps.length c] W fun e w' => e = .returned (.bool (clB ps)) ∧ Kp [] W w') := fun W k =>
      rStraight g o c p ps W (hs.kp0 hp k) (fun h => ⟨(hp h).1, Nat.lt_of_lt_of_le (hp h).2 k.size⟩) (ckP_len h0) (ckP_pb h0) (clB ps) clB_0 clB_1
    rw [h0] at qc ⊢
    rw [show bZp 0 (clB ps) = clB ps from if_pos rfl]
    generalize clB ps = v at *
    generalize ps.length = N at *
    clear hs hp hn h0
    go_enter Tryz.func17, Tryz.ntmps17
    go_wp2_with fail
    with_reducible refine qc.out.mono ?_
    rintro e w2 ⟨rfl, k⟩
    go_wp2_with fail
    with_reducible refine (qe.out _ k).mono ?_
    rintro e w3 ⟨rfl, k3⟩
    replace k := k.trans k3
    clear k3 qe qc
    go_wp2
    go_ret2
    exact ⟨rfl, k⟩
  · rw [show bZp (ckP ps) (clB ps) = false from if_neg h0]
    have hb : (ckP ps != 0) = true := by simp [h0]
    generalize ckP ps = z at *
    generalize ps.length = N at *
    clear hs hp hn h0
    go_enter Tryz.func17, Tryz.ntmps17
    go_wp2_with fail
    with_reducible refine qc.out.mono ?_
    rintro e w2 ⟨rfl, k⟩
    clear qc
    go_wp2
    go_ret2
    exact ⟨rfl, k⟩

/-- what Order answers: the list's slice -/
def OrdR (ps : List (Int × Int)) (w' : World) (sv : Value) : Prop := ∃ L, InL w' sv L ∧ ((ckP ps = 0 ∧ SrtI (gP ps) ps.length L) ∨ (ckP ps ≠ 0 ∧ L = []))
theorem OrdR.kp {ps : List (Int × Int)} {w W : World} {sv : Value} (h : OrdR ps w sv) (k : Kp [] w W) : OrdR ps W sv := by
  obtain ⟨L, h1, h2⟩ := h
  exact ⟨L, h1.kp k, h2⟩

set_option maxRecDepth 100000 in
set_option maxHeartbeats 4000000 in
theorem order_r (g o c : Nat) (p : Option Addr) (ps : List (Int × Int)) (w : World) (hs : Pts w g o ps) (hp : 0 < ps.length → p = some ⟨g, o, none⟩ ∧ g < w.heap.size) (hn : ps.length ≤ 9223372036854775807) :
    Calls Tryz.prog 19 #[.slice p ps.length c] w fun e w' => ∃ sv, e = .returned (.tuple #[sv, .int .i64 (ckP ps)]) ∧ OrdR ps w' sv ∧ Kp [] w w' := by
  have qc := Lib.hid (rCheckP g o c p ps w hs hp hn)
  by_cases h0 : ckP ps = 0
  · have qe : Hid (∀ W : World, Kp [] w W → Calls Tryz.prog 68 #[.slice p ps.length c] W fun e w' => ∃ sv, e = .returned sv ∧ OrdR ps w' sv ∧ Kp [] W w') := fun W k =>
      (rSorted g o c p ps W (hs.kp0 hp k) (fun h => ⟨(hp h).1, Nat.lt_of_lt_of_le (hp h).2 k.size⟩) (ckP_len h0)).mono fun e w' ⟨sv, L, he, hS, hL, hk⟩ => ⟨sv, he, ⟨L, hL, .inl ⟨h0, hS⟩⟩, hk⟩
    rw [h0] at qc ⊢
    generalize OrdR ps = R at *
    generalize ps.length = N at *
    clear hs hp hn h0
    go_enter Tryz.func19, Tryz.ntmps19
    go_wp2_with fail
    with_reducible refine qc.out.mono ?_
    rintro e w2 ⟨rfl, k⟩
    go_wp2_with fail
    with_reducible refine (qe.out _ k).mono ?_
    rintro e w3 ⟨sv, rfl, hR, k3⟩
    replace k := k.trans k3
    have HR := Lib.hid hR
    clear k3 qe qc hR
    go_wp2
    go_ret2
    exact ⟨sv, rfl, HR.out, k⟩
  · have hb : (ckP ps != 0) = true := by simp [h0]
    have hR : Hid (∀ W, OrdR ps W (.slice none 0 0)) := Lib.hid fun W => ⟨[], .inl ⟨rfl, _, _, rfl⟩, .inr ⟨h0, rfl⟩⟩
    generalize OrdR ps = R at *
    generalize ckP ps = z at *
    generalize ps.length = N at *
    clear hs hp hn h0
    go_enter Tryz.func19, Tryz.ntmps19
    go_wp2_with fail
    with_reducible refine qc.out.mono ?_
    rintro e w2 ⟨rfl, k⟩
    clear qc
    go_wp2
    go_ret2
    exact ⟨_, rfl, hR.out _, k⟩

set_option maxRecDepth 100000 in
set_option maxHeartbeats 4000000 in
theorem rSameInts (a b : Value) (L : List Nat) (w : World) (ha : InL w a L) (hb : InL w b L) (hn : L.length ≤ 64) :
    Calls Tryz.prog 22 #[a, b] w fun e w' => e = .returned (.bool true) ∧ Kp [] w w' := by
  have hn1 : (L.length : Int) ≤ 64 := by omega
  obtain ⟨p1, c1, e1⟩ := ha.len
  obtain ⟨p2, c2, e2⟩ := hb.len
  have fa : 0 < L.length → ∃ g o, p1 = some ⟨g, o, none⟩ ∧ g < w.heap.size ∧ ∀ j, j < L.length → w.cell? ⟨g, o + j, none⟩ = some (.int .i64 (gN L j)) := fun h => by
    rcases ha with ⟨rfl, _⟩ | ⟨g, o, c, hv, hg, hc⟩
    · simp at h
    · rw [e1] at hv
      injection hv with h1 _ _
      exact ⟨g, o, h1, hg, hc⟩
  have fb : 0 < L.length → ∃ g o, p2 = some ⟨g, o, none⟩ ∧ g < w.heap.size ∧ ∀ j, j < L.length → w.cell? ⟨g, o + j, none⟩ = some (.int .i64 (gN L j)) := fun h => by
    rcases hb with ⟨rfl, _⟩ | ⟨g, o, c, hv, hg, hc⟩
    · simp at h
    · rw [e2] at hv
      injection hv with h1 _ _
      exact ⟨g, o, h1, hg, hc⟩
  clear ha hb
  subst e1 e2
  have FA := Lib.hid fa
  have FB := Lib.hid fb
  clear fa fb
  generalize gN L = G at *
  generalize L.length = N at *
  have hn2 := Lib.hid hn
  clear hn
  have hz0 : 0 ≤ (N : Int) := by omega
  go_enter Tryz.func22, Tryz.ntmps22
  go_wp2_with fail
  go_loopg [5] N (fun gk s5 wr => ∃ k : Nat, s5 = .int .i64 k ∧ k + gk = N ∧ Kp [] w wr)
  case atStart => exact ⟨0, rfl, by omega, Kp.refl _ _⟩
  case round =>
    obtain ⟨k, rfl, hk, kk⟩ := hrel
    by_cases hlt : k < N
    · obtain ⟨g1, o1, rfl, hg1, hc1⟩ := FA.out (by omega)
      obtain ⟨g2, o2, rfl, hg2, hc2⟩ := FB.out (by omega)
      have x1 : wr.cell? ⟨g1, o1 + k, none⟩ = some (.int .i64 (G k)) := by rw [World.cell?_of_block (kk.block g1 hg1 (by simp))]; exact hc1 k hlt
      have x2 : wr.cell? ⟨g2, o2 + k, none⟩ = some (.int .i64 (G k)) := by rw [World.cell?_of_block (kk.block g2 hg2 (by simp))]; exact hc2 k hlt
      have hlt' : (k : Int) < (N : Int) := by omega
      have hz1 : 0 ≤ (k : Int) := by omega
      have hK := Lib.hid hk
      have HL := Lib.hid hlt
      clear hc1 hc2 hk hlt FA FB
      generalize ((G k : Nat) : Int) = z at *
      go_wp2_with fail
      go_quiet (fail)
      all_goals go_wp2
      all_goals
        (have hk := hK.out
         have hlt := HL.out
         go_roundg (gk - 1)
         case measure => omega
         case rel => exact ⟨k + 1, by go_num, by omega, kk.drewN _⟩)
    · have ek : k = N := by omega
      have hlt' : ¬ (k : Int) < (N : Int) := by omega
      clear hlt hk ek
      go_wp2
      go_ret
      exact ⟨rfl, kk⟩

end Go.Proofs.YtegamkilhgekjaaGreatDoor
