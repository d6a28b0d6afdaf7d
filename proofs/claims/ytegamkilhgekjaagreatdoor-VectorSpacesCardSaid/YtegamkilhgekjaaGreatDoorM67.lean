/- Texts Vspa1, Vspa2, Vspa3, Vspa4, Vspa5, OpenSps: each says in its own first comment what it proves. -/
import Derived.Test.YtegamkilhgekjaaGreatDoorM63
import Derived.Deep.RegionHeld3
import Derived.Deep.Cut
import Derived.Deep.CutRange
import Derived.Test.YtegamkilhgekjaaGreatDoorM60
import Derived.RangeFuncBox
import Derived.Test.YtegamkilhgekjaaGreatDoorM56
import Derived.Test.YtegamkilhgekjaaGreatDoorM66
import Derived.Deep.SlicePairs
import Derived.ChangeArms
/- Reference of layer 7: CheckSpots and FewSpots at every list of places. -/
namespace Go.Proofs.YtegamkilhgekjaaGreatDoor
open Go.RowKit
open Go.Lib (nDigits itoa decDigits)

/-- the j-th place -/
def gS (ps : List P3) (j : Nat) : P3 := ps[j]?.getD ⟨0, 0, 0⟩
theorem gS_lt {ps : List P3} {j : Nat} (h : j < ps.length) : gS ps j = ps[j] := by unfold gS; simp [h]
theorem Sps.kp0 {w W : World} {g o : Nat} {ps : List P3} {p : Option Addr} (h : Sps w g o ps) (hp : 0 < ps.length → p = some ⟨g, o, none⟩ ∧ g < w.heap.size) (k : Kp [] w W) : Sps W g o ps := fun i hi => h.kp (hp (by omega)).2 k i hi
/-- four places of a list: the volume -/
def v4 (ps : List P3) (i j k m : Nat) : Int := voV (gS ps i).x (gS ps i).y (gS ps i).z (gS ps j).x (gS ps j).y (gS ps j).z (gS ps k).x (gS ps k).y (gS ps k).z (gS ps m).x (gS ps m).y (gS ps m).z

set_option maxRecDepth 100000 in
set_option maxHeartbeats 4000000 in
theorem rCheckS (g o c : Nat) (p : Option Addr) (ps : List P3) (w : World) (hs : Sps w g o ps) (hp : 0 < ps.length → p = some ⟨g, o, none⟩ ∧ g < w.heap.size) (hn : ps.length ≤ 9223372036854775807) :
    Calls Tryz.prog 27 #[.slice p ps.length c] w fun e w' => e = .returned (.int .i64 (ckS ps)) ∧ Kp [] w w' := by
  have hn1 : (ps.length : Int) ≤ 9223372036854775807 := by omega
  have kk : Kp [] w w := Kp.refl _ _
  by_cases h64 : 64 < ps.length
  · have h64' : (64 : Int) < (ps.length : Int) := by omega
    rw [show ckS ps = 5 by unfold ckS; rw [if_pos h64]]
    generalize ps.length = N at *
    clear h64 hs hp
    go_enter Tryz.func27, Tryz.ntmps27
    go_wp2
    go_ret
    exact ⟨rfl, kk⟩
  · have h64' : ¬ (64 : Int) < (ps.length : Int) := by omega
    have hR : ckS ps = if ps.all inS = true then 0 else 2 := by unfold ckS; rw [if_neg h64]
    have h1 : ∀ k (hk : k < ps.length), inS ps[k] = false → ckS ps = 2 := fun k hk h => by
      rw [hR, if_neg]
      intro hall
      have := List.all_eq_true.1 hall _ (List.getElem_mem hk)
      rw [h] at this; cases this
    have h2 : (∀ k (hk : k < ps.length), inS ps[k] = true) → ckS ps = 0 := fun h => by
      rw [hR, if_pos]
      exact List.all_eq_true.2 fun q hq => by obtain ⟨j, hj, rfl⟩ := List.getElem_of_mem hq; exact h j hj
    clear hR
    generalize ckS ps = R at *
    have H1 := Lib.hid h1
    have H2 := Lib.hid h2
    clear h1 h2
    go_enter Tryz.func27, Tryz.ntmps27
    go_wp2
    go_loopg [3] ps.length (fun gk s3 wr => ∃ k : Nat, s3 = .int .i64 k ∧ k + gk = ps.length ∧ (∀ j (_ : j < k) (h : j < ps.length), inS ps[j] = true) ∧ Kp [] w wr)
    case atStart => exact ⟨0, rfl, by omega, fun j hj => by omega, Kp.refl _ _⟩
    case round =>
      obtain ⟨k, rfl, hk, hb, kk⟩ := hrel
      by_cases hlt : k < ps.length
      · obtain ⟨rfl, hg⟩ := hp (by omega)
        have hcs := hs.kp hg kk k hlt
        obtain ⟨c0, c1, c2⟩ := hcs
        have hlt' : (k : Int) < (ps.length : Int) := by omega
        have hz1 : 0 ≤ (k : Int) := by omega
        have Hb := Lib.hid hb
        have Hk := Lib.hid hk
        have HL := Lib.hid hlt
        have q := Lib.hid fun W : World => (rrightS_c (x := ps[k].x) (y := ps[k].y) (z := ps[k].z) (b := inS ps[k]) (w := W) rfl).out W (Kp.refl _ _)
        cases hc : inS ps[k] with
        | false =>
          have HV := Lib.hid (H1.out k hlt hc)
          rw [hc] at q
          clear hs hb hk hp hc Hb H1 H2
          generalize ps[k].x = x at *
          generalize ps[k].y = y at *
          generalize ps[k].z = z at *
          clear hlt
          go_wp2_with fail
          with_reducible refine (q.out _).mono ?_
          rintro e w' ⟨rfl, k2⟩
          go_wp2
          go_ret
          exact ⟨by rw [HV.out]; rfl, kk.trans k2⟩
        | true =>
          have HC := Lib.hid hc
          rw [hc] at q
          clear hs hb hk hp hc H1 H2
          generalize ps[k].x = x at *
          generalize ps[k].y = y at *
          generalize ps[k].z = z at *
          clear hlt
          go_wp2_with fail
          with_reducible refine (q.out _).mono ?_
          rintro e w' ⟨rfl, k2⟩
          go_wp2
          have hk := Hk.out
          have hlt := HL.out
          go_roundg (gk - 1)
          case measure => omega
          case rel =>
            refine ⟨k + 1, by go_num, by omega, fun j hj h => ?_, kk.trans k2⟩
            by_cases ejk : j = k
            · subst ejk
              exact HC.out
            · exact Hb.out j (by omega) h
      · have hlt' : ¬ (k : Int) < (ps.length : Int) := by omega
        have HV := Lib.hid (H2.out fun j hj => hb j (by omega) hj)
        clear hb hk hlt hs hp H1 H2
        go_wp2
        go_ret
        exact ⟨by rw [HV.out]; rfl, kk⟩

set_option maxRecDepth 100000 in
set_option maxHeartbeats 4000000 in
theorem rFewS (p : Option Addr) (n c : Nat) (w : World) (b : Bool) (hb : b = (decide (n ≤ 6) || (decide (64 < n) && decide (n < 128)))) :
    Calls Tryz.prog 23 #[.slice p n c] w fun e w' => e = .returned (.bool b) ∧ Kp [] w w' := by
  have kk : Kp [] w w := Kp.refl _ _
  by_cases h1 : n ≤ 6
  · have h1' : (n : Int) ≤ 6 := by omega
    rw [show b = true by rw [hb]; simp [h1]]
    clear hb h1
    go_enter Tryz.func23, Tryz.ntmps23
    go_wp2
    go_ret
    exact ⟨rfl, kk⟩
  · by_cases h2 : 64 < n
    · by_cases h3 : n < 128
      · have h1' : ¬ (n : Int) ≤ 6 := by omega
        have h2' : (64 : Int) < (n : Int) := by omega
        have h3' : (n : Int) < 128 := by omega
        rw [show b = true by rw [hb]; simp [h2, h3]]
        clear hb h1 h2 h3
        go_enter Tryz.func23, Tryz.ntmps23
        go_wp2
        go_ret
        exact ⟨rfl, kk⟩
      · have h1' : ¬ (n : Int) ≤ 6 := by omega
        have h2' : (64 : Int) < (n : Int) := by omega
        have h3' : ¬ (n : Int) < 128 := by omega
        rw [show b = false by rw [hb]; simp [h3]; omega]
        clear hb h1 h2 h3
        go_enter Tryz.func23, Tryz.ntmps23
        go_wp2
        go_ret
        exact ⟨rfl, kk⟩
    · have h1' : ¬ (n : Int) ≤ 6 := by omega
      have h2' : ¬ (64 : Int) < (n : Int) := by omega
      rw [show b = false by rw [hb]; simp [h2]; omega]
      clear hb h1 h2
      go_enter Tryz.func23, Tryz.ntmps23
      go_wp2
      go_ret
      exact ⟨rfl, kk⟩

end Go.Proofs.YtegamkilhgekjaaGreatDoor

/- Even of the reference of layer 7. -/
namespace Go.Proofs.YtegamkilhgekjaaGreatDoor
open Go.RowKit
open Go.Lib (nDigits itoa decDigits)

theorem v4_ck {ps : List P3} (h : ∀ q ∈ ps, inS q = true) (hn : ps.length ≤ 64) (i j k m : Nat) : ckS ([gS ps i, gS ps j, gS ps k, gS ps m] : List P3) = 0 := by
  have hg : ∀ j, inS (gS ps j) = true := fun j => by
    unfold gS
    rcases hj : ps[j]? with _ | q
    · rfl
    · exact h _ (List.mem_of_getElem? hj)
  unfold ckS
  rw [if_neg (by simp), if_pos]
  simp [hg]

set_option maxRecDepth 100000 in
set_option maxHeartbeats 4000000 in
theorem rEven (g o c : Nat) (p : Option Addr) (ps : List P3) (w : World) (hs : Sps w g o ps) (hp : 0 < ps.length → p = some ⟨g, o, none⟩ ∧ g < w.heap.size) (hn : ps.length ≤ 64) (hb : ∀ q ∈ ps, inS q = true) (R : Bool)
    (h0 : ∀ i j k m, i < ps.length → j < i → k < j → m < k → v4 ps i j k m ≠ 0 → R = false) (h1 : (∀ i j k m, i < ps.length → j < i → k < j → m < k → v4 ps i j k m = 0) → R = true) :
    Calls Tryz.prog 77 #[.slice p ps.length c] w fun e w' => e = .returned (.bool R) ∧ Kp [] w w' := by
  have hn1 : (ps.length : Int) ≤ 64 := by omega
  have hcc : ∀ j, j < ps.length → ∀ W, Kp [] w W → W.cell? ⟨g, o + j * 3, none⟩ = some (.int .i64 (gS ps j).x) ∧ W.cell? ⟨g, o + j * 3 + 1, none⟩ = some (.int .i64 (gS ps j).y) ∧ W.cell? ⟨g, o + j * 3 + 2, none⟩ = some (.int .i64 (gS ps j).z) := fun j hj W k => by rw [gS_lt hj]; exact hs.kp0 hp k j hj
  have hp1 : 0 < ps.length → p = some ⟨g, o, none⟩ := fun h => (hp h).1
  have qs : Hid (∀ (W : World) (i j k m : Nat), Calls Tryz.prog 97 #[.agg #[.int .i64 (gS ps i).x, .int .i64 (gS ps i).y, .int .i64 (gS ps i).z], .agg #[.int .i64 (gS ps j).x, .int .i64 (gS ps j).y, .int .i64 (gS ps j).z], .agg #[.int .i64 (gS ps k).x, .int .i64 (gS ps k).y, .int .i64 (gS ps k).z], .agg #[.int .i64 (gS ps m).x, .int .i64 (gS ps m).y, .int .i64 (gS ps m).z]] W fun e w' => e = .returned (.int .i64 (v4 ps i j k m)) ∧ Kp [] W w') := fun W i j k m => six_r _ _ _ _ _ _ _ _ _ _ _ _ W (v4_ck hb hn i j k m)
  generalize gS ps = G at *
  generalize v4 ps = V at *
  generalize hN : ps.length = N at *
  have hqa := Lib.hid hcc
  have hqp := Lib.hid hp1
  have H0 := Lib.hid h0
  have H1 := Lib.hid h1
  clear hs hp hcc hp1 hb hN h0 h1 ps
  have hn2 := Lib.hid hn
  clear hn
  have hz0 : 0 ≤ (N : Int) := by omega
  go_enter Tryz.func77, Tryz.ntmps77
  go_wp2_with fail
  go_loopg [3] N (fun gi s3 wr => ∃ i : Nat, s3 = .int .i64 i ∧ i + gi = N ∧ Hid (∀ i', i' < i → ∀ j k m, j < i' → k < j → m < k → V i' j k m = 0) ∧ Kp [] w wr)
  case atStart => exact ⟨0, rfl, by omega, Lib.hid (fun _ h => by omega), Kp.refl _ _⟩
  case round =>
    obtain ⟨gi, rfl⟩ : ∃ z : Nat, z = gk := ⟨_, rfl⟩
    obtain ⟨i, rfl, hki, hi, kk⟩ := hrel
    by_cases li : i < N
    · have li' : (i : Int) < (N : Int) := by omega
      have zi : 0 ≤ (i : Int) := by omega
      obtain rfl := hqp.out (by omega)
      have Li := Lib.hid li
      have Ki := Lib.hid hki
      clear li hki
      go_wp2_with fail
      go_loopg [4] i (fun gj s4 wr => ∃ j : Nat, s4 = .int .i64 j ∧ j + gj = i ∧ Hid (∀ j', j' < j → ∀ k m, k < j' → m < k → V i j' k m = 0) ∧ Kp [] w wr)
      case atStart => exact ⟨0, rfl, by omega, Lib.hid (fun _ h => by omega), kk⟩
      case round =>
        clear kk
        obtain ⟨gj, rfl⟩ : ∃ z : Nat, z = gk := ⟨_, rfl⟩
        obtain ⟨j, rfl, hkj, hj, kk⟩ := hrel
        by_cases lj : j < i
        · have lj' : (j : Int) < (i : Int) := by omega
          have zj : 0 ≤ (j : Int) := by omega
          have Lj := Lib.hid lj
          have Kj := Lib.hid hkj
          clear lj hkj
          go_wp2_with fail
          go_loopg [5] j (fun gk s5 wr => ∃ k : Nat, s5 = .int .i64 k ∧ k + gk = j ∧ Hid (∀ k', k' < k → ∀ m, m < k' → V i j k' m = 0) ∧ Kp [] w wr)
          case atStart => exact ⟨0, rfl, by omega, Lib.hid (fun _ h => by omega), kk⟩
          case round =>
            clear kk
            obtain ⟨gq, rfl⟩ : ∃ z : Nat, z = gk := ⟨_, rfl⟩
            obtain ⟨k, rfl, hkk, hk, kk⟩ := hrel
            by_cases lk : k < j
            · have lk' : (k : Int) < (j : Int) := by omega
              have zk : 0 ≤ (k : Int) := by omega
              have Lk := Lib.hid lk
              have Kk := Lib.hid hkk
              clear lk hkk
              go_wp2_with fail
              go_loopg [6] k (fun gm s6 wr => ∃ m : Nat, s6 = .int .i64 m ∧ m + gm = k ∧ Hid (∀ m', m' < m → V i j k m' = 0) ∧ Kp [] w wr)
              case atStart => exact ⟨0, rfl, by omega, Lib.hid (fun _ h => by omega), kk⟩
              case round =>
                clear kk
                obtain ⟨gm, rfl⟩ : ∃ z : Nat, z = gk := ⟨_, rfl⟩
                obtain ⟨m, rfl, hkm, hm, kk⟩ := hrel
                by_cases lm : m < k
                · have lm' : (m : Int) < (k : Int) := by omega
                  have zm : 0 ≤ (m : Int) := by omega
                  have lN := Li.out
                  have lI := Lj.out
                  have lJ := Lk.out
                  obtain ⟨a0, a1, a2⟩ := hqa.out i lN wr kk
                  obtain ⟨b0, b1, b2⟩ := hqa.out j (by omega) wr kk
                  obtain ⟨c0, c1, c2⟩ := hqa.out k (by omega) wr kk
                  obtain ⟨d0, d1, d2⟩ := hqa.out m (by omega) wr kk
                  have x1 : (j : Int) < (N : Int) := by omega
                  have x2 : (k : Int) < (N : Int) := by omega
                  have x3 : (m : Int) < (N : Int) := by omega
                  have q := Lib.hid fun W : World => qs.out W i j k m
                  have Lm := Lib.hid lm
                  have Km := Lib.hid hkm
                  clear lN lI lJ lm hkm
                  generalize hv : V i j k m = v at *
                  have hv := Lib.hid hv
                  generalize (G i).x = ei1 at *
                  generalize (G i).y = ei2 at *
                  generalize (G i).z = ei3 at *
                  generalize (G j).x = ej1 at *
                  generalize (G j).y = ej2 at *
                  generalize (G j).z = ej3 at *
                  generalize (G k).x = ek1 at *
                  generalize (G k).y = ek2 at *
                  generalize (G k).z = ek3 at *
                  generalize (G m).x = em1 at *
                  generalize (G m).y = em2 at *
                  generalize (G m).z = em3 at *
                  clear qs
                  go_wp2_with fail
                  go_region_with (go_at_call 97; refine (q.out _).mono ?_; rintro e w9 ⟨rfl, k9⟩)
                  all_goals (replace kk := kk.drew.trans k9; clear q k9 a0 a1 a2 b0 b1 b2 c0 c1 c2 d0 d1 d2)
                  all_goals by_cases hv0 : v = 0
                  all_goals first
                    | (subst hv0
                       go_wp2
                       have lm := Lm.out; have hkm := Km.out
                       go_roundg (gm - 1)
                       case measure => omega
                       case rel => exact ⟨m + 1, by go_num, by omega, Lib.hid (fun m' h => if e : m' = m then (by rw [e]; exact hv.out) else hm.out m' (by omega)), kk⟩)
                    | (have hvb : (v != 0) = true := by simp [hv0]
                       have HR := Lib.hid (H0.out i j k m Li.out Lj.out Lk.out Lm.out (by rw [hv.out]; exact hv0))
                       clear hv0
                       go_wp2
                       go_ret
                       exact ⟨by rw [HR.out]; rfl, kk⟩)
                · have lm' : ¬ (m : Int) < (k : Int) := by omega
                  have em := Lib.hid (show m = k by omega)
                  clear lm hkm qs
                  go_wp2
                  have lk := Lk.out; have hkk := Kk.out
                  go_roundg (gq - 1)
                  case measure => omega
                  case rel => exact ⟨k + 1, by go_num, by omega, Lib.hid (fun k' h m' h2 => if e : k' = k then (by subst e; exact hm.out m' (by have := em.out; omega)) else hk.out k' (by omega) m' h2), kk⟩
            · have lk' : ¬ (k : Int) < (j : Int) := by omega
              have ek := Lib.hid (show k = j by omega)
              clear lk hkk qs
              go_wp2
              have lj := Lj.out; have hkj := Kj.out
              go_roundg (gj - 1)
              case measure => omega
              case rel => exact ⟨j + 1, by go_num, by omega, Lib.hid (fun j' h k' m' h2 h3 => if e : j' = j then (by subst e; exact hk.out k' (by have := ek.out; omega) m' h3) else hj.out j' (by omega) k' m' h2 h3), kk⟩
        · have lj' : ¬ (j : Int) < (i : Int) := by omega
          have ej := Lib.hid (show j = i by omega)
          clear lj hkj qs
          go_wp2
          have li := Li.out; have hki := Ki.out
          go_roundg (gi - 1)
          case measure => omega
          case rel => exact ⟨i + 1, by go_num, by omega, Lib.hid (fun i' h j' k' m' h2 h3 h4 => if e : i' = i then (by subst e; exact hj.out j' (by have := ej.out; omega) k' m' h3 h4) else hi.out i' (by omega) j' k' m' h2 h3 h4), kk⟩
    · have li' : ¬ (i : Int) < (N : Int) := by omega
      have HR := Lib.hid (H1.out (fun i' j' k' m' h h2 h3 h4 => hi.out i' (by omega) j' k' m' h2 h3 h4))
      clear li hki qs
      go_wp2
      go_ret
      exact ⟨by rw [HR.out]; rfl, kk⟩

end Go.Proofs.YtegamkilhgekjaaGreatDoor

/- The mathematics of Coplanar: the first normal square to all against the volumes of all four places. -/
namespace Go.Proofs.YtegamkilhgekjaaGreatDoor
open Go.RowKit
open Go.Lib (nDigits itoa decDigits)

/-- vectors in space -/
def cr3 (a b : P3) : P3 := ⟨a.y * b.z - a.z * b.y, a.z * b.x - a.x * b.z, a.x * b.y - a.y * b.x⟩
def dt3 (a b : P3) : Int := a.x * b.x + a.y * b.y + a.z * b.z
def sb3 (a b : P3) : P3 := ⟨b.x - a.x, b.y - a.y, b.z - a.z⟩
def o3 : P3 := ⟨0, 0, 0⟩
theorem p3_ext {a b : P3} (h1 : a.x = b.x) (h2 : a.y = b.y) (h3 : a.z = b.z) : a = b := by
  cases a; cases b; simp_all
theorem o3_iff (a : P3) : a = o3 ↔ a.x = 0 ∧ a.y = 0 ∧ a.z = 0 := ⟨fun h => by rw [h]; exact ⟨rfl, rfl, rfl⟩, fun ⟨h1, h2, h3⟩ => p3_ext h1 h2 h3⟩
def vo3 (a b c d : P3) : Int := voV a.x a.y a.z b.x b.y b.z c.x c.y c.z d.x d.y d.z
/-- three vectors square to one that is not 0: their determinant is 0 -/
theorem det_plane {n x y z : P3} (hn : n ≠ o3) (hx : dt3 n x = 0) (hy : dt3 n y = 0) (hz : dt3 n z = 0) : dt3 (cr3 x y) z = 0 := by
  have e1 : dt3 (cr3 x y) z * n.x = 0 := by
    have : dt3 (cr3 x y) z * n.x = dt3 n x * (cr3 y z).x + dt3 n y * (cr3 z x).x + dt3 n z * (cr3 x y).x := by unfold dt3 cr3; grind
    rw [this, hx, hy, hz]; simp
  have e2 : dt3 (cr3 x y) z * n.y = 0 := by
    have : dt3 (cr3 x y) z * n.y = dt3 n x * (cr3 y z).y + dt3 n y * (cr3 z x).y + dt3 n z * (cr3 x y).y := by unfold dt3 cr3; grind
    rw [this, hx, hy, hz]; simp
  have e3 : dt3 (cr3 x y) z * n.z = 0 := by
    have : dt3 (cr3 x y) z * n.z = dt3 n x * (cr3 y z).z + dt3 n y * (cr3 z x).z + dt3 n z * (cr3 x y).z := by unfold dt3 cr3; grind
    rw [this, hx, hy, hz]; simp
  rcases Int.mul_eq_zero.1 e1 with h | h1
  · exact h
  rcases Int.mul_eq_zero.1 e2 with h | h2
  · exact h
  rcases Int.mul_eq_zero.1 e3 with h | h3
  · exact h
  exact absurd ((o3_iff n).2 ⟨h1, h2, h3⟩) hn
/-- .. and three vectors parallel to one that is not 0 -/
theorem det_line {a x y z : P3} (ha : a ≠ o3) (hx : cr3 a x = o3) (hy : cr3 a y = o3) : cr3 x y = o3 := by
  obtain ⟨x1, x2, x3⟩ := (o3_iff _).1 hx
  obtain ⟨y1, y2, y3⟩ := (o3_iff _).1 hy
  unfold cr3 at x1 x2 x3 y1 y2 y3
  dsimp only at x1 x2 x3 y1 y2 y3
  have e : ∀ k : Int, (k = a.x ∨ k = a.y ∨ k = a.z) → (cr3 x y).x * k = 0 ∧ (cr3 x y).y * k = 0 ∧ (cr3 x y).z * k = 0 := fun k hk => by
    unfold cr3
    dsimp only
    rcases hk with rfl | rfl | rfl <;> refine ⟨?_, ?_, ?_⟩ <;> grind
  by_cases h : cr3 x y = o3
  · exact h
  · exfalso
    apply ha
    rw [o3_iff] at h ⊢
    have z : ∀ k : Int, (k = a.x ∨ k = a.y ∨ k = a.z) → k = 0 := fun k hk => by
      obtain ⟨e1, e2, e3⟩ := e k hk
      rcases Int.mul_eq_zero.1 e1 with h1 | h1
      · rcases Int.mul_eq_zero.1 e2 with h2 | h2
        · rcases Int.mul_eq_zero.1 e3 with h3 | h3
          · exact absurd ⟨h1, h2, h3⟩ h
          · exact h3
        · exact h2
      · exact h1
    exact ⟨z _ (.inl rfl), z _ (.inr (.inl rfl)), z _ (.inr (.inr rfl))⟩
/-- what the program has found when t places are through -/
def CpI (G : Nat → P3) (t : Nat) (A N : P3) : Prop :=
  ((A = o3 ∧ ∀ k, k < t → sb3 (G 0) (G k) = o3) ∨ (A ≠ o3 ∧ ∃ r, r < t ∧ A = sb3 (G 0) (G r))) ∧
  ((N = o3 ∧ ∀ k, k < t → cr3 A (sb3 (G 0) (G k)) = o3) ∨ (N ≠ o3 ∧ ∃ r s, r < s ∧ s < t ∧ A = sb3 (G 0) (G r) ∧ N = cr3 A (sb3 (G 0) (G s)))) ∧
  ∀ k, k < t → dt3 N (sb3 (G 0) (G k)) = 0
theorem cr3_self (a : P3) : cr3 a a = o3 := by unfold cr3 o3; apply p3_ext <;> grind
theorem cr3_o (a : P3) : cr3 o3 a = o3 := by unfold cr3 o3; apply p3_ext <;> grind
theorem cr3_o' (a : P3) : cr3 a o3 = o3 := by unfold cr3 o3; apply p3_ext <;> grind
theorem dt3_o (a : P3) : dt3 o3 a = 0 := by unfold dt3 o3; grind
theorem dt3_par {a s k : P3} (h : cr3 a k = o3) : dt3 (cr3 a s) k = 0 := by
  obtain ⟨h1, h2, h3⟩ := (o3_iff _).1 h
  unfold cr3 at h1 h2 h3
  dsimp only at h1 h2 h3
  unfold dt3 cr3
  grind
theorem sb3_self (a : P3) : sb3 a a = o3 := by unfold sb3 o3; apply p3_ext <;> grind
theorem CpI.start (G : Nat → P3) : CpI G 0 o3 o3 := ⟨.inl ⟨rfl, fun _ h => by omega⟩, .inl ⟨rfl, fun _ h => by omega⟩, fun _ h => by omega⟩
theorem CpI.step {G : Nat → P3} {t : Nat} {A N A' N' : P3} (h : CpI G t A N) (hA : A' = if A = o3 then sb3 (G 0) (G t) else A) (hN : N' = if N = o3 then cr3 A' (sb3 (G 0) (G t)) else N) :
    (dt3 N' (sb3 (G 0) (G t)) = 0 → CpI G (t + 1) A' N') ∧ (dt3 N' (sb3 (G 0) (G t)) ≠ 0 → ∃ j k m, j < t ∧ k < j ∧ m < k ∧ vo3 (G t) (G j) (G k) (G m) ≠ 0) := by
  obtain ⟨hAA, hNN, hD⟩ := h
  -- the state of A' when t + 1 places are through
  have a1 : (A' = o3 ∧ ∀ k, k < t + 1 → sb3 (G 0) (G k) = o3) ∨ (A' ≠ o3 ∧ ∃ r, r < t + 1 ∧ A' = sb3 (G 0) (G r)) := by
    rcases hAA with ⟨ha, hall⟩ | ⟨ha, r, hr, he⟩
    · rw [if_pos ha] at hA
      by_cases hz : A' = o3
      · refine .inl ⟨hz, fun k hk => ?_⟩
        by_cases e : k = t
        · rw [e, ← hA]; exact hz
        · exact hall k (by omega)
      · exact .inr ⟨hz, t, by omega, hA⟩
    · rw [if_neg ha] at hA
      exact .inr ⟨by rw [hA]; exact ha, r, by omega, by rw [hA]; exact he⟩
  have a2 : ∀ k, k < t → N = o3 → cr3 A' (sb3 (G 0) (G k)) = o3 := fun k hk hn => by
    rcases hAA with ⟨ha, hall⟩ | ⟨ha, _⟩
    · rw [hall k hk]; exact cr3_o' _
    · rw [hA, if_neg ha]
      rcases hNN with ⟨_, h2⟩ | ⟨h2, _⟩
      · exact h2 k hk
      · exact absurd hn h2
  have n1 : (N' = o3 ∧ ∀ k, k < t + 1 → cr3 A' (sb3 (G 0) (G k)) = o3) ∨ (N' ≠ o3 ∧ ∃ r s, r < s ∧ s < t + 1 ∧ A' = sb3 (G 0) (G r) ∧ N' = cr3 A' (sb3 (G 0) (G s))) := by
    by_cases hn : N = o3
    · rw [if_pos hn] at hN
      by_cases hz : N' = o3
      · refine .inl ⟨hz, fun k hk => ?_⟩
        by_cases e : k = t
        · rw [e, ← hN]; exact hz
        · exact a2 k (by omega) hn
      · rcases a1 with ⟨ha, _⟩ | ⟨_, r, hr, he⟩
        · rw [ha, cr3_o] at hN; exact absurd hN hz
        · have hrt : r ≠ t := fun e => by rw [e] at he; rw [← he, cr3_self] at hN; exact hz hN
          exact .inr ⟨hz, r, t, by omega, by omega, he, hN⟩
    · rw [if_neg hn] at hN
      rcases hNN with ⟨h2, _⟩ | ⟨_, r, s, h1, h2, h3, h4⟩
      · exact absurd h2 hn
      · have hA0 : A ≠ o3 := fun e => by rw [e, cr3_o] at h4; exact hn h4
        rw [if_neg hA0] at hA
        rw [hA, hN]
        exact .inr ⟨hn, r, s, h1, by omega, h3, h4⟩
  refine ⟨fun hd => ⟨a1, n1, fun k hk => ?_⟩, fun hd => ?_⟩
  · by_cases e : k = t
    · rw [e]; exact hd
    · by_cases hn : N = o3
      · rw [hN, if_pos hn]
        exact dt3_par (a2 k (by omega) hn)
      · rw [hN, if_neg hn]; exact hD k (by omega)
  · rcases n1 with ⟨h1, _⟩ | ⟨_, r, s, hrs, hst, he, hN2⟩
    · rw [h1, dt3_o] at hd; exact absurd rfl hd
    · have hst' : s ≠ t := fun e => hd (by rw [hN2, e]; unfold dt3 cr3; grind)
      have hr0 : r ≠ 0 := fun e => hd (by rw [hN2, he, e, sb3_self, cr3_o, dt3_o])
      refine ⟨s, r, 0, by omega, hrs, by omega, ?_⟩
      rw [hN2, he] at hd
      intro hz
      apply hd
      rw [← hz]
      unfold vo3 voV nrX dt3 cr3 sb3
      dsimp only
      grind
theorem CpI.done {G : Nat → P3} {n : Nat} {A N : P3} (h : CpI G n A N) (i j k m : Nat) (hi : i < n) (hj : j < i) (hk : k < j) (hm : m < k) : vo3 (G i) (G j) (G k) (G m) = 0 := by
  obtain ⟨hAA, hNN, hD⟩ := h
  have e : vo3 (G i) (G j) (G k) (G m) = dt3 (cr3 (sb3 (G i) (G j)) (sb3 (G i) (G k))) (sb3 (G i) (G m)) := by unfold vo3 voV nrX dt3 cr3 sb3; dsimp only
  have s1 : ∀ x y : P3, dt3 N (sb3 x y) = dt3 N (sb3 (G 0) y) - dt3 N (sb3 (G 0) x) := fun x y => by unfold dt3 sb3; dsimp only; grind
  rw [e]
  by_cases hn : N = o3
  · rcases hNN with ⟨_, h2⟩ | ⟨h2, _⟩
    · by_cases ha : A = o3
      · rcases hAA with ⟨_, h3⟩ | ⟨h3, _⟩
        · have z : ∀ q, q < n → G q = G 0 := fun q hq => by
            have := (o3_iff _).1 (h3 q hq)
            unfold sb3 at this
            dsimp only at this
            exact p3_ext (by omega) (by omega) (by omega)
          rw [z i hi, z j (by omega), sb3_self, cr3_o, dt3_o]
        · exact absurd ha h3
      · have c1 : ∀ q, q < n → cr3 A (sb3 (G i) (G q)) = o3 := fun q hq => by
          have u1 := (o3_iff _).1 (h2 q hq)
          have u2 := (o3_iff _).1 (h2 i hi)
          unfold cr3 sb3 at u1 u2
          dsimp only at u1 u2
          rw [o3_iff]
          unfold cr3 sb3
          dsimp only
          refine ⟨?_, ?_, ?_⟩ <;> grind
        rw [det_line (z := o3) ha (c1 j (by omega)) (c1 k (by omega)), dt3_o]
    · exact absurd hn h2
  · exact det_plane hn (by rw [s1, hD _ hi, hD j (by omega)]; simp) (by rw [s1, hD _ hi, hD k (by omega)]; simp) (by rw [s1, hD _ hi, hD m (by omega)]; simp)

end Go.Proofs.YtegamkilhgekjaaGreatDoor

/- Coplanar of package vector at every list of places in bounds. -/
namespace Go.Proofs.YtegamkilhgekjaaGreatDoor
open Go.RowKit
open Go.Lib (nDigits itoa decDigits)

theorem eqA3z (a b c : Int) (w : World) : (Op.equalIn 10000 58 (.agg #[.int .i64 a, .int .i64 b, .int .i64 c]) (.agg #[.int .i64 0, .int .i64 0, .int .i64 0])).run Tryz.prog w = .ok (a == 0 && (b == 0 && c == 0)) w := by
  have u3 := Tryz.underlying3
  have a3 := Tryz.isAgg3
  have z3 := Tryz.sizeOf3
  rw [show (10000 : Nat) = 9999 + 1 from rfl, Op.equalIn]
  simp only [Sem.run_bind, run_underlying Tryz.underlying58, Result.andThen_ok]
  simp only [Std.Legacy.Range.forIn_eq_forIn_range', Std.Legacy.Range.size, Nat.sub_zero, Nat.add_sub_cancel, Nat.div_one, List.range'_succ, List.range'_zero, List.forIn_cons, List.forIn_nil]
  go_simp
  by_cases h1 : a = 0 <;> by_cases h2 : b = 0 <;> by_cases h3 : c = 0 <;> simp [h1, h2, h3]
theorem arB_drew {T : TypeId} {w w' : World} {b : Nat} {l : List Int} (h : ArB T w b l) (k : Kp [] w.drew w') : ArB T w' b l := (k.block b h.lt (by simp)).trans h
def st3 (w : World) (b : Nat) (x y z : Int) : World := ((w.setCell ⟨b, 0, none⟩ (.int .i64 x)).setCell ⟨b, 1, none⟩ (.int .i64 y)).setCell ⟨b, 2, none⟩ (.int .i64 z)
theorem arB_set3 {T : TypeId} {w : World} {b : Nat} {p q r : Int} (h : ArB T w b [p, q, r]) (x y z : Int) : ArB T (st3 w b x y z) b [x, y, z] := by
  unfold ArB st3 at *; simp [World.setCell, Array.getElem?_modify, h]
theorem arB_far3 {T : TypeId} {w : World} {b d : Nat} {l : List Int} (h : ArB T w b l) (hne : d ≠ b) (x y z : Int) : ArB T (st3 w d x y z) b l := by
  unfold ArB st3 at *; simp [World.setCell, Array.getElem?_modify, hne, h]
theorem kp_st3 {a w : World} {b : Nat} (k : Kp [] a w) (hb : a.heap.size ≤ b) (x y z : Int) : Kp [] a (st3 w b x y z) :=
  ((k.setCell (p := ⟨b, 0, none⟩) (.inr hb) _).setCell (p := ⟨b, 1, none⟩) (.inr hb) _).setCell (p := ⟨b, 2, none⟩) (.inr hb) _
/-- bounds of what the program has found -/
theorem gS_bd {ps : List P3} (h : ∀ q ∈ ps, inS q = true) (j : Nat) : (gS ps j).x.natAbs ≤ 100000 ∧ (gS ps j).y.natAbs ≤ 100000 ∧ (gS ps j).z.natAbs ≤ 100000 := by
  have hg : inS (gS ps j) = true := by
    unfold gS
    rcases hj : ps[j]? with _ | q
    · rfl
    · exact h _ (List.mem_of_getElem? hj)
  unfold inS at hg
  rw [Bool.and_eq_true, Bool.and_eq_true, inB_iff, inB_iff, inB_iff] at hg
  omega
def bd3 (a : P3) (M : Nat) : Prop := a.x.natAbs ≤ M ∧ a.y.natAbs ≤ M ∧ a.z.natAbs ≤ M
theorem sb3_bd {ps : List P3} (h : ∀ q ∈ ps, inS q = true) (i j : Nat) : bd3 (sb3 (gS ps i) (gS ps j)) 200000 := by
  have a := gS_bd h i
  have b := gS_bd h j
  unfold bd3 sb3
  dsimp only
  omega
theorem cr3_bd {a b : P3} (ha : bd3 a 200000) (hb : bd3 b 200000) : bd3 (cr3 a b) 80000000000 := by
  obtain ⟨a1, a2, a3⟩ := ha
  obtain ⟨b1, b2, b3⟩ := hb
  have m1 := mul_bd a2 b3
  have m2 := mul_bd a3 b2
  have m3 := mul_bd a3 b1
  have m4 := mul_bd a1 b3
  have m5 := mul_bd a1 b2
  have m6 := mul_bd a2 b1
  unfold bd3 cr3
  dsimp only
  omega

set_option maxRecDepth 100000 in
set_option maxHeartbeats 4000000 in
theorem coplanar1 (bx g o c : Nat) (p : Option Addr) (ps : List P3) (w : World) (hs : Sps w g o ps) (hp : 0 < ps.length → p = some ⟨g, o, none⟩ ∧ g < w.heap.size) (hn : ps.length ≤ 64) (hb : ∀ q ∈ ps, inS q = true) (hbx : bx < w.heap.size) (hB : w.cell? ⟨bx, 0, none⟩ = some (.slice p ps.length c)) (R : Bool)
    (h0 : ∀ i j k m, i < ps.length → j < i → k < j → m < k → vo3 (gS ps i) (gS ps j) (gS ps k) (gS ps m) ≠ 0 → R = false) (h1 : (∀ i j k m, i < ps.length → j < i → k < j → m < k → vo3 (gS ps i) (gS ps j) (gS ps k) (gS ps m) = 0) → R = true) :
    Calls Tryz.prog 73 #[.pointer (some ⟨bx, 0, none⟩)] w fun e w' => e = .returned (.bool R) ∧ Kp [] w w' := by
  obtain ⟨w1, hw1⟩ : ∃ w1, w1 = (w.alloc (.cells #[.int .i64 0, .int .i64 0, .int .i64 0] 58 (0, 0))).alloc (.cells #[.int .i64 0, .int .i64 0, .int .i64 0] 58 (0, 0)) := ⟨_, rfl⟩
  have a0 : ArB 58 w1 w.heap.size [0, 0, 0] := by rw [hw1]; exact (ArB.made 58 w [0, 0, 0]).alloc _
  have n0 : ArB 58 w1 (w.heap.size + 1) [0, 0, 0] := by rw [hw1]; have := ArB.made 58 (w.alloc (.cells #[.int .i64 0, .int .i64 0, .int .i64 0] 58 (0, 0))) [0, 0, 0]; rwa [World.size_alloc] at this
  have kk : Kp [] w w1 := by rw [hw1]; exact ((Kp.refl _ _).alloc _).alloc _
  have hB1 : ∀ W, Kp [] w W → W.cell? ⟨bx, 0, none⟩ = some (.slice p ps.length c) := fun W k => by
    have : W.cell? ⟨bx, 0, none⟩ = w.cell? ⟨bx, 0, none⟩ := by unfold World.cell?; simp only [k.block bx hbx (by simp)]
    rw [this]; exact hB
  have hcc : ∀ j, j < ps.length → ∀ W, Kp [] w W → W.cell? ⟨g, o + j * 3, none⟩ = some (.int .i64 (gS ps j).x) ∧ W.cell? ⟨g, o + j * 3 + 1, none⟩ = some (.int .i64 (gS ps j).y) ∧ W.cell? ⟨g, o + j * 3 + 2, none⟩ = some (.int .i64 (gS ps j).z) := fun j hj W k => by rw [gS_lt hj]; exact hs.kp0 hp k j hj
  have hp1 : 0 < ps.length → p = some ⟨g, o, none⟩ := fun h => (hp h).1
  have hv := fun j => sb3_bd hb 0 j
  have q1 : Hid (∀ (W : World) (j : Nat), Calls Tryz.prog 74 #[.agg #[.int .i64 (gS ps 0).x, .int .i64 (gS ps 0).y, .int .i64 (gS ps 0).z], .agg #[.int .i64 (gS ps j).x, .int .i64 (gS ps j).y, .int .i64 (gS ps j).z]] W fun e w' => e = .returned (.agg #[.int .i64 (sb3 (gS ps 0) (gS ps j)).x, .int .i64 (sb3 (gS ps 0) (gS ps j)).y, .int .i64 (sb3 (gS ps 0) (gS ps j)).z]) ∧ Kp [] W w') := fun W j => by
    have a := gS_bd hb 0
    have b := gS_bd hb j
    exact vbetween _ _ _ _ _ _ W (by omega) (by omega) (by omega) (by omega) (by omega) (by omega)
  generalize gS ps = G at *
  generalize hN : ps.length = N at *
  have hqa := Lib.hid hcc
  have hqp := Lib.hid hp1
  have H0 := Lib.hid h0
  have H1 := Lib.hid h1
  have Hv := Lib.hid hv
  have HB := Lib.hid hB1
  clear hs hp hcc hp1 hb hN h0 h1 hv hB1 ps
  have cB := HB.out _ kk
  have hn1 : (N : Int) ≤ 64 := by omega
  have hz0 : 0 ≤ (N : Int) := by omega
  have hn2 := Lib.hid hn
  clear hn
  have w0 : w.heap.size + 1 + 1 = w1.heap.size := by rw [hw1]; simp
  have W0 := Lib.hid w0
  clear w0
  subst hw1
  go_enter Tryz.func73, Tryz.ntmps73
  go_wp2_with fail
  go_loopg [9] N (fun gk s9 wr => ∃ (t : Nat) (A E : P3), s9 = .int .i64 t ∧ t + gk = N ∧ Hid (CpI G t A E ∧ bd3 A 200000 ∧ bd3 E 80000000000) ∧ ArB 58 wr w.heap.size [A.x, A.y, A.z] ∧ ArB 58 wr (w.heap.size + 1) [E.x, E.y, E.z] ∧ Kp [] w wr)
  case atStart => exact ⟨0, o3, o3, rfl, by omega, Lib.hid ⟨CpI.start G, by unfold bd3 o3; simp, by unfold bd3 o3; simp⟩, a0, n0, kk⟩
  case round =>
    clear a0 n0 kk cB
    obtain ⟨t, A, E, rfl, hk, hI, a0, n0, kk⟩ := hrel
    by_cases lt : t < N
    · have lt' : (t : Int) < (N : Int) := by omega
      have z1 : 0 ≤ (t : Int) := by omega
      have hpos : (0 : Int) < (N : Int) := by omega
      obtain rfl := hqp.out (by omega)
      obtain ⟨c0, c1, c2⟩ := hqa.out t lt wr kk
      have s := SpB.made 56 wr (G t).x (G t).y (G t).z
      have x0 := s.c0; have x1 := s.c1; have x2 := s.c2
      have HZ := Lib.hid n0.lt
      replace a0 := a0.alloc (.cells #[.int .i64 (G t).x, .int .i64 (G t).y, .int .i64 (G t).z] 56 (0, 0))
      replace n0 := n0.alloc (.cells #[.int .i64 (G t).x, .int .i64 (G t).y, .int .i64 (G t).z] 56 (0, 0))
      replace kk := kk.alloc (.cells #[.int .i64 (G t).x, .int .i64 (G t).y, .int .i64 (G t).z] 56 (0, 0))
      obtain ⟨d0, d1, d2⟩ := hqa.out 0 (by omega) _ kk
      have cB := HB.out _ kk
      have kz := kk.alloc (.cells #[.int .i64 0, .int .i64 0, .int .i64 0] 58 (0, 0))
      have hposN : 0 < N := by omega
      obtain ⟨r0, r1, r2⟩ := hqa.out 0 (by omega) _ kz
      have cZ := HB.out _ kz; clear kz
      have sz := s.alloc (.cells #[.int .i64 0, .int .i64 0, .int .i64 0] 58 (0, 0))
      have t0 := sz.c0; have t1 := sz.c1; have t2 := sz.c2; clear sz
      rw [Nat.zero_mul, Nat.add_zero] at d0 d1 d2 r0 r1 r2
      have q := Lib.hid fun W : World => q1.out W t
      have Hk := Lib.hid hk
      have Ht := Lib.hid lt
      clear hk lt q1
      have hv := Lib.hid (Hv.out t)
      have hst := Lib.hid fun (A2 E2 : P3) h1 h2 => CpI.step (A' := A2) (N' := E2) hI.out.1 h1 h2
      generalize hV : sb3 (G 0) (G t) = V at *
      have HV := Lib.hid hV; clear hV
      generalize (G 0).x = g1 at *
      generalize (G 0).y = g2 at *
      generalize (G 0).z = g3 at *
      generalize (G t).x = p1 at *
      generalize (G t).y = p2 at *
      generalize (G t).z = p3 at *
      go_wp2_with fail
      have hz : ArB 58 ((wr.alloc (.cells #[.int .i64 p1, .int .i64 p2, .int .i64 p3] 56 (0, 0))).alloc (.cells #[.int .i64 0, .int .i64 0, .int .i64 0] 58 (0, 0))) (wr.heap.size + 1) [0, 0, 0] := by have := ArB.made 58 (wr.alloc (.cells #[.int .i64 p1, .int .i64 p2, .int .i64 p3] 56 (0, 0))) [0, 0, 0]; rw [World.size_alloc] at this; exact this
      go_cut [6] from 13 to 32 (fun s6 wx => ∃ bv, s6 = .pointer (some ⟨bv, 0, none⟩) ∧ w.heap.size + 1 < bv ∧ ArB 58 wx bv [V.x, V.y, V.z] ∧ ArB 58 wx w.heap.size [A.x, A.y, A.z] ∧ ArB 58 wx (w.heap.size + 1) [E.x, E.y, E.z] ∧ Kp [] w wx)
      case first =>
        go_region_with (go_at_call 74; refine (q.out _).mono ?_; rintro e w9 ⟨rfl, k9⟩; (try (have y := arB_drew hz k9; have y0 := y.c (i := 0) rfl; have y1 := y.c (i := 1) rfl; have y2 := y.c (i := 2) rfl; have f0 := y.f 0; have f1 := y.f 1; have f2 := y.f 2)))
        all_goals go_wp2_with fail
        all_goals go_meet
        all_goals first
          | exact ⟨_, rfl, by have e := HZ.out; have f := k9.size; simp at f; omega, ArB.made 58 w9 [V.x, V.y, V.z], (arB_drew a0 k9).alloc _, (arB_drew n0 k9).alloc _, (kk.drew.trans k9).alloc _⟩
          | exact ⟨_, rfl, by have e := HZ.out; omega, arB_set3 y V.x V.y V.z, arB_far3 (arB_drew (a0.alloc _) k9) (by have e := HZ.out; omega) _ _ _, arB_far3 (arB_drew (n0.alloc _) k9) (by have e := HZ.out; omega) _ _ _, kp_st3 ((kk.alloc _).drew.trans k9) (by have e := HZ.out; omega) _ _ _⟩
      case rest =>
        clear a0 n0 kk s x0 x1 x2 c0 c1 c2 d0 d1 d2 r0 r1 r2 t0 t1 t2 cB cZ hz q
        obtain ⟨bv, rfl, hbv, y, a0, n0, kk⟩ := hcut
        obtain ⟨hI1, hI2, hI3⟩ := hI.out
        have ve := hv.out
        have HBv := Lib.hid hbv
        have bvA : bv ≠ w.heap.size := by omega
        have bvE : bv ≠ w.heap.size + 1 := by omega
        clear hbv
        by_cases hA : A = o3
        · 
          by_cases hE : E = o3
          · have eqa := fun W => eqA3z A.x A.y A.z W
            rw [show (A.x == 0 && (A.y == 0 && A.z == 0)) = true by rw [hA]; rfl] at eqa
            have eqe := fun W => eqA3z E.x E.y E.z W
            rw [show (E.x == 0 && (E.y == 0 && E.z == 0)) = true by rw [hE]; rfl] at eqe
            have hs := hst.out V (cr3 V V) (by rw [if_pos hA]) (by rw [if_pos hE])
            have bA : bd3 V 200000 := ve
            have bE : bd3 (cr3 V V) 80000000000 := cr3_bd bA ve
            have q2 : Hid (∀ W : World, Calls Tryz.prog 75 #[.agg #[.int .i64 V.x, .int .i64 V.y, .int .i64 V.z], .agg #[.int .i64 V.x, .int .i64 V.y, .int .i64 V.z]] W fun e w' => e = .returned (.agg #[.int .i64 (cr3 V V).x, .int .i64 (cr3 V V).y, .int .i64 (cr3 V V).z]) ∧ Kp [] W w') := fun W => vcrossSpace _ _ _ _ _ _ W (by have := bA.1; omega) (by have := bA.2.1; omega) (by have := bA.2.2; omega) (by have := ve.1; omega) (by have := ve.2.1; omega) (by have := ve.2.2; omega)
            have q3 : Hid (∀ W : World, Calls Tryz.prog 76 #[.agg #[.int .i64 (cr3 V V).x, .int .i64 (cr3 V V).y, .int .i64 (cr3 V V).z], .agg #[.int .i64 V.x, .int .i64 V.y, .int .i64 V.z]] W fun e w' => e = .returned (.int .i64 (dt3 (cr3 V V) V)) ∧ Kp [] W w') := fun W => vdotSpace _ _ _ _ _ _ W (by have := bE.1; omega) (by have := bE.2.1; omega) (by have := bE.2.2; omega) (by have := ve.1; omega) (by have := ve.2.1; omega) (by have := ve.2.2; omega)
            have HS := Lib.hid hs; have BB := Lib.hid (And.intro bA bE); clear hs bA bE hI1 hI2 hI3 ve hv hst hA hE hI
            have a0c0 := a0.c (i := 0) rfl
            have a0c1 := a0.c (i := 1) rfl
            have a0c2 := a0.c (i := 2) rfl
            have a0f0 := a0.f 0
            have a0f1 := a0.f 1
            have a0f2 := a0.f 2
            have yc0 := y.c (i := 0) rfl
            have yc1 := y.c (i := 1) rfl
            have yc2 := y.c (i := 2) rfl
            have n0c0 := n0.c (i := 0) rfl
            have n0c1 := n0.c (i := 1) rfl
            have n0c2 := n0.c (i := 2) rfl
            have n0f0 := n0.f 0
            have n0f1 := n0.f 1
            have n0f2 := n0.f 2
            have a1 := arB_set3 a0 V.x V.y V.z; have y1 := arB_far3 y (Ne.symm bvA) V.x V.y V.z; have n1 := arB_far3 n0 (show w.heap.size ≠ w.heap.size + 1 by omega) V.x V.y V.z; replace kk := kp_st3 kk (Nat.le_refl _) V.x V.y V.z; unfold st3 at a1 y1 n1 kk
            have a1c0 := a1.c (i := 0) rfl
            have a1c1 := a1.c (i := 1) rfl
            have a1c2 := a1.c (i := 2) rfl
            have y1c0 := y1.c (i := 0) rfl
            have y1c1 := y1.c (i := 1) rfl
            have y1c2 := y1.c (i := 2) rfl
            have n1c0 := n1.c (i := 0) rfl
            have n1c1 := n1.c (i := 1) rfl
            have n1c2 := n1.c (i := 2) rfl
            have n1f0 := n1.f 0
            have n1f1 := n1.f 1
            have n1f2 := n1.f 2
            go_wp2_with fail
            with_reducible refine (q2.out _).mono ?_
            rintro e w5 ⟨rfl, k5⟩
            replace kk := kk.trans k5; replace a1 := a1.kept k5 (by simp); replace y1 := y1.kept k5 (by simp); replace n1 := n1.kept k5 (by simp)
            clear a0c0 a0c1 a0c2 a0f0 a0f1 a0f2
            clear yc0 yc1 yc2
            clear n0c0 n0c1 n0c2 n0f0 n0f1 n0f2
            clear a1c0 a1c1 a1c2
            clear y1c0 y1c1 y1c2
            clear n1c0 n1c1 n1c2 n1f0 n1f1 n1f2
            clear k5 q2
            have n1c0 := n1.c (i := 0) rfl
            have n1c1 := n1.c (i := 1) rfl
            have n1c2 := n1.c (i := 2) rfl
            have n1f0 := n1.f 0
            have n1f1 := n1.f 1
            have n1f2 := n1.f 2
            have y1c0 := y1.c (i := 0) rfl
            have y1c1 := y1.c (i := 1) rfl
            have y1c2 := y1.c (i := 2) rfl
            have n2 := arB_set3 n1 (cr3 V V).x (cr3 V V).y (cr3 V V).z; have y2 := arB_far3 y1 (Ne.symm bvE) (cr3 V V).x (cr3 V V).y (cr3 V V).z; have a2 := arB_far3 a1 (show w.heap.size + 1 ≠ w.heap.size by omega) (cr3 V V).x (cr3 V V).y (cr3 V V).z; replace kk := kp_st3 kk (Nat.le_succ _) (cr3 V V).x (cr3 V V).y (cr3 V V).z; unfold st3 at n2 y2 a2 kk
            have n2c0 := n2.c (i := 0) rfl
            have n2c1 := n2.c (i := 1) rfl
            have n2c2 := n2.c (i := 2) rfl
            have y2c0 := y2.c (i := 0) rfl
            have y2c1 := y2.c (i := 1) rfl
            have y2c2 := y2.c (i := 2) rfl
            generalize hd : dt3 (cr3 V V) V = d at *
            have HD := Lib.hid hd; clear hd
            go_wp2_with fail
            with_reducible refine (q3.out _).mono ?_
            rintro e w7 ⟨rfl, k7⟩
            replace kk := kk.trans k7; replace a2 := a2.kept k7 (by simp); replace n2 := n2.kept k7 (by simp); clear k7 q3
            by_cases hd : d = 0
            · subst hd
              go_wp2
              have hk := Hk.out; have lt := Ht.out
              go_roundg (gk - 1)
              case measure => omega
              case rel => exact ⟨t + 1, V, (cr3 V V), by go_num, by omega, Lib.hid ⟨HS.out.1 (by trivial), BB.out⟩, a2, n2, kk⟩
            · have hdb : (d != 0) = true := by simp [hd]
              have HR : Hid (R = false) := by obtain ⟨j, k, m, h1, h2, h3, h4⟩ := HS.out.2 hd; exact H0.out t j k m Ht.out h1 h2 h3 h4
              clear hd
              go_wp2
              go_ret
              exact ⟨by rw [HR.out]; rfl, kk⟩
          · have eqa := fun W => eqA3z A.x A.y A.z W
            rw [show (A.x == 0 && (A.y == 0 && A.z == 0)) = true by rw [hA]; rfl] at eqa
            have eqe := fun W => eqA3z E.x E.y E.z W
            rw [show (E.x == 0 && (E.y == 0 && E.z == 0)) = false by rw [o3_iff] at hE; simp only [Bool.and_eq_false_iff, beq_eq_false_iff_ne]; by_cases h1 : E.x = 0 <;> by_cases h2 : E.y = 0 <;> simp_all] at eqe
            have hs := hst.out V E (by rw [if_pos hA]) (by rw [if_neg hE])
            have bA : bd3 V 200000 := ve
            have bE : bd3 E 80000000000 := hI3
            have q3 : Hid (∀ W : World, Calls Tryz.prog 76 #[.agg #[.int .i64 E.x, .int .i64 E.y, .int .i64 E.z], .agg #[.int .i64 V.x, .int .i64 V.y, .int .i64 V.z]] W fun e w' => e = .returned (.int .i64 (dt3 E V)) ∧ Kp [] W w') := fun W => vdotSpace _ _ _ _ _ _ W (by have := bE.1; omega) (by have := bE.2.1; omega) (by have := bE.2.2; omega) (by have := ve.1; omega) (by have := ve.2.1; omega) (by have := ve.2.2; omega)
            have HS := Lib.hid hs; have BB := Lib.hid (And.intro bA bE); clear hs bA bE hI1 hI2 hI3 ve hv hst hA hE hI
            have a0c0 := a0.c (i := 0) rfl
            have a0c1 := a0.c (i := 1) rfl
            have a0c2 := a0.c (i := 2) rfl
            have a0f0 := a0.f 0
            have a0f1 := a0.f 1
            have a0f2 := a0.f 2
            have yc0 := y.c (i := 0) rfl
            have yc1 := y.c (i := 1) rfl
            have yc2 := y.c (i := 2) rfl
            have n0c0 := n0.c (i := 0) rfl
            have n0c1 := n0.c (i := 1) rfl
            have n0c2 := n0.c (i := 2) rfl
            have n0f0 := n0.f 0
            have n0f1 := n0.f 1
            have n0f2 := n0.f 2
            have a1 := arB_set3 a0 V.x V.y V.z; have y1 := arB_far3 y (Ne.symm bvA) V.x V.y V.z; have n1 := arB_far3 n0 (show w.heap.size ≠ w.heap.size + 1 by omega) V.x V.y V.z; replace kk := kp_st3 kk (Nat.le_refl _) V.x V.y V.z; unfold st3 at a1 y1 n1 kk
            have a1c0 := a1.c (i := 0) rfl
            have a1c1 := a1.c (i := 1) rfl
            have a1c2 := a1.c (i := 2) rfl
            have y1c0 := y1.c (i := 0) rfl
            have y1c1 := y1.c (i := 1) rfl
            have y1c2 := y1.c (i := 2) rfl
            have n1c0 := n1.c (i := 0) rfl
            have n1c1 := n1.c (i := 1) rfl
            have n1c2 := n1.c (i := 2) rfl
            have n1f0 := n1.f 0
            have n1f1 := n1.f 1
            have n1f2 := n1.f 2
            have n2 := n1; have y2 := y1; have a2 := a1
            generalize hd : dt3 E V = d at *
            have HD := Lib.hid hd; clear hd
            go_wp2_with fail
            with_reducible refine (q3.out _).mono ?_
            rintro e w7 ⟨rfl, k7⟩
            replace kk := kk.trans k7; replace a2 := a2.kept k7 (by simp); replace n2 := n2.kept k7 (by simp); clear k7 q3
            by_cases hd : d = 0
            · subst hd
              go_wp2
              have hk := Hk.out; have lt := Ht.out
              go_roundg (gk - 1)
              case measure => omega
              case rel => exact ⟨t + 1, V, E, by go_num, by omega, Lib.hid ⟨HS.out.1 (by trivial), BB.out⟩, a2, n2, kk⟩
            · have hdb : (d != 0) = true := by simp [hd]
              have HR : Hid (R = false) := by obtain ⟨j, k, m, h1, h2, h3, h4⟩ := HS.out.2 hd; exact H0.out t j k m Ht.out h1 h2 h3 h4
              clear hd
              go_wp2
              go_ret
              exact ⟨by rw [HR.out]; rfl, kk⟩
        
        · 
          by_cases hE : E = o3
          · have eqa := fun W => eqA3z A.x A.y A.z W
            rw [show (A.x == 0 && (A.y == 0 && A.z == 0)) = false by rw [o3_iff] at hA; simp only [Bool.and_eq_false_iff, beq_eq_false_iff_ne]; by_cases h1 : A.x = 0 <;> by_cases h2 : A.y = 0 <;> simp_all] at eqa
            have eqe := fun W => eqA3z E.x E.y E.z W
            rw [show (E.x == 0 && (E.y == 0 && E.z == 0)) = true by rw [hE]; rfl] at eqe
            have hs := hst.out A (cr3 A V) (by rw [if_neg hA]) (by rw [if_pos hE])
            have bA : bd3 A 200000 := hI2
            have bE : bd3 (cr3 A V) 80000000000 := cr3_bd bA ve
            have q2 : Hid (∀ W : World, Calls Tryz.prog 75 #[.agg #[.int .i64 A.x, .int .i64 A.y, .int .i64 A.z], .agg #[.int .i64 V.x, .int .i64 V.y, .int .i64 V.z]] W fun e w' => e = .returned (.agg #[.int .i64 (cr3 A V).x, .int .i64 (cr3 A V).y, .int .i64 (cr3 A V).z]) ∧ Kp [] W w') := fun W => vcrossSpace _ _ _ _ _ _ W (by have := bA.1; omega) (by have := bA.2.1; omega) (by have := bA.2.2; omega) (by have := ve.1; omega) (by have := ve.2.1; omega) (by have := ve.2.2; omega)
            have q3 : Hid (∀ W : World, Calls Tryz.prog 76 #[.agg #[.int .i64 (cr3 A V).x, .int .i64 (cr3 A V).y, .int .i64 (cr3 A V).z], .agg #[.int .i64 V.x, .int .i64 V.y, .int .i64 V.z]] W fun e w' => e = .returned (.int .i64 (dt3 (cr3 A V) V)) ∧ Kp [] W w') := fun W => vdotSpace _ _ _ _ _ _ W (by have := bE.1; omega) (by have := bE.2.1; omega) (by have := bE.2.2; omega) (by have := ve.1; omega) (by have := ve.2.1; omega) (by have := ve.2.2; omega)
            have HS := Lib.hid hs; have BB := Lib.hid (And.intro bA bE); clear hs bA bE hI1 hI2 hI3 ve hv hst hA hE hI
            have a0c0 := a0.c (i := 0) rfl
            have a0c1 := a0.c (i := 1) rfl
            have a0c2 := a0.c (i := 2) rfl
            have a0f0 := a0.f 0
            have a0f1 := a0.f 1
            have a0f2 := a0.f 2
            have yc0 := y.c (i := 0) rfl
            have yc1 := y.c (i := 1) rfl
            have yc2 := y.c (i := 2) rfl
            have n0c0 := n0.c (i := 0) rfl
            have n0c1 := n0.c (i := 1) rfl
            have n0c2 := n0.c (i := 2) rfl
            have n0f0 := n0.f 0
            have n0f1 := n0.f 1
            have n0f2 := n0.f 2
            have a1 := a0; have y1 := y; have n1 := n0
            have a1c0 := a1.c (i := 0) rfl
            have a1c1 := a1.c (i := 1) rfl
            have a1c2 := a1.c (i := 2) rfl
            have y1c0 := y1.c (i := 0) rfl
            have y1c1 := y1.c (i := 1) rfl
            have y1c2 := y1.c (i := 2) rfl
            have n1c0 := n1.c (i := 0) rfl
            have n1c1 := n1.c (i := 1) rfl
            have n1c2 := n1.c (i := 2) rfl
            have n1f0 := n1.f 0
            have n1f1 := n1.f 1
            have n1f2 := n1.f 2
            go_wp2_with fail
            with_reducible refine (q2.out _).mono ?_
            rintro e w5 ⟨rfl, k5⟩
            replace kk := kk.trans k5; replace a1 := a1.kept k5 (by simp); replace y1 := y1.kept k5 (by simp); replace n1 := n1.kept k5 (by simp)
            clear a0c0 a0c1 a0c2 a0f0 a0f1 a0f2
            clear yc0 yc1 yc2
            clear n0c0 n0c1 n0c2 n0f0 n0f1 n0f2
            clear a1c0 a1c1 a1c2
            clear y1c0 y1c1 y1c2
            clear n1c0 n1c1 n1c2 n1f0 n1f1 n1f2
            clear k5 q2
            have n1c0 := n1.c (i := 0) rfl
            have n1c1 := n1.c (i := 1) rfl
            have n1c2 := n1.c (i := 2) rfl
            have n1f0 := n1.f 0
            have n1f1 := n1.f 1
            have n1f2 := n1.f 2
            have y1c0 := y1.c (i := 0) rfl
            have y1c1 := y1.c (i := 1) rfl
            have y1c2 := y1.c (i := 2) rfl
            have n2 := arB_set3 n1 (cr3 A V).x (cr3 A V).y (cr3 A V).z; have y2 := arB_far3 y1 (Ne.symm bvE) (cr3 A V).x (cr3 A V).y (cr3 A V).z; have a2 := arB_far3 a1 (show w.heap.size + 1 ≠ w.heap.size by omega) (cr3 A V).x (cr3 A V).y (cr3 A V).z; replace kk := kp_st3 kk (Nat.le_succ _) (cr3 A V).x (cr3 A V).y (cr3 A V).z; unfold st3 at n2 y2 a2 kk
            have n2c0 := n2.c (i := 0) rfl
            have n2c1 := n2.c (i := 1) rfl
            have n2c2 := n2.c (i := 2) rfl
            have y2c0 := y2.c (i := 0) rfl
            have y2c1 := y2.c (i := 1) rfl
            have y2c2 := y2.c (i := 2) rfl
            generalize hd : dt3 (cr3 A V) V = d at *
            have HD := Lib.hid hd; clear hd
            go_wp2_with fail
            with_reducible refine (q3.out _).mono ?_
            rintro e w7 ⟨rfl, k7⟩
            replace kk := kk.trans k7; replace a2 := a2.kept k7 (by simp); replace n2 := n2.kept k7 (by simp); clear k7 q3
            by_cases hd : d = 0
            · subst hd
              go_wp2
              have hk := Hk.out; have lt := Ht.out
              go_roundg (gk - 1)
              case measure => omega
              case rel => exact ⟨t + 1, A, (cr3 A V), by go_num, by omega, Lib.hid ⟨HS.out.1 (by trivial), BB.out⟩, a2, n2, kk⟩
            · have hdb : (d != 0) = true := by simp [hd]
              have HR : Hid (R = false) := by obtain ⟨j, k, m, h1, h2, h3, h4⟩ := HS.out.2 hd; exact H0.out t j k m Ht.out h1 h2 h3 h4
              clear hd
              go_wp2
              go_ret
              exact ⟨by rw [HR.out]; rfl, kk⟩
          · have eqa := fun W => eqA3z A.x A.y A.z W
            rw [show (A.x == 0 && (A.y == 0 && A.z == 0)) = false by rw [o3_iff] at hA; simp only [Bool.and_eq_false_iff, beq_eq_false_iff_ne]; by_cases h1 : A.x = 0 <;> by_cases h2 : A.y = 0 <;> simp_all] at eqa
            have eqe := fun W => eqA3z E.x E.y E.z W
            rw [show (E.x == 0 && (E.y == 0 && E.z == 0)) = false by rw [o3_iff] at hE; simp only [Bool.and_eq_false_iff, beq_eq_false_iff_ne]; by_cases h1 : E.x = 0 <;> by_cases h2 : E.y = 0 <;> simp_all] at eqe
            have hs := hst.out A E (by rw [if_neg hA]) (by rw [if_neg hE])
            have bA : bd3 A 200000 := hI2
            have bE : bd3 E 80000000000 := hI3
            have q3 : Hid (∀ W : World, Calls Tryz.prog 76 #[.agg #[.int .i64 E.x, .int .i64 E.y, .int .i64 E.z], .agg #[.int .i64 V.x, .int .i64 V.y, .int .i64 V.z]] W fun e w' => e = .returned (.int .i64 (dt3 E V)) ∧ Kp [] W w') := fun W => vdotSpace _ _ _ _ _ _ W (by have := bE.1; omega) (by have := bE.2.1; omega) (by have := bE.2.2; omega) (by have := ve.1; omega) (by have := ve.2.1; omega) (by have := ve.2.2; omega)
            have HS := Lib.hid hs; have BB := Lib.hid (And.intro bA bE); clear hs bA bE hI1 hI2 hI3 ve hv hst hA hE hI
            have a0c0 := a0.c (i := 0) rfl
            have a0c1 := a0.c (i := 1) rfl
            have a0c2 := a0.c (i := 2) rfl
            have a0f0 := a0.f 0
            have a0f1 := a0.f 1
            have a0f2 := a0.f 2
            have yc0 := y.c (i := 0) rfl
            have yc1 := y.c (i := 1) rfl
            have yc2 := y.c (i := 2) rfl
            have n0c0 := n0.c (i := 0) rfl
            have n0c1 := n0.c (i := 1) rfl
            have n0c2 := n0.c (i := 2) rfl
            have n0f0 := n0.f 0
            have n0f1 := n0.f 1
            have n0f2 := n0.f 2
            have a1 := a0; have y1 := y; have n1 := n0
            have a1c0 := a1.c (i := 0) rfl
            have a1c1 := a1.c (i := 1) rfl
            have a1c2 := a1.c (i := 2) rfl
            have y1c0 := y1.c (i := 0) rfl
            have y1c1 := y1.c (i := 1) rfl
            have y1c2 := y1.c (i := 2) rfl
            have n1c0 := n1.c (i := 0) rfl
            have n1c1 := n1.c (i := 1) rfl
            have n1c2 := n1.c (i := 2) rfl
            have n1f0 := n1.f 0
            have n1f1 := n1.f 1
            have n1f2 := n1.f 2
            have n2 := n1; have y2 := y1; have a2 := a1
            generalize hd : dt3 E V = d at *
            have HD := Lib.hid hd; clear hd
            go_wp2_with fail
            with_reducible refine (q3.out _).mono ?_
            rintro e w7 ⟨rfl, k7⟩
            replace kk := kk.trans k7; replace a2 := a2.kept k7 (by simp); replace n2 := n2.kept k7 (by simp); clear k7 q3
            by_cases hd : d = 0
            · subst hd
              go_wp2
              have hk := Hk.out; have lt := Ht.out
              go_roundg (gk - 1)
              case measure => omega
              case rel => exact ⟨t + 1, A, E, by go_num, by omega, Lib.hid ⟨HS.out.1 (by trivial), BB.out⟩, a2, n2, kk⟩
            · have hdb : (d != 0) = true := by simp [hd]
              have HR : Hid (R = false) := by obtain ⟨j, k, m, h1, h2, h3, h4⟩ := HS.out.2 hd; exact H0.out t j k m Ht.out h1 h2 h3 h4
              clear hd
              go_wp2
              go_ret
              exact ⟨by rw [HR.out]; rfl, kk⟩
    · have lt' : ¬ (t : Int) < (N : Int) := by omega
      have et : t = N := by omega
      have HR : Hid (R = true) := H1.out (fun i j k m h1 h2 h3 h4 => CpI.done hI.out.1 i j k m (by omega) h2 h3 h4)
      clear lt hk et q1 a0 n0
      go_wp2
      go_ret
      exact ⟨by rw [HR.out]; rfl, kk⟩

end Go.Proofs.YtegamkilhgekjaaGreatDoor

/- VectorSpaces: Coplanar of package vector and of the reference of layer 7 at every list of places, and the law. -/
namespace Go.Proofs.YtegamkilhgekjaaGreatDoor
open Go.RowKit
open Go.Lib (nDigits itoa decDigits)

/-- all places of a list are coplanar -/
def coB (ps : List P3) : Bool := decide (∀ i, i < ps.length → ∀ j, j < i → ∀ k, k < j → ∀ m, m < k → v4 ps i j k m = 0)
theorem coB_0 {ps : List P3} (i j k m : Nat) (h1 : i < ps.length) (h2 : j < i) (h3 : k < j) (h4 : m < k) (h : v4 ps i j k m ≠ 0) : coB ps = false :=
  decide_eq_false fun hh => h (hh i h1 j h2 k h3 m h4)
theorem coB_1 {ps : List P3} (h : ∀ i j k m, i < ps.length → j < i → k < j → m < k → v4 ps i j k m = 0) : coB ps = true :=
  decide_eq_true fun i h1 j h2 k h3 m h4 => h i j k m h1 h2 h3 h4
/-- the answer beside an error -/
def bZ (e : Int) (b : Bool) : Bool := if e = 0 then b else false

set_option maxRecDepth 100000 in
theorem vresultB_0 (c : Nat) (caps : Array Value) (v : Bool) (w : World) (he : ∀ args w, (callFunc c args).run Tryz.prog w = .ok (.enter c args) w) (q : Hid (Calls Tryz.prog c caps w fun e w' => e = .returned (.bool v) ∧ Kp [] w w')) :
    Calls Tryz.prog 60 #[.int .i64 0, .func (.func c) #[] caps] w fun e w' => e = .returned (.tuple #[.bool v, .int .i64 0]) ∧ Kp [] w w' := by
  go_enter Tryz.func60, Tryz.ntmps60
  go_wp2_with (go_at_fn c; refine q.out.mono ?_; rintro x w1 ⟨rfl, k⟩)
  go_wp2
  go_ret2
  exact ⟨rfl, k⟩
set_option maxRecDepth 100000 in
theorem vresultB_e (f : Value) (e : Int) (w : World) (he : (e != 0) = true) :
    Calls Tryz.prog 60 #[.int .i64 e, f] w fun r w' => r = .returned (.tuple #[.bool false, .int .i64 e]) ∧ Kp [] w w' := by
  have k0 : Kp [] w (w.alloc (.cells #[.bool false] 4 (0, 0))) := (Kp.refl _ _).alloc _
  go_enter Tryz.func60, Tryz.ntmps60
  go_wp2
  go_ret2
  exact ⟨rfl, k0⟩

theorem ckS_len {ps : List P3} (h : ckS ps = 0) : ps.length ≤ 64 := by
  unfold ckS at h
  split at h
  · cases h
  · omega

set_option maxRecDepth 100000 in
set_option maxHeartbeats 4000000 in
theorem coplanar_p (g o c : Nat) (p : Option Addr) (ps : List P3) (w : World) (hs : Sps w g o ps) (hp : 0 < ps.length → p = some ⟨g, o, none⟩ ∧ g < w.heap.size) (hn : ps.length ≤ 9223372036854775807) :
    Calls Tryz.prog 24 #[.slice p ps.length c] w fun e w' => e = .returned (.tuple #[.bool (bZ (ckS ps) (coB ps)), .int .i64 (ckS ps)]) ∧ Kp [] w w' := by
  obtain ⟨w1, hw1⟩ : ∃ w1, w1 = w.alloc (.cells #[.slice p ps.length c] 42 (0, 0)) := ⟨_, rfl⟩
  have bx : Boxed w1 w.heap.size 42 (.slice p ps.length c) := by rw [hw1]; exact Boxed.new w _ _
  have kk : Kp [] w w1 := by rw [hw1]; exact (Kp.refl _ _).alloc _
  have hp1 : 0 < ps.length → p = some ⟨g, o, none⟩ ∧ g < w1.heap.size := fun h => ⟨(hp h).1, Nat.lt_of_lt_of_le (hp h).2 kk.size⟩
  have hs1 : Sps w1 g o ps := hs.kp0 hp kk
  have qc := Lib.hid (vCheckSpots g o c p ps w1 hs1 hp1 hn)
  have qr : Hid (∀ W : World, Kp [] w1 W → Calls Tryz.prog 60 #[.int .i64 (ckS ps), .func (.func 73) #[] #[.pointer (some ⟨w.heap.size, 0, none⟩)]] W fun e w' => e = .returned (.tuple #[.bool (bZ (ckS ps) (coB ps)), .int .i64 (ckS ps)]) ∧ Kp [] W w') := fun W k => by
    by_cases h0 : ckS ps = 0
    · rw [h0, show bZ 0 (coB ps) = coB ps from if_pos rfl]
      refine vresultB_0 73 _ _ W (enters_of Tryz.func73 (by kernel_rfl) rfl) (Lib.hid ?_)
      have hz : w.heap.size < W.heap.size := Nat.lt_of_lt_of_le bx.lt k.size
      have hB : W.cell? ⟨w.heap.size, 0, none⟩ = some (.slice p ps.length c) := (show Boxed W w.heap.size 42 (.slice p ps.length c) from (k.block _ bx.lt (by simp)).trans bx).cell
      exact coplanar1 w.heap.size g o c p ps W (hs1.kp0 hp1 k) (fun h => ⟨(hp1 h).1, Nat.lt_of_lt_of_le (hp1 h).2 k.size⟩) (ckS_len h0) (fun q hq => List.all_eq_true.1 (ckS_all h0) q hq) hz hB (coB ps) (fun i j k m h1 h2 h3 h4 h => coB_0 i j k m h1 h2 h3 h4 h) coB_1
    · rw [show bZ (ckS ps) (coB ps) = false from if_neg h0]
      exact vresultB_e _ _ W (by simp [h0])
  have cB := bx.cell
  generalize bZ (ckS ps) (coB ps) = v at *
  generalize ckS ps = z at *
  generalize hN : ps.length = N at *
  clear hs1 hp1 hs hp bx hn hN
  subst hw1
  go_enter Tryz.func24, Tryz.ntmps24
  go_wp2_with fail
  with_reducible refine qc.out.mono ?_
  rintro e w2 ⟨rfl, k⟩
  go_wp2_with fail
  with_reducible refine (qr.out _ k).mono ?_
  rintro e w3 ⟨rfl, k3⟩
  replace kk := (kk.trans k).trans k3
  clear k k3 qr qc cB
  go_wp2
  go_ret2
  exact ⟨rfl, kk⟩

set_option maxRecDepth 100000 in
set_option maxHeartbeats 4000000 in
theorem coplanar_r (g o c : Nat) (p : Option Addr) (ps : List P3) (w : World) (hs : Sps w g o ps) (hp : 0 < ps.length → p = some ⟨g, o, none⟩ ∧ g < w.heap.size) (hn : ps.length ≤ 9223372036854775807) :
    Calls Tryz.prog 25 #[.slice p ps.length c] w fun e w' => e = .returned (.tuple #[.bool (bZ (ckS ps) (coB ps)), .int .i64 (ckS ps)]) ∧ Kp [] w w' := by
  have qc := Lib.hid (rCheckS g o c p ps w hs hp hn)
  by_cases h0 : ckS ps = 0
  · have qe : Hid (∀ W : World, Kp [] w W → Calls Tryz.prog 77 #[.slice p ps.length c] W fun e w' => e = .returned (.bool (coB ps)) ∧ Kp [] W w') := fun W k =>
      rEven g o c p ps W (hs.kp0 hp k) (fun h => ⟨(hp h).1, Nat.lt_of_lt_of_le (hp h).2 k.size⟩) (ckS_len h0) (fun q hq => List.all_eq_true.1 (ckS_all h0) q hq) (coB ps) coB_0 coB_1
    rw [h0] at qc ⊢
    rw [show bZ 0 (coB ps) = coB ps from if_pos rfl]
    generalize coB ps = v at *
    generalize ps.length = N at *
    clear hs hp hn h0
    go_enter Tryz.func25, Tryz.ntmps25
    go_wp2_with fail
    with_reducible refine qc.out.mono ?_
    rintro e w2 ⟨rfl, k⟩
    go_wp2_with fail
    with_reducible refine (qe.out _ k).mono ?_
    rintro e w3 ⟨rfl, k3⟩
    replace k := k.trans k3
    clear k3 qe qc
    go_wp2
    go_ret2
    exact ⟨rfl, k⟩
  · rw [show bZ (ckS ps) (coB ps) = false from if_neg h0]
    have hb : (ckS ps != 0) = true := by simp [h0]
    generalize ckS ps = z at *
    generalize ps.length = N at *
    clear hs hp hn h0
    go_enter Tryz.func25, Tryz.ntmps25
    go_wp2_with fail
    with_reducible refine qc.out.mono ?_
    rintro e w2 ⟨rfl, k⟩
    clear qc
    go_wp2
    go_ret2
    exact ⟨rfl, k⟩

set_option maxRecDepth 100000 in
set_option maxHeartbeats 4000000 in
theorem Spaces_any (g o c : Nat) (p : Option Addr) (ps : List P3) (w : World) (hs : Sps w g o ps) (hp : 0 < ps.length → p = some ⟨g, o, none⟩ ∧ g < w.heap.size) (hn : ps.length ≤ 9223372036854775807) (hT : Tab w) :
    Calls Tryz.prog 4 #[.slice p ps.length c] w fun e w' => e = .returned (.bool true) ∧ Kp [] w w' := by
  have aw : Hid (∀ W, Kp [] w W → Calls Tryz.prog 13 #[] W fun e w' => e = .returned (.bool true) ∧ Kp [] W w') := fun W k => vawake W (tab_kp hT k)
  have hpk : ∀ W, Kp [] w W → (0 < ps.length → p = some ⟨g, o, none⟩ ∧ g < W.heap.size) := fun W k h => ⟨(hp h).1, Nat.lt_of_lt_of_le (hp h).2 k.size⟩
  have q1 : Hid (∀ W, Kp [] w W → Calls Tryz.prog 24 #[.slice p ps.length c] W fun e w' => e = .returned (.tuple #[.bool (bZ (ckS ps) (coB ps)), .int .i64 (ckS ps)]) ∧ Kp [] W w') := fun W k => coplanar_p g o c p ps W (hs.kp0 hp k) (hpk W k) hn
  have q2 : Hid (∀ W, Kp [] w W → Calls Tryz.prog 25 #[.slice p ps.length c] W fun e w' => e = .returned (.tuple #[.bool (bZ (ckS ps) (coB ps)), .int .i64 (ckS ps)]) ∧ Kp [] W w') := fun W k => coplanar_r g o c p ps W (hs.kp0 hp k) (hpk W k) hn
  have q3 : Hid (∀ W, Kp [] w W → Calls Tryz.prog 26 #[.slice p ps.length c] W fun e w' => e = .returned (.int .i64 (ckS ps)) ∧ Kp [] W w') := fun W k => vCheckSpots g o c p ps W (hs.kp0 hp k) (hpk W k) hn
  have q4 : Hid (∀ W, Kp [] w W → Calls Tryz.prog 27 #[.slice p ps.length c] W fun e w' => e = .returned (.int .i64 (ckS ps)) ∧ Kp [] W w') := fun W k => rCheckS g o c p ps W (hs.kp0 hp k) (hpk W k) hn
  have qf := Lib.hid (rFewS p ps.length c w _ rfl)
  generalize (decide (ps.length ≤ 6) || (decide (64 < ps.length) && decide (ps.length < 128))) = few at *
  generalize bZ (ckS ps) (coB ps) = v at *
  generalize ckS ps = z at *
  generalize ps.length = N at *
  clear hs hp hn hpk hT
  cases few with
  | false =>
    clear q1 q2 q3 q4
    go_enter Tryz.func4, Tryz.ntmps4
    go_wp2_with fail
    with_reducible refine qf.out.mono ?_
    rintro e w2 ⟨rfl, k⟩
    go_wp2_with fail
    with_reducible refine (aw.out _ k).mono ?_
    rintro e w3 ⟨rfl, k3⟩
    replace k := k.trans k3
    clear k3 aw qf
    go_wp2
    go_ret
    exact ⟨rfl, k⟩
  | true =>
    go_enter Tryz.func4, Tryz.ntmps4
    go_wp2_with fail
    with_reducible refine qf.out.mono ?_
    rintro e w2 ⟨rfl, k⟩
    go_wp2_with fail
    with_reducible refine (q1.out _ k).mono ?_
    rintro e w3 ⟨rfl, k3⟩
    replace k := k.trans k3
    clear k3
    go_wp2_with fail
    with_reducible refine (q2.out _ k).mono ?_
    rintro e w4 ⟨rfl, k4⟩
    replace k := k.trans k4
    clear k4
    go_wp2_with fail
    with_reducible refine (aw.out _ k).mono ?_
    rintro e w5 ⟨rfl, k5⟩
    replace k := k.trans k5
    clear k5
    go_wp2_with fail
    with_reducible refine (q3.out _ k).mono ?_
    rintro e w6 ⟨rfl, k6⟩
    replace k := k.trans k6
    clear k6
    go_wp2_with fail
    with_reducible refine (q4.out _ k).mono ?_
    rintro e w7 ⟨rfl, k7⟩
    replace k := k.trans k7
    clear k7 q1 q2 q3 q4 aw qf
    go_wp2
    go_ret
    exact ⟨rfl, k⟩

end Go.Proofs.YtegamkilhgekjaaGreatDoor

/- A slice of structs of three ints, opened: its elements are triples of ints; the nil slice and an empty one too. -/
namespace Go.Proofs.YtegamkilhgekjaaGreatDoor
open Go.ChangeShapes Go.WideShapes Go.RowKit Go.Deep

theorem open_spots {H : Type} {enc : TypeId × Value → H} {P : Program} {w : World} {base : Nat} {spare : Nat → Bool} {held : Bool} {t e : TypeId} {f0 f1 f2 : Field} {fuel : Nat} {cs : List Value} {x : DataW H × List MemPlace} (ht : P.underlying t = some (.slice e)) (he : P.underlying e = some (.struct #[f0, f1, f2]))
    (ce : P.cellsOf e = 3) (o0 : f0.offset = 0) (o1 : f1.offset = 1) (o2 : f2.offset = 2) (c0 : P.cellsOf f0.type = 1) (c1 : P.cellsOf f1.type = 1) (c2 : P.cellsOf f2.type = 1) (i0 : P.underlying f0.type = some (.int .i64)) (i1 : P.underlying f1.type = some (.int .i64)) (i2 : P.underlying f2.type = some (.int .i64))
    (h : DataW.trod enc P w base spare held fuel t cs = some x) :
    ∃ (sp : Option Addr) (g o cap : Nat) (ps : List P3), cs = [.slice sp ps.length cap] ∧ Sps w g o ps ∧ (0 < ps.length → sp = some ⟨g, o, none⟩ ∧ g < w.heap.size) ∧ ps.length ≤ maxLen := by
  rcases open_slice ht h with ⟨rfl, _⟩ | ⟨a, len, cap, m, n, D, Pl, rfl, hb, hl, hm, hmm, rfl, hx⟩
  · exact ⟨none, 0, 0, 0, [], rfl, fun i hi => absurd hi (by simp), fun h => absurd h (by simp), by simp⟩
  · have hlm : len ≤ m := by rw [hmm]; split <;> omega
    have each : ∀ i, i < m → ∃ z : P3, w.cell? (a.add (i * 3)) = some (.int .i64 z.x) ∧ w.cell? (a.add (i * 3 + 1)) = some (.int .i64 z.y) ∧ w.cell? (a.add (i * 3 + 2)) = some (.int .i64 z.z) := by
      intro i hi
      obtain ⟨cs', h1, h2⟩ := hx i hi
      rw [ce] at h1
      obtain ⟨_, hlen, hcell⟩ := World.cells?_some h1
      obtain ⟨xs, k, hk, hxy, _, hxl, hf⟩ := DataW.trod_struct he h2
      match xs, hxl, cs', hlen with
      | [y0, y1, y2], _, [v0, v1, v2], _ =>
        have g0 := hf 0 f0 rfl
        have g1 := hf 1 f1 rfl
        have g2 := hf 2 f2 rfl
        simp [o0, o1, o2, c0, c1, c2] at g0 g1 g2
        obtain ⟨z0, e0, _⟩ := DataW.trod_int i0 g0
        obtain ⟨z1, e1, _⟩ := DataW.trod_int i1 g1
        obtain ⟨z2, e2, _⟩ := DataW.trod_int i2 g2
        simp at e0 e1 e2
        subst e0 e1 e2
        have d0 := hcell 0 (by omega)
        have d1 := hcell 1 (by omega)
        have d2 := hcell 2 (by omega)
        rw [add_add] at d0 d1 d2
        exact ⟨⟨z0, z1, z2⟩, by simpa using d0, by simpa using d1, by simpa using d2⟩
    haveI : Inhabited P3 := ⟨⟨0, 0, 0⟩⟩
    obtain ⟨Z, hZ⟩ := Go.Deep.choose_lt each
    obtain ⟨b, off, spot⟩ := a
    have hsp : 0 < len → spot = none ∧ b < w.heap.size := fun h => by
      have h1 := (hZ 0 (by omega)).1
      exact ⟨by simpa [Addr.add] using World.cell?_spot h1, World.block_lt_of_cell? w _ h1⟩
    refine ⟨some ⟨b, off, spot⟩, b, off, cap, (List.range len).map Z, by simp, fun i hi => ?_, fun h => ?_, by simp; omega⟩
    · have hi' : i < len := by simpa using hi
      obtain ⟨rfl, _⟩ := hsp (by omega)
      obtain ⟨h0, h1, h2⟩ := hZ i (by omega)
      rw [add_plain] at h0 h1 h2
      rw [List.getElem_map, List.getElem_range]
      exact ⟨h0, by rw [Nat.add_assoc]; exact h1, by rw [Nat.add_assoc]; exact h2⟩
    · obtain ⟨h1, h2⟩ := hsp (by simpa using h)
      exact ⟨by rw [h1], h2⟩
end Go.Proofs.YtegamkilhgekjaaGreatDoor
