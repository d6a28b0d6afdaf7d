/- Texts Vchk1, Vchk2, Vchk3, Vchk5: each says in its own first comment what it proves. -/
import Derived.Test.YtegamkilhgekjaaGreatDoorM66
import Derived.Test.YtegamkilhgekjaaGreatDoorM61
import Derived.Test.YtegamkilhgekjaaGreatDoorM62
import Derived.Test.YtegamkilhgekjaaGreatDoorM46
import Derived.Test.YtegamkilhgekjaaGreatDoorM38
import Derived.Test.YtegamkilhgekjaaGreatDoorM42
import Derived.Test.YtegamkilhgekjaaGreatDoorM26
import Derived.Test.YtegamkilhgekjaaGreatDoorM24
import Derived.Test.YtegamkilhgekjaaGreatDoorM22
import Derived.Test.YtegamkilhgekjaaGreatDoorM05
import Derived.Test.YtegamkilhgekjaaGreatDoorM11
import Derived.Test.YtegamkilhgekjaaGreatDoorM12
import Derived.OwnWalk
import Derived.Test.YtegamkilhgekjaaGreatDoorM08
import Derived.Test.YtegamkilhgekjaaGreatDoorM04
import Derived.Test.YtegamkilhgekjaaGreatDoorM06
import Derived.Test.YtegamkilhgekjaaGreatDoorM41
import Derived.Laws.OwnMore
/- Reference of layer 7: Check, Few and Area at every list of points; vector.Area beside an error. -/
namespace Go.Proofs.YtegamkilhgekjaaGreatDoor
open Go.RowKit
open Go.Lib (nDigits itoa decDigits)

set_option maxRecDepth 100000 in
set_option maxHeartbeats 4000000 in
theorem rCheckP (g o c : Nat) (p : Option Addr) (ps : List (Int × Int)) (w : World) (hs : Pts w g o ps) (hp : 0 < ps.length → p = some ⟨g, o, none⟩ ∧ g < w.heap.size) (hn : ps.length ≤ 9223372036854775807) :
    Calls Tryz.prog 21 #[.slice p ps.length c] w fun e w' => e = .returned (.int .i64 (ckP ps)) ∧ Kp [] w w' := by
  have hn1 : (ps.length : Int) ≤ 9223372036854775807 := by omega
  have kk : Kp [] w w := Kp.refl _ _
  by_cases h64 : 64 < ps.length
  · have h64' : (64 : Int) < (ps.length : Int) := by omega
    rw [show ckP ps = 5 by unfold ckP; rw [if_pos h64]]
    generalize ps.length = N at *
    clear h64 hs hp
    go_enter Tryz.func21, Tryz.ntmps21
    go_wp2
    go_ret
    exact ⟨rfl, kk⟩
  · have h64' : ¬ (64 : Int) < (ps.length : Int) := by omega
    have hR : ckP ps = if ps.all inP = true then 0 else 2 := by unfold ckP; rw [if_neg h64]
    have h1 : ∀ k (hk : k < ps.length), inP ps[k] = false → ckP ps = 2 := fun k hk h => by
      rw [hR, if_neg]
      intro hall
      have := List.all_eq_true.1 hall _ (List.getElem_mem hk)
      rw [h] at this; cases this
    have h2 : (∀ k (hk : k < ps.length), inP ps[k] = true) → ckP ps = 0 := fun h => by
      rw [hR, if_pos]
      exact List.all_eq_true.2 fun q hq => by obtain ⟨j, hj, rfl⟩ := List.getElem_of_mem hq; exact h j hj
    clear hR
    generalize ckP ps = R at *
    have H1 := Lib.hid h1
    have H2 := Lib.hid h2
    clear h1 h2
    go_enter Tryz.func21, Tryz.ntmps21
    go_wp2
    go_loopg [3] ps.length (fun gk s3 wr => ∃ k : Nat, s3 = .int .i64 k ∧ k + gk = ps.length ∧ (∀ j (_ : j < k) (h : j < ps.length), inP ps[j] = true) ∧ Kp [] w wr)
    case atStart => exact ⟨0, rfl, by omega, fun j hj => by omega, Kp.refl _ _⟩
    case round =>
      obtain ⟨k, rfl, hk, hb, kk⟩ := hrel
      by_cases hlt : k < ps.length
      · obtain ⟨rfl, hg⟩ := hp (by omega)
        have hcs := hs.kp hg kk k hlt
        obtain ⟨c0, c1⟩ := hcs
        have hlt' : (k : Int) < (ps.length : Int) := by omega
        have hz1 : 0 ≤ (k : Int) := by omega
        have Hb := Lib.hid hb
        have Hk := Lib.hid hk
        have HL := Lib.hid hlt
        have q := Lib.hid fun W : World => (rright_c (x := ps[k].1) (y := ps[k].2) (b := inP ps[k]) rfl).out W
        cases hc : inP ps[k] with
        | false =>
          have HV := Lib.hid (H1.out k hlt hc)
          rw [hc] at q
          clear hs hb hk hp hc Hb H1 H2
          generalize ps[k].1 = x at *
          generalize ps[k].2 = y at *
          clear hlt
          go_wp2_with fail
          with_reducible refine (q.out _).mono ?_
          rintro e w' ⟨rfl, k2⟩
          go_wp2
          go_ret
          exact ⟨by rw [HV.out]; rfl, kk.trans k2⟩
        | true =>
          have HC := Lib.hid hc
          rw [hc] at q
          clear hs hb hk hp hc H1 H2
          generalize ps[k].1 = x at *
          generalize ps[k].2 = y at *
          clear hlt
          go_wp2_with fail
          with_reducible refine (q.out _).mono ?_
          rintro e w' ⟨rfl, k2⟩
          go_wp2
          have hk := Hk.out
          have hlt := HL.out
          go_roundg (gk - 1)
          case measure => omega
          case rel =>
            refine ⟨k + 1, by go_num, by omega, fun j hj h => ?_, kk.trans k2⟩
            by_cases ejk : j = k
            · subst ejk
              exact HC.out
            · exact Hb.out j (by omega) h
      · have hlt' : ¬ (k : Int) < (ps.length : Int) := by omega
        have HV := Lib.hid (H2.out fun j hj => hb j (by omega) hj)
        clear hb hk hlt hs hp H1 H2
        go_wp2
        go_ret
        exact ⟨by rw [HV.out]; rfl, kk⟩

set_option maxRecDepth 100000 in
set_option maxHeartbeats 4000000 in
theorem rFewP (p : Option Addr) (n c : Nat) (w : World) (b : Bool) (hb : b = (decide (n ≤ 8) || (decide (64 < n) && decide (n < 128)))) :
    Calls Tryz.prog 12 #[.slice p n c] w fun e w' => e = .returned (.bool b) ∧ Kp [] w w' := by
  have kk : Kp [] w w := Kp.refl _ _
  by_cases h1 : n ≤ 8
  · have h1' : (n : Int) ≤ 8 := by omega
    rw [show b = true by rw [hb]; simp [h1]]
    clear hb h1
    go_enter Tryz.func12, Tryz.ntmps12
    go_wp2
    go_ret
    exact ⟨rfl, kk⟩
  · by_cases h2 : 64 < n
    · by_cases h3 : n < 128
      · have h1' : ¬ (n : Int) ≤ 8 := by omega
        have h2' : (64 : Int) < (n : Int) := by omega
        have h3' : (n : Int) < 128 := by omega
        rw [show b = true by rw [hb]; simp [h2, h3]]
        clear hb h1 h2 h3
        go_enter Tryz.func12, Tryz.ntmps12
        go_wp2
        go_ret
        exact ⟨rfl, kk⟩
      · have h1' : ¬ (n : Int) ≤ 8 := by omega
        have h2' : (64 : Int) < (n : Int) := by omega
        have h3' : ¬ (n : Int) < 128 := by omega
        rw [show b = false by rw [hb]; simp [h3]; omega]
        clear hb h1 h2 h3
        go_enter Tryz.func12, Tryz.ntmps12
        go_wp2
        go_ret
        exact ⟨rfl, kk⟩
    · have h1' : ¬ (n : Int) ≤ 8 := by omega
      have h2' : ¬ (64 : Int) < (n : Int) := by omega
      rw [show b = false by rw [hb]; simp [h2]; omega]
      clear hb h1 h2
      go_enter Tryz.func12, Tryz.ntmps12
      go_wp2
      go_ret
      exact ⟨rfl, kk⟩

end Go.Proofs.YtegamkilhgekjaaGreatDoor

/- The mathematics of Collinear: the first way other than 0 against all triples of points. -/
namespace Go.Proofs.YtegamkilhgekjaaGreatDoor
open Go.RowKit
open Go.Lib (nDigits itoa decDigits)

def cr2 (a b : Int × Int) : Int := a.1 * b.2 - a.2 * b.1
def sb2 (a b : Int × Int) : Int × Int := (b.1 - a.1, b.2 - a.2)
def o2 : Int × Int := (0, 0)
theorem o2_iff (a : Int × Int) : a = o2 ↔ a.1 = 0 ∧ a.2 = 0 := ⟨fun h => by rw [h]; exact ⟨rfl, rfl⟩, fun ⟨h1, h2⟩ => Prod.ext h1 h2⟩
/-- the turn of three points of a list -/
def v3 (G : Nat → Int × Int) (i j k : Nat) : Int := crV (G i).1 (G i).2 (G j).1 (G j).2 (G k).1 (G k).2
theorem v3_eq (G : Nat → Int × Int) (i j k : Nat) : v3 G i j k = cr2 (sb2 (G 0) (G i)) (sb2 (G 0) (G j)) + cr2 (sb2 (G 0) (G j)) (sb2 (G 0) (G k)) + cr2 (sb2 (G 0) (G k)) (sb2 (G 0) (G i)) := by
  unfold v3 crV cr2 sb2
  dsimp only
  grind
theorem cr2_par {a x y : Int × Int} (ha : a ≠ o2) (hx : cr2 a x = 0) (hy : cr2 a y = 0) : cr2 x y = 0 := by
  unfold cr2 at *
  have e1 : (x.1 * y.2 - x.2 * y.1) * a.1 = 0 := by grind
  have e2 : (x.1 * y.2 - x.2 * y.1) * a.2 = 0 := by grind
  rcases Int.mul_eq_zero.1 e1 with h | h1
  · exact h
  rcases Int.mul_eq_zero.1 e2 with h | h2
  · exact h
  exact absurd ((o2_iff a).2 ⟨h1, h2⟩) ha
theorem cr2_self (a : Int × Int) : cr2 a a = 0 := by unfold cr2; grind
theorem cr2_o (a : Int × Int) : cr2 o2 a = 0 := by unfold cr2 o2; simp
theorem cr2_o' (a : Int × Int) : cr2 a o2 = 0 := by unfold cr2 o2; simp
theorem sb2_self (a : Int × Int) : sb2 a a = o2 := by unfold sb2 o2; simp
/-- what the program has found when t points are through -/
def ClI (G : Nat → Int × Int) (t : Nat) (A : Int × Int) : Prop :=
  ((A = o2 ∧ ∀ k, k < t → sb2 (G 0) (G k) = o2) ∨ (A ≠ o2 ∧ ∃ r, r < t ∧ A = sb2 (G 0) (G r))) ∧ ∀ k, k < t → cr2 A (sb2 (G 0) (G k)) = 0
theorem ClI.start (G : Nat → Int × Int) : ClI G 0 o2 := ⟨.inl ⟨rfl, fun _ h => by omega⟩, fun _ h => by omega⟩
theorem ClI.step {G : Nat → Int × Int} {t : Nat} {A A' : Int × Int} (h : ClI G t A) (hA : A' = if A = o2 then sb2 (G 0) (G t) else A) :
    (cr2 A' (sb2 (G 0) (G t)) = 0 → ClI G (t + 1) A') ∧ (cr2 A' (sb2 (G 0) (G t)) ≠ 0 → ∃ j k, j < t ∧ k < j ∧ v3 G t j k ≠ 0) := by
  obtain ⟨hAA, hD⟩ := h
  by_cases ha : A = o2
  · rw [if_pos ha] at hA
    have hall : ∀ k, k < t → sb2 (G 0) (G k) = o2 := by
      rcases hAA with ⟨_, h⟩ | ⟨h, _⟩
      · exact h
      · exact absurd ha h
    refine ⟨fun _ => ⟨?_, fun k hk => ?_⟩, fun hd => absurd (by rw [hA]; exact cr2_self _) hd⟩
    · by_cases hz : A' = o2
      · refine .inl ⟨hz, fun k hk => ?_⟩
        by_cases e : k = t
        · rw [e, ← hA]; exact hz
        · exact hall k (by omega)
      · exact .inr ⟨hz, t, by omega, hA⟩
    · by_cases e : k = t
      · rw [e, hA]; exact cr2_self _
      · rw [hall k (by omega)]; exact cr2_o' _
  · rw [if_neg ha] at hA
    obtain ⟨r, hr, he⟩ : ∃ r, r < t ∧ A = sb2 (G 0) (G r) := by
      rcases hAA with ⟨h, _⟩ | ⟨_, h⟩
      · exact absurd h ha
      · exact h
    refine ⟨fun hd => ⟨.inr ⟨by rw [hA]; exact ha, r, by omega, by rw [hA]; exact he⟩, fun k hk => ?_⟩, fun hd => ?_⟩
    · by_cases e : k = t
      · rw [e]; exact hd
      · rw [hA]; exact hD k (by omega)
    · have hr0 : r ≠ 0 := fun e => ha (by rw [he, e]; exact sb2_self _)
      refine ⟨r, 0, hr, by omega, fun hz => hd ?_⟩
      rw [v3_eq, sb2_self, cr2_o, cr2_o', ← he] at hz
      rw [hA]
      unfold cr2 at *
      grind
theorem ClI.done {G : Nat → Int × Int} {n : Nat} {A : Int × Int} (h : ClI G n A) (i j k : Nat) (hi : i < n) (hj : j < i) (hk : k < j) : v3 G i j k = 0 := by
  obtain ⟨hAA, hD⟩ := h
  rw [v3_eq]
  rcases hAA with ⟨_, hall⟩ | ⟨ha, _⟩
  · rw [hall i hi, hall j (by omega), hall k (by omega)]; simp [cr2_o]
  · rw [cr2_par ha (hD i hi) (hD j (by omega)), cr2_par ha (hD j (by omega)) (hD k (by omega)), cr2_par ha (hD k (by omega)) (hD i hi)]; rfl

end Go.Proofs.YtegamkilhgekjaaGreatDoor

/- Straight of the reference of layer 7, for points in bounds. -/
namespace Go.Proofs.YtegamkilhgekjaaGreatDoor
open Go.RowKit
open Go.Lib (nDigits itoa decDigits)

/-- three points of a list: the turn -/
def w3 (ps : List (Int × Int)) (i j k : Nat) : Int := crV (gP ps i).1 (gP ps i).2 (gP ps j).1 (gP ps j).2 (gP ps k).1 (gP ps k).2

set_option maxRecDepth 100000 in
set_option maxHeartbeats 4000000 in
theorem rStraight (g o c : Nat) (p : Option Addr) (ps : List (Int × Int)) (w : World) (hs : Pts w g o ps) (hp : 0 < ps.length → p = some ⟨g, o, none⟩ ∧ g < w.heap.size) (hn : ps.length ≤ 64) (hb : ∀ q ∈ ps, PB q) (R : Bool)
    (h0 : ∀ i j k, i < ps.length → j < i → k < j → w3 ps i j k ≠ 0 → R = false) (h1 : (∀ i j k, i < ps.length → j < i → k < j → w3 ps i j k = 0) → R = true) :
    Calls Tryz.prog 63 #[.slice p ps.length c] w fun e w' => e = .returned (.bool R) ∧ Kp [] w w' := by
  have hn1 : (ps.length : Int) ≤ 64 := by omega
  have hcc : ∀ j, j < ps.length → ∀ W, Kp [] w W → W.cell? ⟨g, o + j * 2, none⟩ = some (.int .i64 (gP ps j).1) ∧ W.cell? ⟨g, o + j * 2 + 1, none⟩ = some (.int .i64 (gP ps j).2) := fun j hj W k => by rw [gP_lt hj]; exact hs.kp0 hp k j hj
  have hp1 : 0 < ps.length → p = some ⟨g, o, none⟩ := fun h => (hp h).1
  have qs : Hid (∀ (W : World) (i j k : Nat), Calls Tryz.prog 87 #[.agg #[.int .i64 (gP ps i).1, .int .i64 (gP ps i).2], .agg #[.int .i64 (gP ps j).1, .int .i64 (gP ps j).2], .agg #[.int .i64 (gP ps k).1, .int .i64 (gP ps k).2]] W fun e w' => e = .returned (.int .i64 (w3 ps i j k)) ∧ Kp [] W w') := fun W i j k => left_r _ _ _ _ _ _ W (gP_pb hb i).1 (gP_pb hb i).2 (gP_pb hb j).1 (gP_pb hb j).2 (gP_pb hb k).1 (gP_pb hb k).2
  generalize gP ps = G at *
  generalize w3 ps = V at *
  generalize hN : ps.length = N at *
  have hqa := Lib.hid hcc
  have hqp := Lib.hid hp1
  have H0 := Lib.hid h0
  have H1 := Lib.hid h1
  clear hs hp hcc hp1 hb hN h0 h1 ps
  have hn2 := Lib.hid hn
  clear hn
  have hz0 : 0 ≤ (N : Int) := by omega
  go_enter Tryz.func63, Tryz.ntmps63
  go_wp2_with fail
  go_loopg [3] N (fun gi s3 wr => ∃ i : Nat, s3 = .int .i64 i ∧ i + gi = N ∧ Hid (∀ i', i' < i → ∀ j k, j < i' → k < j → V i' j k = 0) ∧ Kp [] w wr)
  case atStart => exact ⟨0, rfl, by omega, Lib.hid (fun _ h => by omega), Kp.refl _ _⟩
  case round =>
    obtain ⟨gi, rfl⟩ : ∃ z : Nat, z = gk := ⟨_, rfl⟩
    obtain ⟨i, rfl, hki, hi, kk⟩ := hrel
    by_cases li : i < N
    · have li' : (i : Int) < (N : Int) := by omega
      have zi : 0 ≤ (i : Int) := by omega
      obtain rfl := hqp.out (by omega)
      have Li := Lib.hid li
      have Ki := Lib.hid hki
      clear li hki
      go_wp2_with fail
      go_loopg [4] i (fun gj s4 wr => ∃ j : Nat, s4 = .int .i64 j ∧ j + gj = i ∧ Hid (∀ j', j' < j → ∀ k, k < j' → V i j' k = 0) ∧ Kp [] w wr)
      case atStart => exact ⟨0, rfl, by omega, Lib.hid (fun _ h => by omega), kk⟩
      case round =>
        clear kk
        obtain ⟨gj, rfl⟩ : ∃ z : Nat, z = gk := ⟨_, rfl⟩
        obtain ⟨j, rfl, hkj, hj, kk⟩ := hrel
        by_cases lj : j < i
        · have lj' : (j : Int) < (i : Int) := by omega
          have zj : 0 ≤ (j : Int) := by omega
          have Lj := Lib.hid lj
          have Kj := Lib.hid hkj
          clear lj hkj
          go_wp2_with fail
          go_loopg [5] j (fun gk s5 wr => ∃ k : Nat, s5 = .int .i64 k ∧ k + gk = j ∧ Hid (∀ k', k' < k → V i j k' = 0) ∧ Kp [] w wr)
          case atStart => exact ⟨0, rfl, by omega, Lib.hid (fun _ h => by omega), kk⟩
          case round =>
            clear kk
            obtain ⟨gm, rfl⟩ : ∃ z : Nat, z = gk := ⟨_, rfl⟩
            obtain ⟨k, rfl, hkm, hm, kk⟩ := hrel
            by_cases lm : k < j
            · have lm' : (k : Int) < (j : Int) := by omega
              have zm : 0 ≤ (k : Int) := by omega
              have lN := Li.out
              have lI := Lj.out
              obtain ⟨a0, a1⟩ := hqa.out i lN wr kk
              obtain ⟨b0, b1⟩ := hqa.out j (by omega) wr kk
              obtain ⟨c0, c1⟩ := hqa.out k (by omega) wr kk
              have x1 : (j : Int) < (N : Int) := by omega
              have x2 : (k : Int) < (N : Int) := by omega
              have q := Lib.hid fun W : World => qs.out W i j k
              have Lm := Lib.hid lm
              have Km := Lib.hid hkm
              clear lN lI lm hkm
              generalize hv : V i j k = v at *
              have hv := Lib.hid hv
              generalize (G i).1 = ei1 at *
              generalize (G i).2 = ei2 at *
              generalize (G j).1 = ej1 at *
              generalize (G j).2 = ej2 at *
              generalize (G k).1 = ek1 at *
              generalize (G k).2 = ek2 at *
              clear qs
              go_wp2_with fail
              go_region_with (go_at_call 87; refine (q.out _).mono ?_; rintro e w9 ⟨rfl, k9⟩)
              all_goals (replace kk := kk.drew.trans k9; clear q k9 a0 a1 b0 b1 c0 c1)
              all_goals by_cases hv0 : v = 0
              all_goals first
                | (subst hv0
                   go_wp2
                   have lm := Lm.out; have hkm := Km.out
                   go_roundg (gm - 1)
                   case measure => omega
                   case rel => exact ⟨k + 1, by go_num, by omega, Lib.hid (fun m' h => if e : m' = k then (by rw [e]; exact hv.out) else hm.out m' (by omega)), kk⟩)
                | (have hvb : (v != 0) = true := by simp [hv0]
                   have HR := Lib.hid (H0.out i j k Li.out Lj.out Lm.out (by rw [hv.out]; exact hv0))
                   clear hv0
                   go_wp2
                   go_ret
                   exact ⟨by rw [HR.out]; rfl, kk⟩)
            · have lm' : ¬ (k : Int) < (j : Int) := by omega
              have em := Lib.hid (show k = j by omega)
              clear lm hkm qs
              go_wp2
              have lj := Lj.out; have hkj := Kj.out
              go_roundg (gj - 1)
              case measure => omega
              case rel => exact ⟨j + 1, by go_num, by omega, Lib.hid (fun j' h k' h2 => if e : j' = j then (by subst e; exact hm.out k' (by have := em.out; omega)) else hj.out j' (by omega) k' h2), kk⟩
        · have lj' : ¬ (j : Int) < (i : Int) := by omega
          have ej := Lib.hid (show j = i by omega)
          clear lj hkj qs
          go_wp2
          have li := Li.out; have hki := Ki.out
          go_roundg (gi - 1)
          case measure => omega
          case rel => exact ⟨i + 1, by go_num, by omega, Lib.hid (fun i' h j' k' h2 h3 => if e : i' = i then (by subst e; exact hj.out j' (by have := ej.out; omega) k' h3) else hi.out i' (by omega) j' k' h2 h3), kk⟩
    · have li' : ¬ (i : Int) < (N : Int) := by omega
      have HR := Lib.hid (H1.out (fun i' j' k' h h2 h3 => hi.out i' (by omega) j' k' h2 h3))
      clear li hki qs
      go_wp2
      go_ret
      exact ⟨by rw [HR.out]; rfl, kk⟩

end Go.Proofs.YtegamkilhgekjaaGreatDoor

/- The mathematics of Order: lists of indices in ascending order of points; one more index is brought to its place. -/
namespace Go.Proofs.YtegamkilhgekjaaGreatDoor
open Go.RowKit
open Go.Lib (nDigits itoa decDigits)

/-- a point comes before another one; an index does -/
def bfP (a b : Int × Int) : Bool := decide (a.1 < b.1) || (decide (a.1 = b.1) && decide (a.2 < b.2))
def ltP (G : Nat → Int × Int) (i j : Nat) : Bool := bfP (G i) (G j) || (decide (G i = G j) && decide (i < j))
theorem bfP_iff (a b : Int × Int) : bfP a b = true ↔ a.1 < b.1 ∨ a.1 = b.1 ∧ a.2 < b.2 := by unfold bfP; simp
theorem ltP_iff (G : Nat → Int × Int) (i j : Nat) : ltP G i j = true ↔ ((G i).1 < (G j).1 ∨ (G i).1 = (G j).1 ∧ (G i).2 < (G j).2) ∨ ((G i).1 = (G j).1 ∧ (G i).2 = (G j).2) ∧ i < j := by
  unfold ltP; rw [Bool.or_eq_true, bfP_iff, Bool.and_eq_true, decide_eq_true_iff, decide_eq_true_iff, Prod.ext_iff]
theorem ltP_trans {G : Nat → Int × Int} {i j k : Nat} (h : ltP G i j = true) (h2 : ltP G j k = true) : ltP G i k = true := by rw [ltP_iff] at *; omega
theorem ltP_asymm {G : Nat → Int × Int} {i j : Nat} (h : ltP G i j = true) (h2 : ltP G j i = true) : False := by rw [ltP_iff] at *; omega
theorem ltP_total {G : Nat → Int × Int} {i j : Nat} (h : ltP G i j = false) (h2 : ltP G j i = false) : i = j := by
  rw [← Bool.not_eq_true, ltP_iff] at *; omega
theorem ltP_bf {G : Nat → Int × Int} {i j : Nat} (hj : j < i) : ltP G i j = bfP (G i) (G j) := by
  rw [Bool.eq_iff_iff, ltP_iff, bfP_iff]; omega
def SrtI (G : Nat → Int × Int) (n : Nat) (L : List Nat) : Prop := L.Perm (List.range n) ∧ L.Pairwise (fun a b => ltP G a b = true)
theorem SrtI.start (G : Nat → Int × Int) : SrtI G 0 [] := ⟨.refl _, .nil⟩
theorem SrtI.len {G : Nat → Int × Int} {n : Nat} {L : List Nat} (h : SrtI G n L) : L.length = n := by simpa using h.1.length_eq
theorem SrtI.lt {G : Nat → Int × Int} {n : Nat} {L : List Nat} (h : SrtI G n L) {a : Nat} (ha : a ∈ L) : a < n := by simpa using h.1.mem_iff.1 ha
theorem SrtI.unique {G : Nat → Int × Int} {n : Nat} {L M : List Nat} (h : SrtI G n L) (k : SrtI G n M) : L = M :=
  List.Perm.eq_of_pairwise (fun _ _ _ _ h1 h2 => (ltP_asymm h1 h2).elim) h.2 k.2 (h.1.trans k.1.symm)
/-- the list when index n stands at place k -/
def InsI (G : Nat → Int × Int) (n k : Nat) (M : List Nat) : Prop := ∃ A B, M = A ++ n :: B ∧ A.length = k ∧ SrtI G n (A ++ B) ∧ ∀ b ∈ B, ltP G n b = true
theorem InsI.start {G : Nat → Int × Int} {n : Nat} {L : List Nat} (h : SrtI G n L) : InsI G n n (L ++ [n]) := ⟨L, [], rfl, h.len, by simpa using h, by simp⟩
theorem InsI.len {G : Nat → Int × Int} {n k : Nat} {M : List Nat} (h : InsI G n k M) : M.length = n + 1 := by
  obtain ⟨A, B, rfl, hA, hS, _⟩ := h
  have := hS.len
  simp at *; omega
theorem InsI.le {G : Nat → Int × Int} {n k : Nat} {M : List Nat} (h : InsI G n k M) : k ≤ n := by
  obtain ⟨A, B, rfl, hA, hS, _⟩ := h
  have := hS.len
  simp at *; omega
theorem InsI.lt {G : Nat → Int × Int} {n k : Nat} {M : List Nat} (h : InsI G n k M) {a : Nat} (ha : a ∈ M) : a < n + 1 := by
  obtain ⟨A, B, rfl, hA, hS, _⟩ := h
  have h1 : a = n ∨ a ∈ A ++ B := by
    rcases List.mem_append.1 ha with h | h
    · exact .inr (List.mem_append_left _ h)
    · rcases List.mem_cons.1 h with h | h
      · exact .inl h
      · exact .inr (List.mem_append_right _ h)
  rcases h1 with rfl | h1
  · omega
  · have := hS.lt h1; omega
theorem InsI.done {G : Nat → Int × Int} {n k : Nat} {M : List Nat} (h : InsI G n k M) (hk : ∀ A B a, M = A ++ a :: n :: B → A.length + 1 = k → ltP G n a = false) : SrtI G (n + 1) M := by
  obtain ⟨A, B, rfl, hA, hS, hB⟩ := h
  refine ⟨?_, ?_⟩
  · rw [List.range_succ]
    exact List.perm_middle.trans (((hS.1.cons n)).trans (List.perm_append_singleton n (List.range n)).symm)
  · have hAB := List.pairwise_append.1 hS.2
    refine List.pairwise_append.2 ⟨hAB.1, List.pairwise_cons.2 ⟨hB, hAB.2.1⟩, fun a ha b hb => ?_⟩
    have hlast : ∀ x ∈ A, ltP G x n = true := by
      rcases List.eq_nil_or_concat A with rfl | ⟨A', z, rfl⟩
      · simp
      · rw [List.concat_eq_append] at *
        have hz : ltP G n z = false := hk A' B z (by simp) (by simpa using hA)
        have hzn : z < n := hS.lt (by simp)
        have hz1 : ltP G z n = true := by
          rcases hh : ltP G z n with _ | _
          · have := ltP_total hz hh; omega
          · rfl
        intro x hx
        have hx' : x ∈ A' ∨ x = z := by simpa using hx
        rcases hx' with hx' | rfl
        · have hp := List.pairwise_append.1 hAB.1
          exact ltP_trans (hp.2.2 x hx' z (by simp)) hz1
        · exact hz1
    have hb' : b = n ∨ b ∈ B := by simpa using hb
    rcases hb' with rfl | hb'
    · exact hlast a ha
    · exact hAB.2.2 a ha b hb'
theorem InsI.stop0 {G : Nat → Int × Int} {n : Nat} {M : List Nat} (h : InsI G n 0 M) : SrtI G (n + 1) M := h.done fun _ _ _ _ h => by omega
theorem InsI.at {G : Nat → Int × Int} {n k : Nat} {M : List Nat} (h : InsI G n (k + 1) M) : ∃ A B a, M = A ++ a :: n :: B ∧ A.length = k ∧ a < n := by
  obtain ⟨A, B, rfl, hA, hS, hB⟩ := h
  rcases List.eq_nil_or_concat A with rfl | ⟨A', z, rfl⟩
  · simp at hA
  · exact ⟨A', B, z, by simp, by simpa using hA, hS.lt (by simp)⟩
def gN (M : List Nat) (k : Nat) : Nat := M[k]?.getD 0
theorem gN_lt {M : List Nat} {k : Nat} (h : k < M.length) : M[k]? = some (gN M k) := by unfold gN; simp [h]
theorem gN_mem {M : List Nat} {k : Nat} (h : k < M.length) : gN M k ∈ M := List.mem_of_getElem? (gN_lt h)
theorem gN_mid (A B : List Nat) (a n : Nat) : gN (A ++ a :: n :: B) A.length = a ∧ gN (A ++ a :: n :: B) (A.length + 1) = n := by unfold gN; simp
theorem InsI.stop {G : Nat → Int × Int} {n k : Nat} {M : List Nat} (h : InsI G n (k + 1) M) (hb : bfP (G (gN M (k + 1))) (G (gN M k)) = false) : SrtI G (n + 1) M := by
  refine h.done fun A B a hM hA => ?_
  obtain ⟨A2, B2, a2, hM2, hA2, hlt⟩ := h.at
  have e := hM.symm.trans hM2
  obtain ⟨rfl, e2⟩ := List.append_inj e (by omega)
  obtain ⟨rfl, -⟩ := List.cons.inj e2
  rw [hM, ← hA2, (gN_mid A B a n).1, (gN_mid A B a n).2, ← ltP_bf hlt] at hb
  exact hb
theorem InsI.swap {G : Nat → Int × Int} {n k : Nat} {M : List Nat} (h : InsI G n (k + 1) M) (hb : bfP (G (gN M (k + 1))) (G (gN M k)) = true) :
    InsI G n k ((M.set (k + 1) (gN M k)).set k (gN M (k + 1))) := by
  obtain ⟨A, B, hM, hA, hS, hB⟩ := h
  obtain ⟨A2, B2, a, hM2, hA2, hlt⟩ := InsI.at ⟨A, B, hM, hA, hS, hB⟩
  have e := hM.symm.trans hM2
  rw [show A2 ++ a :: n :: B2 = (A2 ++ [a]) ++ n :: B2 by simp] at e
  obtain ⟨rfl, e2⟩ := List.append_inj e (by simp; omega)
  obtain ⟨-, rfl⟩ := List.cons.inj e2
  subst hM2
  rw [← hA2, (gN_mid A2 B a n).1, (gN_mid A2 B a n).2] at hb ⊢
  rw [← ltP_bf hlt] at hb
  refine ⟨A2, a :: B, ?_, rfl, by simpa using hS, fun b hb' => ?_⟩
  · simp
  · have : b = a ∨ b ∈ B := by simpa using hb'
    rcases this with rfl | h
    · exact hb
    · exact hB b h
theorem InsI.ltbf {G : Nat → Int × Int} {n k : Nat} {M : List Nat} (h : InsI G n (k + 1) M) : ltP G (gN M (k + 1)) (gN M k) = bfP (G (gN M (k + 1))) (G (gN M k)) := by
  obtain ⟨A, B, a, rfl, rfl, hlt⟩ := h.at
  rw [(gN_mid A B a n).1, (gN_mid A B a n).2]
  exact ltP_bf hlt
theorem gN_app {M R : List Nat} {k : Nat} (h : k < M.length) : gN (M ++ R) k = gN M k := by unfold gN; rw [List.getElem?_append_left h]
/-- the sort's list when i indices are in order; when index i goes down to place k -/
def DI (G : Nat → Int × Int) (n i : Nat) (D : List Nat) : Prop := ∃ L, D = L ++ List.range' (min i n) (n - min i n) ∧ SrtI G (min i n) L
def DJ (G : Nat → Int × Int) (n i k : Nat) (D : List Nat) : Prop := i < n ∧ ∃ M, D = M ++ List.range' (i + 1) (n - i - 1) ∧ InsI G i k M
theorem DI.start (G : Nat → Int × Int) (n : Nat) : DI G n 1 (List.range n) := by
  cases n with
  | zero => exact ⟨[], rfl, SrtI.start G⟩
  | succ n =>
    rw [DI, show min 1 (n + 1) = 1 by omega]
    refine ⟨[0], ?_, ⟨.refl _, by simp⟩⟩
    rw [List.range_eq_range', List.range'_succ]
    simp
theorem DI.done {G : Nat → Int × Int} {n i : Nat} {D : List Nat} (h : DI G n i D) (hi : n ≤ i) : SrtI G n D := by
  obtain ⟨L, rfl, hS⟩ := h
  rw [show min i n = n by omega] at *
  simpa using hS
theorem DI.len {G : Nat → Int × Int} {n i : Nat} {D : List Nat} (h : DI G n i D) : D.length = n := by
  obtain ⟨L, rfl, hS⟩ := h
  have := hS.len
  simp; omega
theorem DJ.start {G : Nat → Int × Int} {n i : Nat} {D : List Nat} (h : DI G n i D) (hi : i < n) : DJ G n i i D := by
  obtain ⟨L, rfl, hS⟩ := h
  rw [show min i n = i by omega] at *
  refine ⟨hi, L ++ [i], ?_, InsI.start hS⟩
  obtain ⟨m, hm⟩ : ∃ m, n - i = m + 1 := ⟨n - i - 1, by omega⟩
  rw [hm, List.range'_succ]
  simp
theorem DJ.le {G : Nat → Int × Int} {n i k : Nat} {D : List Nat} (h : DJ G n i k D) : k ≤ i := by obtain ⟨_, M, rfl, hI⟩ := h; exact hI.le
theorem DJ.get {G : Nat → Int × Int} {n i k : Nat} {D : List Nat} (h : DJ G n i k D) (j : Nat) (hj : j ≤ i) : gN D j < n := by
  obtain ⟨h1, M, rfl, hI⟩ := h
  have := hI.len
  rw [gN_app (by omega)]
  have := hI.lt (gN_mem (show j < M.length by omega))
  omega
theorem DJ.fin {G : Nat → Int × Int} {n i : Nat} {M : List Nat} (hi : i < n) (h : SrtI G (i + 1) M) : DI G n (i + 1) (M ++ List.range' (i + 1) (n - i - 1)) := by
  refine ⟨M, ?_, ?_⟩
  · rw [show min (i + 1) n = i + 1 by omega, show n - (i + 1) = n - i - 1 by omega]
  · rw [show min (i + 1) n = i + 1 by omega]; exact h
theorem DJ.stop0 {G : Nat → Int × Int} {n i : Nat} {D : List Nat} (h : DJ G n i 0 D) : DI G n (i + 1) D := by
  obtain ⟨h1, M, rfl, hI⟩ := h
  exact DJ.fin h1 hI.stop0
theorem DJ.stop {G : Nat → Int × Int} {n i k : Nat} {D : List Nat} (h : DJ G n i (k + 1) D) (hb : ltP G (gN D (k + 1)) (gN D k) = false) : DI G n (i + 1) D := by
  obtain ⟨h1, M, rfl, hI⟩ := h
  have hl := hI.len
  have := hI.le
  rw [gN_app (by omega), gN_app (by omega), hI.ltbf] at hb
  exact DJ.fin h1 (hI.stop hb)
theorem DJ.swap {G : Nat → Int × Int} {n i k : Nat} {D : List Nat} (h : DJ G n i (k + 1) D) (hb : ltP G (gN D (k + 1)) (gN D k) = true) :
    DJ G n i k ((D.set (k + 1) (gN D k)).set k (gN D (k + 1))) := by
  obtain ⟨h1, M, rfl, hI⟩ := h
  have hl := hI.len
  have hle := hI.le
  rw [gN_app (by omega), gN_app (by omega), hI.ltbf] at hb
  refine ⟨h1, _, ?_, hI.swap hb⟩
  rw [gN_app (by omega), gN_app (by omega), List.set_append_left _ _ (by omega), List.set_append_left _ _ (by simp; omega)]
/-- the comparison of package vector -/
def orI (x y z : Int) : Int := if x ≠ 0 then x else if y ≠ 0 then y else z
def cfP (G : Nat → Int × Int) (x y : Nat) : Int := orI (cmI (G x).1 (G y).1) (cmI (G x).2 (G y).2) (cmI x y)
theorem cfP_lt (G : Nat → Int × Int) (x y : Nat) : decide (cfP G x y < 0) = ltP G x y := by
  rw [Bool.eq_iff_iff, decide_eq_true_iff, ltP_iff]
  unfold cfP orI cmI
  by_cases h1 : (G x).1 < (G y).1
  · simp [h1]
  · by_cases h2 : (G y).1 < (G x).1
    · simp [h1, h2]; omega
    · by_cases h3 : (G x).2 < (G y).2
      · simp [h1, h2, h3]; omega
      · by_cases h4 : (G y).2 < (G x).2
        · simp [h1, h2, h3, h4]; omega
        · by_cases h5 : x < y
          · simp [h1, h2, h3, h4, h5]; omega
          · simp [h1, h2, h3, h4, h5]; split <;> omega
def encN (n : Nat) : Value := .int .i64 n
/-- a slice of ints holds a list -/
def InL (w : World) (v : Value) (L : List Nat) : Prop :=
  (L = [] ∧ ∃ p c, v = .slice p 0 c) ∨ ∃ g o c, v = .slice (some ⟨g, o, none⟩) L.length c ∧ g < w.heap.size ∧ ∀ j, j < L.length → w.cell? ⟨g, o + j, none⟩ = some (.int .i64 (gN L j))
theorem InL.kp {w W : World} {v : Value} {L : List Nat} (h : InL w v L) (k : Kp [] w W) : InL W v L := by
  rcases h with h | ⟨g, o, c, hv, hg, hc⟩
  · exact .inl h
  · refine .inr ⟨g, o, c, hv, Nat.lt_of_lt_of_le hg k.size, fun j hj => ?_⟩
    rw [World.cell?_of_block (k.block g hg (by simp))]
    exact hc j hj
theorem InL.len {w : World} {v : Value} {L : List Nat} (h : InL w v L) : ∃ p c, v = .slice p L.length c := by
  rcases h with ⟨rfl, p, c, hv⟩ | ⟨g, o, c, hv, _⟩
  · exact ⟨p, c, hv⟩
  · exact ⟨_, c, hv⟩
theorem InL.of_own {w : World} {base n : Nat} {T : TypeId} {v : Value} {L : List Nat} (h : w.ownsRow base T 1 v n (L.map encN)) : InL w v L := by
  have hl : L.length = n := by have := h.1; simp at this; omega
  rcases h.2 with ⟨hv, hn⟩ | ⟨g, cap, cur, hv, hb, hg, hle, hm, hs, ht⟩
  · refine .inl ⟨?_, _, _, hv⟩
    cases L
    · rfl
    · simp at hl; omega
  · refine .inr ⟨g, 0, cap, by rw [hl]; exact hv, (Array.getElem?_eq_some_iff.1 hg).1, fun j hj => ?_⟩
    have hh : w.ownsRow base T 1 (.slice (some ⟨g, 0, none⟩) n cap) n (L.map encN) := by rw [← hv]; exact h
    have := hh.cellAt j (by omega)
    rw [Nat.zero_add, this]
    simp [gN_lt hj, encN]

end Go.Proofs.YtegamkilhgekjaaGreatDoor
