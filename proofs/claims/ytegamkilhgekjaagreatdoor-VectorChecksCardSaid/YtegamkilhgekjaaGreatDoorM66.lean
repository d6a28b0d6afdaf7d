/- Texts Vspl1, Vspl2, Vspl3, OpenPts: each says in its own first comment what it proves. -/
import Derived.Test.YtegamkilhgekjaaGreatDoorM61
import Derived.Test.YtegamkilhgekjaaGreatDoorM62
import Derived.Test.YtegamkilhgekjaaGreatDoorM46
import Derived.Test.YtegamkilhgekjaaGreatDoorM38
import Derived.Test.YtegamkilhgekjaaGreatDoorM42
import Derived.Test.YtegamkilhgekjaaGreatDoorM26
import Derived.Test.YtegamkilhgekjaaGreatDoorM24
import Derived.Test.YtegamkilhgekjaaGreatDoorM22
import Derived.Test.YtegamkilhgekjaaGreatDoorM05
import Derived.Test.YtegamkilhgekjaaGreatDoorM11
import Derived.Test.YtegamkilhgekjaaGreatDoorM12
import Derived.OwnWalk
import Derived.Test.YtegamkilhgekjaaGreatDoorM08
import Derived.Test.YtegamkilhgekjaaGreatDoorM04
import Derived.Test.YtegamkilhgekjaaGreatDoorM06
import Derived.Test.YtegamkilhgekjaaGreatDoorM41
import Derived.Test.YtegamkilhgekjaaGreatDoorM55
import Derived.Test.YtegamkilhgekjaaGreatDoorM56
import Derived.RangeFuncNested
import Derived.RangeFuncBound
import Derived.RangeFuncCalls
import Derived.RangeFuncLeaves
import Derived.RangeFuncBox
import Derived.OwnWalkIn
import Derived.TacticsInMore
import Derived.LoopNIn
import Derived.LoopIn
import Derived.Shelf.RegionOpen
import Derived.Deep.SlicePairs
import Derived.ChangeArms
/- pairs.Around at points; vector.Area. -/
namespace Go.Proofs.YtegamkilhgekjaaGreatDoor
open Go.RowKit
open Go.Lib (nDigits itoa decDigits)

attribute [local go_sem] Oper.semAt_some
/-- two points next to each other, in their bounds -/
def PB (p : Int × Int) : Prop := p.1.natAbs ≤ 100000 ∧ p.2.natAbs ≤ 100000
abbrev PP := { x : (Int × Int) × (Int × Int) // PB x.1 ∧ PB x.2 }
/-- what the iterator reads lies as it lay -/
def Kq (L : List Nat) (X Y : World) : Prop := ∀ b ∈ L, Y.heap[b]? = X.heap[b]?
theorem Kq.refl (L : List Nat) (X : World) : Kq L X X := fun _ _ => rfl
theorem Kq.trans {L : List Nat} {X Y Z : World} (h : Kq L X Y) (k : Kq L Y Z) : Kq L X Z := fun b hb => (k b hb).trans (h b hb)
theorem Kq.cell {L : List Nat} {X Y : World} (h : Kq L X Y) {b : Nat} (hb : b ∈ L) (i : Nat) : Y.cell? ⟨b, i, none⟩ = X.cell? ⟨b, i, none⟩ := by
  unfold World.cell?
  simp only [h b hb]
theorem Kq.alloc {L : List Nat} {X Y : World} (h : Kq L X Y) (hL : ∀ b ∈ L, b < Y.heap.size) (o : Obj) : Kq L X (Y.alloc o) := fun b hb => (Below.heap_alloc Y o b (hL b hb)).trans (h b hb)
theorem Kq.drew {L : List Nat} {X Y : World} (h : Kq L X Y) : Kq L X Y.drew := h
theorem Kq.kp {L : List Nat} {X Y Z : World} (h : Kq L X Y) (hL : ∀ b ∈ L, b < Y.heap.size) (k : Kp [] Y Z) : Kq L X Z := fun b hb => (k.block b (hL b hb) (by simp)).trans (h b hb)
theorem Kq.set {L : List Nat} {X Y : World} (h : Kq L X Y) (a : Addr) (ha : a.block ∉ L) (u : Value) : Kq L X (Y.setCell a u) := fun b hb => (Below.heap_setCell Y a u b (fun e => ha (e ▸ hb))).trans (h b hb)
/-- the first k of f 0, f 1, .. -/
def upto {α : Type} (f : Nat → α) (k : Nat) : List α := (List.range k).map f
theorem upto_succ {α : Type} (f : Nat → α) (k : Nat) : upto f (k + 1) = upto f k ++ [f k] := by simp [upto, List.range_succ]
theorem upto_length {α : Type} (f : Nat → α) (k : Nat) : (upto f k).length = k := by simp [upto]
def encP (x : PP) : Array Value := #[.agg #[.int .i64 x.1.1.1, .int .i64 x.1.1.2], .agg #[.int .i64 x.1.2.1, .int .i64 x.1.2.2]]

set_option maxRecDepth 100000 in
set_option maxHeartbeats 4000000 in
theorem around_c (sp : Option Addr) (n c : Nat) (w : World) : Calls Tryz.prog 57 #[.slice sp n c] w fun e w' => e = .returned (.func (.func 113) #[] #[.pointer (some ⟨w.heap.size, 0, none⟩)]) ∧ w' = w.alloc (.cells #[.slice sp n c] 22 (0, 0)) := by
  go_enter Tryz.func57, Tryz.ntmps57
  go_wp2
  go_ret
  exact ⟨rfl, rfl⟩

set_option maxRecDepth 100000 in
set_option maxHeartbeats 4000000 in
theorem around1 (n : Nat) (hn : 1 ≤ n) (l bs b off cap : Nat) (N : Nat) (hN : N ≤ 64) (f : Nat → PP) (g : Nat → Int × Int) (J Jx : List PP → World → Prop) (W : World) (hJ : AbidesFrom W.heap.size J)
    (hf : ∀ j, j < N → (f j).1 = (g j, g ((j + 1) % N)))
    (hb : b < W.heap.size) (hbs : bs < W.heap.size)
    (hY : ∀ pre (x : PP) W1, J pre W1 → pre.length < N → YieldAt Fence.wide (n - 1) Tryz.prog l (encP x) W1 fun e W' =>
      (e = .returned (.bool true) ∧ J (pre ++ [x]) W' ∧ (Kq [b, bs] W1 W' ∧ W1.heap.size ≤ W'.heap.size)) ∨ (e = .returned (.bool false) ∧ Jx (pre ++ [x]) W'))
    (hB : W.cell? ⟨bs, 0, none⟩ = some (.slice (some ⟨b, off, none⟩) N cap)) (hc : ∀ j, j < N → W.cell? ⟨b, off + j * 2, none⟩ = some (.int .i64 (g j).1) ∧ W.cell? ⟨b, off + j * 2 + 1, none⟩ = some (.int .i64 (g j).2)) (h0 : J [] W) :
    CallsIn Fence.wide n Tryz.prog 113 #[.func (.yield l) #[] #[], .pointer (some ⟨bs, 0, none⟩)] W fun e W' => (∃ v, e = .returned v) ∧
      ((∃ ys, ys = upto f N ∧ J ys W') ∨ (∃ pre, (∃ k, k ≤ N ∧ pre = upto f k) ∧ Jx pre W')) := by
  have hro : Fence.wide.round = none := rfl
  have hN1 : (N : Int) ≤ 64 := by omega
  refine callsIn_of_wp Tryz.func113 rfl trivial ?_ hro
  simp only [Tryz.ntmps113, List.size_toArray, List.length_cons, List.length_nil, Nat.reduceAdd, Nat.reduceSub, Array.replicate_succ, Array.replicate_zero, List.push_toArray, List.append_toArray, List.nil_append, List.cons_append]
  gi_wp2
  gi_loopw [7] (fun i wr => ∃ k : Nat, k ≤ N ∧ i = .int .i64 k ∧ J (upto f k) wr ∧ (Kq [b, bs] W wr ∧ W.heap.size ≤ wr.heap.size))
    (fun i _ => N - (intOf i).toNat)
  case atStart => exact ⟨0, Nat.zero_le _, rfl, h0, Kq.refl _ _, Nat.le_refl _⟩
  case round =>
    obtain ⟨k, hk, rfl, hJs, hq, hsz⟩ := hrel
    by_cases hlt : k < N
    · obtain ⟨j, hj⟩ : ∃ j, j = (k + 1) % N := ⟨_, rfl⟩
      have hjn : j < N := by rw [hj]; exact Nat.mod_lt _ (by omega)
      have hmod : ((k : Int) + 1) % (N : Int) = (j : Int) := by
        rw [hj]; simp
      have hz1 : 0 ≤ (k : Int) := by omega
      obtain ⟨c0, c1⟩ := hc k hlt
      obtain ⟨d0, d1⟩ := hc j hjn
      rw [← hq.cell (by simp)] at c0 c1 d0 d1
      have cb := (hq.cell (b := bs) (by simp) 0).trans hB
      have hfk := hf k hlt
      rw [← hj] at hfk
      have hpl : (upto f k).length < N := by rw [upto_length]; exact hlt
      have hJ1 := hJ _ _ ((wr.alloc (.cells #[.int .i64 (g k).1, .int .i64 (g k).2] 49 (0, 0))).drew) none hJs ⟨rfl, rfl, rfl, by simp, fun i hi _ => Below.heap_alloc _ _ _ hi⟩ (fun r e => by cases e)
      obtain ⟨fn, tmps, assign, body, hy, hR⟩ := hY _ (f k) _ hJ1 hpl
      unfold encP at hy
      rw [hfk] at hy
      dsimp only at hy
      have hlt' : (k : Int) < (N : Int) := by omega
      have hjn' : (j : Int) < (N : Int) := by omega
      have hL : ∀ x ∈ [b, bs], x < wr.heap.size := fun x hx => by simp at hx; omega
      generalize (g k).1 = x1 at *
      generalize (g k).2 = x2 at *
      generalize (g j).1 = y1 at *
      generalize (g j).2 = y2 at *
      have e0 := PtB.made wr x1 x2
      have e1 := e0.c0
      have e2 := e0.c1
      clear e0 hc hf hB hJ
      clear hpl hj
      have hmx : Tryz.prog.follows .mixedOrders = true := by kernel_rfl
      gi_wp2
      replace hR := hR.mono (R' := fun e W' => ∃ r : Bool, e = .returned (.bool r) ∧ ((r = true ∧ J (upto f k ++ [f k]) W' ∧ (Kq [b, bs] (wr.alloc (.cells #[.int .i64 x1, .int .i64 x2] 49 (0, 0))).drew W' ∧ (wr.alloc (.cells #[.int .i64 x1, .int .i64 x2] 49 (0, 0))).drew.heap.size ≤ W'.heap.size)) ∨ (r = false ∧ Jx (upto f k ++ [f k]) W'))) (fun e W' h => by
        rcases h with ⟨h1, h2⟩ | ⟨h1, h2⟩
        · exact ⟨true, h1, .inl ⟨rfl, h2⟩⟩
        · exact ⟨false, h1, .inr ⟨rfl, h2⟩⟩)
      gi_region_with_o (refine hR.mono ?_; rintro e W3 ⟨r, rfl, hr⟩)
      all_goals (clear hmx hmod e1 e2 c0 c1 d0 d1 hy hR hY)
      all_goals (rcases hr with ⟨rfl, hJ3, hq3, hs3⟩ | ⟨rfl, hJ3⟩)
      all_goals gi_wp2
      all_goals first
        | (go_roundw
           case rel =>
             refine ⟨k + 1, by omega, by simp, by rw [upto_succ]; exact hJ3, (hq.trans ((Kq.refl _ wr).alloc hL _)).trans hq3, ?_⟩
             have h4 : wr.heap.size ≤ W3.heap.size := Nat.le_trans (by simp) hs3
             omega
           case measure => simp [intOf]; omega)
        | (refine bodyPost_ret (results_none rfl _ _ _) rfl ?_
           exact ⟨⟨_, rfl⟩, .inr ⟨_, ⟨k + 1, by omega, (upto_succ _ _).symm⟩, hJ3⟩⟩)
        | skip
    · obtain rfl : k = N := by omega
      clear hY hf hc hJ hB
      gi_wp2
      go_end0
      exact ⟨⟨_, rfl⟩, .inl ⟨_, rfl, hJs⟩⟩

end Go.Proofs.YtegamkilhgekjaaGreatDoor

/- vector.Area. -/
namespace Go.Proofs.YtegamkilhgekjaaGreatDoor
open Go.RowKit
open Go.Lib (nDigits itoa decDigits)

attribute [local go_sem] Oper.semAt_some
set_option maxRecDepth 100000 in
set_option maxHeartbeats 4000000 in
theorem around1_nil (n : Nat) (l bs cap : Nat) (sp : Option Addr) (J : List PP → World → Prop) (W : World)
    (hB : W.cell? ⟨bs, 0, none⟩ = some (.slice sp 0 cap)) (h0 : J [] W) :
    CallsIn Fence.wide n Tryz.prog 113 #[.func (.yield l) #[] #[], .pointer (some ⟨bs, 0, none⟩)] W fun e W' => (∃ v, e = .returned v) ∧ J [] W' := by
  have hro : Fence.wide.round = none := rfl
  refine callsIn_of_wp Tryz.func113 rfl trivial ?_ hro
  simp only [Tryz.ntmps113, List.size_toArray, List.length_cons, List.length_nil, Nat.reduceAdd, Nat.reduceSub, Array.replicate_succ, Array.replicate_zero, List.push_toArray, List.append_toArray, List.nil_append, List.cons_append]
  gi_wp2
  gi_loopw [7] (fun i wr => i = .int .i64 0 ∧ J [] wr) (fun _ _ => 0)
  case atStart => exact ⟨rfl, h0⟩
  case round =>
    obtain ⟨rfl, hJs⟩ := hrel
    clear hB
    gi_wp2
    go_end0
    exact ⟨⟨_, rfl⟩, hJs⟩
def Ko (L : List Nat) (X Y : World) : Prop := Kq L X Y ∧ X.heap.size ≤ Y.heap.size
theorem Ko.trans {L : List Nat} {X Y Z : World} (h : Ko L X Y) (k : Ko L Y Z) : Ko L X Z := ⟨h.1.trans k.1, Nat.le_trans h.2 k.2⟩
theorem Ko.put {L : List Nat} {w : World} (hL : ∀ b ∈ L, b < w.heap.size) (W : World) (l : Nat) (o o' : Obj) (hl : w.heap.size ≤ l) (_ : W.heap[l]? = some o) (_ : o.isCells = false) (_ : o.isWalk = false) : Ko L W (W.putObj l o') :=
  ⟨fun b hb => World.putObj_heap_other (by have := hL b hb; omega), by simp [World.putObj]⟩
/-- pairs.Around at points: the contract of what it hands back -/
theorem around_stops (n : Nat) (hn : 1 ≤ n) (bs b off cap : Nat) (N : Nat) (hN : N ≤ 64) (sp : Option Addr) (f : Nat → PP) (g : Nat → Int × Int) (w : World) (hf : ∀ j, j < N → (f j).1 = (g j, g ((j + 1) % N)))
    (hp : 0 < N → sp = some ⟨b, off, none⟩) (hb : b < w.heap.size) (hbs : bs < w.heap.size) (hB : w.cell? ⟨bs, 0, none⟩ = some (.slice sp N cap))
    (hc : ∀ j, j < N → w.cell? ⟨b, off + j * 2, none⟩ = some (.int .i64 (g j).1) ∧ w.cell? ⟨b, off + j * 2 + 1, none⟩ = some (.int .i64 (g j).2)) :
    SeqStopsK Fence.wide n Tryz.prog 113 #[.pointer (some ⟨bs, 0, none⟩)] encP (Ko [b, bs]) (fun ys => ys = upto f N) (fun pre => ∃ k, k ≤ N ∧ pre = upto f k) N w := fun l J Jx W hW hJ _ hY h0 => by
  have hB' := (hW.cell (p := ⟨bs, 0, none⟩) hbs).trans hB
  by_cases h : N = 0
  · subst h
    exact (around1_nil n l bs cap sp J W hB' h0).mono fun e W' ⟨he, hj⟩ => ⟨he, .inl ⟨_, rfl, hj⟩⟩
  · rw [hp (by omega)] at hB'
    have hs := hW.size
    exact around1 n hn l bs b off cap N hN f g J Jx W hJ hf (by omega) (by omega) hY hB' (fun j hj => ⟨(hW.cell (p := ⟨b, _, none⟩) hb).trans (hc j hj).1, (hW.cell (p := ⟨b, _, none⟩) hb).trans (hc j hj).2⟩) h0


def crP (x : PP) : Int := x.1.1.1 * x.1.2.2 - x.1.1.2 * x.1.2.1
def sumC (l : List PP) : Int := l.foldl (fun s x => s + crP x) 0
theorem sumC_snoc (l : List PP) (x : PP) : sumC (l ++ [x]) = sumC l + crP x := by simp [sumC]
theorem crP_le (x : PP) : (crP x).natAbs ≤ 20000000000 := by
  obtain ⟨⟨⟨a, b⟩, c, d⟩, ⟨h1, h2⟩, h3, h4⟩ := x
  dsimp only at h1 h2 h3 h4
  have m1 := mul_bd h1 h4
  have m2 := mul_bd h2 h3
  show (a * d - b * c).natAbs ≤ _
  omega
theorem foldC_le (l : List PP) : ∀ s : Int, (l.foldl (fun s x => s + crP x) s).natAbs ≤ s.natAbs + l.length * 20000000000 := by
  induction l with
  | nil => intro s; simp
  | cons x l ih =>
    intro s
    have h := ih (s + crP x)
    have h2 := crP_le x
    rw [List.foldl_cons, List.length_cons]
    omega
theorem sumC_le (l : List PP) : (sumC l).natAbs ≤ l.length * 20000000000 := by
  have := foldC_le l 0
  simpa [sumC] using this
theorem boxed_kp {W W' : World} {B : Nat} {t : TypeId} {v : Value} (h : Boxed W B t v) (k : Kp [] W.drew W') : Boxed W' B t v := (k.block B h.lt (by simp)).trans h
theorem others_kp {W W' : World} (k : Kp [] W.drew W') : KeepsOthers W W' := ⟨k.size, fun i o hi ho => (k.block i (Array.getElem?_eq_some_iff.1 hi).1 (by simp)).trans hi⟩
theorem ptB_own (B : Nat) (x y : Int) {X Y : World} {row : Option Nat} (h : PtB X B x y) (hg : X.grownBy Y row) (hr : ∀ r, row = some r → ∃ o : Obj, X.heap[r]? = some o ∧ o.isCells = false) : PtB Y B x y := (grownBy_keeps_cells hg hr h rfl).trans h

set_option maxRecDepth 100000 in
set_option maxHeartbeats 4000000 in
theorem area1 (bx b off cap N : Nat) (hN : N ≤ 64) (sp : Option Addr) (f : Nat → PP) (g : Nat → Int × Int) (w : World) (hf : ∀ j, j < N → (f j).1 = (g j, g ((j + 1) % N)))
    (hp : 0 < N → sp = some ⟨b, off, none⟩) (hb : b < w.heap.size) (hbx : bx < w.heap.size) (hB : w.cell? ⟨bx, 0, none⟩ = some (.slice sp N cap))
    (hc : ∀ j, j < N → w.cell? ⟨b, off + j * 2, none⟩ = some (.int .i64 (g j).1) ∧ w.cell? ⟨b, off + j * 2 + 1, none⟩ = some (.int .i64 (g j).2)) :
    Calls Tryz.prog 56 #[.pointer (some ⟨bx, 0, none⟩)] w fun e w' => e = .returned (.int .i64 (sumC (upto f N))) ∧ Kp [] w w' := by
  refine (callsIn_wide (n := 5)).1 ?_
  have h1 : 1 ≤ 5 := by omega
  have hmx : Tryz.prog.follows .mixedOrders = true := by kernel_rfl
  refine callsIn_of_wp_marks Tryz.func56 rfl trivial ?_ rfl
  simp only [Tryz.ntmps56, List.size_toArray, List.length_cons, List.length_nil, Nat.reduceAdd, Nat.reduceSub, Array.replicate_succ, Array.replicate_zero, List.push_toArray, List.append_toArray, List.nil_append, List.cons_append]
  have hB1 := (((Below.refl w.heap.size w).alloc (Nat.le_refl _) (.cells #[.int .i64 0] 3 (0, 0))).cell (p := ⟨bx, 0, none⟩) hbx).trans hB
  gi_wp2_with (refine ⟨trivial, ?_⟩; gi_at_call 57; refine (callsIn_wide.2 (around_c _ _ _ _)).mono ?_; rintro e w' ⟨rfl, rfl⟩)
  have bS := Boxed.new w 3 (.int .i64 0)
  have bN := Boxed.new (w.alloc (.cells #[.int .i64 0] 3)) 22 (.slice sp N cap)
  rw [World.size_alloc] at bN
  have hB0 : Below w.heap.size w ((w.alloc (.cells #[.int .i64 0] 3)).alloc (.cells #[.slice sp N cap] 22)) := ((Below.refl _ w).alloc (Nat.le_refl _) _).alloc (by simp) _
  have hcc : ∀ j, j < N → ((w.alloc (.cells #[.int .i64 0] 3)).alloc (.cells #[.slice sp N cap] 22)).cell? ⟨b, off + j * 2, none⟩ = some (.int .i64 (g j).1) ∧ ((w.alloc (.cells #[.int .i64 0] 3)).alloc (.cells #[.slice sp N cap] 22)).cell? ⟨b, off + j * 2 + 1, none⟩ = some (.int .i64 (g j).2) := fun j hj => ⟨(hB0.cell (p := ⟨b, _, none⟩) hb).trans (hc j hj).1, (hB0.cell (p := ⟨b, _, none⟩) hb).trans (hc j hj).2⟩
  refine wpIn_rangeFunc_ownH rfl h1 (gf := 113) (lb := #[.pointer (some ⟨w.heap.size + 1, 0, none⟩)]) rfl trivial (enters_of Tryz.func113 (by kernel_rfl) rfl)
    (around_stops (5 - 1) (by omega) (w.heap.size + 1) b off cap N hN sp f g _ hf hp (by simp; omega) (by simp) bN.cell hcc) Ko.trans (Ko.put (by intro x hx; simp at hx; simp; omega)) (Below.refl _ _) ?hps
    (fun pre W => (Boxed W w.heap.size 3 (.int .i64 (sumC pre)) ∧ w.heap.size + 2 ≤ W.heap.size) ∧ Below w.heap.size w W)
    (fun _ _ _ => False)
    (OwnFrom.and (OwnFrom.and (Own.from (boxed_own _ _ (fun pre => .int .i64 (sumC pre))) _) (fun _ _ _ _ hs hg _ => Nat.le_trans hs hg.size)) (ownFrom_below (Nat.le_refl _) (by simp; omega)))
    (fun _ _ _ _ _ hs _ _ => hs)
    ⟨⟨bS.alloc _, by simp⟩, hB0⟩
    (fun x a' W => ∃ B1 B2, PtB W B1 x.1.1.1 x.1.1.2 ∧ PtB W B2 x.1.2.1 x.1.2.2 ∧ a' = { tmps := #[.pointer (some ⟨bx, 0, none⟩), .int .i64 0, .pointer (some ⟨w.heap.size, 0, none⟩), .pointer (some ⟨B1, 0, none⟩), .pointer (some ⟨B2, 0, none⟩), .slice sp N cap, .func (.func 113) #[] #[.pointer (some ⟨w.heap.size + 1, 0, none⟩)], .agg #[.int .i64 x.1.1.1, .int .i64 x.1.1.2], .agg #[.int .i64 x.1.2.1, .int .i64 x.1.2.2], undef, undef, undef, undef, undef, undef], defers := [] })
    (fun x a' _ X Y row hs hg hr => by obtain ⟨B1, B2, e1, e2, e3⟩ := hs; exact ⟨B1, B2, ptB_own B1 _ _ e1 hg (fun r e => (hr r e).2), ptB_own B2 _ _ e2 hg (fun r e => (hr r e).2), e3⟩)
    ?assign ?body ?done ?stop
  case hps => exact fun _ => rfl
  case assign =>
    rintro l pre x W K ⟨⟨bS1, hz⟩, hB2⟩ hK
    have hL : ∀ y ∈ [b, w.heap.size + 1], y < W.heap.size := fun y hy => by simp at hy; omega
    clear hcc hc hf hb hB hB1 hp
    simp only [encP, List.zip_toArray, List.zip_cons_cons, List.zip_nil_left, List.foldl_toArray, List.foldl_cons, List.foldl_nil, List.setIfInBounds_toArray, List.set_cons_succ, List.set_cons_zero]
    gi_wp2
    have hP := PtB.made (W.alloc (.cells #[.int .i64 x.1.1.1, .int .i64 x.1.1.2] 49 (0, 0))) x.1.2.1 x.1.2.2
    rw [World.size_alloc] at hP
    exact hK _ _ (((KeepsOthers.alloc W _).trans (KeepsOthers.alloc _ _)).from _) ⟨((Kq.refl _ W).alloc hL _).alloc (fun y hy => by have := hL y hy; simp; omega) _, by simp; omega⟩ ⟨⟨(bS1.alloc _).alloc _, by simp; omega⟩, (hB2.alloc hB2.size _).alloc (by have := hB2.size; simp; omega) _⟩ ⟨W.heap.size, W.heap.size + 1, (PtB.made W _ _).alloc _, hP, rfl⟩
  case body =>
    rintro l pre x a' W hl ⟨r, hr⟩ ⟨⟨bS1, hz⟩, hB2⟩ ⟨B1, B2, p1, p2, rfl⟩ hlt
    have hL : ∀ y ∈ [b, w.heap.size + 1], y < W.heap.size := fun y hy => by simp at hy; omega
    have hA : w.heap.size ∉ [b, w.heap.size + 1] := by simp; omega
    have hs := sumC_le pre
    have hs2 := sumC_snoc pre x
    have hv := crP_le x
    have q : Hid (∀ V : World, Calls Tryz.prog 58 #[.agg #[.int .i64 x.1.1.1, .int .i64 x.1.1.2], .agg #[.int .i64 x.1.2.1, .int .i64 x.1.2.2]] V fun e w' => e = .returned (.int .i64 (crP x)) ∧ Kp [] V w') := fun V => vcross _ _ _ _ V (by have := x.2.1.1; omega) (by have := x.2.1.2; omega) (by have := x.2.2.1; omega) (by have := x.2.2.2; omega)
    clear hcc hc hf hb hB hB1 hp hr
    generalize crP x = v at *
    generalize sumC pre = t at *
    generalize x.1.1.1 = x1 at *
    generalize x.1.1.2 = x2 at *
    generalize x.1.2.1 = y1 at *
    generalize x.1.2.2 = y2 at *
    have b1 : -1280000000000 ≤ t := by omega
    have b2 : t ≤ 1280000000000 := by omega
    have b3 : -20000000000 ≤ v := by omega
    have b4 : v ≤ 20000000000 := by omega
    have hs2 := Lib.hid hs2
    clear hs hv hlt
    have cS := bS1.cell
    have fS := bS1.frozen
    have p10 := p1.c0
    have p11 := p1.c1
    have p20 := p2.c0
    have p21 := p2.c1
    gi_wp2
    gi_region_with_o (refine ⟨trivial, ?_⟩; gi_at_call 58; refine (CallsIn.inRound l (callsIn_wide.2 (q.out _))).mono ?_; rintro e w3 ⟨rfl, k⟩; have bS3 := boxed_kp bS1 k; have cS3 := bS3.cell; have fS3 := bS3.frozen)
    all_goals (have hw : IntKind.i64.wrap (t + v) = t + v := IntWalk.i64_in _ ⟨by omega, by omega⟩)
    all_goals rw [hw]
    all_goals gi_wp2
    all_goals
      have hz3 : W.heap.size ≤ w3.heap.size := k.size
      have hz4 : (w3.setCell ⟨w.heap.size, 0, none⟩ (.int .i64 (t + v))).heap.size = w3.heap.size := by simp [World.setCell]
      refine ⟨((others_kp k).trans (KeepsOthers.setCell _ _ _)).from _, ⟨((Kq.refl _ W).drew.kp hL k).set _ hA _, by rw [hz4]; exact hz3⟩, ⟨by rw [hs2.out]; exact bS3.set _, by rw [hz4]; omega⟩, ?_⟩
      exact (hB2.drew.trans (k.below (fun _ h => by cases h) hB2.size)).setCell (p := ⟨w.heap.size, 0, none⟩) (Nat.le_refl _) _
  case done =>
    rintro D ys W hD rfl ⟨⟨bS1, hz⟩, hB2⟩ hK
    have cS := bS1.cell
    clear hcc hc hf hb hB hB1 hp
    gi_wp2
    refine ⟨by simp, .inl ⟨_, _, rfl, run_takeDeferred hK, ?_⟩⟩
    exact ⟨_, results_tmp rfl _ _ _, rfl, Kp.of_below (hB2.trans (belowK_b (w := w) (Nat.le_refl _) W D _ _ (by simp at hD; omega) hK rfl rfl))⟩
  case stop =>
    rintro D c pre W _ _ h _
    exact h.elim

end Go.Proofs.YtegamkilhgekjaaGreatDoor

/- vector.Area for points in bounds. -/
namespace Go.Proofs.YtegamkilhgekjaaGreatDoor
open Go.RowKit
open Go.Lib (nDigits itoa decDigits)

/-- the j-th point -/
def gP (ps : List (Int × Int)) (j : Nat) : Int × Int := ps[j]?.getD (0, 0)
theorem gP_pb {ps : List (Int × Int)} (h : ∀ p ∈ ps, PB p) (j : Nat) : PB (gP ps j) := by
  unfold gP
  rcases hj : ps[j]? with _ | p
  · exact ⟨by simp, by simp⟩
  · exact h _ (List.mem_of_getElem? hj)
def fP (ps : List (Int × Int)) (h : ∀ p ∈ ps, PB p) (j : Nat) : PP := ⟨(gP ps j, gP ps ((j + 1) % ps.length)), gP_pb h _, gP_pb h _⟩
theorem gP_lt {ps : List (Int × Int)} {j : Nat} (h : j < ps.length) : gP ps j = ps[j] := by unfold gP; simp [h]
/-- the area's sum; the sum of the turns about a point -/
def arS (g : Nat → Int × Int) (n : Nat) : Nat → Int
  | 0 => 0
  | k + 1 => arS g n k + ((g k).1 * (g ((k + 1) % n)).2 - (g k).2 * (g ((k + 1) % n)).1)
theorem sumC_arS (ps : List (Int × Int)) (h : ∀ p ∈ ps, PB p) (k : Nat) : sumC (upto (fP ps h) k) = arS (gP ps) ps.length k := by
  induction k with
  | zero => rfl
  | succ k ih => rw [upto_succ, sumC_snoc, ih]; rfl
theorem ckP_ok {ps : List (Int × Int)} (h : ∀ p ∈ ps, PB p) (hn : ps.length ≤ 64) : ckP ps = 0 := by
  unfold ckP
  rw [if_neg (by omega), if_pos]
  refine List.all_eq_true.2 fun p hp => ?_
  have := h p hp
  unfold PB at this
  unfold inP
  rw [Bool.and_eq_true, inB_iff, inB_iff]
  omega
theorem Pts.kp0 {w W : World} {g o : Nat} {ps : List (Int × Int)} {p : Option Addr} (h : Pts w g o ps) (hp : 0 < ps.length → p = some ⟨g, o, none⟩ ∧ g < w.heap.size) (k : Kp [] w W) : Pts W g o ps := fun i hi => h.kp (hp (by omega)).2 k i hi

set_option maxRecDepth 100000 in
set_option maxHeartbeats 4000000 in
theorem area_c (g o c : Nat) (p : Option Addr) (ps : List (Int × Int)) (w : World) (hs : Pts w g o ps) (hp : 0 < ps.length → p = some ⟨g, o, none⟩ ∧ g < w.heap.size) (hn : ps.length ≤ 64) (hb : ∀ p ∈ ps, PB p) :
    Calls Tryz.prog 14 #[.slice p ps.length c] w fun e w' => e = .returned (.tuple #[.int .i64 (arS (gP ps) ps.length ps.length), .int .i64 0]) ∧ Kp [] w w' := by
  obtain ⟨w1, hw1⟩ : ∃ w1, w1 = w.alloc (.cells #[.slice p ps.length c] 22 (0, 0)) := ⟨_, rfl⟩
  have bx : Boxed w1 w.heap.size 22 (.slice p ps.length c) := by rw [hw1]; exact Boxed.new w _ _
  have kk : Kp [] w w1 := by rw [hw1]; exact (Kp.refl _ _).alloc _
  have hp1 : 0 < ps.length → p = some ⟨g, o, none⟩ ∧ g < w1.heap.size := fun h => ⟨(hp h).1, Nat.lt_of_lt_of_le (hp h).2 kk.size⟩
  have hs1 : Pts w1 g o ps := hs.kp0 hp kk
  have qc := Lib.hid (vCheck g o c p ps w1 hs1 hp1 (by omega))
  rw [ckP_ok hb hn] at qc
  have qr : Hid (∀ W : World, Kp [] w1 W → Calls Tryz.prog 55 #[.int .i64 0, .func (.func 56) #[] #[.pointer (some ⟨w.heap.size, 0, none⟩)]] W fun e w' => e = .returned (.tuple #[.int .i64 (arS (gP ps) ps.length ps.length), .int .i64 0]) ∧ Kp [] W w') := fun W k => by
    refine vresult_0 56 _ _ W (enters_of Tryz.func56 (by kernel_rfl) rfl) (Lib.hid ?_)
    have hz : w.heap.size < W.heap.size := Nat.lt_of_lt_of_le bx.lt k.size
    have hB : W.cell? ⟨w.heap.size, 0, none⟩ = some (.slice p ps.length c) := (show Boxed W w.heap.size 22 (.slice p ps.length c) from (k.block _ bx.lt (by simp)).trans bx).cell
    have hsW : Pts W g o ps := hs1.kp0 hp1 k
    rw [← sumC_arS ps hb]
    have hcc : ∀ j, j < ps.length → W.cell? ⟨g, o + j * 2, none⟩ = some (.int .i64 (gP ps j).1) ∧ W.cell? ⟨g, o + j * 2 + 1, none⟩ = some (.int .i64 (gP ps j).2) := fun j hj => by rw [gP_lt hj]; exact hsW j hj
    by_cases h0 : ps.length = 0
    · exact area1 w.heap.size w.heap.size o c ps.length hn p (fP ps hb) (gP ps) W (fun _ _ => rfl) (fun h => by omega) hz hz hB (fun j hj => by omega)
    · exact area1 w.heap.size g o c ps.length hn p (fP ps hb) (gP ps) W (fun _ _ => rfl) (fun h => (hp1 h).1) (Nat.lt_of_lt_of_le (hp1 (by omega)).2 k.size) hz hB hcc
  have cB := bx.cell
  generalize arS (gP ps) ps.length ps.length = v at *
  generalize hN : ps.length = N at *
  clear hs1 hp1 hs hp hb bx
  subst hw1
  go_enter Tryz.func14, Tryz.ntmps14
  go_wp2_with fail
  with_reducible refine qc.out.mono ?_
  rintro e w2 ⟨rfl, k⟩
  go_wp2_with fail
  with_reducible refine (qr.out _ k).mono ?_
  rintro e w3 ⟨rfl, k3⟩
  replace kk := (kk.trans k).trans k3
  clear k k3 qr qc cB
  go_wp2
  go_ret2
  exact ⟨rfl, kk⟩

end Go.Proofs.YtegamkilhgekjaaGreatDoor

/- A slice of structs of two ints, opened: its elements are pairs of ints; the nil slice and an empty one too. -/
namespace Go.Proofs.YtegamkilhgekjaaGreatDoor
open Go.ChangeShapes Go.WideShapes Go.RowKit

theorem open_points {H : Type} {enc : TypeId × Value → H} {P : Program} {w : World} {base : Nat} {spare : Nat → Bool} {held : Bool} {t e : TypeId} {f0 f1 : Field} {fuel : Nat} {cs : List Value} {x : DataW H × List MemPlace} (ht : P.underlying t = some (.slice e)) (he : P.underlying e = some (.struct #[f0, f1]))
    (ce : P.cellsOf e = 2) (o0 : f0.offset = 0) (o1 : f1.offset = 1) (c0 : P.cellsOf f0.type = 1) (c1 : P.cellsOf f1.type = 1) (i0 : P.underlying f0.type = some (.int .i64)) (i1 : P.underlying f1.type = some (.int .i64))
    (h : DataW.trod enc P w base spare held fuel t cs = some x) :
    ∃ (sp : Option Addr) (g o cap : Nat) (ps : List (Int × Int)), cs = [.slice sp ps.length cap] ∧ Pts w g o ps ∧ (0 < ps.length → sp = some ⟨g, o, none⟩ ∧ g < w.heap.size) ∧ ps.length ≤ maxLen := by
  rcases Go.Deep.open_slice_pairs ht he ce o0 o1 c0 c1 h with ⟨rfl, _⟩ | ⟨a, len, cap, m, n, V0, V1, D0, D1, P0, P1, rfl, hb, hl, hm, hmm, _, hx⟩
  · exact ⟨none, 0, 0, 0, [], rfl, fun i hi => absurd hi (by simp), fun h => absurd h (by simp), by simp⟩
  · have hlm : len ≤ m := by rw [hmm]; split <;> omega
    have each : ∀ i, i < m → ∃ z : Int × Int, V0 i = .int .i64 z.1 ∧ V1 i = .int .i64 z.2 := fun i hi => by
      obtain ⟨_, _, h0, h1⟩ := hx i hi
      obtain ⟨z0, e0, _⟩ := DataW.trod_int i0 h0
      obtain ⟨z1, e1, _⟩ := DataW.trod_int i1 h1
      exact ⟨(z0, z1), by simpa using e0, by simpa using e1⟩
    obtain ⟨Z, hZ⟩ := Go.Deep.choose_lt each
    obtain ⟨b, off, spot⟩ := a
    have hsp : 0 < len → spot = none ∧ b < w.heap.size := fun h => by
      have h1 := (hx 0 (by omega)).1
      exact ⟨by simpa [Addr.add] using World.cell?_spot h1, World.block_lt_of_cell? w _ h1⟩
    refine ⟨some ⟨b, off, spot⟩, b, off, cap, (List.range len).map Z, by simp, fun i hi => ?_, fun h => ?_, by simp; omega⟩
    · have hi' : i < len := by simpa using hi
      obtain ⟨rfl, _⟩ := hsp (by omega)
      obtain ⟨h0, h1, _, _⟩ := hx i (by omega)
      obtain ⟨e0, e1⟩ := hZ i (by omega)
      rw [add_plain, e0] at h0
      rw [add_plain, e1] at h1
      rw [List.getElem_map, List.getElem_range]
      exact ⟨h0, by rw [Nat.add_assoc]; exact h1⟩
    · obtain ⟨h1, h2⟩ := hsp (by simpa using h)
      exact ⟨by rw [h1], h2⟩
end Go.Proofs.YtegamkilhgekjaaGreatDoor
