/- Package grades: classes, as an iterator. -/
import Derived.Test.YthifdgddegpbjaaDoorG10
import Derived.RangeFuncNested
import Derived.RangeFuncBound
import Derived.RangeFuncCalls
import Derived.RangeFuncLeaves
import Derived.RangeFuncBox
import Derived.OwnWalkIn
import Derived.TacticsInMore
import Derived.LoopNIn
import Derived.LoopIn
import Derived.Shelf.RegionOpen
import Derived.Lib.OthersKept
namespace Go.Proofs.YthifdgddegpbjaaDoor
open Go.RowKit

attribute [local go_sem] Oper.semAt_some
/-- a class: hole, letter, grade less 5 -/
abbrev CL := { x : Bool × Nat × Nat // x.2.1 < 10 ∧ x.2.2 < 8 }
def encC (x : CL) : Array Value := #[.agg #[.bool x.1.1, .int .i64 (x.1.2.1 : Int), .int .i64 (5 + (x.1.2.2 : Int))]]
def cl (j : Nat) : CL := ⟨(decide (80 ≤ j), j % 80 / 8, j % 8), by show j % 80 / 8 < 10; omega, by show j % 8 < 8; omega⟩
def upto {α : Type} (f : Nat → α) (k : Nat) : List α := (List.range k).map f
theorem upto_succ {α : Type} (f : Nat → α) (k : Nat) : upto f (k + 1) = upto f k ++ [f k] := by simp [upto, List.range_succ]
theorem upto_length {α : Type} (f : Nat → α) (k : Nat) : (upto f k).length = k := by simp [upto]
/-- what a round keeps: iterators, and blocks of booleans -/
def keepO (o : Obj) : Bool := o.isWalk || (match o with | .cells _ T _ => decide (T = 4) | _ => false)
structure Kt (W W' : World) : Prop where
  size : W.heap.size ≤ W'.heap.size
  keep : ∀ (b : Nat) (o : Obj), W.heap[b]? = some o → keepO o = true → W'.heap[b]? = some o
theorem Kt.refl (W : World) : Kt W W := ⟨Nat.le_refl _, fun _ _ h _ => h⟩
theorem Kt.trans {X Y Z : World} (h : Kt X Y) (k : Kt Y Z) : Kt X Z := ⟨Nat.le_trans h.size k.size, fun b o h1 h2 => k.keep b o (h.keep b o h1 h2) h2⟩
theorem Kt.alloc {X Y : World} (h : Kt X Y) (o : Obj) : Kt X (Y.alloc o) := ⟨Nat.le_trans h.size (by simp), fun b o' h1 h2 => (Below.heap_alloc Y o b (Array.getElem?_eq_some_iff.1 (h.keep b o' h1 h2)).1).trans (h.keep b o' h1 h2)⟩
theorem Kt.drew {X Y : World} (h : Kt X Y) : Kt X Y.drew := ⟨h.size, h.keep⟩
theorem Kt.kb {X Y Z : World} (h : Kt X Y) (k : Kb Y Z) : Kt X Z := ⟨Nat.le_trans h.size k.size, fun b o h1 h2 => (Below.block k b (Array.getElem?_eq_some_iff.1 (h.keep b o h1 h2)).1).trans (h.keep b o h1 h2)⟩
theorem letter_at (k : Nat) (hk : k < 10) : letB[k]'(show k < 10 from hk) = lowU k := (let_facts k hk).1
def itPos (k : Nat) (w : World) : Nat := match w.heap[k]? with | some (.stringIter _ p) => p | _ => 0
theorem iter_new (w : World) (s : ByteArray) (pos : Nat) : (w.iter s pos).heap[w.heap.size]? = some (.stringIter s pos) := by
  show (w.heap.push _)[w.heap.size]? = _
  simp
theorem grownBy_iterAt {w : World} {k : Nat} {s : ByteArray} {pos : Nat} (_h : w.heap[k]? = some (.stringIter s pos)) (pos' : Nat) : w.grownBy (w.iterAt k s pos') (some k) :=
  ⟨rfl, rfl, rfl, by rw [Lib.iterAt_size]; exact Nat.le_refl _, fun j _ hj => Lib.iterAt_other w k j s pos' (fun e => hj (by rw [e]))⟩
theorem Is.kt {W W' : World} {b : Nat} {vs : Array Value} (h : Is W b vs 4) (k : Kt W W') : Is W' b vs 4 := k.keep _ _ h (by simp [keepO, Obj.isWalk])
theorem e5 (g : Nat) : Value.int .i64 (5 + (g : Int) + 1) = .int .i64 (5 + ((g + 1 : Nat) : Int)) := by
  rw [show (5 : Int) + ((g + 1 : Nat) : Int) = 5 + (g : Int) + 1 by omega]

set_option maxRecDepth 100000 in
set_option maxHeartbeats 4000000 in
theorem classes_it (n : Nat) (hn : 1 ≤ n) (l : Nat) (J Jx : List CL → World → Prop) (W : World) (hJ : AbidesFrom W.heap.size J)
    (hY : ∀ pre (x : CL) W1, J pre W1 → pre.length < 160 → YieldAt Fence.wide (n - 1) Tryd.prog l (encC x) W1 fun e W' =>
      (e = .returned (.bool true) ∧ J (pre ++ [x]) W' ∧ Kt W1 W') ∨ (e = .returned (.bool false) ∧ Jx (pre ++ [x]) W')) (h0 : J [] W) :
    CallsIn Fence.wide n Tryd.prog 50 #[.func (.yield l) #[] #[]] W fun e W' => (∃ v, e = .returned v) ∧
      ((∃ ys, ys = upto cl 160 ∧ J ys W') ∨ (∃ pre, (∃ k, k ≤ 160 ∧ pre = upto cl k) ∧ Jx pre W')) := by
  have hro : Fence.wide.round = none := rfl
  refine callsIn_of_wp Tryd.func50 rfl trivial ?_ hro
  simp only [Tryd.ntmps50, List.size_toArray, List.length_cons, List.length_nil, Nat.reduceAdd, Nat.reduceSub, Array.replicate_succ, Array.replicate_zero, List.push_toArray, List.append_toArray, List.nil_append, List.cons_append]
  have bl := Is.made W #[.bool false, .bool true] 4
  have hJ0 := hJ _ _ (W.alloc (.cells #[.bool false, .bool true] 4 (0, 0))) none h0 (World.grownBy_alloc _ _ _) (fun r e => by cases e)
  gi_wp2
  gi_loopw [8] (fun i wr => ∃ k : Nat, k ≤ 2 ∧ i = .int .i64 k ∧ J (upto cl (80 * k)) wr ∧ W.heap.size < wr.heap.size ∧ Is wr W.heap.size #[.bool false, .bool true] 4)
    (fun i _ => 2 - (intOf i).toNat)
  case atStart => exact ⟨0, by omega, rfl, hJ0, bl.lt, bl⟩
  case round =>
    obtain ⟨k, hk, rfl, hJs, hsz, bl⟩ := hrel
    by_cases hlt : k < 2
    · have b0 := bl.c (i := 0) rfl
      have b1 := bl.c (i := 1) rfl
      rcases (show k = 0 ∨ k = 1 by omega) with rfl | rfl
      · gi_wp2
        rename World => wo
        have hit := iter_new wo letB 0
        have hJ2 := hJ _ _ (wo.iter letB 0) none hJs (World.grownBy_alloc _ _ _) (fun r e => by cases e)
        have bl2 := bl.alloc (.stringIter letB 0)
        have hs2 : W.heap.size < (wo.iter letB 0).heap.size := bl2.lt
        gi_loopw [] (fun wx => ∃ m : Nat, m ≤ 10 ∧ J (upto cl (80 * 0 + 8 * m)) wx ∧ wx.heap[wo.heap.size]? = some (.stringIter letB m) ∧ Is wx W.heap.size #[.bool false, .bool true] 4 ∧ W.heap.size < wx.heap.size)
          (fun wx => 10 - itPos wo.heap.size wx)
        case atStart => exact ⟨0, by omega, hJ2, hit, bl2, hs2⟩
        case round =>
          obtain ⟨m, hm, hJm, him, blm, hsm⟩ := hrel
          by_cases hm10 : m < 10
          · have nx := fun ty => Lib.run_next_ascii_at (P := Tryd.prog) wr wo.heap.size letB m ty him (show m < letB.size from hm10) (by rw [letter_at m hm10]; exact (let_facts m hm10).2.2.2.2.2.1)
            have hJ3 := hJ _ _ (wr.iterAt wo.heap.size letB (m + 1)) (some wo.heap.size) hJm (grownBy_iterAt him _) (fun r e => by cases e; exact ⟨Nat.le_of_lt hsz, _, him, rfl⟩)
            have hi3 := Lib.iterAt_heap wr wo.heap.size letB m (m + 1) him
            have bl3 : Is (wr.iterAt wo.heap.size letB (m + 1)) W.heap.size #[.bool false, .bool true] 4 := blm.same (Lib.iterAt_other _ _ _ _ _ (Nat.ne_of_lt hsz))
            have hs3 : W.heap.size < (wr.iterAt wo.heap.size letB (m + 1)).heap.size := bl3.lt
            rename World => wm
            gi_wp2
            gi_loopw [5] (fun s5 wx => ∃ g : Nat, g ≤ 8 ∧ s5 = .int .i64 (5 + (g : Int)) ∧ J (upto cl (80 * 0 + 8 * m + g)) wx ∧ wx.heap[wo.heap.size]? = some (.stringIter letB (m + 1)) ∧ Is wx W.heap.size #[.bool false, .bool true] 4 ∧ W.heap.size < wx.heap.size)
              (fun s5 _ => 13 - (intOf s5).toNat)
            case atStart => exact ⟨0, by omega, rfl, hJ3, hi3, bl3, hs3⟩
            case round =>
              obtain ⟨g, hg, rfl, hJg, hig, blg, hsg⟩ := hrel
              have ig0 : 0 ≤ (g : Int) := by omega
              by_cases hg8 : g < 8
              · have hpl : (upto cl (80 * 0 + 8 * m + g)).length < 160 := by rw [upto_length]; omega
                obtain ⟨fn, tmps, assign, body, hy, hR⟩ := hY _ (cl (80 * 0 + 8 * m + g)) _ hJg hpl
                have hcl : (cl (80 * 0 + 8 * m + g)).1 = (false, m, g) := by
                  show (decide (80 ≤ 80 * 0 + 8 * m + g), (80 * 0 + 8 * m + g) % 80 / 8, (80 * 0 + 8 * m + g) % 8) = (false, m, g)
                  rw [show (80 * 0 + 8 * m + g) % 80 / 8 = m by omega, show (80 * 0 + 8 * m + g) % 8 = g by omega, show decide (80 ≤ 80 * 0 + 8 * m + g) = false from decide_eq_false (by omega)]
                unfold encC at hy
                rw [hcl] at hy
                dsimp only at hy
                have hle : 5 + (g : Int) ≤ 12 := by omega
                have hg9 : (g : Int) < 8 := by omega
                replace hR := hR.mono (R' := fun e W' => ∃ r : Bool, e = .returned (.bool r) ∧ ((r = true ∧ J (upto cl (80 * 0 + 8 * m + (g + 1))) W' ∧ Kt wr W') ∨ (r = false ∧ Jx (upto cl (80 * 0 + 8 * m + (g + 1))) W'))) (fun e W' h => by
                  rw [show 80 * 0 + 8 * m + (g + 1) = 80 * 0 + 8 * m + g + 1 by omega, upto_succ]
                  rcases h with ⟨h1, h2⟩ | ⟨h1, h2⟩
                  · exact ⟨true, h1, .inl ⟨rfl, h2⟩⟩
                  · exact ⟨false, h1, .inr ⟨rfl, h2⟩⟩)
                rename World => wg
                clear hcl hpl nx
                gi_wp2_with (refine hR.mono ?_; rintro e W3 ⟨r, rfl, hr⟩)
                all_goals (clear hy hR hY)
                all_goals (rcases hr with ⟨rfl, hJ4, hk4⟩ | ⟨rfl, hJ4⟩)
                all_goals gi_wp2
                all_goals first
                  | contradiction
                  | (refine bodyPost_ret (results_none rfl _ _ _) rfl ?_
                     exact ⟨⟨_, rfl⟩, .inr ⟨_, ⟨80 * 0 + 8 * m + (g + 1), by omega, rfl⟩, hJ4⟩⟩)
                  | (refine ⟨⟨_, _, _, _, _, _, _, _, _, _, _, _, ⟨g + 1, by omega, e5 g, hJ4, hk4.keep _ _ hig rfl, blg.kt hk4, Nat.lt_of_lt_of_le hsg hk4.size⟩, rfl⟩, ?_⟩
                     show 13 - (5 + (g : Int) + 1).toNat < 13 - (5 + (g : Int)).toNat
                     omega)
              · obtain rfl : g = 8 := by omega
                clear nx
                gi_wp2
                refine ⟨⟨m + 1, by omega, by rw [show 80 * 0 + 8 * (m + 1) = 80 * 0 + 8 * m + 8 by omega]; exact hJg, hig, blg, hsg⟩, ?_⟩
                simp only [itPos, him, hig]
                omega
          · obtain rfl : m = 10 := by omega
            have nx := fun ty => Lib.run_next_end_at (P := Tryd.prog) wr wo.heap.size letB 10 ty him (show ¬ 10 < letB.size by decide)
            gi_wp2
            exact ⟨⟨0 + 1, by omega, rfl, by simpa using hJm, hsm, blm⟩, by simp [intOf]⟩
      · gi_wp2
        rename World => wo
        have hit := iter_new wo letB 0
        have hJ2 := hJ _ _ (wo.iter letB 0) none hJs (World.grownBy_alloc _ _ _) (fun r e => by cases e)
        have bl2 := bl.alloc (.stringIter letB 0)
        have hs2 : W.heap.size < (wo.iter letB 0).heap.size := bl2.lt
        gi_loopw [] (fun wx => ∃ m : Nat, m ≤ 10 ∧ J (upto cl (80 * 1 + 8 * m)) wx ∧ wx.heap[wo.heap.size]? = some (.stringIter letB m) ∧ Is wx W.heap.size #[.bool false, .bool true] 4 ∧ W.heap.size < wx.heap.size)
          (fun wx => 10 - itPos wo.heap.size wx)
        case atStart => exact ⟨0, by omega, hJ2, hit, bl2, hs2⟩
        case round =>
          obtain ⟨m, hm, hJm, him, blm, hsm⟩ := hrel
          by_cases hm10 : m < 10
          · have nx := fun ty => Lib.run_next_ascii_at (P := Tryd.prog) wr wo.heap.size letB m ty him (show m < letB.size from hm10) (by rw [letter_at m hm10]; exact (let_facts m hm10).2.2.2.2.2.1)
            have hJ3 := hJ _ _ (wr.iterAt wo.heap.size letB (m + 1)) (some wo.heap.size) hJm (grownBy_iterAt him _) (fun r e => by cases e; exact ⟨Nat.le_of_lt hsz, _, him, rfl⟩)
            have hi3 := Lib.iterAt_heap wr wo.heap.size letB m (m + 1) him
            have bl3 : Is (wr.iterAt wo.heap.size letB (m + 1)) W.heap.size #[.bool false, .bool true] 4 := blm.same (Lib.iterAt_other _ _ _ _ _ (Nat.ne_of_lt hsz))
            have hs3 : W.heap.size < (wr.iterAt wo.heap.size letB (m + 1)).heap.size := bl3.lt
            rename World => wm
            gi_wp2
            gi_loopw [5] (fun s5 wx => ∃ g : Nat, g ≤ 8 ∧ s5 = .int .i64 (5 + (g : Int)) ∧ J (upto cl (80 * 1 + 8 * m + g)) wx ∧ wx.heap[wo.heap.size]? = some (.stringIter letB (m + 1)) ∧ Is wx W.heap.size #[.bool false, .bool true] 4 ∧ W.heap.size < wx.heap.size)
              (fun s5 _ => 13 - (intOf s5).toNat)
            case atStart => exact ⟨0, by omega, rfl, hJ3, hi3, bl3, hs3⟩
            case round =>
              obtain ⟨g, hg, rfl, hJg, hig, blg, hsg⟩ := hrel
              have ig0 : 0 ≤ (g : Int) := by omega
              by_cases hg8 : g < 8
              · have hpl : (upto cl (80 * 1 + 8 * m + g)).length < 160 := by rw [upto_length]; omega
                obtain ⟨fn, tmps, assign, body, hy, hR⟩ := hY _ (cl (80 * 1 + 8 * m + g)) _ hJg hpl
                have hcl : (cl (80 * 1 + 8 * m + g)).1 = (true, m, g) := by
                  show (decide (80 ≤ 80 * 1 + 8 * m + g), (80 * 1 + 8 * m + g) % 80 / 8, (80 * 1 + 8 * m + g) % 8) = (true, m, g)
                  rw [show (80 * 1 + 8 * m + g) % 80 / 8 = m by omega, show (80 * 1 + 8 * m + g) % 8 = g by omega, show decide (80 ≤ 80 * 1 + 8 * m + g) = true from decide_eq_true (by omega)]
                unfold encC at hy
                rw [hcl] at hy
                dsimp only at hy
                have hle : 5 + (g : Int) ≤ 12 := by omega
                have hg9 : (g : Int) < 8 := by omega
                replace hR := hR.mono (R' := fun e W' => ∃ r : Bool, e = .returned (.bool r) ∧ ((r = true ∧ J (upto cl (80 * 1 + 8 * m + (g + 1))) W' ∧ Kt wr W') ∨ (r = false ∧ Jx (upto cl (80 * 1 + 8 * m + (g + 1))) W'))) (fun e W' h => by
                  rw [show 80 * 1 + 8 * m + (g + 1) = 80 * 1 + 8 * m + g + 1 by omega, upto_succ]
                  rcases h with ⟨h1, h2⟩ | ⟨h1, h2⟩
                  · exact ⟨true, h1, .inl ⟨rfl, h2⟩⟩
                  · exact ⟨false, h1, .inr ⟨rfl, h2⟩⟩)
                rename World => wg
                clear hcl hpl nx
                gi_wp2_with (refine hR.mono ?_; rintro e W3 ⟨r, rfl, hr⟩)
                all_goals (clear hy hR hY)
                all_goals (rcases hr with ⟨rfl, hJ4, hk4⟩ | ⟨rfl, hJ4⟩)
                all_goals gi_wp2
                all_goals first
                  | contradiction
                  | (refine bodyPost_ret (results_none rfl _ _ _) rfl ?_
                     exact ⟨⟨_, rfl⟩, .inr ⟨_, ⟨80 * 1 + 8 * m + (g + 1), by omega, rfl⟩, hJ4⟩⟩)
                  | (refine ⟨⟨_, _, _, _, _, _, _, _, _, _, _, _, ⟨g + 1, by omega, e5 g, hJ4, hk4.keep _ _ hig rfl, blg.kt hk4, Nat.lt_of_lt_of_le hsg hk4.size⟩, rfl⟩, ?_⟩
                     show 13 - (5 + (g : Int) + 1).toNat < 13 - (5 + (g : Int)).toNat
                     omega)
              · obtain rfl : g = 8 := by omega
                clear nx
                gi_wp2
                refine ⟨⟨m + 1, by omega, by rw [show 80 * 1 + 8 * (m + 1) = 80 * 1 + 8 * m + 8 by omega]; exact hJg, hig, blg, hsg⟩, ?_⟩
                simp only [itPos, him, hig]
                omega
          · obtain rfl : m = 10 := by omega
            have nx := fun ty => Lib.run_next_end_at (P := Tryd.prog) wr wo.heap.size letB 10 ty him (show ¬ 10 < letB.size by decide)
            gi_wp2
            exact ⟨⟨1 + 1, by omega, rfl, by simpa using hJm, hsm, blm⟩, by simp [intOf]⟩
    · obtain rfl : k = 2 := by omega
      gi_wp2
      go_end0
      exact ⟨⟨_, rfl⟩, .inl ⟨_, rfl, hJs⟩⟩
end Go.Proofs.YthifdgddegpbjaaDoor
