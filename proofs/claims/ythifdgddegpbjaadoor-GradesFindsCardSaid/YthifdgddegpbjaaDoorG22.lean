/- Package slices at classes: Index, Contains. -/
import Derived.Test.YthifdgddegpbjaaDoorG21
namespace Go.Proofs.YthifdgddegpbjaaDoor
open Go.RowKit

theorem flatC_len (l : List CL) : (flatC l).length = l.length * 3 := by
  induction l with
  | nil => rfl
  | cons a l ih => simp only [flatC, List.flatMap_cons, List.length_append, List.length_cons] at *; rw [ih]; simp [cellsC]; omega
theorem flatC_at (l : List CL) (k : Nat) (hk : k < l.length) : (flatC l)[k * 3]? = some (.bool l[k].1.1) ∧ (flatC l)[k * 3 + 1]? = some (.int .i64 (l[k].1.2.1 : Int)) ∧ (flatC l)[k * 3 + 2]? = some (.int .i64 (5 + (l[k].1.2.2 : Int))) := by
  induction l generalizing k with
  | nil => simp at hk
  | cons a l ih =>
    rcases k with _ | k
    · exact ⟨rfl, rfl, rfl⟩
    · have h := ih k (by simpa using hk)
      have e : flatC (a :: l) = cellsC a ++ flatC l := rfl
      have lc : (cellsC a).length = 3 := rfl
      rw [e, List.getElem?_append_right (by omega), List.getElem?_append_right (by omega), List.getElem?_append_right (by omega), lc, show (k + 1) * 3 - 3 = k * 3 by omega, show (k + 1) * 3 + 1 - 3 = k * 3 + 1 by omega, show (k + 1) * 3 + 2 - 3 = k * 3 + 2 by omega]
      exact h
/-- a slice of classes, where it lies -/
def ClsAt (w : World) (g : Nat) (l : List CL) : Prop := ∀ k, (hk : k < l.length) → w.cell? ⟨g, k * 3, none⟩ = some (.bool l[k].1.1) ∧ w.cell? ⟨g, k * 3 + 1, none⟩ = some (.int .i64 (l[k].1.2.1 : Int)) ∧ w.cell? ⟨g, k * 3 + 2, none⟩ = some (.int .i64 (5 + (l[k].1.2.2 : Int)))
theorem ClsAt.kb {w w' : World} {g : Nat} {l : List CL} (h : ClsAt w g l) (k : Kb w w') : ClsAt w' g l := fun j hj => ⟨k.cell (h j hj).1, k.cell (h j hj).2.1, k.cell (h j hj).2.2⟩
set_option maxRecDepth 100000 in
set_option maxHeartbeats 8000000 in
theorem gIndex (g cap : Nat) (l : List CL) (x : CL) (hn : l.length ≤ 160) (w : World) (hc : ClsAt w g l) :
    Calls Tryd.prog 52 #[.slice (some ⟨g, 0, none⟩) l.length cap, .agg #[.bool x.1.1, .int .i64 (x.1.2.1 : Int), .int .i64 (5 + (x.1.2.2 : Int))]] w fun r w' => (∃ n : Int, r = .returned (.int .i64 n) ∧ (x ∈ l → 0 ≤ n)) ∧ Kb w w' := by
  go_enter Tryd.func52, Tryd.ntmps52
  have kk := (Kb.refl w).alloc (clsO 23 x.1.1 (x.1.2.1 : Int) (5 + (x.1.2.2 : Int)))
  have bx := Is.made w #[.bool x.1.1, .int .i64 (x.1.2.1 : Int), .int .i64 (5 + (x.1.2.2 : Int))] 23
  have hc1 := hc.kb kk
  have hn1 : (l.length : Int) ≤ 160 := by omega
  go_wp2
  go_loopw [8, 5] (fun i _ wr => ∃ k : Nat, k ≤ l.length ∧ i = .int .i64 k ∧ x ∉ l.take k ∧ ClsAt wr g l ∧ Is wr w.heap.size #[.bool x.1.1, .int .i64 (x.1.2.1 : Int), .int .i64 (5 + (x.1.2.2 : Int))] 23 ∧ Kb w wr)
    (fun i _ _ => l.length - (intOf i).toNat)
  case atStart => exact ⟨0, by omega, rfl, by simp, hc1, bx, kk⟩
  case round =>
    obtain ⟨k, hk, rfl, hnot, hcs, bs, kx⟩ := hrel
    clear bx hc1 kk hc
    by_cases hlt : k < l.length
    · obtain ⟨y, hy⟩ : ∃ y, l[k] = y := ⟨_, rfl⟩
      obtain ⟨d0, d1, d2⟩ := hcs k hlt
      rw [hy] at d0 d1 d2
      have j0 : (0 : Int) ≤ (k : Int) := by omega
      have j1 : (k : Int) < (l.length : Int) := by omega
      have b0 := bs.c (i := 0) rfl
      have b1 := bs.c (i := 1) rfl
      have b2 := bs.c (i := 2) rfl
      have hst : x ≠ y → x ∉ l.take (k + 1) := fun hne => by
        rw [← List.take_append_getElem hlt, hy]
        simp [hnot, hne]
      by_cases e0 : x.1.1 = y.1.1
      · by_cases e1 : x.1.2.1 = y.1.2.1
        · by_cases e2 : x.1.2.2 = y.1.2.2
          · obtain rfl : x = y := Subtype.ext (Prod.ext e0 (Prod.ext e1 e2))
            clear hst e0 e1 e2
            go_wp2
            go_region
            all_goals go_wp2
            all_goals go_ret
            all_goals exact ⟨⟨_, rfl, fun _ => by omega⟩, kx.drew⟩
          · have hs := hst (fun e => e2 (by rw [e]))
            have f2 : (5 + (x.1.2.2 : Int) == 5 + (y.1.2.2 : Int)) = false := beq_eq_false_iff_ne.2 (by omega)
            have f2' : ((x.1.2.2 : Int) == (y.1.2.2 : Int)) = false := beq_eq_false_iff_ne.2 (by omega)
            rw [← e0] at d0
            rw [← e1] at d1
            clear hst e0 e1
            go_wp2
            go_region
            all_goals go_wp2
            all_goals exact ⟨⟨k + 1, by omega, by simp, hs, hcs.kb (Kb.refl wr).drew, bs.kb (Kb.refl wr).drew, kx.drew⟩, by simp [intOf]; omega⟩
        · have hs := hst (fun e => e1 (by rw [e]))
          have f1 : ((x.1.2.1 : Int) == (y.1.2.1 : Int)) = false := beq_eq_false_iff_ne.2 (by omega)
          rw [← e0] at d0
          clear hst e0
          go_wp2
          go_region
          all_goals go_wp2
          all_goals exact ⟨⟨k + 1, by omega, by simp, hs, hcs.kb (Kb.refl wr).drew, bs.kb (Kb.refl wr).drew, kx.drew⟩, by simp [intOf]; omega⟩
      · have hs := hst (fun e => e0 (by rw [e]))
        have f0 : (x.1.1 == y.1.1) = false := beq_eq_false_iff_ne.2 e0
        clear hst e0
        go_wp2
        go_region
        all_goals go_wp2
        all_goals exact ⟨⟨k + 1, by omega, by simp, hs, hcs.kb (Kb.refl wr).drew, bs.kb (Kb.refl wr).drew, kx.drew⟩, by simp [intOf]; omega⟩
    · obtain rfl : k = l.length := by omega
      go_wp2
      go_ret
      exact ⟨⟨_, rfl, fun hm => absurd (by rw [List.take_length]; exact hm) hnot⟩, kx⟩
set_option maxRecDepth 100000 in
set_option maxHeartbeats 8000000 in
theorem gContains (g cap : Nat) (l : List CL) (x : CL) (hn : l.length ≤ 160) (w : World) (hc : ClsAt w g l) (hx : x ∈ l) :
    Calls Tryd.prog 33 #[.slice (some ⟨g, 0, none⟩) l.length cap, .agg #[.bool x.1.1, .int .i64 (x.1.2.1 : Int), .int .i64 (5 + (x.1.2.2 : Int))]] w fun r w' => r = .returned (.bool true) ∧ Kb w w' := by
  have q : Hid (∀ W, ClsAt W g l → Calls Tryd.prog 52 #[.slice (some ⟨g, 0, none⟩) l.length cap, .agg #[.bool x.1.1, .int .i64 (x.1.2.1 : Int), .int .i64 (5 + (x.1.2.2 : Int))]] W fun r w' => (∃ n : Int, r = .returned (.int .i64 n) ∧ (x ∈ l → 0 ≤ n)) ∧ Kb W w') := Lib.hid fun W h => gIndex g cap l x hn W h
  have kk := (Kb.refl w).alloc (clsO 23 x.1.1 (x.1.2.1 : Int) (5 + (x.1.2.2 : Int)))
  have bx := Is.made w #[.bool x.1.1, .int .i64 (x.1.2.1 : Int), .int .i64 (5 + (x.1.2.2 : Int))] 23
  have b0 := bx.c (i := 0) rfl
  have b1 := bx.c (i := 1) rfl
  have b2 := bx.c (i := 2) rfl
  go_enter Tryd.func33, Tryd.ntmps33
  go_wp2_with fail
  with_reducible refine (q.out _ (hc.kb kk)).mono ?_
  rintro r w1 ⟨⟨n, rfl, hn0⟩, k1⟩
  have h0 : 0 ≤ n := hn0 hx
  clear hn0
  go_wp2
  go_ret
  exact ⟨rfl, kk.trans k1⟩
theorem mem_upto (x : CL) : x ∈ upto cl 160 := by
  obtain ⟨⟨h, k, g⟩, hk, hg⟩ := x
  dsimp only at hk hg
  refine List.mem_map.2 ⟨(if h then 80 else 0) + 8 * k + g, List.mem_range.2 (by split <;> omega), Subtype.ext ?_⟩
  cases h
  · show (decide (80 ≤ 0 + 8 * k + g), (0 + 8 * k + g) % 80 / 8, (0 + 8 * k + g) % 8) = _
    rw [show (0 + 8 * k + g) % 80 / 8 = k by omega, show (0 + 8 * k + g) % 8 = g by omega, decide_eq_false (by omega)]
  · show (decide (80 ≤ 80 + 8 * k + g), (80 + 8 * k + g) % 80 / 8, (80 + 8 * k + g) % 8) = _
    rw [show (80 + 8 * k + g) % 80 / 8 = k by omega, show (80 + 8 * k + g) % 8 = g by omega, decide_eq_true (by omega)]
theorem gFindC (z : Int) (z1 : 1 ≤ z) (z2 : z ≤ 100000) (x : CL) (lo hi : Int) (hl : devLo z x.1.1 x.1.2.1 (5 + (x.1.2.2 : Int)) = lo) (hh : devHi z x.1.1 x.1.2.1 (5 + (x.1.2.2 : Int)) = hi) :
    Hid (∀ W, Glo W → Calls Tryd.prog 26 #[.int .i64 z, .agg #[.int .i64 lo, .int .i64 hi]] W fun r w' => (∃ g cap, ∃ l : List CL, r = .returned (.tuple #[.slice (some ⟨g, 0, none⟩) l.length cap, .int .i64 0]) ∧ ClsAt w' g l ∧ l.length ≤ 160 ∧ x ∈ l) ∧ Kb W w') := Lib.hid fun W hg => by
  have q := gcheckSize z
  rw [show szE z = 0 from if_pos ⟨z1, z2⟩] at q
  refine (gFind_ok z lo hi z2 W hg q).mono fun r w' ⟨⟨v, hr, ho⟩, k⟩ => ⟨?_, k⟩
  have hm : x ∈ hits z lo hi (upto cl 160) := List.mem_filter.2 ⟨mem_upto x, by unfold hitB; rw [hl, hh]; simp⟩
  have hp : 0 < (hits z lo hi (upto cl 160)).length := List.length_pos_of_mem hm
  have hle : (hits z lo hi (upto cl 160)).length ≤ 160 := by have := hits_le z lo hi (upto cl 160); rw [upto_length] at this; exact this
  generalize hits z lo hi (upto cl 160) = l at *
  obtain ⟨g, cap, rfl, _, _⟩ := ho.form hp
  refine ⟨g, cap, l, hr, fun j hj => ?_, hle, hm⟩
  have hc : ∀ j u, (flatC l)[j]? = some u → w'.cell? ⟨g, j, none⟩ = some u := fun j u hu => by
    have hadd : (⟨g, 0, none⟩ : Addr).add j = ⟨g, j, none⟩ := by unfold Addr.add; split <;> simp_all
    rw [← hadd]
    exact ho.cells (g := g) rfl j u hu
  obtain ⟨a1, a2, a3⟩ := flatC_at l j hj
  exact ⟨hc _ _ a1, hc _ _ a2, hc _ _ a3⟩
end Go.Proofs.YthifdgddegpbjaaDoor
