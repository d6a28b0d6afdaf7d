/- slices.Backward over dimensions, as an iterator. -/
import Derived.Test.YtendjeefggigbaaOm3
namespace Go.Proofs.Ytendjeefggigbaa
open Go.RowKit

attribute [local go_sem] Oper.semAt_some
/-- what the iterator reads lies as it lay -/
def Ko (L : List Nat) (X Y : World) : Prop := (∀ b ∈ L, Y.heap[b]? = X.heap[b]?) ∧ X.heap.size ≤ Y.heap.size
theorem Ko.refl (L : List Nat) (X : World) : Ko L X X := ⟨fun _ _ => rfl, Nat.le_refl _⟩
theorem Ko.trans {L : List Nat} {X Y Z : World} (h : Ko L X Y) (k : Ko L Y Z) : Ko L X Z := ⟨fun b hb => (k.1 b hb).trans (h.1 b hb), Nat.le_trans h.2 k.2⟩
theorem Ko.cell {L : List Nat} {X Y : World} (h : Ko L X Y) {b : Nat} (hb : b ∈ L) (i : Nat) : Y.cell? ⟨b, i, none⟩ = X.cell? ⟨b, i, none⟩ := World.cell?_of_block (w := X) (h.1 b hb)
theorem Ko.put {L : List Nat} {w : World} (hL : ∀ b ∈ L, b < w.heap.size) (W : World) (l : Nat) (o o' : Obj) (hl : w.heap.size ≤ l) (_ : W.heap[l]? = some o) (_ : o.isCells = false) (_ : o.isWalk = false) : Ko L W (W.putObj l o') :=
  ⟨fun b hb => World.putObj_heap_other (by have := hL b hb; omega), by simp [World.putObj]⟩
abbrev IV := { x : Int × DimT // Nz x.2 ∧ vdD x.2 = 0 }
def encV (x : IV) : Array Value := #[.int .i64 x.1.1, valDim x.1.2]

set_option maxRecDepth 100000 in
set_option maxHeartbeats 1000000 in
theorem backw_c (sp : Option Addr) (n c : Nat) (w : World) : Calls Try.prog 37 #[.slice sp n c] w fun e w' => e = .returned (.func (.func 58) #[] #[.pointer (some ⟨w.heap.size, 0, none⟩)]) ∧ w' = w.alloc (.cells #[.slice sp n c] 51 (0, 0)) := by
  go_enter Try.func37, Try.ntmps37
  go_wp2
  go_ret
  exact ⟨rfl, rfl⟩

set_option maxRecDepth 100000 in
set_option maxHeartbeats 4000000 in
theorem backw_it (n : Nat) (hn : 1 ≤ n) (l bs b off cap : Nat) (ds : List DimT) (N : Nat) (hN : N ≤ 1000) (f : Nat → IV) (J Jx : List IV → World → Prop) (W : World) (hJ : AbidesFrom W.heap.size J)
    (hf : ∀ j, j < N → (f j).1 = (((N - 1 - j : Nat) : Int), gD ds (N - 1 - j)))
    (hY : ∀ pre (x : IV) W1, J pre W1 → pre.length < N → YieldAt Fence.wide (n - 1) Try.prog l (encV x) W1 fun e W' =>
      (e = .returned (.bool true) ∧ J (pre ++ [x]) W' ∧ Ko [b, bs] W1 W') ∨ (e = .returned (.bool false) ∧ Jx (pre ++ [x]) W'))
    (hB : W.cell? ⟨bs, 0, none⟩ = some (.slice (some ⟨b, off, none⟩) N cap)) (hc : ∀ j, j < N → ∀ i, i < 5 → W.cell? ⟨b, off + j * 5 + i, none⟩ = some ((encDim (gD ds j)).getD i undef)) (h0 : J [] W) :
    CallsIn Fence.wide n Try.prog 58 #[.func (.yield l) #[] #[], .pointer (some ⟨bs, 0, none⟩)] W fun e W' => (∃ v, e = .returned v) ∧
      ((∃ ys, ys = upto f N ∧ J ys W') ∨ (∃ pre, (∃ k, k ≤ N ∧ pre = upto f k) ∧ Jx pre W')) := by
  have hro : Fence.wide.round = none := rfl
  refine callsIn_of_wp Try.func58 rfl trivial ?_ hro
  simp only [Try.ntmps58, List.size_toArray, List.length_cons, List.length_nil, Nat.reduceAdd, Nat.reduceSub, Array.replicate_succ, Array.replicate_zero, List.push_toArray, List.append_toArray, List.nil_append, List.cons_append]
  have hN1 : (N : Int) ≤ 1000 := by omega
  have hN0 : 0 ≤ (N : Int) := by omega
  gi_wp2
  gi_loopw [3] (fun s3 wr => ∃ m k : Nat, m + k = N ∧ s3 = .int .i64 ((m : Int) - 1) ∧ J (upto f k) wr ∧ Ko [b, bs] W wr)
    (fun s3 _ => (intOf s3 + 1).toNat)
  case atStart => exact ⟨N, 0, by omega, rfl, h0, Ko.refl _ _⟩
  case round =>
    obtain ⟨m, k, hk, rfl, hJs, hq⟩ := hrel
    cases m with
    | zero =>
      obtain rfl : k = N := by omega
      clear hY hf hc hJ hB
      gi_wp2
      go_end0
      exact ⟨⟨_, rfl⟩, .inl ⟨_, rfl, hJs⟩⟩
    | succ m =>
      have em : ((m + 1 : Nat) : Int) - 1 = (m : Int) := by omega
      rw [em]
      have hmN : m < N := by omega
      have hpl : (upto f k).length < N := by rw [upto_length]; omega
      obtain ⟨fn, tmps, assign, body, hy, hR⟩ := hY _ (f k) _ hJs hpl
      have hz := hc m hmN
      have hfk := hf k (by omega)
      rw [show N - 1 - k = m by omega] at hfk
      unfold encV at hy
      rw [hfk] at hy
      generalize gD ds m = y at *
      obtain ⟨yf, yt, ya, yl, yh⟩ := y
      dsimp only [valDim] at hy
      have hBr := (hq.cell (b := bs) (by simp) 0).trans hB
      have g0 : wr.cell? ⟨b, off + m * 5, none⟩ = some (.string yf) := by have := (hq.cell (b := b) (by simp) _).trans (hz 0 (by omega)); simpa [encDim] using this
      have g1 : wr.cell? ⟨b, off + m * 5 + 1, none⟩ = some (.string yt) := by have := (hq.cell (b := b) (by simp) _).trans (hz 1 (by omega)); simpa [encDim] using this
      have g2 : wr.cell? ⟨b, off + m * 5 + 2, none⟩ = some (.int .i64 ya) := by have := (hq.cell (b := b) (by simp) _).trans (hz 2 (by omega)); simpa [encDim] using this
      have g3 : wr.cell? ⟨b, off + m * 5 + 3, none⟩ = some (.int .i64 yl) := by have := (hq.cell (b := b) (by simp) _).trans (hz 3 (by omega)); simpa [encDim] using this
      have g4 : wr.cell? ⟨b, off + m * 5 + 4, none⟩ = some (.int .i64 yh) := by have := (hq.cell (b := b) (by simp) _).trans (hz 4 (by omega)); simpa [encDim] using this
      have hm0 : (0 : Int) ≤ (m : Int) := by omega
      have hmi : (m : Int) < (N : Int) := by omega
      have HR := Lib.hid (hR.mono (R' := fun e W' => ∃ r : Bool, e = .returned (.bool r) ∧ ((r = true ∧ J (upto f (k + 1)) W' ∧ Ko [b, bs] wr W') ∨ (r = false ∧ Jx (upto f (k + 1)) W'))) (fun e W' h => by
        rw [upto_succ]
        rcases h with ⟨h1, h2⟩ | ⟨h1, h2⟩
        · exact ⟨true, h1, .inl ⟨rfl, h2⟩⟩
        · exact ⟨false, h1, .inr ⟨rfl, h2⟩⟩))
      have Hk := Lib.hid hk
      clear hY hf hc hJ hB hz hR hfk hk em hpl
      gi_wp2_with (refine HR.out.mono ?_; rintro e W3 ⟨r, rfl, hr⟩; rcases hr with ⟨rfl, hJ3, hk3⟩ | ⟨rfl, hJ3⟩)
      all_goals try (clear hy HR g0 g1 g2 g3 g4 hBr)
      all_goals try gi_wp2
      all_goals first
        | (refine bodyPost_ret (results_none rfl _ _ _) rfl ?_
           exact ⟨⟨_, rfl⟩, .inr ⟨_, ⟨k + 1, by have := Hk.out; omega, rfl⟩, hJ3⟩⟩)
        | (go_roundw
           case rel => exact ⟨m, k + 1, by have := Hk.out; omega, rfl, hJ3, hq.trans hk3⟩
           case measure => simp [intOf] <;> omega)
end Go.Proofs.Ytendjeefggigbaa
