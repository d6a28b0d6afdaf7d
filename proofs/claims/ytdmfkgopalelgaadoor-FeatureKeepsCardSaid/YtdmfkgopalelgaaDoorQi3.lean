/- Features: Reach and Separate give the same on both sides. -/
import Derived.Test.YtdmfkgopalelgaaDoorQi2
import Derived.Test.YtdmfkgopalelgaaDoorQg6
import Derived.Test.YtdmfkgopalelgaaDoorOf2
import Derived.Test.YtdmfkgopalelgaaDoorQh2
namespace Go.Proofs.YtdmfkgopalelgaaDoor
open Go.RowKit

theorem firstE_all : ∀ {l : List Int}, firstE l = 0 → ∀ e ∈ l, e = 0
  | [], _, e, he => by simp at he
  | u :: l, h, e, he => by
    unfold firstE at h
    by_cases h0 : u = 0
    · rw [if_pos h0] at h
      rcases List.mem_cons.1 he with rfl | he
      · exact h0
      · exact firstE_all h e he
    · rw [if_neg h0] at h; exact absurd h h0
theorem ft_pl {n : ByteArray} {k a x y z lo hi : Int} (h : ftE n k a x y z lo hi = 0) : (-100000 ≤ x ∧ x ≤ 100000) ∧ (-100000 ≤ y ∧ y ≤ 100000) ∧ (-100000 ≤ z ∧ z ≤ 100000) := by
  unfold ftE at h
  have h1 := firstE_all h (firstE [plE x y z]) (by simp)
  rw [firstE_one] at h1
  unfold plE fE at h1
  split at h1
  · cases h1
  · rename_i h2
    simp only [Bool.not_eq_true', Bool.not_eq_false, inR, Bool.and_eq_true, decide_eq_true_eq] at h2
    omega
theorem ft_hi {n : ByteArray} {k a x y z lo hi : Int} (h : ftE n k a x y z lo hi = 0) : 0 ≤ hi ∧ hi ≤ 100000 := by
  by_cases hk : k = 0
  · unfold ftE at h
    have h1 := firstE_all h (szE k lo hi) (by simp)
    unfold szE at h1
    rw [if_pos hk, firstE_one] at h1
    unfold fE at h1
    split at h1
    · cases h1
    · rename_i h2
      simp only [Bool.not_eq_true', Bool.not_eq_false, Bool.and_eq_true, beq_iff_eq] at h2
      omega
  · have := ft_lim h hk
    omega
theorem half_hf {hi : Int} (h0 : 0 ≤ hi) (h1 : hi ≤ 100000) : wrap64 ((wrap64 (hi + 1)).tdiv 2) = hf hi := by
  rw [Go.IntWalk.wrap64_in (hi + 1) (by omega), Int.tdiv_eq_ediv_of_nonneg (by omega)]
  unfold hf
  exact Go.IntWalk.wrap64_in _ (by omega)
theorem hf_in {hi : Int} (h0 : 0 ≤ hi) (h1 : hi ≤ 100000) : 0 ≤ hf hi ∧ hf hi ≤ 50000 := by unfold hf; omega
theorem co3_in {x y z : Int} (hx : -100000 ≤ x ∧ x ≤ 100000) (hy : -100000 ≤ y ∧ y ≤ 100000) (hz : -100000 ≤ z ∧ z ≤ 100000) (i : Nat) : -100000 ≤ co3 x y z i ∧ co3 x y z i ≤ 100000 := by
  unfold co3
  split
  · exact hx
  · split
    · exact hy
    · exact hz
theorem rAxis (c : Int) : Ca 80 #[.int .i64 c] (.int .i64 (axE c)) := Lib.hid fun w => by
  unfold axE fE
  by_cases h1 : c < 0
  · simp only [h1, decide_true, Bool.true_or, if_true]; exact rAxis_1 c h1 w
  · by_cases h2 : 3 ≤ c
    · simp only [h1, h2, decide_true, Bool.or_true, if_true]; exact rAxis_2 c h1 h2 w
    · simp only [h1, h2, decide_false, Bool.or_false, Bool.false_eq_true, if_false]; exact rAxis_3 c h1 h2 w
theorem rgiven (n : ByteArray) (k a x y z lo hi : Int) (fp : Option Addr) (fl fc : Nat) (c : Int) (hn : n.size ≤ 1000000) : Ca 55 #[.agg #[.string n, .int .i64 k, .int .i64 a, .int .i64 x, .int .i64 y, .int .i64 z, .int .i64 lo, .int .i64 hi, .slice fp fl fc], .int .i64 c] (.int .i64 (firstE [(ftE n k a x y z lo hi), axE c])) := Lib.hid fun w => by
  have q := rfCheck n k a x y z lo hi (.slice fp fl fc) hn
  by_cases e : (ftE n k a x y z lo hi) = 0
  · rw [e] at q; rw [e, fst_0, firstE_one]; exact rgiven_2 n k a x y z lo hi (.slice fp fl fc) c _ q (rAxis c) w
  · rw [fst_e e]; exact rgiven_1 n k a x y z lo hi (.slice fp fl fc) c _ (ne_b e) q w
theorem fhalf_hf (n : ByteArray) (k a x y z lo hi : Int) (fp : Option Addr) (fl fc : Nat) (h : (ftE n k a x y z lo hi) = 0) : Ca 54 #[.agg #[.string n, .int .i64 k, .int .i64 a, .int .i64 x, .int .i64 y, .int .i64 z, .int .i64 lo, .int .i64 hi, .slice fp fl fc]] (.int .i64 (hf hi)) := by
  have q := fhalf n k a x y z lo hi fp fl fc
  rw [half_hf (ft_hi h).1 (ft_hi h).2] at q
  exact q
/-- the limits of what a feature takes along an axis -/
theorem of_reach {u h : Int} (hu : -100000 ≤ u ∧ u ≤ 100000) (hh : 0 ≤ h ∧ h ≤ 50000) : ofE u (wrap64 (-h)) h = (if lmE (u - h) (u + h) = 0 then 0 else 2) ∧ wrap64 (u + wrap64 (-h)) = u - h ∧ wrap64 (u + h) = u + h := by
  have w1 : wrap64 (-h) = -h := Go.IntWalk.wrap64_in _ (by omega)
  have w2 : wrap64 (u + -h) = u - h := (Go.IntWalk.wrap64_in _ (by omega)).trans (by omega)
  have w3 : wrap64 (u + h) = u + h := Go.IntWalk.wrap64_in _ (by omega)
  rw [w1, w2, w3]
  refine ⟨?_, rfl, rfl⟩
  unfold ofE
  rw [w2, w3]
  have hi : inAll [u, -h, h] = true := by
    simp only [inAll, List.all_cons, List.all_nil, inR, Bool.and_eq_true, decide_eq_true_eq, and_true]
    omega
  rw [hi, Bool.not_true, fE_f, fst_0, firstE_one]
  unfold lmE
  rw [decide_eq_false (show ¬ u + h < u - h by omega), fE_f]
  rcases Bool.eq_false_or_eq_true (inAll [u - h, u + h]) with e | e
  · rw [e]; rfl
  · rw [e]; rfl
theorem reach_at (n : ByteArray) (k a x y z lo hi : Int) (fp : Option Addr) (fl fc : Nat) (i : Nat) (hi3 : i < 3) (hn : n.size ≤ 1000000) (h : (ftE n k a x y z lo hi) = 0) (u v e : Int) (q : Ca 53 #[.int .i64 (co3 x y z i), .int .i64 (wrap64 (-(hf hi))), .int .i64 (hf hi)] (.tuple #[.agg #[.int .i64 u, .int .i64 v], .int .i64 e])) (hb : bdB k a i = true) : Cg 20 #[.agg #[.string n, .int .i64 k, .int .i64 a, .int .i64 x, .int .i64 y, .int .i64 z, .int .i64 lo, .int .i64 hi, .slice fp fl fc], .int .i64 i] (.tuple #[.agg #[.int .i64 u, .int .i64 v], .int .i64 e]) := by
  have h3 : i = 0 ∨ i = 1 ∨ i = 2 := by omega
  have qh := fhalf_hf n k a x y z lo hi fp fl fc h
  rcases h3 with rfl | rfl | rfl
  · have qb := fbounded n k a x y z lo hi fp fl fc 0 (ft_k h)
    have qa := fcheckAlong n k a x y z lo hi fp fl fc 0 hn
    rw [show bdB k a 0 = true from hb] at qb
    rw [h, show firstE [firstE [0], firstE [axE 0]] = 0 by decide +kernel] at qa
    exact fReach0_any n k a x y z lo hi fp fl fc _ _ _ _ _ _ qa qb qh q
  · have qb := fbounded n k a x y z lo hi fp fl fc 1 (ft_k h)
    have qa := fcheckAlong n k a x y z lo hi fp fl fc 1 hn
    rw [show bdB k a 1 = true from hb] at qb
    rw [h, show firstE [firstE [0], firstE [axE 1]] = 0 by decide +kernel] at qa
    exact fReach1_any n k a x y z lo hi fp fl fc _ _ _ _ _ _ qa qb qh q
  · have qb := fbounded n k a x y z lo hi fp fl fc 2 (ft_k h)
    have qa := fcheckAlong n k a x y z lo hi fp fl fc 2 hn
    rw [show bdB k a 2 = true from hb] at qb
    rw [h, show firstE [firstE [0], firstE [axE 2]] = 0 by decide +kernel] at qa
    exact fReach2_any n k a x y z lo hi fp fl fc _ _ _ _ _ _ qa qb qh q
theorem sep_pt {u v ra rb : Int} (h1 : -100000 ≤ u ∧ u ≤ 100000) (h2 : -100000 ≤ v ∧ v ≤ 100000) (ha : 0 ≤ ra ∧ ra ≤ 50000) (hb : 0 ≤ rb ∧ rb ≤ 50000) :
    decide (wrap64 (ra + rb) < max (wrap64 (u - v)) (wrap64 (-(wrap64 (u - v))))) = (decide (u + ra < v - rb) || decide (v + rb < u - ra)) := by
  rw [Go.IntWalk.wrap64_in (u - v) (by omega), Go.IntWalk.wrap64_in (-(u - v)) (by omega), Go.IntWalk.wrap64_in (ra + rb) (by omega), ← Bool.decide_or]
  apply decide_eq_decide.2
  omega
theorem sep_eq {x y z x2 y2 z2 ra rb : Int} {oa ob : Nat → Bool} (hx : ∀ i, -100000 ≤ co3 x y z i ∧ co3 x y z i ≤ 100000) (hy : ∀ i, -100000 ≤ co3 x2 y2 z2 i ∧ co3 x2 y2 z2 i ≤ 100000) (ha : 0 ≤ ra ∧ ra ≤ 50000) (hb : 0 ≤ rb ∧ rb ≤ 50000) :
    fpR oa ob (fun j => max (wrap64 (co3 x y z j - co3 x2 y2 z2 j)) (wrap64 (-(wrap64 (co3 x y z j - co3 x2 y2 z2 j))))) (wrap64 (ra + rb)) = apR oa ob (fun j => co3 x y z j - ra) (fun j => co3 x y z j + ra) (fun j => co3 x2 y2 z2 j - rb) (fun j => co3 x2 y2 z2 j + rb) := by
  funext i
  exact congrArg (fun t => oa i && ob i && t) (sep_pt (hx i) (hy i) ha hb)
end Go.Proofs.YtdmfkgopalelgaaDoor
