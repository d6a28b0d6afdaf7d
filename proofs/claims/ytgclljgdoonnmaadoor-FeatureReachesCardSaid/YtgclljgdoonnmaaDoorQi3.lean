/- Features: Reach and Separate give the same on both sides. -/
import Derived.Test.YtgclljgdoonnmaaDoorQi2
import Derived.Test.YtgclljgdoonnmaaDoorQg6
import Derived.Test.YtgclljgdoonnmaaDoorOf2
import Derived.Test.YtgclljgdoonnmaaDoorQh2
namespace Go.Proofs.YtgclljgdoonnmaaDoor
open Go.RowKit

theorem firstE_all : ∀ {l : List Int}, firstE l = 0 → ∀ e ∈ l, e = 0
  | [], _, e, he => by simp at he
  | u :: l, h, e, he => by
    unfold firstE at h
    by_cases h0 : u = 0
    · rw [if_pos h0] at h
      rcases List.mem_cons.1 he with rfl | he
      · exact h0
      · exact firstE_all h e he
    · rw [if_neg h0] at h; exact absurd h h0
theorem ft_pl {n : ByteArray} {k a x y z lo hi : Int} (h : ftE n k a x y z lo hi = 0) : (-100000 ≤ x ∧ x ≤ 100000) ∧ (-100000 ≤ y ∧ y ≤ 100000) ∧ (-100000 ≤ z ∧ z ≤ 100000) := by
  unfold ftE at h
  have h1 := firstE_all h (firstE [plE x y z]) (by simp)
  rw [firstE_one] at h1
  unfold plE fE at h1
  split at h1
  · cases h1
  · rename_i h2
    simp only [Bool.not_eq_true', Bool.not_eq_false, inR, Bool.and_eq_true, decide_eq_true_eq] at h2
    omega
theorem ft_hi {n : ByteArray} {k a x y z lo hi : Int} (h : ftE n k a x y z lo hi = 0) : 0 ≤ hi ∧ hi ≤ 100000 := by
  by_cases hk : k = 0
  · unfold ftE at h
    have h1 := firstE_all h (szE k lo hi) (by simp)
    unfold szE at h1
    rw [if_pos hk, firstE_one] at h1
    unfold fE at h1
    split at h1
    · cases h1
    · rename_i h2
      simp only [Bool.not_eq_true', Bool.not_eq_false, Bool.and_eq_true, beq_iff_eq] at h2
      omega
  · have := ft_lim h hk
    omega
theorem half_hf {hi : Int} (h0 : 0 ≤ hi) (h1 : hi ≤ 100000) : wrap64 ((wrap64 (hi + 1)).tdiv 2) = hf hi := by
  rw [Go.IntWalk.wrap64_in (hi + 1) (by omega), Int.tdiv_eq_ediv_of_nonneg (by omega)]
  unfold hf
  exact Go.IntWalk.wrap64_in _ (by omega)
theorem hf_in {hi : Int} (h0 : 0 ≤ hi) (h1 : hi ≤ 100000) : 0 ≤ hf hi ∧ hf hi ≤ 50000 := by unfold hf; omega
theorem co3_in {x y z : Int} (hx : -100000 ≤ x ∧ x ≤ 100000) (hy : -100000 ≤ y ∧ y ≤ 100000) (hz : -100000 ≤ z ∧ z ≤ 100000) (i : Nat) : -100000 ≤ co3 x y z i ∧ co3 x y z i ≤ 100000 := by
  unfold co3
  split
  · exact hx
  · split
    · exact hy
    · exact hz
theorem rAxis (c : Int) : Ca 80 #[.int .i64 c] (.int .i64 (axE c)) := Lib.hid fun w => by
  unfold axE fE
  by_cases h1 : c < 0
  · simp only [h1, decide_true, Bool.true_or, if_true]; exact rAxis_1 c h1 w
  · by_cases h2 : 3 ≤ c
    · simp only [h1, h2, decide_true, Bool.or_true, if_true]; exact rAxis_2 c h1 h2 w
    · simp only [h1, h2, decide_false, Bool.or_false, Bool.false_eq_true, if_false]; exact rAxis_3 c h1 h2 w
theorem rgiven (n : ByteArray) (k a x y z lo hi : Int) (fp : Option Addr) (fl fc : Nat) (c : Int) (hn : n.size ≤ 1000000) : Ca 55 #[.agg #[.string n, .int .i64 k, .int .i64 a, .int .i64 x, .int .i64 y, .int .i64 z, .int .i64 lo, .int .i64 hi, .slice fp fl fc], .int .i64 c] (.int .i64 (firstE [(ftE n k a x y z lo hi), axE c])) := Lib.hid fun w => by
  have q := rfCheck n k a x y z lo hi (.slice fp fl fc) hn
  by_cases e : (ftE n k a x y z lo hi) = 0
  · rw [e] at q; rw [e, fst_0, firstE_one]; exact rgiven_2 n k a x y z lo hi (.slice fp fl fc) c _ q (rAxis c) w
  · rw [fst_e e]; exact rgiven_1 n k a x y z lo hi (.slice fp fl fc) c _ (ne_b e) q w
theorem rAlongN (n : ByteArray) (k a x y z lo hi : Int) (fp : Option Addr) (fl fc : Nat) (h : (ftE n k a x y z lo hi) = 0) (i : Nat) (hi3 : i < 3) : Ca 57 #[.agg #[.string n, .int .i64 k, .int .i64 a, .int .i64 x, .int .i64 y, .int .i64 z, .int .i64 lo, .int .i64 hi, .slice fp fl fc], .int .i64 i] (.agg #[.int .i64 (co3 x y z i - hf hi), .int .i64 (co3 x y z i + hf hi)]) := Lib.hid fun w => by
  obtain ⟨hx, hy, hz⟩ := ft_pl h
  obtain ⟨h0, h1⟩ := ft_hi h
  have h3 : i = 0 ∨ i = 1 ∨ i = 2 := by omega
  rcases h3 with rfl | rfl | rfl
  · exact rAlong_0 n k a x y z lo hi (.slice fp fl fc) h0 h1 hx.1 hx.2 hy.1 hy.2 hz.1 hz.2 (rCoords x y z) w
  · exact rAlong_1 n k a x y z lo hi (.slice fp fl fc) h0 h1 hx.1 hx.2 hy.1 hy.2 hz.1 hz.2 (rCoords x y z) w
  · exact rAlong_2 n k a x y z lo hi (.slice fp fl fc) h0 h1 hx.1 hx.2 hy.1 hy.2 hz.1 hz.2 (rCoords x y z) w
theorem fhalf_hf (n : ByteArray) (k a x y z lo hi : Int) (fp : Option Addr) (fl fc : Nat) (h : (ftE n k a x y z lo hi) = 0) : Ca 54 #[.agg #[.string n, .int .i64 k, .int .i64 a, .int .i64 x, .int .i64 y, .int .i64 z, .int .i64 lo, .int .i64 hi, .slice fp fl fc]] (.int .i64 (hf hi)) := by
  have q := fhalf n k a x y z lo hi fp fl fc
  rw [half_hf (ft_hi h).1 (ft_hi h).2] at q
  exact q
/-- the limits of what a feature takes along an axis -/
theorem of_reach {u h : Int} (hu : -100000 ≤ u ∧ u ≤ 100000) (hh : 0 ≤ h ∧ h ≤ 50000) : ofE u (wrap64 (-h)) h = (if lmE (u - h) (u + h) = 0 then 0 else 2) ∧ wrap64 (u + wrap64 (-h)) = u - h ∧ wrap64 (u + h) = u + h := by
  have w1 : wrap64 (-h) = -h := Go.IntWalk.wrap64_in _ (by omega)
  have w2 : wrap64 (u + -h) = u - h := (Go.IntWalk.wrap64_in _ (by omega)).trans (by omega)
  have w3 : wrap64 (u + h) = u + h := Go.IntWalk.wrap64_in _ (by omega)
  rw [w1, w2, w3]
  refine ⟨?_, rfl, rfl⟩
  unfold ofE
  rw [w2, w3]
  have hi : inAll [u, -h, h] = true := by
    simp only [inAll, List.all_cons, List.all_nil, inR, Bool.and_eq_true, decide_eq_true_eq, and_true]
    omega
  rw [hi, Bool.not_true, fE_f, fst_0, firstE_one]
  unfold lmE
  rw [decide_eq_false (show ¬ u + h < u - h by omega), fE_f]
  rcases Bool.eq_false_or_eq_true (inAll [u - h, u + h]) with e | e
  · rw [e]; rfl
  · rw [e]; rfl
theorem reach_at (n : ByteArray) (k a x y z lo hi : Int) (fp : Option Addr) (fl fc : Nat) (i : Nat) (hi3 : i < 3) (hn : n.size ≤ 1000000) (h : (ftE n k a x y z lo hi) = 0) (u v e : Int) (q : Ca 53 #[.int .i64 (co3 x y z i), .int .i64 (wrap64 (-(hf hi))), .int .i64 (hf hi)] (.tuple #[.agg #[.int .i64 u, .int .i64 v], .int .i64 e])) (hb : bdB k a i = true) : Cg 20 #[.agg #[.string n, .int .i64 k, .int .i64 a, .int .i64 x, .int .i64 y, .int .i64 z, .int .i64 lo, .int .i64 hi, .slice fp fl fc], .int .i64 i] (.tuple #[.agg #[.int .i64 u, .int .i64 v], .int .i64 e]) := by
  have h3 : i = 0 ∨ i = 1 ∨ i = 2 := by omega
  have qh := fhalf_hf n k a x y z lo hi fp fl fc h
  rcases h3 with rfl | rfl | rfl
  · have qb := fbounded n k a x y z lo hi fp fl fc 0 (ft_k h)
    have qa := fcheckAlong n k a x y z lo hi fp fl fc 0 hn
    rw [show bdB k a 0 = true from hb] at qb
    rw [h, show firstE [firstE [0], firstE [axE 0]] = 0 by decide +kernel] at qa
    exact fReach0_any n k a x y z lo hi fp fl fc _ _ _ _ _ _ qa qb qh q
  · have qb := fbounded n k a x y z lo hi fp fl fc 1 (ft_k h)
    have qa := fcheckAlong n k a x y z lo hi fp fl fc 1 hn
    rw [show bdB k a 1 = true from hb] at qb
    rw [h, show firstE [firstE [0], firstE [axE 1]] = 0 by decide +kernel] at qa
    exact fReach1_any n k a x y z lo hi fp fl fc _ _ _ _ _ _ qa qb qh q
  · have qb := fbounded n k a x y z lo hi fp fl fc 2 (ft_k h)
    have qa := fcheckAlong n k a x y z lo hi fp fl fc 2 hn
    rw [show bdB k a 2 = true from hb] at qb
    rw [h, show firstE [firstE [0], firstE [axE 2]] = 0 by decide +kernel] at qa
    exact fReach2_any n k a x y z lo hi fp fl fc _ _ _ _ _ _ qa qb qh q
theorem reach_both (n : ByteArray) (k a x y z lo hi : Int) (fp : Option Addr) (fl fc : Nat) (c : Int) (hn : n.size ≤ 1000000) : ∃ u v e : Int, Cg 20 #[.agg #[.string n, .int .i64 k, .int .i64 a, .int .i64 x, .int .i64 y, .int .i64 z, .int .i64 lo, .int .i64 hi, .slice fp fl fc], .int .i64 c] (.tuple #[.agg #[.int .i64 u, .int .i64 v], .int .i64 e]) ∧ Ca 21 #[.agg #[.string n, .int .i64 k, .int .i64 a, .int .i64 x, .int .i64 y, .int .i64 z, .int .i64 lo, .int .i64 hi, .slice fp fl fc], .int .i64 c] (.tuple #[.agg #[.int .i64 u, .int .i64 v], .int .i64 e]) := by
  have qa := fcheckAlong n k a x y z lo hi fp fl fc c hn
  have qg := rgiven n k a x y z lo hi fp fl fc c hn
  rw [firstE_one, firstE_one] at qa
  by_cases e : firstE [(ftE n k a x y z lo hi), axE c] = 0
  · rw [e] at qa qg
    have h := firstE_all e _ (List.mem_cons_self ..)
    have hx := firstE_all e (axE c) (by simp)
    have hc : 0 ≤ c ∧ c < 3 := by
      unfold axE fE at hx
      split at hx
      · cases hx
      · rename_i h2
        simp only [Bool.or_eq_true, decide_eq_true_eq] at h2
        omega
    rcases Bool.eq_false_or_eq_true (bdB k a c) with hb | hb
    · obtain ⟨i, rfl⟩ : ∃ i : Nat, c = i := ⟨c.toNat, by omega⟩
      obtain ⟨px, py, pz⟩ := ft_pl h
      obtain ⟨g1, g2, g3⟩ := of_reach (co3_in px py pz i) (hf_in (ft_hi h).1 (ft_hi h).2)
      have qo := dOf (co3 x y z i) (wrap64 (-(hf hi))) (hf hi)
      rw [g1, g2, g3] at qo
      have qb := rBounded n k a x y z lo hi (.slice fp fl fc) i
      rw [hb] at qb
      have ql := rAlongN n k a x y z lo hi fp fl fc h i (by omega)
      have qc := rCheck (co3 x y z i - hf hi) (co3 x y z i + hf hi)
      by_cases e2 : lmE (co3 x y z i - hf hi) (co3 x y z i + hf hi) = 0
      · rw [if_pos e2, zI_0, zI_0] at qo
        rw [e2] at qc
        exact ⟨_, _, _, reach_at n k a x y z lo hi fp fl fc i (by omega) hn h _ _ _ qo hb, Lib.hid fun w => rReach_4 n k a x y z lo hi (.slice fp fl fc) i _ _ qg qb ql qc w⟩
      · rw [if_neg e2, zI_e (by decide), zI_e (by decide)] at qo
        exact ⟨_, _, _, reach_at n k a x y z lo hi fp fl fc i (by omega) hn h _ _ _ qo hb, Lib.hid fun w => rReach_3 n k a x y z lo hi (.slice fp fl fc) i _ _ _ (ne_b e2) qg qb ql qc w⟩
    · have qb := fbounded n k a x y z lo hi fp fl fc c (ft_k h)
      have qr := rBounded n k a x y z lo hi (.slice fp fl fc) c
      rw [hb] at qb qr
      exact ⟨_, _, _, Lib.hid fun w gl => fReachC_2 n k a x y z lo hi fp fl fc c _ _ qa qb rfl rfl w gl, Lib.hid fun w => rReach_2 n k a x y z lo hi (.slice fp fl fc) c qg qr w⟩
  · exact ⟨_, _, _, Lib.hid fun w gl => fReachC_1 n k a x y z lo hi fp fl fc c _ qa (ne_b e) w gl, Lib.hid fun w => rReach_1 n k a x y z lo hi (.slice fp fl fc) c _ (ne_b e) qg w⟩
theorem sep_pt {u v ra rb : Int} (h1 : -100000 ≤ u ∧ u ≤ 100000) (h2 : -100000 ≤ v ∧ v ≤ 100000) (ha : 0 ≤ ra ∧ ra ≤ 50000) (hb : 0 ≤ rb ∧ rb ≤ 50000) :
    decide (wrap64 (ra + rb) < max (wrap64 (u - v)) (wrap64 (-(wrap64 (u - v))))) = (decide (u + ra < v - rb) || decide (v + rb < u - ra)) := by
  rw [Go.IntWalk.wrap64_in (u - v) (by omega), Go.IntWalk.wrap64_in (-(u - v)) (by omega), Go.IntWalk.wrap64_in (ra + rb) (by omega), ← Bool.decide_or]
  apply decide_eq_decide.2
  omega
theorem sep_eq {x y z x2 y2 z2 ra rb : Int} {oa ob : Nat → Bool} (hx : ∀ i, -100000 ≤ co3 x y z i ∧ co3 x y z i ≤ 100000) (hy : ∀ i, -100000 ≤ co3 x2 y2 z2 i ∧ co3 x2 y2 z2 i ≤ 100000) (ha : 0 ≤ ra ∧ ra ≤ 50000) (hb : 0 ≤ rb ∧ rb ≤ 50000) :
    fpR oa ob (fun j => max (wrap64 (co3 x y z j - co3 x2 y2 z2 j)) (wrap64 (-(wrap64 (co3 x y z j - co3 x2 y2 z2 j))))) (wrap64 (ra + rb)) = apR oa ob (fun j => co3 x y z j - ra) (fun j => co3 x y z j + ra) (fun j => co3 x2 y2 z2 j - rb) (fun j => co3 x2 y2 z2 j + rb) := by
  funext i
  exact congrArg (fun t => oa i && ob i && t) (sep_pt (hx i) (hy i) ha hb)
theorem sep_both (n : ByteArray) (k a x y z lo hi : Int) (fp : Option Addr) (fl fc : Nat) (n2 : ByteArray) (k2 a2 x2 y2 z2 lo2 hi2 : Int) (fp2 : Option Addr) (fl2 fc2 : Nat) (hn : n.size ≤ 1000000) (hn2 : n2.size ≤ 1000000) : ∃ (o : Bool) (e : Int), Cg 22 #[.agg #[.string n, .int .i64 k, .int .i64 a, .int .i64 x, .int .i64 y, .int .i64 z, .int .i64 lo, .int .i64 hi, .slice fp fl fc], .agg #[.string n2, .int .i64 k2, .int .i64 a2, .int .i64 x2, .int .i64 y2, .int .i64 z2, .int .i64 lo2, .int .i64 hi2, .slice fp2 fl2 fc2]] (.tuple #[.bool o, .int .i64 e]) ∧ Ca 23 #[.agg #[.string n, .int .i64 k, .int .i64 a, .int .i64 x, .int .i64 y, .int .i64 z, .int .i64 lo, .int .i64 hi, .slice fp fl fc], .agg #[.string n2, .int .i64 k2, .int .i64 a2, .int .i64 x2, .int .i64 y2, .int .i64 z2, .int .i64 lo2, .int .i64 hi2, .slice fp2 fl2 fc2]] (.tuple #[.bool o, .int .i64 e]) := by
  have q1 := fCheck n k a x y z lo hi fp fl fc hn
  have q2 := fCheck n2 k2 a2 x2 y2 z2 lo2 hi2 fp2 fl2 fc2 hn2
  have r1 := rfCheck n k a x y z lo hi (.slice fp fl fc) hn
  have r2 := rfCheck n2 k2 a2 x2 y2 z2 lo2 hi2 (.slice fp2 fl2 fc2) hn2
  by_cases e1 : (ftE n k a x y z lo hi) = 0
  · by_cases e2 : (ftE n2 k2 a2 x2 y2 z2 lo2 hi2) = 0
    · rw [e1] at q1 r1
      rw [e2] at q2 r2
      obtain ⟨px, py, pz⟩ := ft_pl e1
      obtain ⟨px2, py2, pz2⟩ := ft_pl e2
      have S := fun w gl => fSeparate_2 n k a x y z lo hi fp fl fc n2 k2 a2 x2 y2 z2 lo2 hi2 fp2 fl2 fc2 _ _ _ _ q1 q2 (fhalf_hf n k a x y z lo hi fp fl fc e1) (fhalf_hf n2 k2 a2 x2 y2 z2 lo2 hi2 fp2 fl2 fc2 e2) _ _ _ _ _ _ (fun _ => rfl) (fun _ => rfl) (fun _ => rfl) rfl (fun c hc => fbounded n k a x y z lo hi fp fl fc c (ft_k e1)) (fun c hc => fbounded n2 k2 a2 x2 y2 z2 lo2 hi2 fp2 fl2 fc2 c (ft_k e2)) rfl w gl
      have T := fun w => rApart_1 n k a x y z lo hi fp fl fc n2 k2 a2 x2 y2 z2 lo2 hi2 fp2 fl2 fc2 _ _ _ _ _ _ (fun c _ => rBounded n k a x y z lo hi (.slice fp fl fc) c) (fun c hc => rAlongN n k a x y z lo hi fp fl fc e1 c hc) (fun c _ => rBounded n2 k2 a2 x2 y2 z2 lo2 hi2 (.slice fp2 fl2 fc2) c) (fun c hc => rAlongN n2 k2 a2 x2 y2 z2 lo2 hi2 fp2 fl2 fc2 e2 c hc) w
      have U := rSeparate_any n k a x y z lo hi fp fl fc n2 k2 a2 x2 y2 z2 lo2 hi2 fp2 fl2 fc2 _ _ _ r1 r2 (Lib.hid T)
      rw [if_neg (by decide), if_neg (by decide)] at U
      refine ⟨_, _, Lib.hid fun w gl => S w gl, ?_⟩
      rw [sep_eq (co3_in px py pz) (co3_in px2 py2 pz2) (hf_in (ft_hi e1).1 (ft_hi e1).2) (hf_in (ft_hi e2).1 (ft_hi e2).2)]
      exact U
    · rw [e1] at q1 r1
      have hE : firstE [firstE [0, (ftE n2 k2 a2 x2 y2 z2 lo2 hi2)]] = (ftE n2 k2 a2 x2 y2 z2 lo2 hi2) := by rw [firstE_one, fst_0, firstE_one]
      refine ⟨false, (ftE n2 k2 a2 x2 y2 z2 lo2 hi2), Lib.hid fun w gl => ?_, Lib.hid fun w => rSeparate_2 n k a x y z lo hi fp fl fc n2 k2 a2 x2 y2 z2 lo2 hi2 fp2 fl2 fc2 _ _ r1 r2 rfl (ne_b e2) w⟩
      have := fSeparate_1 n k a x y z lo hi fp fl fc n2 k2 a2 x2 y2 z2 lo2 hi2 fp2 fl2 fc2 _ _ q1 q2 (by rw [hE]; exact ne_b e2) w gl
      rw [hE] at this; exact this
  · have hE : firstE [firstE [(ftE n k a x y z lo hi), (ftE n2 k2 a2 x2 y2 z2 lo2 hi2)]] = (ftE n k a x y z lo hi) := by rw [firstE_one, fst_e e1]
    refine ⟨false, (ftE n k a x y z lo hi), Lib.hid fun w gl => ?_, Lib.hid fun w => rSeparate_1 n k a x y z lo hi fp fl fc n2 k2 a2 x2 y2 z2 lo2 hi2 fp2 fl2 fc2 _ r1 (ne_b e1) w⟩
    have := fSeparate_1 n k a x y z lo hi fp fl fc n2 k2 a2 x2 y2 z2 lo2 hi2 fp2 fl2 fc2 _ _ q1 q2 (by rw [hE]; exact ne_b e1) w gl
    rw [hE] at this; exact this
end Go.Proofs.YtgclljgdoonnmaaDoor
