/- Texts Ratio, Ratio2: each says in its own first comment what it proves. -/
import Derived.Test.YtiommpdbbpddpaaGreatM27
import Derived.Test.YtiommpdbbpddpaaGreatShelf
import Derived.Test.YtiommpdbbpddpaaGreatM26
/- Fractions in lowest terms, as core's Rat. -/
namespace Go.Proofs.YtiommpdbbpddpaaGreat
open Go.RowKit
open Go.Lib (nDigits itoa decDigits)

theorem gcdI_eq (n d : Int) : gcdI n d = (d.gcd n : Int) := by
  unfold gcdI Int.gcd
  rw [Nat.gcd_comm]
theorem sgn_pos {d : Int} (h : 0 < d) : sgn d = 1 := by unfold sgn; rw [if_neg (by omega), if_neg (by omega)]
theorem sgn_neg {d : Int} (h : d < 0) : sgn d = -1 := by unfold sgn; rw [if_pos h]

theorem red_val (n d : Int) (hd : d ≠ 0) :
    n.fdiv (sgn d * gcdI n d) = (Rat.divInt n d).num ∧ d.fdiv (sgn d * gcdI n d) = ((Rat.divInt n d).den : Int) := by
  rw [Rat.num_divInt, Rat.den_divInt, if_neg hd, gcdI_eq]
  have g1 : (d.gcd n : Int) ∣ n := Int.gcd_dvd_right ..
  have g2 : (d.gcd n : Int) ∣ d := Int.gcd_dvd_left ..
  have gp : 0 < d.gcd n := Int.gcd_pos_of_ne_zero_left _ hd
  generalize d.gcd n = G at *
  have gz : (G : Int) ≠ 0 := by omega
  obtain ⟨a, rfl⟩ := g1
  obtain ⟨b, rfl⟩ := g2
  have hb : b ≠ 0 := fun e => hd (by rw [e, Int.mul_zero])
  rcases Int.lt_or_gt_of_ne hd with h | h
  · rw [sgn_neg h, Int.sign_eq_neg_one_of_neg h]
    have hb' : b < 0 := by
      rcases Int.lt_or_gt_of_ne hb with h2 | h2
      · exact h2
      · have := Int.mul_pos (show (0 : Int) < G by omega) h2
        omega
    constructor
    · rw [show (-1 : Int) * (G * a) = G * (-a) by rw [Int.mul_neg, Int.neg_mul, Int.one_mul], Int.mul_ediv_cancel_left _ gz]
      rw [show (G : Int) * a = (-1 * (G : Int)) * (-a) by rw [Int.neg_mul, Int.one_mul, Int.neg_mul_neg]]
      exact Int.mul_fdiv_cancel_left _ (by omega)
    · rw [show (G : Int) * b = (-1 * (G : Int)) * (-b) by rw [Int.neg_mul, Int.one_mul, Int.neg_mul_neg], Int.mul_fdiv_cancel_left _ (by omega)]
      rw [show (-1 * (G : Int)) * (-b) = (G : Int) * b by rw [Int.neg_mul, Int.one_mul, Int.neg_mul_neg], Int.natAbs_mul, Int.natAbs_natCast, Nat.mul_div_cancel_left _ gp]
      omega
  · rw [sgn_pos h, Int.sign_eq_one_of_pos h, Int.one_mul, Int.one_mul]
    have hb' : 0 < b := by
      rcases Int.lt_or_gt_of_ne hb with h2 | h2
      · have := Int.mul_neg_of_pos_of_neg (show (0 : Int) < G by omega) h2
        omega
      · exact h2
    constructor
    · rw [Int.mul_fdiv_cancel_left _ gz, Int.mul_ediv_cancel_left _ gz]
    · rw [Int.mul_fdiv_cancel_left _ gz, Int.natAbs_mul, Int.natAbs_natCast, Nat.mul_div_cancel_left _ gp]
      omega
set_option exponentiation.threshold 2000 in
theorem ok_le {x y : Int} (h : Ok y) (hl : x.natAbs ≤ y.natAbs) : Ok x := by
  unfold Ok at *
  exact (nd_le_iff (by omega)).2 (Nat.lt_of_le_of_lt hl ((nd_le_iff (by omega)).1 h))
theorem chkL_S2 {x y : Int} (hx : Ok x) (hy : Ok y) : chkL [S x, S y] = 0 := by
  have := chkL_map (zs := [x, y]) (by intro z hz; simp at hz; rcases hz with rfl | rfl <;> assumption)
  exact this
theorem chk_S0 {x : Int} (hx : Ok x) : chk (S x).data.toList = 0 := by rw [S_list, chk_ok hx]
theorem signI_S {x : Int} (hx : Ok x) : signI (S x) = sgn x := by unfold signI; rw [if_pos (chk_S0 hx), valS_S]
theorem one_list : (S 1).data.toList = [49] := by
  rw [S_list, show itoa 1 = decDigits 1 from rfl, dec_small (by omega)]
  rfl
theorem isOne_S (x : Int) : isOne (S x) = decide (x = 1) := by
  unfold isOne
  rw [ByteArray.toList_eq]
  by_cases h : x = 1
  · subst h; rw [one_list]; rfl
  · rw [decide_eq_false h]
    refine beq_eq_false_iff_ne.2 (fun e => h ?_)
    have h1 : val (S x).data.toList = val (S 1).data.toList := by rw [e, one_list]
    have : valS (S x) = valS (S 1) := h1
    rwa [valS_S, valS_S] at this
theorem gcdI_le {n d : Int} (hd : d ≠ 0) : (gcdI n d).natAbs ≤ d.natAbs := by
  unfold gcdI
  rw [Int.natAbs_natCast]
  exact Nat.le_of_dvd (by omega) (Nat.gcd_dvd_right ..)
/-- the divisor, with the sign of the denominator -/
theorem redG_S {n d : Int} (hn : Ok n) (hd : Ok d) (h0 : d ≠ 0) : redG (S n) (S d) = S (sgn d * gcdI n d) ∧ redGE (S n) (S d) = 0 ∧ Ok (gcdI n d) := by
  have hg : Ok (gcdI n d) := ok_le hd (gcdI_le h0)
  have hb : binB gcdI (S n) (S d) = S (gcdI n d) := by rw [binB_S (chkL_S2 hn hd)]; exact if_pos hg
  have he : binE gcdI (S n) (S d) = 0 := by unfold binE; rw [if_pos (chkL_S2 hn hd), valS_S, valS_S]; exact if_pos hg
  refine ⟨?_, ?_, hg⟩
  · unfold redG
    rw [signI_S hd, hb]
    rcases Int.lt_or_gt_of_ne h0 with h | h
    · rw [sgn_neg h, if_pos (by omega)]
      unfold unB
      rw [if_pos (chk_S0 hg), valS_S]
      show S (-gcdI n d) = _
      congr 1
      omega
    · rw [sgn_pos h, if_neg (by omega), Int.one_mul]
  · unfold redGE
    rw [signI_S hd, hb, he, chk_S0 hd, chk_S0 hg, kp_zero, kp_zero]
    split <;> rfl

theorem ok_num {n d : Int} (hn : Ok n) (hd : d ≠ 0) : Ok (Rat.divInt n d).num := by
  refine ok_le hn ?_
  rw [Rat.num_divInt]
  have gp : 0 < d.gcd n := Int.gcd_pos_of_ne_zero_left _ hd
  have h1 : (d.sign * n).natAbs = n.natAbs := by
    rw [Int.natAbs_mul, Int.natAbs_sign_of_ne_zero hd, Nat.one_mul]
  have := Int.natAbs_ediv_le_natAbs (d.sign * n) (d.gcd n)
  omega
theorem ok_den {n d : Int} (hd : Ok d) (h0 : d ≠ 0) : Ok ((Rat.divInt n d).den : Int) := by
  refine ok_le hd ?_
  rw [Rat.den_divInt, if_neg h0, Int.natAbs_natCast]
  exact Nat.div_le_self _ _
theorem divBE_S {f : Int → Int → Int} {x y : Int} (hx : Ok x) (hy : Ok y) (h0 : y ≠ 0) (hf : Ok (f x y)) : divB f (S x) (S y) = S (f x y) ∧ divE f (S x) (S y) = 0 := by
  unfold divB divE
  rw [if_pos (chkL_S2 hx hy), if_pos (chkL_S2 hx hy), valS_S, valS_S, if_neg h0, if_neg h0]
  exact ⟨if_pos hf, if_pos hf⟩

/-- REDUCE: the texts of n and d in lowest terms, with no error -/
theorem red_S {n d : Int} (hn : Ok n) (hd : Ok d) (h0 : d ≠ 0) :
    redN (S n) (S d) = S (Rat.divInt n d).num ∧ redD (S n) (S d) = S ((Rat.divInt n d).den : Int) ∧ redE (S n) (S d) = 0 := by
  obtain ⟨h1, h2, h3⟩ := redG_S hn hd h0
  obtain ⟨v1, v2⟩ := red_val n d h0
  unfold redN redD redE
  rw [h1, h2, isOne_S]
  by_cases hone : sgn d * gcdI n d = 1
  · rw [decide_eq_true hone, if_pos rfl, if_pos rfl, if_pos rfl]
    rw [hone, Int.fdiv_one] at v1 v2
    exact ⟨by rw [← v1], by rw [← v2], rfl⟩
  · rw [decide_eq_false hone, if_neg (by decide), if_neg (by decide), if_neg (by decide)]
    have hs : Ok (sgn d * gcdI n d) := by
      rcases Int.lt_or_gt_of_ne h0 with h | h
      · rw [sgn_neg h]; exact ok_le h3 (by omega)
      · rw [sgn_pos h, Int.one_mul]; exact h3
    have hz : sgn d * gcdI n d ≠ 0 := by
      have : 0 < gcdI n d := by rw [gcdI_eq]; have := Int.gcd_pos_of_ne_zero_left n h0; omega
      rcases Int.lt_or_gt_of_ne h0 with h | h
      · rw [sgn_neg h]; omega
      · rw [sgn_pos h]; omega
    have o1 := ok_num hn h0
    have o2 := ok_den (n := n) hd h0
    obtain ⟨a1, a2⟩ := divBE_S (f := Int.fdiv) hn hs hz (by rw [v1]; exact o1)
    obtain ⟨b1, b2⟩ := divBE_S (f := Int.fdiv) hd hs hz (by rw [v2]; exact o2)
    rw [a1, a2, b1, b2, v1, v2]
    exact ⟨rfl, rfl, rfl⟩
end Go.Proofs.YtiommpdbbpddpaaGreat

/- Texts of rational numbers. -/
namespace Go.Proofs.YtiommpdbbpddpaaGreat
open Go.RowKit
open Go.Lib (nDigits itoa decDigits)

/-- the text of a rational number -/
def RS (q : Rat) : ByteArray := if q.den = 1 then S q.num else S q.num ++ ⟨#[47]⟩ ++ S (q.den : Int)
def OkR (q : Rat) : Prop := Ok q.num ∧ Ok (q.den : Int)

theorem noslash (z : Int) : ∀ c ∈ (S z).data.toList, c ≠ 47 := by
  rw [S_list]
  intro c hc
  have hd : ∀ u c, c ∈ decDigits u → c ≠ 47 := by
    intro u c h e
    have := List.all_eq_true.1 (dec_all u) c h
    rw [isDig_iff] at this
    subst e
    exact absurd this.1 (by decide)
  unfold itoa at hc
  split at hc
  · rcases List.mem_cons.1 hc with rfl | h
    · decide
    · exact hd _ _ h
  · exact hd _ _ hc
theorem find_none (l : List UInt8) (h : ∀ c ∈ l, c ≠ 47) : l.findIdx (· == 47) = l.length := by
  induction l with
  | nil => rfl
  | cons a t ih =>
    have ha : (a == 47) = false := by simpa using h a (List.mem_cons_self ..)
    rw [List.findIdx_cons, ha, ih (fun c hc => h c (List.mem_cons_of_mem _ hc))]
    rfl
theorem find_app (l r : List UInt8) (h : ∀ c ∈ l, c ≠ 47) : (l ++ 47 :: r).findIdx (· == 47) = l.length := by
  induction l with
  | nil => simp [List.findIdx_cons]
  | cons a t ih =>
    have ha : (a == 47) = false := by simpa using h a (List.mem_cons_self ..)
    rw [List.cons_append, List.findIdx_cons, ha, ih (fun c hc => h c (List.mem_cons_of_mem _ hc))]
    rfl
theorem bytes_eq {a b : ByteArray} (h : a.data.toList = b.data.toList) : a = b := by
  cases a; cases b
  congr 1
  exact Array.toList_inj.1 h

theorem split_bare (z : Int) : cN (S z) = S z ∧ cD (S z) = S 1 ∧ cW (S z) = false := by
  have hs : slashAt (S z) = (S z).size := by
    unfold slashAt
    rw [find_none _ (noslash z), Lib.size_eq]
  unfold cN cD cW
  rw [hs]
  refine ⟨?_, ?_, by simp⟩
  · apply bytes_eq
    rw [Lib.extract_data, List.drop_zero, List.take_of_length_le (by rw [Lib.size_eq]; omega)]
  · rw [if_neg (by omega)]
    exact bytes_eq (by rw [one_list])
theorem split_both (x y : Int) : cN (S x ++ ⟨#[47]⟩ ++ S y) = S x ∧ cD (S x ++ ⟨#[47]⟩ ++ S y) = S y ∧ cW (S x ++ ⟨#[47]⟩ ++ S y) = true := by
  have hl : (S x ++ ⟨#[47]⟩ ++ S y).data.toList = (S x).data.toList ++ 47 :: (S y).data.toList := by
    simp [ByteArray.data_append]
  have hz : (S x ++ ⟨#[47]⟩ ++ S y).size = (S x).size + 1 + (S y).size := by
    rw [Lib.size_eq, hl, List.length_append, List.length_cons, ← Lib.size_eq, ← Lib.size_eq]; omega
  have hs : slashAt (S x ++ ⟨#[47]⟩ ++ S y) = (S x).size := by
    unfold slashAt
    rw [hl, find_app _ _ (noslash x), Lib.size_eq]
  unfold cN cD cW
  rw [hs, hz]
  refine ⟨?_, ?_, decide_eq_true (by omega)⟩
  · apply bytes_eq
    rw [Lib.extract_data, hl, List.drop_zero, List.take_append_of_le_length (by rw [Lib.size_eq]; omega), List.take_of_length_le (by rw [Lib.size_eq]; omega)]
  · rw [if_pos (by omega)]
    apply bytes_eq
    rw [Lib.extract_data, hl]
    rw [show (S x).size + 1 = ((S x).data.toList ++ [47]).length by rw [List.length_append, ← Lib.size_eq]; rfl]
    rw [show (S x).data.toList ++ 47 :: (S y).data.toList = ((S x).data.toList ++ [47]) ++ (S y).data.toList by simp]
    rw [List.drop_left, List.take_of_length_le (by rw [List.length_append, ← Lib.size_eq, ← Lib.size_eq]; simp)]
theorem okq_one : Ok 1 := by
  unfold Ok
  rw [show (1 : Int).natAbs = 1 from rfl, Lib.nDigits_small (by omega)]
  omega
theorem one_S : (⟨#[49]⟩ : ByteArray) = S 1 := bytes_eq (by rw [one_list])
theorem cmpV_S {x y : Int} (hx : Ok x) (hy : Ok y) : cmpV (S x) (S y) = cmpI x y := by
  unfold cmpV
  rw [if_pos (chkL_S2 hx hy), valS_S, valS_S]
theorem gcdBE_S {x y : Int} (hx : Ok x) (hy : Ok y) (h0 : y ≠ 0) : binB gcdI (S x) (S y) = S (gcdI x y) := by
  rw [binB_S (chkL_S2 hx hy)]
  exact if_pos (ok_le hy (gcdI_le h0))
theorem lowB_S {x y : Int} (hx : Ok x) (hy : Ok y) : lowB (S x) (S y) = (decide (1 < y) && decide (gcdI x y = 1)) := by
  unfold lowB
  rw [one_S, cmpV_S hy okq_one]
  by_cases h : 1 < y
  · have h1 : cmpI y 1 = 1 := by unfold cmpI; rw [if_neg (by omega), if_neg (by omega)]
    rw [h1, decide_eq_true h, gcdBE_S hx hy (by omega), isOne_S]
    rfl
  · have h1 : cmpI y 1 ≤ 0 := by unfold cmpI; split; · omega
                                 · split <;> omega
    rw [decide_eq_true h1, decide_eq_false h]
    rfl

/-- every right text is that of one number, and the number's text is right -/
theorem sp_RS {q : Rat} (h : OkR q) : cN (RS q) = S q.num ∧ cD (RS q) = S (q.den : Int) ∧ spE (RS q) = 0 := by
  obtain ⟨h1, h2⟩ := h
  unfold RS
  by_cases hd : q.den = 1
  · rw [if_pos hd]
    obtain ⟨a, b, c⟩ := split_bare q.num
    refine ⟨a, by rw [b, hd]; rfl, ?_⟩
    unfold spE frE
    rw [a, b, c, chk_S0 h1, chk_S0 okq_one]
    simp
  · rw [if_neg hd]
    obtain ⟨a, b, c⟩ := split_both q.num (q.den : Int)
    refine ⟨a, b, ?_⟩
    have hg : gcdI q.num (q.den : Int) = 1 := by
      unfold gcdI
      rw [Int.natAbs_natCast, q.reduced.gcd_eq_one]
      rfl
    have hp := q.den_pos
    unfold spE frE
    rw [a, b, c, chk_S0 h1, chk_S0 h2, lowB_S h1 h2, decide_eq_true (by omega : (1 : Int) < (q.den : Int)), decide_eq_true hg]
    simp
theorem RS_of_sp {a : ByteArray} (h : spE a = 0) : ∃ q, a = RS q ∧ OkR q := by
  have hd : chk (cD a).data.toList = 0 := by
    refine Classical.byContradiction fun hne => ?_
    unfold spE frE at h
    split at h
    · cases h
    · exact hne h
  have hn : chk (cN a).data.toList = 0 := by
    refine Classical.byContradiction fun hne => ?_
    unfold spE frE at h
    split at h
    · cases h
    · rw [if_neg (fun x => x hd)] at h; exact hne h
  have hlow : cW a = true → lowB (cN a) (cD a) = true := by
    intro hw
    unfold spE frE at h
    rw [hn, hd, hw] at h
    cases hb : lowB (cN a) (cD a)
    · rw [hb] at h; simp at h
    · rfl
  obtain ⟨x, hx, ox⟩ := of_chk_zero hn
  obtain ⟨y, hy, oy⟩ := of_chk_zero hd
  by_cases hw : slashAt a < a.size
  · have hc : cW a = true := decide_eq_true hw
    have hl := hlow hc
    rw [hx, hy, lowB_S ox oy, Bool.and_eq_true, decide_eq_true_eq, decide_eq_true_eq] at hl
    obtain ⟨l1, l2⟩ := hl
    refine ⟨⟨x, y.toNat, by omega, ?_⟩, ?_, ?_⟩
    · unfold gcdI at l2
      have : y.natAbs = y.toNat := by omega
      rw [this] at l2
      exact Nat.coprime_iff_gcd_eq_one.2 (by exact_mod_cast l2)
    · have e2 : ((y.toNat : Nat) : Int) = y := by omega
      unfold RS
      simp only []
      rw [if_neg (by omega), e2, ← hx, ← hy]
      unfold cN cD
      rw [if_pos hw]
      apply bytes_eq
      have hfind : slashAt a < a.data.toList.length := by rw [← Lib.size_eq]; exact hw
      have hat : a.data.toList[slashAt a]'hfind = 47 := by
        have := List.findIdx_getElem (p := (· == (47 : UInt8))) (xs := a.data.toList) (w := hfind)
        exact beq_iff_eq.1 this
      simp only [ByteArray.data_append, Array.toList_append, Lib.extract_data, List.drop_zero, Nat.sub_zero]
      rw [List.take_of_length_le (l := a.data.toList.drop (slashAt a + 1)) (Nat.le_of_eq (by rw [List.length_drop, Lib.size_eq]))]
      have := List.take_append_drop (slashAt a) a.data.toList
      rw [List.drop_eq_getElem_cons hfind, hat] at this
      rw [List.append_assoc]
      exact this.symm
    · exact ⟨ox, by show Ok ((y.toNat : Nat) : Int); rw [show ((y.toNat : Nat) : Int) = y by omega]; exact oy⟩
  · refine ⟨⟨x, 1, by omega, Nat.coprime_one_right ..⟩, ?_, ox, okq_one⟩
    unfold RS
    simp only []
    rw [if_pos trivial, ← hx]
    unfold cN
    have := slash_le a
    apply bytes_eq
    rw [Lib.extract_data, List.drop_zero, List.take_of_length_le (by rw [← Lib.size_eq]; omega)]
end Go.Proofs.YtiommpdbbpddpaaGreat
