/- Texts Txt, Words, Words2, Txt2, Mem: each says in its own first comment what it proves. -/
import Derived.Lib.ItoaNum
import Derived.Below
import Derived.Laws.OwnMore
import Derived.Deep.Draws
/- Decimal texts of integers: the canonical texts are those of Lib.itoa, and each has one value. No program is named here. -/
namespace Go.Proofs.YtiommpdbbpddpaaGreat
open Go.Lib (itoa decDigits nDigits)

def isDig (c : UInt8) : Bool := 48 ≤ c && c ≤ 57
def mag : List UInt8 → List UInt8
  | [] => []
  | c :: t => if c = 45 then t else c :: t
def isNeg : List UInt8 → Bool
  | [] => false
  | c :: _ => c == 45
def canonM (d : List UInt8) : Bool := !d.isEmpty && d.all isDig && (d.head? != some 48 || d.length == 1)
def canon (l : List UInt8) : Bool := canonM (mag l) && !(isNeg l && mag l == [48])
def valN (l : List UInt8) : Nat := l.foldl (fun a c => 10 * a + (c.toNat - 48)) 0
def val (l : List UInt8) : Int := if isNeg l then -(valN (mag l) : Int) else (valN (mag l) : Int)

theorem head_app (l m : List UInt8) (h : l ≠ []) : (l ++ m).head? = l.head? := by cases l <;> simp_all
theorem valN_nil : valN [] = 0 := rfl
theorem valN_snoc (l : List UInt8) (c : UInt8) : valN (l ++ [c]) = 10 * valN l + (c.toNat - 48) := by simp [valN, List.foldl_append]
theorem isDig_iff (c : UInt8) : isDig c = true ↔ 48 ≤ c.toNat ∧ c.toNat ≤ 57 := by
  simp [isDig, UInt8.le_iff_toNat_le]
theorem ofNat_dig (k : Nat) (h : k < 10) : (UInt8.ofNat (48 + k)).toNat = 48 + k := by
  rw [UInt8.toNat_ofNat']; omega
theorem dec_small {u : Nat} (h : u < 10) : decDigits u = [UInt8.ofNat (48 + u)] := by rw [decDigits, dif_pos h]
theorem dec_big {u : Nat} (h : ¬ u < 10) : decDigits u = decDigits (u / 10) ++ [UInt8.ofNat (48 + u % 10)] := by rw [decDigits, dif_neg h]
theorem dec_step (u d : Nat) (hu : 0 < u) (hd : d < 10) : decDigits (10 * u + d) = decDigits u ++ [UInt8.ofNat (48 + d)] := by
  rw [dec_big (by omega), show (10 * u + d) / 10 = u by omega, show (10 * u + d) % 10 = d by omega]
theorem dec_ne_nil (u : Nat) : decDigits u ≠ [] := by
  by_cases h : u < 10
  · rw [dec_small h]; simp
  · rw [dec_big h]; simp
theorem dec_all (u : Nat) : (decDigits u).all isDig = true := by
  induction u using Nat.strongRecOn with
  | _ u ih =>
    by_cases h : u < 10
    · rw [dec_small h]; simp [isDig_iff]; omega
    · rw [dec_big h, List.all_append, ih _ (by omega)]; simp [isDig_iff]; omega
theorem dec_len (u : Nat) : (decDigits u).length = nDigits u := by
  rw [Go.Lib.decDigits_eq]; simp
theorem valN_dec (u : Nat) : valN (decDigits u) = u := by
  induction u using Nat.strongRecOn with
  | _ u ih =>
    by_cases h : u < 10
    · rw [dec_small h]; simp only [valN, List.foldl_cons, List.foldl_nil, ofNat_dig u h]; omega
    · rw [dec_big h, valN_snoc, ih _ (by omega), ofNat_dig _ (by omega)]; omega
theorem dec_head (u : Nat) (h : 0 < u) : (decDigits u).head? ≠ some 48 := by
  induction u using Nat.strongRecOn with
  | _ u ih =>
    by_cases h' : u < 10
    · rw [dec_small h']; simp only [List.head?_cons, ne_eq, Option.some.injEq]
      intro e; have := congrArg UInt8.toNat e; rw [ofNat_dig u h'] at this; simp at this; omega
    · rw [dec_big h', head_app _ _ (dec_ne_nil _)]; exact ih _ (by omega) (by omega)
theorem dec_zero : decDigits 0 = [48] := by rw [dec_small (by omega)]; rfl
theorem dec_inj {u v : Nat} (h : decDigits u = decDigits v) : u = v := by rw [← valN_dec u, h, valN_dec]

theorem dec_valN : ∀ (n : Nat) (d : List UInt8), d.length = n → d ≠ [] → d.all isDig = true → (d.head? ≠ some 48 ∨ d.length = 1) → decDigits (valN d) = d := by
  intro n
  induction n with
  | zero => intro d h hn; exact absurd (List.eq_nil_of_length_eq_zero h) hn
  | succ n ih =>
    intro d hl hn ha hh
    obtain ⟨e, c, rfl⟩ : ∃ e c, d = e ++ [c] := ⟨d.dropLast, d.getLast hn, (List.dropLast_concat_getLast hn).symm⟩
    have hc : 48 ≤ c.toNat ∧ c.toNat ≤ 57 := by
      rw [List.all_append] at ha; simp at ha; exact (isDig_iff c).1 ha.2
    have hcc : UInt8.ofNat (48 + (c.toNat - 48)) = c := by
      rw [show 48 + (c.toNat - 48) = c.toNat by omega]; exact UInt8.ofNat_toNat
    rw [valN_snoc]
    by_cases he : e = []
    · subst he; rw [valN_nil, dec_small (by omega)]; simpa using hcc
    · have hlen : e.length = n := by simpa using hl
      have hpos : 0 < e.length := List.length_pos_iff.2 he
      have hhe : e.head? ≠ some 48 := by
        rcases hh with hh | hh
        · rwa [head_app _ _ he] at hh
        · rw [hl] at hh; omega
      have hae : e.all isDig = true := by rw [List.all_append] at ha; simp at ha; simpa using ha.1
      have ihe := ih e hlen he hae (Or.inl hhe)
      have hv : 0 < valN e := by
        rcases Nat.eq_zero_or_pos (valN e) with h0 | h0
        · rw [h0, dec_zero] at ihe; rw [← ihe] at hhe; simp at hhe
        · exact h0
      rw [dec_step _ _ hv (by omega), ihe, hcc]

theorem canonM_dec (u : Nat) : canonM (decDigits u) = true := by
  unfold canonM
  rw [dec_all]
  have h1 : (decDigits u).isEmpty = false := by simpa using dec_ne_nil u
  rw [h1]
  rcases Nat.eq_zero_or_pos u with rfl | h
  · rw [dec_zero]; rfl
  · have := dec_head u h
    simp [bne_iff_ne, this]
theorem canonM_iff (d : List UInt8) : canonM d = true ↔ d = decDigits (valN d) := by
  constructor
  · intro h
    unfold canonM at h
    simp only [Bool.and_eq_true, Bool.or_eq_true, Bool.not_eq_true', List.isEmpty_eq_false_iff, bne_iff_ne, beq_iff_eq] at h
    exact (dec_valN _ d rfl h.1.1 h.1.2 h.2).symm
  · intro h; rw [h]; exact canonM_dec _

theorem dec_cons (u : Nat) : ∃ c t, decDigits u = c :: t ∧ c ≠ 45 := by
  have ha := dec_all u
  rcases h : decDigits u with _ | ⟨c, t⟩
  · exact absurd h (dec_ne_nil u)
  · refine ⟨c, t, rfl, ?_⟩
    rintro rfl
    rw [h] at ha; simp [isDig] at ha
theorem mag_dec (u : Nat) : mag (decDigits u) = decDigits u := by
  obtain ⟨c, t, h, hc⟩ := dec_cons u
  rw [h, mag, if_neg hc]
theorem neg_dec (u : Nat) : isNeg (decDigits u) = false := by
  obtain ⟨c, t, h, hc⟩ := dec_cons u
  rw [h]; simp [isNeg, hc]
theorem itoa_nn (u : Nat) : itoa (u : Int) = decDigits u := by
  unfold itoa; rw [if_neg (by omega)]; rfl
theorem itoa_neg (u : Nat) (h : 0 < u) : itoa (-(u : Int)) = 45 :: decDigits u := by
  unfold itoa; rw [if_pos (by omega)]; congr 2; omega
theorem mag_itoa (z : Int) : mag (itoa z) = decDigits z.natAbs := by
  unfold itoa
  split
  · simp [mag]
  · rw [mag_dec]; congr 1; omega
theorem neg_itoa (z : Int) : isNeg (itoa z) = decide (z < 0) := by
  unfold itoa
  split
  · simp [isNeg, *]
  · rw [neg_dec]; simp; omega
theorem val_itoa (z : Int) : val (itoa z) = z := by
  unfold val; rw [mag_itoa, neg_itoa, valN_dec]
  by_cases h : z < 0 <;> simp [h] <;> omega
theorem dec_eq_zero {u : Nat} (h : decDigits u = [48]) : u = 0 := by rw [← dec_zero] at h; exact dec_inj h
theorem canon_itoa (z : Int) : canon (itoa z) = true := by
  unfold canon; rw [mag_itoa, neg_itoa, canonM_dec]
  by_cases h : z < 0
  · have : decDigits z.natAbs ≠ [48] := fun e => by have := dec_eq_zero e; omega
    simp [this]
  · simp [h]
theorem mag_of_neg {l : List UInt8} (h : isNeg l = true) : l = 45 :: mag l := by
  cases l with
  | nil => simp [isNeg] at h
  | cons c t => simp [isNeg] at h; subst h; simp [mag]
theorem mag_of_nn {l : List UInt8} (h : isNeg l = false) : mag l = l := by
  cases l with
  | nil => rfl
  | cons c t => simp [isNeg] at h; simp [mag, h]
theorem itoa_val {l : List UInt8} (h : canon l = true) : itoa (val l) = l := by
  unfold canon at h
  simp only [Bool.and_eq_true, Bool.not_eq_true', Bool.and_eq_false_iff] at h
  obtain ⟨h1, h2⟩ := h
  have hd := (canonM_iff _).1 h1
  unfold val
  cases hn : isNeg l with
  | true =>
    have h0 : 0 < valN (mag l) := by
      rcases Nat.eq_zero_or_pos (valN (mag l)) with h0 | h0
      · rw [h0, dec_zero] at hd; rcases h2 with h2 | h2
        · rw [hn] at h2; cases h2
        · rw [hd] at h2; simp at h2
      · exact h0
    rw [if_pos rfl, itoa_neg _ h0, ← hd]; exact (mag_of_neg hn).symm
  | false => simp; rw [itoa_nn, ← hd]; exact mag_of_nn hn
theorem canon_iff (l : List UInt8) : canon l = true ↔ ∃ z : Int, l = itoa z :=
  ⟨fun h => ⟨val l, (itoa_val h).symm⟩, fun ⟨z, hz⟩ => by rw [hz]; exact canon_itoa z⟩
theorem itoa_inj {x y : Int} (h : itoa x = itoa y) : x = y := by rw [← val_itoa x, h, val_itoa]
end Go.Proofs.YtiommpdbbpddpaaGreat

/- Numbers in words of nine decimal digits: sums, differences and orders word by word. No program is named here. -/
namespace Go.Proofs.YtiommpdbbpddpaaGreat

def B9 : Nat := 1000000000
def wd (A i : Nat) : Nat := A / B9 ^ i % B9
theorem B9_pos : 0 < B9 := by decide
theorem B9p_pos (i : Nat) : 0 < B9 ^ i := Nat.pow_pos B9_pos
theorem wd_lt (A i : Nat) : wd A i < 1000000000 := Nat.mod_lt _ B9_pos
theorem mod_succ (A i : Nat) : A % B9 ^ (i + 1) = A % B9 ^ i + B9 ^ i * wd A i := by
  unfold wd; rw [Nat.pow_succ, Nat.mod_mul]
theorem wd_of_lt {A i : Nat} (h : A < B9 ^ i) : wd A i = 0 := by
  unfold wd; rw [Nat.div_eq_of_lt h]; rfl
theorem wd_zero (i : Nat) : wd 0 i = 0 := by unfold wd; simp
theorem pow_le {i j : Nat} (h : i ≤ j) : B9 ^ i ≤ B9 ^ j := Nat.pow_le_pow_right B9_pos h

/-- the carry into word k of a sum -/
def cy (A B k : Nat) : Nat := (A % B9 ^ k + B % B9 ^ k) / B9 ^ k
theorem cy_zero (A B : Nat) : cy A B 0 = 0 := by unfold cy; simp [Nat.mod_one]
theorem cy_le (A B k : Nat) : cy A B k ≤ 1 := by
  unfold cy
  have h1 := Nat.mod_lt A (B9p_pos k); have h2 := Nat.mod_lt B (B9p_pos k)
  have : (A % B9 ^ k + B % B9 ^ k) / B9 ^ k < 2 := Nat.div_lt_of_lt_mul (by omega)
  omega
theorem sum_div (A B k : Nat) : (A + B) / B9 ^ k = A / B9 ^ k + B / B9 ^ k + cy A B k := by
  unfold cy
  have hA := Nat.div_add_mod A (B9 ^ k); have hB := Nat.div_add_mod B (B9 ^ k)
  conv => lhs; rw [← hA, ← hB]
  rw [show B9 ^ k * (A / B9 ^ k) + A % B9 ^ k + (B9 ^ k * (B / B9 ^ k) + B % B9 ^ k) = B9 ^ k * (A / B9 ^ k + B / B9 ^ k) + (A % B9 ^ k + B % B9 ^ k) by rw [Nat.mul_add]; omega]
  rw [Nat.mul_add_div (B9p_pos k)]
theorem wd_add (A B k : Nat) : (wd A k + wd B k + cy A B k) % B9 = wd (A + B) k := by
  unfold wd; rw [sum_div]; simp [Nat.add_mod]
theorem cy_succ (A B k : Nat) : cy A B (k + 1) = (wd A k + wd B k + cy A B k) / B9 := by
  have h1 := sum_div A B (k + 1)
  have h2 := sum_div A B k
  have e : ∀ X : Nat, X / B9 ^ (k + 1) = X / B9 ^ k / B9 := fun X => by rw [Nat.pow_succ, ← Nat.div_div_eq_div_mul]
  rw [e, e A, e B, h2] at h1
  unfold wd
  have := B9_pos
  have a1 := Nat.div_add_mod (A / B9 ^ k) B9
  have a2 := Nat.div_add_mod (B / B9 ^ k) B9
  have key : (A / B9 ^ k + B / B9 ^ k + cy A B k) / B9 = A / B9 ^ k / B9 + B / B9 ^ k / B9 + (A / B9 ^ k % B9 + B / B9 ^ k % B9 + cy A B k) / B9 := by
    conv => lhs; rw [← a1, ← a2]
    rw [show B9 * (A / B9 ^ k / B9) + A / B9 ^ k % B9 + (B9 * (B / B9 ^ k / B9) + B / B9 ^ k % B9) + cy A B k = B9 * (A / B9 ^ k / B9 + B / B9 ^ k / B9) + (A / B9 ^ k % B9 + B / B9 ^ k % B9 + cy A B k) by rw [Nat.mul_add]; omega]
    rw [Nat.mul_add_div B9_pos]
  omega

/-- the borrow into word k of a difference -/
def bw (A B k : Nat) : Nat := if A % B9 ^ k < B % B9 ^ k then 1 else 0
theorem bw_zero (A B : Nat) : bw A B 0 = 0 := by unfold bw; simp [Nat.mod_one]
theorem bw_le (A B k : Nat) : bw A B k ≤ 1 := by unfold bw; split <;> omega
theorem bw_succ (A B k : Nat) : bw A B (k + 1) = if wd A k < wd B k + bw A B k then 1 else 0 := by
  unfold bw
  rw [mod_succ A, mod_succ B]
  have h1 := Nat.mod_lt A (B9p_pos k); have h2 := Nat.mod_lt B (B9p_pos k)
  generalize A % B9 ^ k = a at *; generalize B % B9 ^ k = b at *; generalize wd A k = x; generalize wd B k = y; generalize B9 ^ k = p at *
  rcases Nat.lt_trichotomy x y with h | h | h
  · have : p * (x + 1) ≤ p * y := Nat.mul_le_mul_left _ h
    rw [Nat.mul_add] at this
    rw [if_pos (by omega), if_pos (by omega)]
  · subst h
    by_cases hab : a < b
    · rw [if_pos (by omega), if_pos (by rw [if_pos hab]; omega)]
    · rw [if_neg (by omega), if_neg (by rw [if_neg hab]; omega)]
  · have : p * (y + 1) ≤ p * x := Nat.mul_le_mul_left _ h
    rw [Nat.mul_add] at this
    rw [if_neg (by omega), if_neg (by split <;> omega)]
theorem sub_div (A B k : Nat) (h : B ≤ A) : A / B9 ^ k = (A - B) / B9 ^ k + B / B9 ^ k + bw A B k := by
  have h1 := sum_div (A - B) B k
  rw [Nat.sub_add_cancel h] at h1
  rw [h1]
  have : cy (A - B) B k = bw A B k := by
    unfold cy bw
    have hp := B9p_pos k
    have hm1 := Nat.mod_lt (A - B) hp; have hm2 := Nat.mod_lt B hp
    have ha : A % B9 ^ k = ((A - B) % B9 ^ k + B % B9 ^ k) % B9 ^ k := by rw [← Nat.add_mod, Nat.sub_add_cancel h]
    generalize (A - B) % B9 ^ k = a at *; generalize B % B9 ^ k = b at *; generalize B9 ^ k = p at *
    by_cases hs : a + b < p
    · rw [ha, Nat.mod_eq_of_lt hs, Nat.div_eq_of_lt hs, if_neg (by omega)]
    · have e1 : (a + b) % p = a + b - p := by rw [Nat.mod_eq_sub_mod (by omega), Nat.mod_eq_of_lt (by omega)]
      have e2 : (a + b) / p = 1 := by rw [Nat.div_eq_iff hp]; omega
      rw [ha, e1, e2, if_pos (by omega)]
  omega
theorem wd_sub (A B k : Nat) (h : B ≤ A) : wd A k + bw A B (k + 1) * B9 = wd (A - B) k + wd B k + bw A B k := by
  have h1 := sub_div A B k h
  have h2 := sub_div A B (k + 1) h
  have e : ∀ X : Nat, X / B9 ^ (k + 1) = X / B9 ^ k / B9 := fun X => by rw [Nat.pow_succ, ← Nat.div_div_eq_div_mul]
  rw [e, e (A - B), e B] at h2
  unfold wd
  have a1 := Nat.div_add_mod (A / B9 ^ k) B9
  have a2 := Nat.div_add_mod (B / B9 ^ k) B9
  have a3 := Nat.div_add_mod ((A - B) / B9 ^ k) B9
  generalize A / B9 ^ k = x at *; generalize B / B9 ^ k = y at *; generalize (A - B) / B9 ^ k = z at *
  generalize x / B9 = x1 at *; generalize y / B9 = y1 at *; generalize z / B9 = z1 at *
  generalize bw A B (k+1) = c at *
  unfold B9 at *
  omega

/-- words decide the order -/
theorem ge_of_words {A B : Nat} (k : Nat) (hk : wd A k > wd B k) (hu : A / B9 ^ (k + 1) = B / B9 ^ (k + 1)) : B < A := by
  have e : ∀ X : Nat, X / B9 ^ (k + 1) = X / B9 ^ k / B9 := fun X => by rw [Nat.pow_succ, ← Nat.div_div_eq_div_mul]
  rw [e, e] at hu
  unfold wd at hk
  have h : B / B9 ^ k < A / B9 ^ k := by
    have a1 := Nat.div_add_mod (A / B9 ^ k) B9
    have a2 := Nat.div_add_mod (B / B9 ^ k) B9
    rw [hu] at a1; omega
  exact Nat.lt_of_not_le fun hle => absurd (Nat.div_le_div_right (c := B9 ^ k) hle) (by omega)
theorem div_step (A k : Nat) : A / B9 ^ k = A / B9 ^ (k + 1) * B9 + wd A k := by
  unfold wd
  rw [Nat.pow_succ, ← Nat.div_div_eq_div_mul]
  have := Nat.div_add_mod (A / B9 ^ k) B9
  rw [Nat.mul_comm] at this; exact this.symm

/-- how many words a number has -/
def nw (A : Nat) : Nat := if h : A = 0 then 0 else nw (A / B9) + 1
termination_by A
decreasing_by exact Nat.div_lt_self (by omega) (by decide)
theorem nw_zero : nw 0 = 0 := by rw [nw]; simp
theorem nw_pos {A : Nat} (h : A ≠ 0) : nw A = nw (A / B9) + 1 := by rw [nw, dif_neg h]
theorem lt_pow_nw (A : Nat) : A < B9 ^ nw A := by
  induction A using Nat.strongRecOn with
  | _ A ih =>
    by_cases h : A = 0
    · subst h; rw [nw_zero]; simp
    · rw [nw_pos h, Nat.pow_succ]
      have := ih (A / B9) (Nat.div_lt_self (by omega) (by decide))
      exact (Nat.div_lt_iff_lt_mul B9_pos).1 this
theorem nw_le {A k : Nat} (h : A < B9 ^ k) : nw A ≤ k := by
  induction k generalizing A with
  | zero => have : A = 0 := by simpa using h
            subst this; rw [nw_zero]; omega
  | succ k ih =>
    by_cases h0 : A = 0
    · subst h0; rw [nw_zero]; omega
    · rw [nw_pos h0]
      have := ih (A := A / B9) ((Nat.div_lt_iff_lt_mul B9_pos).2 (by rw [← Nat.pow_succ]; exact h))
      omega
theorem nw_gt {A k : Nat} (h : B9 ^ k ≤ A) : k < nw A := by
  rcases Nat.lt_or_ge k (nw A) with h1 | h1
  · exact h1
  · exact absurd (Nat.lt_of_lt_of_le (lt_pow_nw A) (pow_le h1)) (by omega)
theorem nw_eq {A k : Nat} (h1 : B9 ^ k ≤ A) (h2 : A < B9 ^ (k + 1)) : nw A = k + 1 := by
  have a := nw_gt h1; have b := nw_le h2; omega
theorem wd_beyond {A i : Nat} (h : nw A ≤ i) : wd A i = 0 := wd_of_lt (Nat.lt_of_lt_of_le (lt_pow_nw A) (pow_le h))
theorem wd_top {A : Nat} (h : 0 < nw A) : wd A (nw A - 1) ≠ 0 := by
  intro e
  have h1 := div_step A (nw A - 1)
  rw [e, show nw A - 1 + 1 = nw A by omega, Nat.div_eq_of_lt (lt_pow_nw A)] at h1
  have h2 : A < B9 ^ (nw A - 1) := by
    rcases Nat.lt_or_ge A (B9 ^ (nw A - 1)) with h3 | h3
    · exact h3
    · have := (Nat.one_le_div_iff (B9p_pos (nw A - 1))).2 h3; omega
  have := nw_le h2; omega
end Go.Proofs.YtiommpdbbpddpaaGreat

/- Numbers in words of nine decimal digits: products, and quotients by one word. No program is named here. -/
namespace Go.Proofs.YtiommpdbbpddpaaGreat

theorem dv_succ (X k : Nat) : X / B9 ^ (k + 1) = X / B9 ^ k / B9 := by rw [Nat.pow_succ, ← Nat.div_div_eq_div_mul]
theorem wd_eq (X k : Nat) : wd X k = X / B9 ^ k % B9 := rfl
/-- words below k do not see multiples of B9 ^ k -/
theorem wd_low (X Y i k : Nat) (h : i < k) : wd (X + B9 ^ k * Y) i = wd X i := by
  unfold wd
  rw [show k = i + (k - i) by omega, Nat.pow_add, Nat.mul_assoc, Nat.add_mul_div_left _ _ (B9p_pos i)]
  rw [show k - i = (k - i - 1) + 1 by omega, Nat.pow_succ, Nat.mul_comm (B9 ^ (k - i - 1)) B9, Nat.mul_assoc, Nat.add_mul_mod_self_left]
theorem div_low (X Y k : Nat) : (X + B9 ^ k * Y) / B9 ^ k = X / B9 ^ k + Y := Nat.add_mul_div_left _ _ (B9p_pos k)

/-- one step of a row of a product: T is what stands with the columns below k, P what stood before the row, xy the next product. -/
theorem row_word (P T k xy carry : Nat) (hc : T / B9 ^ k = P / B9 ^ k + carry) :
    (wd P k + xy + carry) % B9 = wd (T + B9 ^ k * xy) k := by
  rw [wd_eq (T + _), div_low, hc, wd_eq P]
  simp [Nat.add_mod, Nat.add_comm, Nat.add_left_comm]
theorem row_carry (P T k xy carry : Nat) (hc : T / B9 ^ k = P / B9 ^ k + carry) :
    (T + B9 ^ k * xy) / B9 ^ (k + 1) = P / B9 ^ (k + 1) + (wd P k + xy + carry) / B9 := by
  rw [dv_succ, div_low, hc, dv_succ, wd_eq P]
  have a := Nat.div_add_mod (P / B9 ^ k) B9
  generalize P / B9 ^ k = p at *
  conv => lhs; rw [← a]
  rw [show B9 * (p / B9) + p % B9 + carry + xy = B9 * (p / B9) + (p % B9 + xy + carry) by omega, Nat.mul_add_div B9_pos]

/-- the carry into word k of a product by one word -/
def cm (A f k : Nat) : Nat := (A % B9 ^ k * f) / B9 ^ k
theorem cm_zero (A f : Nat) : cm A f 0 = 0 := by unfold cm; simp [Nat.mod_one]
theorem mul_div (A f k : Nat) : A * f / B9 ^ k = A / B9 ^ k * f + cm A f k := by
  unfold cm
  have hA := Nat.div_add_mod A (B9 ^ k)
  conv => lhs; rw [← hA]
  rw [Nat.add_mul, Nat.mul_assoc, Nat.mul_add_div (B9p_pos k)]
theorem wd_mul (A f k : Nat) : (wd A k * f + cm A f k) % B9 = wd (A * f) k := by
  rw [wd_eq (A * f), mul_div]; unfold wd; simp [Nat.add_mod, Nat.mul_mod]
theorem cm_succ (A f k : Nat) : cm A f (k + 1) = (wd A k * f + cm A f k) / B9 := by
  have h1 := mul_div A f (k + 1)
  rw [dv_succ, mul_div, dv_succ A] at h1
  unfold wd
  have a := Nat.div_add_mod (A / B9 ^ k) B9
  generalize A / B9 ^ k = p at *
  have key : (p * f + cm A f k) / B9 = p / B9 * f + (p % B9 * f + cm A f k) / B9 := by
    conv => lhs; rw [← a]
    rw [Nat.add_mul, Nat.mul_assoc, Nat.add_assoc, Nat.mul_add_div B9_pos]
  omega
theorem cm_lt (A f k : Nat) (hf : 0 < f) : cm A f k < f := by
  unfold cm
  refine (Nat.div_lt_iff_lt_mul (B9p_pos k)).2 ?_
  rw [Nat.mul_comm]; exact (Nat.mul_lt_mul_left hf).2 (Nat.mod_lt _ (B9p_pos k))
theorem cm_top {A k : Nat} (f : Nat) (h : A < B9 ^ k) : cm A f k = wd (A * f) k + (A * f / B9 ^ (k + 1)) * B9 := by
  unfold cm; rw [Nat.mod_eq_of_lt h, div_step]; omega

/-- the rest above word k in a division by one word -/
def rs (A p k : Nat) : Nat := A / B9 ^ k % p
theorem rs_step (A p k : Nat) : (rs A p (k + 1) * B9 + wd A k) % p = rs A p k := by
  unfold rs; rw [div_step A k]; simp [Nat.add_mod, Nat.mul_mod]
theorem wd_div (A p k : Nat) (hp : 0 < p) : (rs A p (k + 1) * B9 + wd A k) / p = wd (A / p) k := by
  unfold rs
  rw [wd_eq (A / p), Nat.div_div_eq_div_mul, Nat.mul_comm p, ← Nat.div_div_eq_div_mul, div_step A k]
  generalize A / B9 ^ (k + 1) = x
  have a := Nat.div_add_mod x p
  have hw := wd_lt A k
  have hlt : (x % p * B9 + wd A k) / p < B9 := by
    refine (Nat.div_lt_iff_lt_mul hp).2 ?_
    have : x % p + 1 ≤ p := Nat.mod_lt _ hp
    have h2 := Nat.mul_le_mul_right B9 this
    rw [Nat.add_mul] at h2
    have : wd A k < B9 := hw
    rw [Nat.mul_comm B9 p]
    omega
  have key : (x * B9 + wd A k) / p = B9 * (x / p) + (x % p * B9 + wd A k) / p := by
    conv => lhs; rw [← a]
    rw [Nat.add_mul, Nat.mul_assoc, Nat.add_assoc, Nat.mul_add_div hp, Nat.mul_comm (x / p)]
  rw [key, Nat.mul_add_mod, Nat.mod_eq_of_lt hlt]
theorem rs_zero (A p : Nat) : rs A p 0 = A % p := by unfold rs; simp
theorem rs_top {A k : Nat} (p : Nat) (h : A < B9 ^ k) : rs A p k = 0 := by unfold rs; rw [Nat.div_eq_of_lt h]; simp
theorem rs_lt (A p k : Nat) (hp : 0 < p) : rs A p k < p := Nat.mod_lt _ hp
end Go.Proofs.YtiommpdbbpddpaaGreat

/- Decimal texts and words of nine digits. No program is named here. -/
namespace Go.Proofs.YtiommpdbbpddpaaGreat
open Go.Lib (itoa decDigits nDigits dg)

theorem valN_append (l : List UInt8) : ∀ m : List UInt8, valN (l ++ m) = valN l * 10 ^ m.length + valN m := by
  suffices h : ∀ n (m : List UInt8), m.length = n → valN (l ++ m) = valN l * 10 ^ m.length + valN m from fun m => h _ m rfl
  intro n
  induction n with
  | zero => intro m h; rw [List.eq_nil_of_length_eq_zero h]; simp [valN_nil]
  | succ n ih =>
    intro m h
    have hn : m ≠ [] := by rintro rfl; simp at h
    obtain ⟨e, c, rfl⟩ : ∃ e c, m = e ++ [c] := ⟨m.dropLast, m.getLast hn, (List.dropLast_concat_getLast hn).symm⟩
    have he : e.length = n := by simpa using h
    rw [← List.append_assoc, valN_snoc, ih e he, valN_snoc, List.length_append, List.length_singleton, Nat.pow_succ]
    rw [Nat.mul_add, ← Nat.add_assoc, ← Nat.mul_assoc, ← Nat.mul_assoc, Nat.mul_comm 10 (valN l), Nat.mul_assoc (valN l), Nat.mul_assoc (valN l), Nat.mul_comm 10 (10 ^ e.length)]
theorem valN_lt : ∀ (l : List UInt8), l.all isDig = true → valN l < 10 ^ l.length := by
  suffices h : ∀ n (m : List UInt8), m.length = n → m.all isDig = true → valN m < 10 ^ m.length from fun m => h _ m rfl
  intro n
  induction n with
  | zero => intro m h _; rw [List.eq_nil_of_length_eq_zero h]; decide
  | succ n ih =>
    intro m h ha
    have hn : m ≠ [] := by rintro rfl; simp at h
    obtain ⟨e, c, rfl⟩ : ∃ e c, m = e ++ [c] := ⟨m.dropLast, m.getLast hn, (List.dropLast_concat_getLast hn).symm⟩
    have he : e.length = n := by simpa using h
    rw [List.all_append] at ha
    simp only [Bool.and_eq_true, List.all_cons, List.all_nil, Bool.and_true] at ha
    have hc := (isDig_iff c).1 ha.2
    have := ih e he ha.1
    rw [valN_snoc, List.length_append, List.length_singleton, Nat.pow_succ]
    omega
theorem all_take {l : List UInt8} (h : l.all isDig = true) (n : Nat) : (l.take n).all isDig = true := by
  rw [List.all_eq_true] at h ⊢; exact fun x hx => h x (List.mem_of_mem_take hx)
theorem all_drop {l : List UInt8} (h : l.all isDig = true) (n : Nat) : (l.drop n).all isDig = true := by
  rw [List.all_eq_true] at h ⊢; exact fun x hx => h x (List.mem_of_mem_drop hx)
theorem valN_take {l : List UInt8} (h : l.all isDig = true) (e : Nat) (_he : e ≤ l.length) : valN (l.take e) = valN l / 10 ^ (l.length - e) := by
  have h1 := valN_append (l.take e) (l.drop e)
  rw [List.take_append_drop, List.length_drop] at h1
  have h2 := valN_lt _ (all_drop h e)
  rw [List.length_drop] at h2
  rw [h1, Nat.mul_comm, Nat.mul_add_div (Nat.pow_pos (by decide)), Nat.div_eq_of_lt h2]; omega
theorem B9_ten (k : Nat) : B9 ^ k = 10 ^ (9 * k) := by rw [show B9 = 10 ^ 9 from rfl, ← Nat.pow_mul]
/-- the piece of nine digits that read takes for word k -/
theorem piece {l : List UInt8} (h : l.all isDig = true) (k : Nat) (hk : 9 * k < l.length) :
    valN ((l.take (l.length - 9 * k)).drop (l.length - 9 * k - 9)) = wd (valN l) k := by
  have h1 := valN_take h (l.length - 9 * k) (by omega)
  rw [show l.length - (l.length - 9 * k) = 9 * k by omega, ← B9_ten] at h1
  rw [wd_eq, ← h1]
  have h2 := valN_append ((l.take (l.length - 9 * k)).take (l.length - 9 * k - 9)) ((l.take (l.length - 9 * k)).drop (l.length - 9 * k - 9))
  rw [List.take_append_drop] at h2
  have h3 := valN_lt _ (all_drop (all_take h (l.length - 9 * k)) (l.length - 9 * k - 9))
  rw [List.length_drop, List.length_take, Nat.min_eq_left (by omega)] at h2 h3
  generalize valN ((l.take (l.length - 9 * k)).drop (l.length - 9 * k - 9)) = x at *
  by_cases h9 : 9 ≤ l.length - 9 * k
  · rw [show l.length - 9 * k - (l.length - 9 * k - 9) = 9 by omega] at h2 h3
    rw [h2, show (10 : Nat) ^ 9 = B9 from rfl, Nat.mul_comm, Nat.mul_add_mod]; exact (Nat.mod_eq_of_lt h3).symm
  · rw [show l.length - 9 * k - 9 = 0 by omega] at h2 h3
    simp only [List.take_zero, valN_nil, Nat.zero_mul, Nat.zero_add, Nat.sub_zero] at h2 h3
    rw [h2, Nat.mod_eq_of_lt]
    exact Nat.lt_of_lt_of_le h3 (by rw [show B9 = 10 ^ 9 from rfl]; exact Nat.pow_le_pow_right (by decide) (by omega))
theorem dec_val_lt {l : List UInt8} (h : l.all isDig = true) (c : Nat) (hc : l.length ≤ 9 * c) : valN l < B9 ^ c := by
  rw [B9_ten]; exact Nat.lt_of_lt_of_le (valN_lt l h) (Nat.pow_le_pow_right (by decide) hc)

/-- lengths -/
theorem nd_le {u k : Nat} (hk : 1 ≤ k) (h : u < 10 ^ k) : nDigits u ≤ k := by
  rcases Nat.lt_or_ge (nDigits u) (k + 1) with h1 | h1
  · omega
  · by_cases hu : u < 10
    · rw [Go.Lib.nDigits_small hu] at h1; omega
    · have := Go.Lib.nDigits_pos u
      have h2 : 10 ^ (nDigits u - 1) ≤ u := by
        rcases Nat.lt_or_ge u (10 ^ (nDigits u - 1)) with h3 | h3
        · exfalso
          have h4 : ∀ (n v : Nat), v < 10 ^ n → 1 ≤ n → nDigits v ≤ n := by
            intro n
            induction n with
            | zero => intro v _ h; omega
            | succ n ih =>
              intro v hv _
              by_cases hs : v < 10
              · rw [Go.Lib.nDigits_small hs]; omega
              · rw [Go.Lib.nDigits_big hs]
                have hn : 1 ≤ n := by
                  rcases Nat.eq_zero_or_pos n with rfl | h
                  · simp at hv; omega
                  · exact h
                have := ih (v / 10) (by rw [Nat.pow_succ] at hv; omega) hn
                omega
          have := h4 _ _ h3 (by omega)
          omega
        · exact h3
      have : 10 ^ k ≤ 10 ^ (nDigits u - 1) := Nat.pow_le_pow_right (by decide) (by omega)
      omega
theorem nd_pow_le {u : Nat} (h : 0 < u) : 10 ^ (nDigits u - 1) ≤ u := by
  rcases Nat.lt_or_ge u (10 ^ (nDigits u - 1)) with h3 | h3
  · have := Go.Lib.nDigits_pos u
    rcases Nat.eq_or_lt_of_le this with h1 | h1
    · rw [← h1] at h3; simp at h3; omega
    · have := nd_le (by omega) h3; omega
  · exact h3
theorem nd_le_iff {u k : Nat} (hk : 1 ≤ k) : nDigits u ≤ k ↔ u < 10 ^ k := by
  constructor
  · intro h; exact Nat.lt_of_lt_of_le (Go.Lib.lt_pow_nDigits u) (Nat.pow_le_pow_right (by decide) h)
  · exact nd_le hk
end Go.Proofs.YtiommpdbbpddpaaGreat

/- Words for memory: which blocks a call may have changed, and a block that holds a long number. No program is named here. -/
namespace Go.Proofs.YtiommpdbbpddpaaGreat
open Go.RowKit

/-- only the blocks of S, and new ones, may have changed -/
structure Kp (S : List Nat) (a w : World) : Prop where
  os : w.os = a.os
  tape : w.tape = a.tape
  output : w.output = a.output
  size : a.heap.size ≤ w.heap.size
  block : ∀ k, k < a.heap.size → k ∉ S → w.heap[k]? = a.heap[k]?
  drawn : a.drawn ≤ w.drawn

section
variable {S : List Nat} {a b c w w' : World}
theorem Kp.refl (S : List Nat) (w : World) : Kp S w w := ⟨rfl, rfl, rfl, Nat.le_refl _, fun _ _ _ => rfl, Nat.le_refl _⟩
theorem Kp.trans (h : Kp S a b) (k : Kp S b c) : Kp S a c :=
  ⟨k.os.trans h.os, k.tape.trans h.tape, k.output.trans h.output, Nat.le_trans h.size k.size, fun i hi hn => (k.block i (Nat.lt_of_lt_of_le hi h.size) hn).trans (h.block i hi hn), Nat.le_trans h.drawn k.drawn⟩
/-- a call that changes blocks of S or newer ones -/
theorem Kp.step {S' : List Nat} (h : Kp S a b) (k : Kp S' b c) (hS : ∀ x, x ∈ S' → x ∈ S ∨ a.heap.size ≤ x) : Kp S a c :=
  ⟨k.os.trans h.os, k.tape.trans h.tape, k.output.trans h.output, Nat.le_trans h.size k.size, fun i hi hn =>
    (k.block i (Nat.lt_of_lt_of_le hi h.size) (fun e => (hS i e).elim hn (fun h' => by omega))).trans (h.block i hi hn), Nat.le_trans h.drawn k.drawn⟩
theorem Kp.drewN (h : Kp S a w) (n : Nat) : Kp S a (w.drewN n) := ⟨h.os, h.tape, h.output, h.size, h.block, Nat.le_trans h.drawn (Nat.le_add_right _ _)⟩
theorem Kp.drew (h : Kp S a w) : Kp S a w.drew := ⟨h.os, h.tape, h.output, h.size, h.block, Nat.le_trans h.drawn (Nat.le_add_right _ _)⟩
theorem Kp.undrew (h : Kp S a.drew w) : Kp S a w := ⟨h.os, h.tape, h.output, h.size, h.block, Nat.le_trans (Nat.le_add_right _ _) h.drawn⟩
theorem Kp.alloc (h : Kp S a w) (o : Obj) : Kp S a (w.alloc o) :=
  ⟨h.os, h.tape, h.output, Nat.le_trans h.size (by simp), fun i hi hn => (Below.heap_alloc w o i (Nat.lt_of_lt_of_le hi h.size)).trans (h.block i hi hn), h.drawn⟩
theorem Kp.setCell (h : Kp S a w) {p : Addr} (hp : p.block ∈ S ∨ a.heap.size ≤ p.block) (u : Value) : Kp S a (w.setCell p u) :=
  ⟨h.os, h.tape, h.output, by simpa [World.setCell] using h.size, fun i hi hn => (Below.heap_setCell w p u i (by
    rintro rfl
    rcases hp with hp | hp
    · exact hn hp
    · omega)).trans (h.block i hi hn), h.drawn⟩
theorem Kp.below {B : Nat} (h : Kp S a w) (hS : ∀ x, x ∈ S → B ≤ x) (hB : B ≤ a.heap.size) : Below B a w :=
  ⟨h.os, h.tape, h.output, h.size, fun k hk => h.block k (by omega) (fun e => by have := hS k e; omega)⟩
theorem Kp.none (h : Kp [] a w) : Below a.heap.size a w := h.below (fun _ h => by cases h) (Nat.le_refl _)
theorem Kp.mono {S' : List Nat} (h : Kp S a w) (hs : ∀ x, x ∈ S → x ∈ S' ∨ a.heap.size ≤ x) : Kp S' a w :=
  ⟨h.os, h.tape, h.output, h.size, fun k hk hn => h.block k hk fun e => (hs k e).elim hn (fun h' => by omega), h.drawn⟩
end

/-- block g holds a long number: words f, count c, sign m -/
def NumF (w : World) (g : Nat) (f : Nat → Nat) (c : Nat) (m : Bool) : Prop :=
  ∃ cs T, w.heap[g]? = some (.cells cs T (0, 0)) ∧ cs.size = 231 ∧ (∀ i, i < 229 → cs[i]? = some (.int .u32 (f i : Int))) ∧ cs[229]? = some (.int .i64 (c : Int)) ∧ cs[230]? = some (.bool m)
def upd (f : Nat → Nat) (i x : Nat) : Nat → Nat := fun j => if j = i then x else f j

section
variable {w w' : World} {g c i : Nat} {f : Nat → Nat} {m : Bool}
theorem NumF.lt (h : NumF w g f c m) : g < w.heap.size := by
  obtain ⟨cs, T, hb, _⟩ := h
  rcases Nat.lt_or_ge g w.heap.size with hlt | hge
  · exact hlt
  · rw [Array.getElem?_eq_none hge] at hb; cases hb
theorem NumF.word (h : NumF w g f c m) (hi : i < 229) : w.cell? ⟨g, i, none⟩ = some (.int .u32 (f i : Int)) := by
  obtain ⟨cs, T, hb, hs, hw, _⟩ := h
  simp [World.cell?, hb, hw i hi]
theorem NumF.cnt (h : NumF w g f c m) : w.cell? ⟨g, 229, none⟩ = some (.int .i64 (c : Int)) := by
  obtain ⟨cs, T, hb, hs, hw, hc, hm⟩ := h
  simp [World.cell?, hb, hc]
theorem NumF.sgn (h : NumF w g f c m) : w.cell? ⟨g, 230, none⟩ = some (.bool m) := by
  obtain ⟨cs, T, hb, hs, hw, hc, hm⟩ := h
  simp [World.cell?, hb, hm]
theorem NumF.free (h : NumF w g f c m) (i : Nat) : w.frozen? ⟨g, i, none⟩ = false := by
  obtain ⟨cs, T, hb, _⟩ := h
  simp [World.frozen?, hb]
theorem NumF.same (h : NumF w g f c m) (hb : w'.heap[g]? = w.heap[g]?) : NumF w' g f c m := by
  obtain ⟨cs, T, h1, h2⟩ := h
  exact ⟨cs, T, hb.trans h1, h2⟩
theorem NumF.kp {S : List Nat} (h : NumF w g f c m) (hk : Kp S w w') (hg : g ∉ S) : NumF w' g f c m := h.same (hk.block g h.lt hg)
theorem NumF.far (h : NumF w g f c m) {p : Addr} (hp : g ≠ p.block) (u : Value) : NumF (w.setCell p u) g f c m := h.same (Below.heap_setCell w p u g hp)
theorem NumF.alloc (h : NumF w g f c m) (o : Obj) : NumF (w.alloc o) g f c m := h.same (Below.heap_alloc w o g h.lt)
theorem NumF.drew (h : NumF w g f c m) : NumF w.drew g f c m := h
theorem NumF.drewN (h : NumF w g f c m) (n : Nat) : NumF (w.drewN n) g f c m := h
theorem NumF.congr {f' : Nat → Nat} (h : NumF w g f c m) (e : ∀ i, i < 229 → f i = f' i) : NumF w g f' c m := by
  obtain ⟨cs, T, h1, h2, h3, h4⟩ := h
  exact ⟨cs, T, h1, h2, fun i hi => by rw [h3 i hi, e i hi], h4⟩
theorem NumF.setW (h : NumF w g f c m) (hi : i < 229) (x : Nat) : NumF (w.setCell ⟨g, i, none⟩ (.int .u32 (x : Int))) g (upd f i x) c m := by
  obtain ⟨cs, T, h1, h2, h3, h4, h5⟩ := h
  refine ⟨cs.setIfInBounds i (.int .u32 (x : Int)), T, by simp [World.setCell, Array.getElem?_modify, h1], by simpa using h2, fun j hj => ?_, ?_, ?_⟩
  · unfold upd
    rw [Array.getElem?_setIfInBounds]
    by_cases e : i = j
    · subst e; simp; omega
    · rw [if_neg e, if_neg (fun h => e h.symm)]; exact h3 j hj
  · rw [Array.getElem?_setIfInBounds, if_neg (by omega)]; exact h4
  · rw [Array.getElem?_setIfInBounds, if_neg (by omega)]; exact h5
theorem NumF.setC (h : NumF w g f c m) (x : Nat) : NumF (w.setCell ⟨g, 229, none⟩ (.int .i64 (x : Int))) g f x m := by
  obtain ⟨cs, T, h1, h2, h3, h4, h5⟩ := h
  refine ⟨cs.setIfInBounds 229 (.int .i64 (x : Int)), T, by simp [World.setCell, Array.getElem?_modify, h1], by simpa using h2, fun j hj => ?_, ?_, ?_⟩
  · rw [Array.getElem?_setIfInBounds, if_neg (by omega)]; exact h3 j hj
  · rw [Array.getElem?_setIfInBounds, if_pos rfl, if_pos (by omega)]
  · rw [Array.getElem?_setIfInBounds, if_neg (by omega)]; exact h5
theorem NumF.setM (h : NumF w g f c m) (x : Bool) : NumF (w.setCell ⟨g, 230, none⟩ (.bool x)) g f c x := by
  obtain ⟨cs, T, h1, h2, h3, h4, h5⟩ := h
  refine ⟨cs.setIfInBounds 230 (.bool x), T, by simp [World.setCell, Array.getElem?_modify, h1], by simpa using h2, fun j hj => ?_, ?_, ?_⟩
  · rw [Array.getElem?_setIfInBounds, if_neg (by omega)]; exact h3 j hj
  · rw [Array.getElem?_setIfInBounds, if_neg (by omega)]; exact h4
  · rw [Array.getElem?_setIfInBounds, if_pos rfl, if_pos (by omega)]
end

/-- block g holds the number of magnitude A and sign m, in its own words -/
def Num (w : World) (g : Nat) (A : Nat) (m : Bool) : Prop := NumF w g (wd A) (nw A) m ∧ A < B9 ^ 229
end Go.Proofs.YtiommpdbbpddpaaGreat
