/- Decimal texts of integers: the canonical texts are those of Lib.itoa, and each has one value. No program is named here. -/
import Derived.Lib.ItoaNum
namespace Go.Proofs.Ytbhngccjacdlfaa
open Go.Lib (itoa decDigits nDigits)

def isDig (c : UInt8) : Bool := 48 ≤ c && c ≤ 57
def mag : List UInt8 → List UInt8
  | [] => []
  | c :: t => if c = 45 then t else c :: t
def isNeg : List UInt8 → Bool
  | [] => false
  | c :: _ => c == 45
def canonM (d : List UInt8) : Bool := !d.isEmpty && d.all isDig && (d.head? != some 48 || d.length == 1)
def canon (l : List UInt8) : Bool := canonM (mag l) && !(isNeg l && mag l == [48])
def valN (l : List UInt8) : Nat := l.foldl (fun a c => 10 * a + (c.toNat - 48)) 0
def val (l : List UInt8) : Int := if isNeg l then -(valN (mag l) : Int) else (valN (mag l) : Int)

theorem head_app (l m : List UInt8) (h : l ≠ []) : (l ++ m).head? = l.head? := by cases l <;> simp_all
theorem valN_nil : valN [] = 0 := rfl
theorem valN_snoc (l : List UInt8) (c : UInt8) : valN (l ++ [c]) = 10 * valN l + (c.toNat - 48) := by simp [valN, List.foldl_append]
theorem isDig_iff (c : UInt8) : isDig c = true ↔ 48 ≤ c.toNat ∧ c.toNat ≤ 57 := by
  simp [isDig, UInt8.le_iff_toNat_le]
theorem ofNat_dig (k : Nat) (h : k < 10) : (UInt8.ofNat (48 + k)).toNat = 48 + k := by
  rw [UInt8.toNat_ofNat']; omega
theorem dec_small {u : Nat} (h : u < 10) : decDigits u = [UInt8.ofNat (48 + u)] := by rw [decDigits, dif_pos h]
theorem dec_big {u : Nat} (h : ¬ u < 10) : decDigits u = decDigits (u / 10) ++ [UInt8.ofNat (48 + u % 10)] := by rw [decDigits, dif_neg h]
theorem dec_step (u d : Nat) (hu : 0 < u) (hd : d < 10) : decDigits (10 * u + d) = decDigits u ++ [UInt8.ofNat (48 + d)] := by
  rw [dec_big (by omega), show (10 * u + d) / 10 = u by omega, show (10 * u + d) % 10 = d by omega]
theorem dec_ne_nil (u : Nat) : decDigits u ≠ [] := by
  by_cases h : u < 10
  · rw [dec_small h]; simp
  · rw [dec_big h]; simp
theorem dec_all (u : Nat) : (decDigits u).all isDig = true := by
  induction u using Nat.strongRecOn with
  | _ u ih =>
    by_cases h : u < 10
    · rw [dec_small h]; simp [isDig_iff, ofNat_dig u h]; omega
    · rw [dec_big h, List.all_append, ih _ (by omega)]; simp [isDig_iff, ofNat_dig (u % 10) (by omega)]; omega
theorem dec_len (u : Nat) : (decDigits u).length = nDigits u := by
  rw [Go.Lib.decDigits_eq]; simp
theorem valN_dec (u : Nat) : valN (decDigits u) = u := by
  induction u using Nat.strongRecOn with
  | _ u ih =>
    by_cases h : u < 10
    · rw [dec_small h]; simp only [valN, List.foldl_cons, List.foldl_nil, ofNat_dig u h]; omega
    · rw [dec_big h, valN_snoc, ih _ (by omega), ofNat_dig _ (by omega)]; omega
theorem dec_head (u : Nat) (h : 0 < u) : (decDigits u).head? ≠ some 48 := by
  induction u using Nat.strongRecOn with
  | _ u ih =>
    by_cases h' : u < 10
    · rw [dec_small h']; simp only [List.head?_cons, ne_eq, Option.some.injEq]
      intro e; have := congrArg UInt8.toNat e; rw [ofNat_dig u h'] at this; simp at this; omega
    · rw [dec_big h', head_app _ _ (dec_ne_nil _)]; exact ih _ (by omega) (by omega)
theorem dec_zero : decDigits 0 = [48] := by rw [dec_small (by omega)]; rfl
theorem dec_inj {u v : Nat} (h : decDigits u = decDigits v) : u = v := by rw [← valN_dec u, h, valN_dec]

theorem dec_valN : ∀ (n : Nat) (d : List UInt8), d.length = n → d ≠ [] → d.all isDig = true → (d.head? ≠ some 48 ∨ d.length = 1) → decDigits (valN d) = d := by
  intro n
  induction n with
  | zero => intro d h hn; exact absurd (List.eq_nil_of_length_eq_zero h) hn
  | succ n ih =>
    intro d hl hn ha hh
    obtain ⟨e, c, rfl⟩ : ∃ e c, d = e ++ [c] := ⟨d.dropLast, d.getLast hn, (List.dropLast_concat_getLast hn).symm⟩
    have hc : 48 ≤ c.toNat ∧ c.toNat ≤ 57 := by
      rw [List.all_append] at ha; simp at ha; exact (isDig_iff c).1 ha.2
    have hcc : UInt8.ofNat (48 + (c.toNat - 48)) = c := by
      rw [show 48 + (c.toNat - 48) = c.toNat by omega]; exact UInt8.ofNat_toNat
    rw [valN_snoc]
    by_cases he : e = []
    · subst he; rw [valN_nil, dec_small (by omega)]; simpa using hcc
    · have hlen : e.length = n := by simpa using hl
      have hpos : 0 < e.length := List.length_pos_iff.2 he
      have hhe : e.head? ≠ some 48 := by
        rcases hh with hh | hh
        · rwa [head_app _ _ he] at hh
        · rw [hl] at hh; omega
      have hae : e.all isDig = true := by rw [List.all_append] at ha; simp at ha; simpa using ha.1
      have ihe := ih e hlen he hae (Or.inl hhe)
      have hv : 0 < valN e := by
        rcases Nat.eq_zero_or_pos (valN e) with h0 | h0
        · rw [h0, dec_zero] at ihe; rw [← ihe] at hhe; simp at hhe
        · exact h0
      rw [dec_step _ _ hv (by omega), ihe, hcc]

theorem canonM_dec (u : Nat) : canonM (decDigits u) = true := by
  unfold canonM
  rw [dec_all]
  have h1 : (decDigits u).isEmpty = false := by simpa using dec_ne_nil u
  rw [h1]
  rcases Nat.eq_zero_or_pos u with rfl | h
  · rw [dec_zero]; rfl
  · have := dec_head u h
    simp [bne_iff_ne, this]
theorem canonM_iff (d : List UInt8) : canonM d = true ↔ d = decDigits (valN d) := by
  constructor
  · intro h
    unfold canonM at h
    simp only [Bool.and_eq_true, Bool.or_eq_true, Bool.not_eq_true', List.isEmpty_eq_false_iff, bne_iff_ne, beq_iff_eq] at h
    exact (dec_valN _ d rfl h.1.1 h.1.2 h.2).symm
  · intro h; rw [h]; exact canonM_dec _

theorem dec_cons (u : Nat) : ∃ c t, decDigits u = c :: t ∧ c ≠ 45 := by
  have ha := dec_all u
  rcases h : decDigits u with _ | ⟨c, t⟩
  · exact absurd h (dec_ne_nil u)
  · refine ⟨c, t, rfl, ?_⟩
    rintro rfl
    rw [h] at ha; simp [isDig] at ha
theorem mag_dec (u : Nat) : mag (decDigits u) = decDigits u := by
  obtain ⟨c, t, h, hc⟩ := dec_cons u
  rw [h, mag, if_neg hc]
theorem neg_dec (u : Nat) : isNeg (decDigits u) = false := by
  obtain ⟨c, t, h, hc⟩ := dec_cons u
  rw [h]; simp [isNeg, hc]
theorem itoa_nn (u : Nat) : itoa (u : Int) = decDigits u := by
  unfold itoa; rw [if_neg (by omega)]; rfl
theorem itoa_neg (u : Nat) (h : 0 < u) : itoa (-(u : Int)) = 45 :: decDigits u := by
  unfold itoa; rw [if_pos (by omega)]; congr 2; omega
theorem mag_itoa (z : Int) : mag (itoa z) = decDigits z.natAbs := by
  unfold itoa
  split
  · simp [mag]
  · rw [mag_dec]; congr 1; omega
theorem neg_itoa (z : Int) : isNeg (itoa z) = decide (z < 0) := by
  unfold itoa
  split
  · simp [isNeg, *]
  · rw [neg_dec]; simp; omega
theorem val_itoa (z : Int) : val (itoa z) = z := by
  unfold val; rw [mag_itoa, neg_itoa, valN_dec]
  by_cases h : z < 0 <;> simp [h] <;> omega
theorem dec_eq_zero {u : Nat} (h : decDigits u = [48]) : u = 0 := by rw [← dec_zero] at h; exact dec_inj h
theorem canon_itoa (z : Int) : canon (itoa z) = true := by
  unfold canon; rw [mag_itoa, neg_itoa, canonM_dec]
  by_cases h : z < 0
  · have : decDigits z.natAbs ≠ [48] := fun e => by have := dec_eq_zero e; omega
    simp [this]
  · simp [h]
theorem mag_of_neg {l : List UInt8} (h : isNeg l = true) : l = 45 :: mag l := by
  cases l with
  | nil => simp [isNeg] at h
  | cons c t => simp [isNeg] at h; subst h; simp [mag]
theorem mag_of_nn {l : List UInt8} (h : isNeg l = false) : mag l = l := by
  cases l with
  | nil => rfl
  | cons c t => simp [isNeg] at h; simp [mag, h]
theorem itoa_val {l : List UInt8} (h : canon l = true) : itoa (val l) = l := by
  unfold canon at h
  simp only [Bool.and_eq_true, Bool.not_eq_true', Bool.and_eq_false_iff] at h
  obtain ⟨h1, h2⟩ := h
  have hd := (canonM_iff _).1 h1
  unfold val
  cases hn : isNeg l with
  | true =>
    have h0 : 0 < valN (mag l) := by
      rcases Nat.eq_zero_or_pos (valN (mag l)) with h0 | h0
      · rw [h0, dec_zero] at hd; rcases h2 with h2 | h2
        · rw [hn] at h2; cases h2
        · rw [hd] at h2; simp at h2
      · exact h0
    rw [if_pos rfl, itoa_neg _ h0, ← hd]; exact (mag_of_neg hn).symm
  | false => simp; rw [itoa_nn, ← hd]; exact mag_of_nn hn
theorem canon_iff (l : List UInt8) : canon l = true ↔ ∃ z : Int, l = itoa z :=
  ⟨fun h => ⟨val l, (itoa_val h).symm⟩, fun ⟨z, hz⟩ => by rw [hz]; exact canon_itoa z⟩
theorem itoa_inj {x y : Int} (h : itoa x = itoa y) : x = y := by rw [← val_itoa x, h, val_itoa]
end Go.Proofs.Ytbhngccjacdlfaa
