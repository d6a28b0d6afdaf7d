/- Texts Diva, Divb, Quo, QuoAll: each says in its own first comment what it proves. -/
import Derived.Test.YtiommpdbbpddpaaGreatM09
import Derived.Test.YtiommpdbbpddpaaGreatM08
import Derived.Test.YtiommpdbbpddpaaGreatM10
/- Walks over (*number).divide: the quotient, rounded down, and the remainder. -/
namespace Go.Proofs.YtiommpdbbpddpaaGreat
open Go.RowKit

set_option maxRecDepth 100000 in
set_option maxHeartbeats 4000000 in
theorem divide_same (g b q A B : Nat) (m : Bool) (w : World) (hT : TakeOutOk A B) (hA : Num w g A m) (hB : Num w b B m) (hq : NumF w q (fun _ => 0) 0 false) (hgb : g ≠ b) (hgq : g ≠ q) (hbq : b ≠ q) (hm : m = (m && decide (A ≠ 0))) :
    Calls Tryz.prog 156 #[.pointer (some ⟨g, 0, none⟩), .pointer (some ⟨b, 0, none⟩), .pointer (some ⟨q, 0, none⟩)] w fun e w' => e = .returned (.tuple #[]) ∧ Num w' g (A % B) (m && decide (A % B ≠ 0)) ∧ Num w' q (A / B) false ∧ Kp [g, q] w w' := by
  have h1 := hA.1.sgn
  have h2 := hB.1.sgn
  have hmm : (m != m) = false := by simp
  have H := Lib.hid hm; clear hm
  go_enter Tryz.func156, Tryz.ntmps156
  go_wp2
  go_quiet (fail)
  go_wp2_with fail
  refine (hT g b q m m _ ⟨hA.1.drewN _, hA.2⟩ ⟨hB.1.drewN _, hB.2⟩ (hq.drewN _) hgb hgq hbq H.out).mono ?_
  rintro e w1 ⟨rfl, hn1, hq1, hk1⟩
  have hs1 := hq1.1.sgn
  have hf1 := hq1.1.free 230
  go_wp2_with fail
  refine (trim_num q (nw (A / B)) (A / B) _ false _ (hq1.1.setM false) (nw_le hq1.2) (lt_pow_nw _) (fun _ _ => rfl)).mono ?_
  rintro e w2 ⟨rfl, hq2, hk2⟩
  go_wp2
  go_end0
  exact ⟨rfl, ⟨(hn1.1.far (p := ⟨q, 230, none⟩) hgq _).kp hk2 (by simpa using hgq), hn1.2⟩, by simpa using hq2, ((((Kp.refl _ _).drewN _).trans hk1).setCell (p := ⟨q, 230, none⟩) (.inl (by simp)) _).step hk2 (by simp <;> omega)⟩

set_option maxRecDepth 100000 in
set_option maxHeartbeats 4000000 in
theorem divide_apart0 (g b q A B : Nat) (m mb : Bool) (w : World) (hT : TakeOutOk A B) (hA : Num w g A m) (hB : Num w b B mb) (hq : NumF w q (fun _ => 0) 0 false) (hgb : g ≠ b) (hgq : g ≠ q) (hbq : b ≠ q) (hm : m = (m && decide (A ≠ 0))) (hmm : mb = !m) (h0 : A % B = 0) :
    Calls Tryz.prog 156 #[.pointer (some ⟨g, 0, none⟩), .pointer (some ⟨b, 0, none⟩), .pointer (some ⟨q, 0, none⟩)] w fun e w' => e = .returned (.tuple #[]) ∧ Num w' g 0 false ∧ Num w' q (A / B) (decide (A / B ≠ 0)) ∧ Kp [g, q] w w' := by
  have h1 := hA.1.sgn
  have h2 := hB.1.sgn
  have H := Lib.hid hm; clear hm
  have H0 := Lib.hid h0; clear h0
  go_enter Tryz.func156, Tryz.ntmps156
  go_wp2
  go_quiet (fail)
  go_wp2_with fail
  refine (hT g b q m mb _ ⟨hA.1.drewN _, hA.2⟩ ⟨hB.1.drewN _, hB.2⟩ (hq.drewN _) hgb hgq hbq H.out).mono ?_
  rintro e w1 ⟨rfl, hn1, hq1, hk1⟩
  rw [H0.out] at hn1
  have hc1 := hn1.1.cnt
  rw [nw_zero] at hc1
  have hs1 := hq1.1.sgn
  have hf1 := hq1.1.free 230
  go_wp2_with fail
  refine (trim_num q (nw (A / B)) (A / B) _ true _ (hq1.1.setM true) (nw_le hq1.2) (lt_pow_nw _) (fun _ _ => rfl)).mono ?_
  rintro e w2 ⟨rfl, hq2, hk2⟩
  go_wp2
  go_end0
  refine ⟨rfl, ⟨?_, hn1.2⟩, by simpa using hq2, ((((Kp.refl _ _).drewN _).trans hk1).setCell (p := ⟨q, 230, none⟩) (.inl (by simp)) _).step hk2 (by simp <;> omega)⟩
  have := (hn1.1.far (p := ⟨q, 230, none⟩) hgq (.bool true)).kp hk2 (by simpa using hgq)
  simpa using this

end Go.Proofs.YtiommpdbbpddpaaGreat

/- Walks over (*number).divide: the quotient, rounded down, and the remainder. -/
namespace Go.Proofs.YtiommpdbbpddpaaGreat
open Go.RowKit

theorem fdiv_unique {x y q r : Int} (h : x = y * q + r) (hr : (0 < y ∧ 0 ≤ r ∧ r < y) ∨ (y < 0 ∧ y < r ∧ r ≤ 0)) : x.fdiv y = q ∧ x.fmod y = r := by
  have h1 := Int.mul_fdiv_add_fmod x y
  have h2 : (0 < y ∧ 0 ≤ x.fmod y ∧ x.fmod y < y) ∨ (y < 0 ∧ y < x.fmod y ∧ x.fmod y ≤ 0) := by
    rcases hr with hr | hr
    · exact Or.inl ⟨hr.1, Int.fmod_nonneg_of_pos _ hr.1, Int.fmod_lt_of_pos _ hr.1⟩
    · refine Or.inr ⟨hr.1, ?_, ?_⟩
      · have := Int.fmod_lt_of_pos (-x) (show 0 < -y by omega)
        rw [Int.neg_fmod_neg] at this; omega
      · have := Int.fmod_nonneg_of_pos (-x) (show 0 < -y by omega)
        rw [Int.neg_fmod_neg] at this; omega
  generalize x.fdiv y = Q at *
  generalize x.fmod y = R at *
  have h3 : y * (Q - q) = r - R := by rw [Int.mul_sub]; omega
  have h4 : Q - q = 0 := by
    rcases hr with hr | hr
    · rcases h2 with h2 | h2
      · rcases Int.lt_trichotomy (Q - q) 0 with h | h | h
        · have := Int.mul_le_mul_of_nonneg_left (show Q - q ≤ -1 by omega) (show 0 ≤ y by omega); omega
        · exact h
        · have := Int.mul_le_mul_of_nonneg_left (show 1 ≤ Q - q by omega) (show 0 ≤ y by omega); omega
      · omega
    · rcases h2 with h2 | h2
      · omega
      · rcases Int.lt_trichotomy (Q - q) 0 with h | h | h
        · have := Int.mul_le_mul_of_nonneg_left (show Q - q ≤ -1 by omega) (show 0 ≤ -y by omega)
          simp only [Int.neg_mul] at this; omega
        · exact h
        · have := Int.mul_le_mul_of_nonneg_left (show 1 ≤ Q - q by omega) (show 0 ≤ -y by omega)
          simp only [Int.neg_mul] at this; omega
  have h5 : Q = q := by omega
  subst h5
  exact ⟨rfl, by omega⟩
theorem natAbs_divmod (x y : Int) : (x.natAbs : Int) = (y.natAbs : Int) * ((x.natAbs / y.natAbs : Nat) : Int) + ((x.natAbs % y.natAbs : Nat) : Int) := by
  have := Nat.div_add_mod x.natAbs y.natAbs
  rw [← Int.natCast_mul, ← Int.natCast_add, this]
theorem fdiv_same {x y : Int} (hs : x < 0 ↔ y < 0) (hy : y ≠ 0) : x.fdiv y = ((x.natAbs / y.natAbs : Nat) : Int) ∧ x.fmod y = if x < 0 then -((x.natAbs % y.natAbs : Nat) : Int) else ((x.natAbs % y.natAbs : Nat) : Int) := by
  have h1 := natAbs_divmod x y
  have h2 : x.natAbs % y.natAbs < y.natAbs := Nat.mod_lt _ (by omega)
  generalize x.natAbs / y.natAbs = k at *
  generalize x.natAbs % y.natAbs = r at *
  by_cases hx : x < 0
  · have hy' := hs.1 hx
    rw [if_pos hx]
    refine fdiv_unique ?_ (Or.inr (by omega))
    have e1 : (y.natAbs : Int) = -y := by omega
    rw [e1, Int.neg_mul] at h1; omega
  · have hy' : ¬ y < 0 := fun h => hx (hs.2 h)
    rw [if_neg hx]
    refine fdiv_unique ?_ (Or.inl (by omega))
    have e1 : (y.natAbs : Int) = y := by omega
    rw [e1] at h1; omega
theorem fdiv_apart0 {x y : Int} (hs : ¬ (x < 0 ↔ y < 0)) (hy : y ≠ 0) (h0 : x.natAbs % y.natAbs = 0) : x.fdiv y = -((x.natAbs / y.natAbs : Nat) : Int) ∧ x.fmod y = 0 := by
  have h1 := natAbs_divmod x y
  rw [h0] at h1
  generalize x.natAbs / y.natAbs = k at *
  refine fdiv_unique ?_ (by omega)
  rcases Int.lt_or_lt_of_ne hy with h | h
  · have e1 : (y.natAbs : Int) = -y := by omega
    rw [e1, Int.neg_mul] at h1; rw [Int.mul_neg]; omega
  · have e1 : (y.natAbs : Int) = y := by omega
    rw [e1] at h1; rw [Int.mul_neg]; omega
theorem fdiv_apart1 {x y : Int} (hs : ¬ (x < 0 ↔ y < 0)) (hy : y ≠ 0) (h0 : x.natAbs % y.natAbs ≠ 0) : x.fdiv y = -((x.natAbs / y.natAbs + 1 : Nat) : Int) ∧ (x.fmod y).natAbs = y.natAbs - x.natAbs % y.natAbs ∧ decide (x.fmod y < 0) = decide (y < 0) := by
  have h1 := natAbs_divmod x y
  have h2 : x.natAbs % y.natAbs < y.natAbs := Nat.mod_lt _ (by omega)
  generalize x.natAbs / y.natAbs = k at *
  generalize x.natAbs % y.natAbs = r at *
  rcases Int.lt_or_lt_of_ne hy with h | h
  · have := fdiv_unique (x := x) (y := y) (q := -((k + 1 : Nat) : Int)) (r := y + r) (by
      have e1 : (y.natAbs : Int) = -y := by omega
      rw [e1, Int.neg_mul] at h1; rw [Int.mul_neg, Int.natCast_add, Int.mul_add]; omega) (Or.inr (by omega))
    refine ⟨this.1, by rw [this.2]; omega, ?_⟩
    rw [this.2, Bool.eq_iff_iff]; simp; omega
  · have := fdiv_unique (x := x) (y := y) (q := -((k + 1 : Nat) : Int)) (r := y - r) (by
      have e1 : (y.natAbs : Int) = y := by omega
      rw [e1] at h1; rw [Int.mul_neg, Int.natCast_add, Int.mul_add]; omega) (Or.inl (by omega))
    refine ⟨this.1, by rw [this.2]; omega, ?_⟩
    rw [this.2, Bool.eq_iff_iff]; simp; omega

set_option maxRecDepth 100000 in
set_option maxHeartbeats 4000000 in
theorem divide_apart1 (g b q A B : Nat) (m mb : Bool) (w : World) (hT : TakeOutOk A B) (hA : Num w g A m) (hB : Num w b B mb) (hq : NumF w q (fun _ => 0) 0 false) (hgb : g ≠ b) (hgq : g ≠ q) (hbq : b ≠ q) (hm : m = (m && decide (A ≠ 0))) (hmm : mb = !m) (h0 : A % B ≠ 0) (hB0 : 0 < B) (hA' : A < B9 ^ 200) (_hB' : B < B9 ^ 200) :
    Calls Tryz.prog 156 #[.pointer (some ⟨g, 0, none⟩), .pointer (some ⟨b, 0, none⟩), .pointer (some ⟨q, 0, none⟩)] w fun e w' => e = .returned (.tuple #[]) ∧ Num w' g (B - A % B) mb ∧ Num w' q (A / B + 1) true ∧ Kp [g, q] w w' := by
  have h1 := hA.1.sgn
  have h2 := hB.1.sgn
  have H := Lib.hid hm; clear hm
  have hr0 : 0 < nw (A % B) := Nat.pos_of_ne_zero (nw_ne h0)
  have hr : A % B < B := Nat.mod_lt _ hB0
  have hlb := hB.1.lt
  have hlq := hq.lt
  have hlg := hA.1.lt
  go_enter Tryz.func156, Tryz.ntmps156
  go_wp2
  go_quiet (fail)
  go_wp2_with fail
  refine (hT g b q m mb _ ⟨hA.1.drewN _, hA.2⟩ ⟨hB.1.drewN _, hB.2⟩ (hq.drewN _) hgb hgq hbq H.out).mono ?_
  rintro e w1 ⟨rfl, hn1, hq1, hk1⟩
  have hc1 := hn1.1.cnt
  have hcn : nw (A % B) ≤ 229 := nw_le hn1.2
  have hB1 : Num w1 b B mb := ⟨(hB.1.drewN _).kp hk1 (by simp <;> omega), hB.2⟩
  rw [show (m && decide (A % B ≠ 0)) = m by simp [h0]] at hn1
  have hmb : (m == mb) = false := by rw [hmm]; cases m <;> rfl
  go_wp2_with fail
  refine (add_lt g b (A % B) B m mb _ hn1 hB1 hgb hmb hr).mono ?_
  rintro e w2 ⟨rfl, hn2, hk2⟩
  obtain ⟨w3, hst, hone, hk3⟩ := store_one w2
  go_wp2_with (first | (refine wpList_build1 rfl 146 _ rfl (.int .u32 1) rfl oneArr build_words ?_) | (refine wpList_build2 rfl 148 _ _ rfl (.agg oneArr) (.int .i64 1) rfl rfl oneAll build_one ?_))
  have hq2 : Num w2 q (A / B) false := ⟨hq1.1.kp hk2 (by simpa using fun e => hgq e.symm), hq1.2⟩
  have hq3 : Num w3 q (A / B) false := ⟨hq2.1.kp hk3 (by simp), hq1.2⟩
  have hn3 : Num w3 g (B - A % B) (mb && decide (B - A % B ≠ 0)) := ⟨hn2.1.kp hk3 (by simp), hn2.2⟩
  have hql := hq2.1.lt
  have hqb : A / B < B9 ^ 228 := Nat.lt_of_le_of_lt (Nat.div_le_self _ _) (Nat.lt_of_lt_of_le hA' (pow_le (by omega)))
  refine (grow_any q w2.heap.size (A / B) 1 false false _ hq3 hone (by omega) hqb (Nat.lt_of_lt_of_le (show 1 < B9 ^ 1 by decide) (pow_le (by omega)))).mono ?_
  rintro e w4 ⟨rfl, hq4, hk4⟩
  have hs4 := hq4.1.sgn
  have hf4 := hq4.1.free 230
  go_wp2_with fail
  refine (trim_num q (nw (A / B + 1)) (A / B + 1) _ true _ (hq4.1.setM true) (nw_le hq4.2) (lt_pow_nw _) (fun _ _ => rfl)).mono ?_
  rintro e w5 ⟨rfl, hq5, hk5⟩
  go_wp2
  go_end0
  have k2 : Kp [g, q] w w2 := (((Kp.refl _ _).drewN _).trans hk1).step hk2 (by simp <;> omega)
  have k3 := k2.step hk3 (by simp <;> omega)
  have k4 := k3.step hk4 (by simp <;> omega)
  refine ⟨rfl, ⟨?_, hn3.2⟩, by simpa using hq5, (k4.setCell (p := ⟨q, 230, none⟩) (.inl (by simp)) _).step hk5 (by simp <;> omega)⟩
  have h1 := ((hn3.1.kp hk4 (by simpa using hgq)).far (p := ⟨q, 230, none⟩) hgq (.bool true)).kp hk5 (by simpa using hgq)
  have e1 : (mb && decide (B - A % B ≠ 0)) = mb := by
    have : B - A % B ≠ 0 := by omega
    simp [this]
  rw [e1] at h1; exact h1

/-- the quotient, rounded down, and the remainder of signed numbers -/
theorem divideZ (g b q : Nat) (x y : Int) (w : World) (hT : TakeOutOk x.natAbs y.natAbs) (hA : NumZ w g x) (hB : NumZ w b y) (hq : NumF w q (fun _ => 0) 0 false) (hgb : g ≠ b) (hgq : g ≠ q) (hbq : b ≠ q) (hy : y ≠ 0) (hx' : x.natAbs < B9 ^ 200) (hy' : y.natAbs < B9 ^ 200) :
    Calls Tryz.prog 156 #[.pointer (some ⟨g, 0, none⟩), .pointer (some ⟨b, 0, none⟩), .pointer (some ⟨q, 0, none⟩)] w fun e w' => e = .returned (.tuple #[]) ∧ NumZ w' g (x.fmod y) ∧ NumZ w' q (x.fdiv y) ∧ Kp [g, q] w w' := by
  have hm : decide (x < 0) = (decide (x < 0) && decide (x.natAbs ≠ 0)) := by rw [Bool.eq_iff_iff]; simp; omega
  have hB0 : 0 < y.natAbs := by omega
  by_cases hs : decide (x < 0) = decide (y < 0)
  · have hB2 : Num w b y.natAbs (decide (x < 0)) := by rw [hs]; exact hB
    refine (divide_same g b q _ _ _ w hT hA hB2 hq hgb hgq hbq hm).mono ?_
    rintro e w' ⟨he, h1, h2, hk⟩
    have hs' : x < 0 ↔ y < 0 := by simpa using hs
    obtain ⟨d1, d2⟩ := fdiv_same hs' hy
    generalize x.natAbs % y.natAbs = r at *
    generalize x.natAbs / y.natAbs = k at *
    refine ⟨he, ?_, ?_, hk⟩
    · show Num _ _ _ _
      rw [d2, show decide ((if x < 0 then -(r : Int) else (r : Int)) < 0) = (decide (x < 0) && decide (r ≠ 0)) by
        rw [Bool.eq_iff_iff]; split <;> simp [*] <;> omega]
      have e2 : (if x < 0 then -(r : Int) else (r : Int)).natAbs = r := by split <;> simp
      rw [e2]; exact h1
    · show Num _ _ _ _
      rw [d1, show decide ((k : Int) < 0) = false from decide_eq_false (by omega), Int.natAbs_natCast]; exact h2
  · have hs' : ¬ (x < 0 ↔ y < 0) := by simpa using hs
    have hmm : decide (y < 0) = !decide (x < 0) := by rw [Bool.eq_iff_iff]; simp; omega
    by_cases h0 : x.natAbs % y.natAbs = 0
    · refine (divide_apart0 g b q _ _ _ _ w hT hA hB hq hgb hgq hbq hm hmm h0).mono ?_
      rintro e w' ⟨he, h1, h2, hk⟩
      obtain ⟨d1, d2⟩ := fdiv_apart0 hs' hy h0
      generalize x.natAbs / y.natAbs = k at *
      refine ⟨he, ?_, ?_, hk⟩
      · rw [d2]; exact h1
      · show Num _ _ _ _
        rw [d1, show decide (-(k : Int) < 0) = decide (k ≠ 0) by rw [Bool.eq_iff_iff]; simp; omega, Int.natAbs_neg, Int.natAbs_natCast]; exact h2
    · refine (divide_apart1 g b q _ _ _ _ w hT hA hB hq hgb hgq hbq hm hmm h0 hB0 hx' hy').mono ?_
      rintro e w' ⟨he, h1, h2, hk⟩
      obtain ⟨d1, d2, d3⟩ := fdiv_apart1 hs' hy h0
      generalize x.natAbs % y.natAbs = r at *
      generalize x.natAbs / y.natAbs = k at *
      refine ⟨he, ?_, ?_, hk⟩
      · show Num _ _ _ _
        rw [d2, d3]; exact h1
      · show Num _ _ _ _
        rw [d1, show decide (-((k + 1 : Nat) : Int) < 0) = true from decide_eq_true (by omega), Int.natAbs_neg, Int.natAbs_natCast]; exact h2
end Go.Proofs.YtiommpdbbpddpaaGreat

/- Walks over whole.divide, Quo and Rem, for all texts. -/
namespace Go.Proofs.YtiommpdbbpddpaaGreat
open Go.RowKit
open Go.Lib (nDigits itoa decDigits)

theorem S_zero : S 0 = ⟨#[48]⟩ := by unfold S; rw [show itoa 0 = decDigits 0 from rfl, dec_zero]
theorem S_eq_zero {z : Int} : (S z).toList = [48] ↔ z = 0 := by
  rw [Lib.toList_data, S_list]
  constructor
  · intro h; exact itoa_inj (x := z) (y := 0) (by rw [h, show itoa 0 = decDigits 0 from rfl, dec_zero])
  · rintro rfl; rw [show itoa 0 = decDigits 0 from rfl, dec_zero]
/-- the result of a division of two texts -/
def divB (f : Int → Int → Int) (a b : ByteArray) : ByteArray := if chkL [a, b] = 0 then (if valS b = 0 then ⟨#[]⟩ else resB (f (valS a) (valS b))) else ⟨#[]⟩
def divE (f : Int → Int → Int) (a b : ByteArray) : Int := if chkL [a, b] = 0 then (if valS b = 0 then 10 else resE (f (valS a) (valS b))) else chkL [a, b]
def TakeOutAll (a b : ByteArray) : Prop := chkL [a, b] = 0 → valS b ≠ 0 → TakeOutOk (valS a).natAbs (valS b).natAbs

set_option maxRecDepth 100000 in
set_option maxHeartbeats 1000000 in
theorem divide_bad (q r : Nat) (a b : ByteArray) (w : World) (ha : a.size ≤ 9223372036854775807) (hb : b.size ≤ 9223372036854775807) (hne : chkL [a, b] ≠ 0) :
    Calls Tryz.prog 144 #[.string a, .string b, .pointer (some ⟨q, 0, none⟩), .pointer (some ⟨r, 0, none⟩)] w fun e w' => e = .returned (.int .i64 (chkL [a, b])) ∧ Kp [] w w' := by
  have hc := check2 a b w ha hb
  have hbb : (chkL [a, b] != 0) = true := bne_iff_ne.2 hne
  have H := Lib.hid hc; clear hc hne
  generalize chkL [a, b] = k at *
  go_enter Tryz.func144, Tryz.ntmps144
  go_wp2_with fail
  refine H.out.mono ?_
  rintro e w' ⟨rfl, rfl⟩
  go_wp2
  go_ret
  exact ⟨rfl, (Kp.refl _ _).alloc _⟩

set_option maxRecDepth 100000 in
set_option maxHeartbeats 1000000 in
theorem divide_zero (q r : Nat) (x y : Int) (w : World) (hx : Ok x) (hy : Ok y) (h0 : y = 0) :
    Calls Tryz.prog 144 #[.string (S x), .string (S y), .pointer (some ⟨q, 0, none⟩), .pointer (some ⟨r, 0, none⟩)] w fun e w' => e = .returned (.int .i64 10) ∧ Kp [] w w' := by
  have hc := check2 (S x) (S y) w (Nat.le_trans hx.size (by decide)) (Nat.le_trans hy.size (by decide))
  rw [show chkL [S x, S y] = 0 from chkL_map (zs := [x, y]) (fun z hz => by
    rcases List.mem_cons.1 hz with rfl | hz
    · exact hx
    · rcases List.mem_cons.1 hz with rfl | hz
      · exact hy
      · cases hz)] at hc
  have hb : ((S y).toList == [48]) = true := by rw [S_eq_zero.2 h0]; rfl
  have H := Lib.hid hc; clear hc h0
  generalize S y = t at *
  go_enter Tryz.func144, Tryz.ntmps144
  go_wp2_with fail
  refine H.out.mono ?_
  rintro e w' ⟨rfl, rfl⟩
  go_wp2
  go_ret
  exact ⟨rfl, (Kp.refl _ _).alloc _⟩

set_option maxRecDepth 100000 in
set_option maxHeartbeats 1000000 in
theorem divide_ok (q r : Nat) (x y : Int) (w : World) (hT : TakeOutOk x.natAbs y.natAbs) (hx : Ok x) (hy : Ok y) (h0 : y ≠ 0) (hq : NumF w q (fun _ => 0) 0 false) (hr : NumF w r (fun _ => 0) 0 false) (hqr : q ≠ r) :
    Calls Tryz.prog 144 #[.string (S x), .string (S y), .pointer (some ⟨q, 0, none⟩), .pointer (some ⟨r, 0, none⟩)] w fun e w' => e = .returned (.int .i64 0) ∧ NumZ w' q (x.fdiv y) ∧ NumZ w' r (x.fmod y) ∧ Kp [q, r] w w' := by
  have hc := check2 (S x) (S y) w (Nat.le_trans hx.size (by decide)) (Nat.le_trans hy.size (by decide))
  rw [show chkL [S x, S y] = 0 from chkL_map (zs := [x, y]) (fun z hz => by
    rcases List.mem_cons.1 hz with rfl | hz
    · exact hx
    · rcases List.mem_cons.1 hz with rfl | hz
      · exact hy
      · cases hz)] at hc
  have hb : ((S y).toList == [48]) = false := beq_eq_false_iff_ne.2 (fun e => h0 (S_eq_zero.1 e))
  have H := Lib.hid hc; clear hc
  have hlq := hq.lt
  have hlr := hr.lt
  have n1 := NumF.made (w.alloc (.cells #[.string (S x), .string (S y)] 55))
  rw [World.size_alloc] at n1
  have k1 : Kp [q, r] w (w.alloc (.cells #[.string (S x), .string (S y)] 55)) := (Kp.refl _ _).alloc _
  go_enter Tryz.func144, Tryz.ntmps144
  go_wp2_with fail
  refine H.out.mono ?_
  rintro e w' ⟨rfl, rfl⟩
  go_wp2_with fail
  refine (readZ r x _ ((hr.alloc _).alloc _) hx).mono ?_
  rintro e w1 ⟨rfl, hr1, hk1⟩
  have hq1 := ((hq.alloc _).alloc _).kp hk1 (by simpa using hqr)
  have hn1 := n1.kp hk1 (by simp <;> omega)
  go_wp2_with fail
  refine (readZ (w.heap.size + 1) y _ hn1 hy).mono ?_
  rintro e w2 ⟨rfl, hy2, hk2⟩
  have hr2 := hr1.kp hk2 (by simp <;> omega)
  have hq2 := hq1.kp hk2 (by simp <;> omega)
  go_wp2_with fail
  refine (divideZ r (w.heap.size + 1) q x y _ hT hr2 hy2 hq2 (by omega) (fun e => hqr e.symm) (by omega) h0 (Nat.lt_of_lt_of_le hx.lt (pow_le (by omega))) (Nat.lt_of_lt_of_le hy.lt (pow_le (by omega)))).mono ?_
  rintro e w3 ⟨rfl, hr3, hq3, hk3⟩
  go_wp2
  go_ret
  exact ⟨rfl, hq3, hr3, (((k1.alloc _).step hk1 (by simp <;> omega)).step hk2 (by simp <;> omega)).step hk3 (by simp <;> omega)⟩

set_option maxRecDepth 100000 in
set_option maxHeartbeats 1000000 in
theorem Quo_any (a b : ByteArray) (w : World) (hT : TakeOutAll a b) (ha : a.size ≤ 9223372036854775807) (hb : b.size ≤ 9223372036854775807) :
    Calls Tryz.prog 125 #[.string a, .string b] w fun e w' => e = .returned (.tuple #[.string (divB Int.fdiv a b), .int .i64 (divE Int.fdiv a b)]) ∧ Kp [] w w' := by
  have n1 := NumF.made w
  have n2 := NumF.made (w.alloc (.cells Tryz.zeroCells148 148))
  rw [World.size_alloc] at n2
  have k1 : Kp [] w ((w.alloc (.cells Tryz.zeroCells148 148)).alloc (.cells Tryz.zeroCells148 148)) := ((Kp.refl _ _).alloc _).alloc _
  by_cases h : chkL [a, b] = 0
  · have hT' := hT h
    obtain ⟨x, y, rfl, rfl, hx, hy⟩ := chkL2 h
    rw [valS_S, valS_S] at hT'
    by_cases h0 : y = 0
    · have hv1 : Hid (divB Int.fdiv (S x) (S y) = ⟨#[]⟩) := by show divB _ _ _ = _; unfold divB; rw [if_pos h, valS_S, if_pos h0]
      have hv2 : Hid (divE Int.fdiv (S x) (S y) = 10) := by show divE _ _ _ = _; unfold divE; rw [if_pos h, valS_S, if_pos h0]
      have hd := Lib.hid (divide_zero w.heap.size (w.heap.size + 1) x y ((w.alloc (.cells Tryz.zeroCells148 148)).alloc (.cells Tryz.zeroCells148 148)) hx hy h0)
      clear h h0 hT hT'
      go_enter Tryz.func125, Tryz.ntmps125
      go_wp2_with fail
      refine hd.out.mono ?_
      rintro e w' ⟨rfl, hk⟩
      go_wp2
      go_ret2
      exact ⟨by rw [hv1.out, hv2.out]; rfl, k1.trans hk⟩
    · have hv1 : Hid (divB Int.fdiv (S x) (S y) = resB (x.fdiv y)) := by show divB _ _ _ = _; unfold divB; rw [if_pos h, valS_S, valS_S, if_neg h0]
      have hv2 : Hid (divE Int.fdiv (S x) (S y) = resE (x.fdiv y)) := by show divE _ _ _ = _; unfold divE; rw [if_pos h, valS_S, valS_S, if_neg h0]
      have hd := Lib.hid (divide_ok w.heap.size (w.heap.size + 1) x y _ (hT' h0) hx hy h0 (n1.alloc _) n2 (by omega))
      clear h h0 hT hT'
      go_enter Tryz.func125, Tryz.ntmps125
      go_wp2_with fail
      refine hd.out.mono ?_
      rintro e w1 ⟨rfl, hq, hr, hk⟩
      go_wp2_with fail
      refine (textZ _ _ _ hq).mono ?_
      rintro e w2 ⟨rfl, hk2⟩
      go_wp2
      go_ret2
      exact ⟨by rw [hv1.out, hv2.out]; rfl, (k1.step hk (by simp <;> omega)).trans hk2⟩
  · have hv1 : Hid (divB Int.fdiv a b = ⟨#[]⟩) := if_neg h
    have hv2 : Hid (divE Int.fdiv a b = chkL [a, b]) := if_neg h
    have hbb : (chkL [a, b] != 0) = true := bne_iff_ne.2 h
    have hd := Lib.hid (divide_bad w.heap.size (w.heap.size + 1) a b ((w.alloc (.cells Tryz.zeroCells148 148)).alloc (.cells Tryz.zeroCells148 148)) ha hb h)
    clear h hT
    generalize chkL [a, b] = k at *
    go_enter Tryz.func125, Tryz.ntmps125
    go_wp2_with fail
    refine hd.out.mono ?_
    rintro e w' ⟨rfl, hk⟩
    go_wp2
    go_ret2
    exact ⟨by rw [hv1.out, hv2.out]; rfl, k1.trans hk⟩



















































end Go.Proofs.YtiommpdbbpddpaaGreat

/- Quo and Rem for every two texts. -/
namespace Go.Proofs.YtiommpdbbpddpaaGreat
open Go.RowKit

theorem takeOut_texts (a b : ByteArray) : TakeOutAll a b := by
  intro h h0
  obtain ⟨x, y, rfl, rfl, hx, hy⟩ := chkL2 h
  rw [valS_S] at h0
  rw [valS_S, valS_S]
  exact takeOut_all (by omega) (Nat.lt_of_lt_of_le hx.lt (pow_le (by omega)))
theorem Quo_all (a b : ByteArray) (w : World) (ha : a.size ≤ 9223372036854775807) (hb : b.size ≤ 9223372036854775807) :
    Calls Tryz.prog 125 #[.string a, .string b] w fun e w' => e = .returned (.tuple #[.string (divB Int.fdiv a b), .int .i64 (divE Int.fdiv a b)]) ∧ Kp [] w w' :=
  Quo_any a b w (takeOut_texts a b) ha hb




end Go.Proofs.YtiommpdbbpddpaaGreat
