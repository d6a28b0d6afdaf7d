/- Texts Gcd, Comp: each says in its own first comment what it proves. -/
import Derived.Test.YtiommpdbbpddpaaGreatM09
import Derived.Test.YtiommpdbbpddpaaGreatM08
import Derived.Test.YtiommpdbbpddpaaGreatM06
import Derived.BigRegion
import Derived.Test.YtiommpdbbpddpaaGreatM04
/- Walk over gcd, where the second number has at most two words and is not greater. -/
namespace Go.Proofs.YtiommpdbbpddpaaGreat
open Go.RowKit

theorem low_val {X : Nat} (h : nw X ≤ 2) : wd X 1 * 1000000000 + wd X 0 = X := by
  have hX : X < B9 ^ 2 := Nat.lt_of_lt_of_le (lt_pow_nw X) (pow_le h)
  have h1 := div_step X 0
  have h2 := div_step X 1
  rw [Nat.div_eq_of_lt hX, Nat.zero_mul, Nat.zero_add] at h2
  simp only [Nat.pow_zero, Nat.div_one, Nat.zero_add] at h1
  rw [h2] at h1
  unfold B9 at h1; omega
theorem low_small (g A : Nat) (m : Bool) (w : World) (hA : Num w g A m) (h : nw A ≤ 2) :
    Calls Tryz.prog 155 #[.pointer (some ⟨g, 0, none⟩)] w fun e w' => e = .returned (.int .u64 (A : Int)) ∧ ∃ n, w' = w.drewN n := by
  refine (low_any g A m w hA).mono ?_
  rintro e w' ⟨he, hn⟩
  rw [low_val h] at he
  exact ⟨he, hn⟩
theorem clear_any (g M : Nat) (f : Nat → Nat) (c : Nat) (m : Bool) (w : World) (hn : NumF w g f c m) (hM : M ≤ 229) :
    ∃ w2, (∀ ty nq, (Builtin.clear_ #[170] ty #[.slice (some ⟨g, 0, none⟩) M 229]).run Tryz.prog (w.drewN nq) = .ok (.tuple #[]) (w2.drewN nq)) ∧
      NumF w2 g (mix (fun _ => 0) f M) c m ∧ Kp [g] w w2 := by
  rcases Nat.eq_zero_or_pos M with rfl | h
  · refine ⟨w, fun ty nq => ?_, by rw [mix_zero]; exact hn, Kp.refl _ _⟩
    simp [Builtin.clear_, run_underlying Tryz.underlying170]
  · exact clear_num g M f c m w hn hM h

/-- the end of gcd: the block of x holds the divisor d, which has at most two words -/
theorem two_words {d : Nat} {f : Nat → Nat} {M : Nat} (hd : d < B9 ^ 2) (hf : ∀ i, M ≤ i → f i = 0) (i : Nat) : upd (upd (mix (fun _ => 0) f M) 0 (d % 1000000000)) 1 (d / 1000000000) i = wd d i := by
  unfold upd
  by_cases h1 : i = 1
  · subst h1; rw [if_pos rfl, wd_eq, Nat.pow_one]
    refine (Nat.mod_eq_of_lt ?_).symm
    exact (Nat.div_lt_iff_lt_mul B9_pos).2 (by rw [← Nat.pow_two]; exact hd)
  · rw [if_neg h1]
    by_cases h0 : i = 0
    · subst h0; rw [if_pos rfl, wd_eq]; simp; rfl
    · rw [if_neg h0, wd_of_lt (Nat.lt_of_lt_of_le hd (pow_le (by omega)))]
      by_cases h : i < M
      · rw [mix_lt _ _ h]
      · rw [mix_ge _ _ (by omega), hf i (by omega)]

/-- what gcd does with A and B -/
def GcdOk (A B : Nat) : Prop := ∀ (g b : Nat) (mA mB : Bool) (w : World), Num w g A mA → Num w b B mB → g ≠ b →
    Calls Tryz.prog 141 #[.pointer (some ⟨g, 0, none⟩), .pointer (some ⟨b, 0, none⟩)] w fun e w' => ∃ r, (r = g ∨ r = b) ∧ e = .returned (.pointer (some ⟨r, 0, none⟩)) ∧ Num w' r (Nat.gcd A B) false ∧ Kp [g, b] w w'
def gcdI (x y : Int) : Int := (Nat.gcd x.natAbs y.natAbs : Nat)
def GcdAll (a b : ByteArray) : Prop := chkL [a, b] = 0 → GcdOk (valS a).natAbs (valS b).natAbs

set_option maxRecDepth 100000 in
set_option maxHeartbeats 1000000 in
theorem Gcd_any (a b : ByteArray) (w : World) (hG : GcdAll a b) (ha : a.size ≤ 9223372036854775807) (hb : b.size ≤ 9223372036854775807) :
    Calls Tryz.prog 119 #[.string a, .string b] w fun e w' => e = .returned (.tuple #[.string (binB gcdI a b), .int .i64 (binE gcdI a b)]) ∧ Kp [] w w' := by
  have hc := check2 a b w ha hb
  by_cases h : chkL [a, b] = 0
  · have hG' := hG h
    obtain ⟨x, y, rfl, rfl, hx, hy⟩ := chkL2 h
    rw [valS_S, valS_S] at hG'
    rw [binB_S h, binE_S h]
    rw [h] at hc
    have H := Lib.hid hc; clear hc h hG
    have k1 : Kp [] w (w.alloc (.cells #[.string (S x), .string (S y)] 55)) := (Kp.refl _ _).alloc _
    go_enter Tryz.func119, Tryz.ntmps119
    go_wp2_with fail
    refine H.out.mono ?_
    rintro e w' ⟨rfl, rfl⟩
    go_wp2_with fail
    have n1 := NumF.made (w.alloc (.cells #[.string (S x), .string (S y)] 55))
    have n2 := NumF.made ((w.alloc (.cells #[.string (S x), .string (S y)] 55)).alloc (.cells Tryz.zeroCells148 148))
    simp only [World.size_alloc] at n1 n2
    have k2 := (k1.alloc (.cells Tryz.zeroCells148 148)).alloc (.cells Tryz.zeroCells148 148)
    refine (readZ (w.heap.size + 1) x _ (n1.alloc _) hx).mono ?_
    rintro e w1 ⟨rfl, hn1, hk1⟩
    have hn2 := n2.kp hk1 (by simp <;> omega)
    go_wp2_with fail
    refine (readZ (w.heap.size + 1 + 1) y _ hn2 hy).mono ?_
    rintro e w2 ⟨rfl, hm2, hk2⟩
    have hm1 := hn1.kp hk2 (by simp <;> omega)
    have hGc := hG' (w.heap.size + 1) (w.heap.size + 1 + 1) _ _ w2 hm1 hm2 (by omega)
    go_wp2_with fail
    refine hGc.mono ?_
    rintro e w3 ⟨r, hr, rfl, hp, hk3⟩
    have hz : NumZ w3 r (gcdI x y) := by
      show Num _ _ _ _
      unfold gcdI
      rw [Int.natAbs_natCast, show decide (((Nat.gcd x.natAbs y.natAbs : Nat) : Int) < 0) = false from decide_eq_false (by omega)]; exact hp
    go_wp2_with fail
    refine (textZ _ _ _ hz).mono ?_
    rintro e w4 ⟨rfl, hk4⟩
    go_wp2
    go_ret2
    exact ⟨rfl, (((k2.step hk1 (by simp <;> omega)).step hk2 (by simp <;> omega)).step hk3 (by simp <;> omega)).trans hk4⟩
  · have hv : Hid (binB gcdI a b = ⟨#[]⟩) := if_neg h
    have hv2 : Hid (binE gcdI a b = chkL [a, b]) := if_neg h
    have hbb : (chkL [a, b] != 0) = true := bne_iff_ne.2 h
    have H := Lib.hid hc; clear hc h hG
    generalize chkL [a, b] = k at *
    go_enter Tryz.func119, Tryz.ntmps119
    go_wp2_with fail
    refine H.out.mono ?_
    rintro e w' ⟨rfl, rfl⟩
    go_wp2
    go_ret2
    exact ⟨by rw [hv.out, hv2.out]; rfl, (Kp.refl _ _).alloc _⟩
end Go.Proofs.YtiommpdbbpddpaaGreat

/- Walk over whole.Compare, for all texts: of two numbers without a sign the shorter text is less, and of one length the first digit that differs decides. -/
namespace Go.Proofs.YtiommpdbbpddpaaGreat
open Go.RowKit
open Go.Lib (nDigits itoa decDigits)

theorem valN_cons (c : UInt8) (t : List UInt8) : valN (c :: t) = (c.toNat - 48) * 10 ^ t.length + valN t := by
  have := valN_append [c] t
  rw [List.singleton_append] at this
  rw [this]; simp [valN]
theorem less_val : ∀ (a b : List UInt8), a.length = b.length → a.all isDig = true → b.all isDig = true → Op.bytesLess a b = decide (valN a < valN b)
  | [], [], _, _, _ => rfl
  | [], _ :: _, h, _, _ => by simp at h
  | _ :: _, [], h, _, _ => by simp at h
  | c :: a, d :: b, h, ha, hb => by
    have hl : a.length = b.length := by simpa using h
    simp only [List.all_cons, Bool.and_eq_true] at ha hb
    have ih := less_val a b hl ha.2 hb.2
    have hc := (isDig_iff c).1 ha.1
    have hd := (isDig_iff d).1 hb.1
    have va := valN_lt a ha.2
    have vb := valN_lt b hb.2
    rw [valN_cons, valN_cons, hl] at *
    show (decide (c < d) || (c == d && Op.bytesLess a b)) = _
    rw [ih]
    generalize 10 ^ b.length = p at *
    generalize valN a = u at *
    generalize valN b = v at *
    by_cases h1 : c < d
    · have h1' : c.toNat < d.toNat := UInt8.lt_iff_toNat_lt.1 h1
      have : (c.toNat - 48 + 1) * p ≤ (d.toNat - 48) * p := Nat.mul_le_mul_right _ (by omega)
      rw [Nat.add_mul] at this
      rw [decide_eq_true h1, decide_eq_true (show (c.toNat - 48) * p + u < (d.toNat - 48) * p + v by omega)]; rfl
    · have h1' : ¬ c.toNat < d.toNat := fun h => h1 (UInt8.lt_iff_toNat_lt.2 h)
      rw [decide_eq_false h1]
      by_cases h2 : c = d
      · subst h2
        simp
      · have h2' : c.toNat ≠ d.toNat := fun h => h2 (UInt8.toNat_inj.1 h)
        have : (d.toNat - 48 + 1) * p ≤ (c.toNat - 48) * p := Nat.mul_le_mul_right _ (by omega)
        rw [Nat.add_mul] at this
        rw [decide_eq_false (show ¬ (c.toNat - 48) * p + u < (d.toNat - 48) * p + v by omega), beq_false_of_ne h2]; rfl
/-- the order of digits -/
def Shorter (la lb : Nat) (less r : Bool) : Prop := (la < lb ∧ r = true) ∨ (la = lb ∧ r = less) ∨ (lb < la ∧ r = false)
theorem shorter_dec (u v : Nat) (k : Nat) : Shorter (nDigits u + k) (nDigits v + k) (Op.bytesLess (decDigits u) (decDigits v)) (decide (u < v)) := by
  unfold Shorter
  have hu := Go.Lib.lt_pow_nDigits u
  have hv := Go.Lib.lt_pow_nDigits v
  rcases Nat.lt_trichotomy (nDigits u) (nDigits v) with h | h | h
  · refine Or.inl ⟨by omega, decide_eq_true ?_⟩
    rcases Nat.eq_zero_or_pos v with hv0 | hv0
    · subst hv0; have := Go.Lib.nDigits_pos u; have h0 : nDigits 0 = 1 := Go.Lib.nDigits_small (by omega); omega
    · have := nd_pow_le hv0
      have h2 : 10 ^ nDigits u ≤ 10 ^ (nDigits v - 1) := Nat.pow_le_pow_right (by decide) (by omega)
      omega
  · refine Or.inr (Or.inl ⟨by omega, ?_⟩)
    rw [less_val _ _ (by rw [dec_len, dec_len, h]) (dec_all u) (dec_all v), valN_dec, valN_dec]
  · refine Or.inr (Or.inr ⟨by omega, decide_eq_false ?_⟩)
    rcases Nat.eq_zero_or_pos u with hu0 | hu0
    · subst hu0; have := Go.Lib.nDigits_pos v; have h0 : nDigits 0 = 1 := Go.Lib.nDigits_small (by omega); omega
    · have := nd_pow_le hu0
      have h2 : 10 ^ nDigits v ≤ 10 ^ (nDigits u - 1) := Nat.pow_le_pow_right (by decide) (by omega)
      omega

def ordB (b : Bool) : Int := if b then -1 else 1
theorem order_left (b : Bool) (w : World) :
    Calls Tryz.prog 140 #[.bool b] w fun e w' => e = .returned (.int .i64 (ordB b)) ∧ w = w' :=
  (order_any b w).mono fun _ _ ⟨he, hw⟩ => ⟨he, hw.symm⟩
def SignIs (a : ByteArray) (s : Int) : Prop := ∀ w, Calls Tryz.prog 134 #[.string a] w fun e w' => e = .returned (.int .i64 s) ∧ w = w'
/-- the check of two texts that are good -/
def Good2 (a b : ByteArray) (w : World) : Prop := Calls Tryz.prog 114 #[.slice (some ⟨w.heap.size, 0, none⟩) 2 2] (w.alloc (.cells #[.string a, .string b] 55)) fun e w' => e = .returned (.int .i64 0) ∧ w.alloc (.cells #[.string a, .string b] 55) = w'

set_option maxRecDepth 100000 in
set_option maxHeartbeats 1000000 in
theorem cmp_eq (a b : ByteArray) (s t : Int) (w : World) (hg : Good2 a b w) (hs : SignIs a s) (ht : SignIs b t) (he : (a.toList == b.toList) = true) :
    Calls Tryz.prog 118 #[.string a, .string b] w fun e w' => e = .returned (.tuple #[.int .i64 0, .int .i64 0]) ∧ Kp [] w w' := by
  go_enter Tryz.func118, Tryz.ntmps118
  go_wp2_with fail
  refine hg.mono ?_
  rintro e w' ⟨rfl, rfl⟩
  go_wp2_with fail
  refine (hs _).mono ?_
  rintro e w' ⟨rfl, rfl⟩
  go_wp2_with fail
  refine (ht _).mono ?_
  rintro e w' ⟨rfl, rfl⟩
  go_wp2
  go_ret2
  exact ⟨rfl, (Kp.refl _ _).alloc _⟩

set_option maxRecDepth 100000 in
set_option maxHeartbeats 1000000 in
theorem cmp_sign (a b : ByteArray) (s t : Int) (r : Bool) (w : World) (hg : Good2 a b w) (hs : SignIs a s) (ht : SignIs b t) (he : (a.toList == b.toList) = false)
    (hc : (s = -1 ∧ t = 0 ∧ r = true) ∨ (s = -1 ∧ t = 1 ∧ r = true) ∨ (s = 0 ∧ t = 1 ∧ r = true) ∨ (s = 0 ∧ t = -1 ∧ r = false) ∨ (s = 1 ∧ t = 0 ∧ r = false) ∨ (s = 1 ∧ t = -1 ∧ r = false)) :
    Calls Tryz.prog 118 #[.string a, .string b] w fun e w' => e = .returned (.tuple #[.int .i64 (ordB r), .int .i64 0]) ∧ Kp [] w w' := by
  rcases hc with ⟨rfl, rfl, rfl⟩ | ⟨rfl, rfl, rfl⟩ | ⟨rfl, rfl, rfl⟩ | ⟨rfl, rfl, rfl⟩ | ⟨rfl, rfl, rfl⟩ | ⟨rfl, rfl, rfl⟩
  all_goals
    go_enter Tryz.func118, Tryz.ntmps118
    go_wp2_with fail
    refine hg.mono ?_
    rintro e w' ⟨rfl, rfl⟩
    go_wp2_with fail
    refine (hs _).mono ?_
    rintro e w' ⟨rfl, rfl⟩
    go_wp2_with fail
    refine (ht _).mono ?_
    rintro e w' ⟨rfl, rfl⟩
    go_wp2_with fail
    refine (order_left _ _).mono ?_
    rintro e w' ⟨rfl, rfl⟩
    go_wp2
    go_ret2
    exact ⟨rfl, (Kp.refl _ _).alloc _⟩

set_option maxRecDepth 100000 in
set_option maxHeartbeats 2000000 in
theorem cmp_pos (a b : ByteArray) (r : Bool) (w : World) (hg : Good2 a b w) (hs : SignIs a 1) (ht : SignIs b 1) (he : (a.toList == b.toList) = false) (_ha : a.size ≤ 5000) (_hb : b.size ≤ 5000) (hT : Shorter a.size b.size (Op.bytesLess a.toList b.toList) r) :
    Calls Tryz.prog 118 #[.string a, .string b] w fun e w' => e = .returned (.tuple #[.int .i64 (ordB r), .int .i64 0]) ∧ Kp [] w w' := by
  rcases hT with ⟨h1, rfl⟩ | ⟨h1, h2⟩ | ⟨h1, rfl⟩
  · have hd : decide (a.size < b.size) = true := decide_eq_true h1
    go_enter Tryz.func118, Tryz.ntmps118
    go_wp2_with fail
    refine hg.mono ?_
    rintro e w' ⟨rfl, rfl⟩
    go_wp2_with fail
    refine (hs _).mono ?_
    rintro e w' ⟨rfl, rfl⟩
    go_wp2_with fail
    refine (ht _).mono ?_
    rintro e w' ⟨rfl, rfl⟩
    go_wp2_with fail
    refine (order_left true _).mono ?_
    rintro e w' ⟨rfl, rfl⟩
    go_wp2
    go_ret2
    exact ⟨rfl, (Kp.refl _ _).alloc _⟩
  · have hd : decide (a.size < b.size) = false := decide_eq_false (by omega)
    have hd2 : ((a.size : Int) == (b.size : Int)) = true := beq_iff_eq.2 (by omega)
    have hd3 : (a.size == b.size) = true := beq_iff_eq.2 h1
    have H := Lib.hid h1; clear h1
    have h2' := h2.symm; clear h2
    go_enter Tryz.func118, Tryz.ntmps118
    go_wp2_with fail
    refine hg.mono ?_
    rintro e w' ⟨rfl, rfl⟩
    go_wp2_with fail
    refine (hs _).mono ?_
    rintro e w' ⟨rfl, rfl⟩
    go_wp2_with fail
    refine (ht _).mono ?_
    rintro e w' ⟨rfl, rfl⟩
    go_wp2_with fail
    refine (order_left _ _).mono ?_
    rintro e w' ⟨rfl, rfl⟩
    go_wp2
    go_ret2
    exact ⟨rfl, (Kp.refl _ _).alloc _⟩
  · have hd : decide (a.size < b.size) = false := decide_eq_false (by omega)
    have hd2 : ((a.size : Int) == (b.size : Int)) = false := beq_eq_false_iff_ne.2 (by omega)
    have hd3 : (a.size == b.size) = false := beq_eq_false_iff_ne.2 (by omega)
    go_enter Tryz.func118, Tryz.ntmps118
    go_wp2_with fail
    refine hg.mono ?_
    rintro e w' ⟨rfl, rfl⟩
    go_wp2_with fail
    refine (hs _).mono ?_
    rintro e w' ⟨rfl, rfl⟩
    go_wp2_with fail
    refine (ht _).mono ?_
    rintro e w' ⟨rfl, rfl⟩
    go_wp2_with fail
    refine (order_left false _).mono ?_
    rintro e w' ⟨rfl, rfl⟩
    go_wp2
    go_ret2
    exact ⟨rfl, (Kp.refl _ _).alloc _⟩
set_option maxRecDepth 100000 in
set_option maxHeartbeats 2000000 in
theorem cmp_neg (a b : ByteArray) (r : Bool) (w : World) (hg : Good2 a b w) (hs : SignIs a (-1)) (ht : SignIs b (-1)) (he : (a.toList == b.toList) = false) (_ha : a.size ≤ 5000) (_hb : b.size ≤ 5000) (hT : Shorter b.size a.size (Op.bytesLess b.toList a.toList) r) :
    Calls Tryz.prog 118 #[.string a, .string b] w fun e w' => e = .returned (.tuple #[.int .i64 (ordB r), .int .i64 0]) ∧ Kp [] w w' := by
  rcases hT with ⟨h1, rfl⟩ | ⟨h1, h2⟩ | ⟨h1, rfl⟩
  · have hd : decide (b.size < a.size) = true := decide_eq_true h1
    go_enter Tryz.func118, Tryz.ntmps118
    go_wp2_with fail
    refine hg.mono ?_
    rintro e w' ⟨rfl, rfl⟩
    go_wp2_with fail
    refine (hs _).mono ?_
    rintro e w' ⟨rfl, rfl⟩
    go_wp2_with fail
    refine (ht _).mono ?_
    rintro e w' ⟨rfl, rfl⟩
    go_wp2_with fail
    refine (order_left true _).mono ?_
    rintro e w' ⟨rfl, rfl⟩
    go_wp2
    go_ret2
    exact ⟨rfl, (Kp.refl _ _).alloc _⟩
  · have hd : decide (b.size < a.size) = false := decide_eq_false (by omega)
    have hd2 : ((b.size : Int) == (a.size : Int)) = true := beq_iff_eq.2 (by omega)
    have hd3 : (b.size == a.size) = true := beq_iff_eq.2 h1
    have H := Lib.hid h1; clear h1
    have h2' := h2.symm; clear h2
    go_enter Tryz.func118, Tryz.ntmps118
    go_wp2_with fail
    refine hg.mono ?_
    rintro e w' ⟨rfl, rfl⟩
    go_wp2_with fail
    refine (hs _).mono ?_
    rintro e w' ⟨rfl, rfl⟩
    go_wp2_with fail
    refine (ht _).mono ?_
    rintro e w' ⟨rfl, rfl⟩
    go_wp2_with fail
    refine (order_left _ _).mono ?_
    rintro e w' ⟨rfl, rfl⟩
    go_wp2
    go_ret2
    exact ⟨rfl, (Kp.refl _ _).alloc _⟩
  · have hd : decide (b.size < a.size) = false := decide_eq_false (by omega)
    have hd2 : ((b.size : Int) == (a.size : Int)) = false := beq_eq_false_iff_ne.2 (by omega)
    have hd3 : (b.size == a.size) = false := beq_eq_false_iff_ne.2 (by omega)
    go_enter Tryz.func118, Tryz.ntmps118
    go_wp2_with fail
    refine hg.mono ?_
    rintro e w' ⟨rfl, rfl⟩
    go_wp2_with fail
    refine (hs _).mono ?_
    rintro e w' ⟨rfl, rfl⟩
    go_wp2_with fail
    refine (ht _).mono ?_
    rintro e w' ⟨rfl, rfl⟩
    go_wp2_with fail
    refine (order_left false _).mono ?_
    rintro e w' ⟨rfl, rfl⟩
    go_wp2
    go_ret2
    exact ⟨rfl, (Kp.refl _ _).alloc _⟩
/-- the order of integers, as Compare says it -/
def cmpI (x y : Int) : Int := if x < y then -1 else if x = y then 0 else 1
def cmpV (a b : ByteArray) : Int := if chkL [a, b] = 0 then cmpI (valS a) (valS b) else 0
theorem S_nn {z : Int} (h : ¬ z < 0) : (S z).toList = decDigits z.natAbs ∧ (S z).size = nDigits z.natAbs + 0 := by
  have e : itoa z = decDigits z.natAbs := by unfold itoa; rw [if_neg h]; congr 1; omega
  exact ⟨by rw [Lib.toList_data, S_list, e], by rw [Lib.size_eq, S_list, e, dec_len]; rfl⟩
theorem S_neg {z : Int} (h : z < 0) : (S z).toList = 45 :: decDigits z.natAbs ∧ (S z).size = nDigits z.natAbs + 1 := by
  have e : itoa z = 45 :: decDigits z.natAbs := by unfold itoa; rw [if_pos h]
  exact ⟨by rw [Lib.toList_data, S_list, e], by rw [Lib.size_eq, S_list, e, List.length_cons, dec_len]⟩
theorem less_minus (a b : List UInt8) : Op.bytesLess (45 :: a) (45 :: b) = Op.bytesLess a b := by simp [Op.bytesLess]
theorem S_beq (x y : Int) : ((S x).toList == (S y).toList) = decide (x = y) := by
  rw [Lib.toList_data, Lib.toList_data, S_list, S_list]
  by_cases h : x = y
  · subst h; simp
  · rw [decide_eq_false h]; exact beq_eq_false_iff_ne.2 fun e => h (itoa_inj e)

theorem Compare_ok (x y : Int) (w : World) (hx : Ok x) (hy : Ok y) :
    Calls Tryz.prog 118 #[.string (S x), .string (S y)] w fun e w' => e = .returned (.tuple #[.int .i64 (cmpI x y), .int .i64 0]) ∧ Kp [] w w' := by
  have hg : Good2 (S x) (S y) w := by
    have := check2 (S x) (S y) w (Nat.le_trans hx.size (by decide)) (Nat.le_trans hy.size (by decide))
    rw [show chkL [S x, S y] = 0 from chkL_map (zs := [x, y]) (fun z hz => by
      rcases List.mem_cons.1 hz with rfl | hz
      · exact hx
      · rcases List.mem_cons.1 hz with rfl | hz
        · exact hy
        · cases hz)] at this
    exact this
  have hs : SignIs (S x) (sgn x) := sign_any x
  have ht : SignIs (S y) (sgn y) := sign_any y
  have hsx := Nat.le_trans hx.size (show 1025 ≤ 5000 by decide)
  have hsy := Nat.le_trans hy.size (show 1025 ≤ 5000 by decide)
  by_cases hxy : x = y
  · subst hxy
    have := cmp_eq (S x) (S x) _ _ w hg hs ht (by rw [S_beq]; simp)
    rw [show cmpI x x = 0 by unfold cmpI; rw [if_neg (by omega), if_pos rfl]]; exact this
  · have he : ((S x).toList == (S y).toList) = false := by rw [S_beq, decide_eq_false hxy]
    have hcmp : cmpI x y = ordB (decide (x < y)) := by
      unfold cmpI ordB
      by_cases h : x < y
      · rw [if_pos h, if_pos (decide_eq_true h)]
      · rw [if_neg h, if_neg hxy, if_neg (by simpa using h)]
    rw [hcmp]
    by_cases hss : sgn x = sgn y
    · by_cases hneg : x < 0
      · have hyn : y < 0 := by unfold sgn at hss; rw [if_pos hneg] at hss; by_cases h : y < 0; exact h; rw [if_neg h] at hss; split at hss <;> omega
        have s1 : sgn x = -1 := if_pos hneg
        have s2 : sgn y = -1 := if_pos hyn
        rw [s1] at hs; rw [s2] at ht
        refine cmp_neg (S x) (S y) _ w hg hs ht he hsx hsy ?_
        obtain ⟨p1, p2⟩ := S_neg hneg
        obtain ⟨q1, q2⟩ := S_neg hyn
        rw [p1, p2, q1, q2, less_minus]
        have := shorter_dec y.natAbs x.natAbs 1
        rwa [show decide (y.natAbs < x.natAbs) = decide (x < y) by rw [Bool.eq_iff_iff]; simp; omega] at this
      · have hyn : ¬ y < 0 := fun h => by
          unfold sgn at hss; rw [if_neg hneg, if_pos h] at hss; split at hss <;> omega
        have hx0 : x ≠ 0 := fun h => by
          unfold sgn at hss; rw [if_neg hneg, if_pos h, if_neg hyn] at hss; split at hss <;> omega
        have hy0 : y ≠ 0 := fun h => by
          unfold sgn at hss; rw [if_neg hneg, if_neg hx0, if_neg hyn, if_pos h] at hss; omega
        have s1 : sgn x = 1 := by unfold sgn; rw [if_neg hneg, if_neg hx0]
        have s2 : sgn y = 1 := by unfold sgn; rw [if_neg hyn, if_neg hy0]
        rw [s1] at hs; rw [s2] at ht
        refine cmp_pos (S x) (S y) _ w hg hs ht he hsx hsy ?_
        obtain ⟨p1, p2⟩ := S_nn hneg
        obtain ⟨q1, q2⟩ := S_nn hyn
        rw [p1, p2, q1, q2]
        have := shorter_dec x.natAbs y.natAbs 0
        rwa [show decide (x.natAbs < y.natAbs) = decide (x < y) by rw [Bool.eq_iff_iff]; simp; omega] at this
    · refine cmp_sign (S x) (S y) _ _ _ w hg hs ht he ?_
      unfold sgn at hss ⊢
      by_cases h1 : x < 0 <;> by_cases h2 : x = 0 <;> by_cases h3 : y < 0 <;> by_cases h4 : y = 0 <;> simp [h1, h2, h3, h4] at hss ⊢ <;> omega

set_option maxHeartbeats 1000000 in
theorem Compare_bad (a b : ByteArray) (w : World) (ha : a.size ≤ 9223372036854775807) (hb : b.size ≤ 9223372036854775807) (h : chkL [a, b] ≠ 0) :
    Calls Tryz.prog 118 #[.string a, .string b] w fun e w' => e = .returned (.tuple #[.int .i64 (cmpV a b), .int .i64 (chkL [a, b])]) ∧ Kp [] w w' := by
  have hv : Hid (cmpV a b = 0) := if_neg h
  have hbb : (chkL [a, b] != 0) = true := bne_iff_ne.2 h
  have H := Lib.hid (check2 a b w ha hb)
  clear h
  generalize chkL [a, b] = k at *
  go_enter Tryz.func118, Tryz.ntmps118
  go_wp2_with fail
  refine H.out.mono ?_
  rintro e w' ⟨rfl, rfl⟩
  go_wp2
  go_ret2
  exact ⟨by rw [hv.out]; rfl, (Kp.refl _ _).alloc _⟩

theorem Compare_any (a b : ByteArray) (w : World) (ha : a.size ≤ 9223372036854775807) (hb : b.size ≤ 9223372036854775807) :
    Calls Tryz.prog 118 #[.string a, .string b] w fun e w' => e = .returned (.tuple #[.int .i64 (cmpV a b), .int .i64 (chkL [a, b])]) ∧ Kp [] w w' := by
  by_cases h : chkL [a, b] = 0
  · obtain ⟨x, y, rfl, rfl, hx, hy⟩ := chkL2 h
    have e1 : cmpV (S x) (S y) = cmpI x y := by unfold cmpV; rw [if_pos h, valS_S, valS_S]
    rw [e1, h]
    exact Compare_ok x y w hx hy
  · exact Compare_bad a b w ha hb h
end Go.Proofs.YtiommpdbbpddpaaGreat
