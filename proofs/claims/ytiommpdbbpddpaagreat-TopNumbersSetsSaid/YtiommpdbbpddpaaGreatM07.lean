/- Texts Text, Int: each says in its own first comment what it proves. -/
import Derived.Test.YtiommpdbbpddpaaGreatM05
import Derived.Test.YtiommpdbbpddpaaGreatM01
import Derived.Test.YtiommpdbbpddpaaGreatM06
/- Walk over (*number).text: the canonical text of a number. -/
namespace Go.Proofs.YtiommpdbbpddpaaGreat
open Go.RowKit
open Go.Lib (nDigits itoa decDigits dg)

/-- the digit that text writes at place p of N bytes -/
def dgt (u N p : Nat) : Nat := 48 + u / 10 ^ (N - 1 - p) % 10
/-- the text and the error that text returns -/
def txtB (A : Nat) (m : Bool) : ByteArray := if nDigits A ≤ 1024 then ⟨(if m then 45 :: decDigits A else decDigits A).toArray⟩ else ⟨#[]⟩
def txtE (A : Nat) : Int := if nDigits A ≤ 1024 then 0 else 11
theorem wd_digit (u k t : Nat) (ht : t < 9) : wd u k / 10 ^ t % 10 = u / 10 ^ (9 * k + t) % 10 := by
  rw [wd_eq, B9_ten, Nat.pow_add, ← Nat.div_div_eq_div_mul]
  generalize u / 10 ^ (9 * k) = x
  have h : 10 ^ 9 = 10 ^ t * (10 * 10 ^ (8 - t)) := by
    rw [← Nat.mul_assoc, ← Nat.pow_succ, ← Nat.pow_add]; congr 1; omega
  rw [show B9 = 10 ^ 9 from rfl, h, Nat.mod_mul_right_div_self, Nat.mod_mul_right_mod]

def TextRound (A N k t p x : Nat) : Prop := dgt A N p = 48 + x % 10 ∧ wd A k / 10 ^ (t + 1) = x / 10
theorem text_round (A N k t p : Nat) (ht : t < 9) (h : p + 1 + 9 * k + t = N) : TextRound A N k t p (wd A k / 10 ^ t) := by
  constructor
  · unfold dgt; rw [wd_digit A k t ht, show N - 1 - p = 9 * k + t by omega]
  · rw [Nat.pow_succ, ← Nat.div_div_eq_div_mul]
theorem strOf_dec {A N a : Nat} {f : Nat → Nat} (ha : a + nDigits A = N) (hf : ∀ i, a ≤ i → i < N → f i = dgt A N i) : strOf f a (nDigits A) = ⟨(decDigits A).toArray⟩ := by
  unfold strOf
  rw [Go.Lib.decDigits_eq]
  congr 2
  refine List.map_congr_left fun i hi => ?_
  have hi' : i < nDigits A := by simpa using hi
  rw [hf (a + i) (by omega) (by omega)]
  unfold dgt dg
  rw [show N - 1 - (a + i) = nDigits A - 1 - i by omega]
theorem strOf_neg {A N p : Nat} {f : Nat → Nat} (ha : p + 1 + nDigits A = N) (hf : ∀ i, p + 1 ≤ i → i < N → f i = dgt A N i) : strOf (upd f p 45) p (nDigits A + 1) = ⟨(45 :: decDigits A).toArray⟩ := by
  have h := strOf_dec (a := p + 1) ha hf
  unfold strOf at h ⊢
  have h' := congrArg (fun b : ByteArray => b.data.toList) h
  simp only at h'
  rw [← h', List.range_succ_eq_map, List.map_cons, List.map_map]
  congr 3
  · unfold upd; simp
  · refine List.map_congr_left fun i _ => ?_
    show UInt8.ofNat (upd f p 45 (p + (i + 1))) = UInt8.ofNat (f (p + 1 + i))
    unfold upd
    rw [if_neg (by omega), show p + (i + 1) = p + 1 + i by omega]
theorem dgt_zero {A N a : Nat} (h : nDigits A ≤ N - 1 - a) : dgt A N a = 48 := by
  unfold dgt
  rw [Nat.div_eq_of_lt (Nat.lt_of_lt_of_le (Go.Lib.lt_pow_nDigits A) (Nat.pow_le_pow_right (by decide) h))]
theorem dgt_top {A N a : Nat} (h0 : A ≠ 0) (h : N - 1 - a = nDigits A - 1) : dgt A N a ≠ 48 := by
  unfold dgt
  rw [h]
  have h1 := nd_pow_le (u := A) (by omega)
  have h2 := Go.Lib.lt_pow_nDigits A
  have h3 := Go.Lib.nDigits_pos A
  have hp : 0 < 10 ^ (nDigits A - 1) := Nat.pow_pos (by decide)
  have q1 : 1 ≤ A / 10 ^ (nDigits A - 1) := (Nat.one_le_div_iff hp).2 h1
  have q2 : A / 10 ^ (nDigits A - 1) < 10 := by
    refine (Nat.div_lt_iff_lt_mul hp).2 ?_
    rw [Nat.mul_comm, ← Nat.pow_succ, show (nDigits A - 1).succ = nDigits A by omega]; exact h2
  rw [Nat.mod_eq_of_lt q2]; omega
theorem dgt_bd (A N p : Nat) : 48 ≤ dgt A N p ∧ dgt A N p ≤ 57 := by unfold dgt; omega

set_option maxRecDepth 100000 in
set_option maxHeartbeats 4000000 in
theorem text_zero (g : Nat) (w : World) (hA : Num w g 0 false) :
    Calls Tryz.prog 122 #[.pointer (some ⟨g, 0, none⟩)] w fun e w' => e = .returned (.tuple #[.string ⟨#[48]⟩, .int .i64 0]) ∧ w = w' := by
  have hca := hA.1.cnt
  rw [nw_zero] at hca
  go_enter Tryz.func122, Tryz.ntmps122
  go_wp2
  go_ret2
  exact ⟨rfl, rfl⟩

set_option maxRecDepth 100000 in
set_option maxHeartbeats 4000000 in
theorem text_pos (g A : Nat) (m : Bool) (w : World) (hA : Num w g A m) (h0 : A ≠ 0) :
    Calls Tryz.prog 122 #[.pointer (some ⟨g, 0, none⟩)] w fun e w' => e = .returned (.tuple #[.string (txtB A m), .int .i64 (txtE A)]) ∧ Kp [] w w' := by
  have hca := hA.1.cnt
  have ha := nw_le hA.2
  have hlt := hA.1.lt
  have hb : ((nw A : Int) == 0) = false := beq_eq_false_iff_ne.2 (by have := nw_ne h0; omega)
  obtain ⟨N, hN⟩ : ∃ N, N = 1 + nw A * 9 := ⟨_, rfl⟩
  have hmk : ∀ W : World, (Instr.makeSlice 110 (.int .i64 (1 + (nw A : Int) * 9)) (.int .i64 (1 + (nw A : Int) * 9))).run Tryz.prog W = .ok (.slice (some ⟨W.heap.size, 0, none⟩) N N) (W.alloc (.cells (madeCells #[.int .u8 0] N) 5)) := fun W => by
    have := make_bytes N (by omega) W
    rw [hN] at this ⊢
    simpa using this
  have hsl := fun W => sl_high g (nw A) ha W
  have HN := Lib.hid hN; clear hN
  go_enter Tryz.func122, Tryz.ntmps122
  go_wp2
  go_quiet (fail)
  go_wp2
  have hby0 : Byt ((w.alloc (.cells (madeCells #[.int .u8 0] N) 5)).drewN nq) w.heap.size N (fun _ => 0) := (Byt.made w N).drewN _
  have hkp0 : Kp [] w ((w.alloc (.cells (madeCells #[.int .u8 0] N) 5)).drewN nq) := ((Kp.refl _ _).alloc _).drewN _
  have hnm0 : Num ((w.alloc (.cells (madeCells #[.int .u8 0] N) 5)).drewN nq) g A m := ⟨(hA.1.alloc _).drewN _, hA.2⟩
  have hN := HN.out
  clear hca hb hmk hsl
  go_loopw [5, 31] (fun s5 s31 wr => ∃ k a : Nat, k ≤ nw A ∧ s31 = .int .i64 k ∧ s5 = .int .i64 a ∧ a + 9 * k = N ∧ Byt wr w.heap.size N (mix (fun _ => 0) (dgt A N) a) ∧ Num wr g A m ∧ Kp [] w wr)
    (fun _ i _ => nw A - (intOf i).toNat)
  case atStart => exact ⟨0, N, Nat.zero_le _, rfl, rfl, by omega, hby0.congr fun i hi => (mix_lt (fun _ => 0) (dgt A N) hi).symm, hnm0, hkp0⟩
  case round =>
    obtain ⟨k, a, hk, rfl, rfl, hka, hby, hnm, hkp⟩ := hrel
    by_cases hlt2 : k < nw A
    · have hwa := hnm.1.word (i := k) (by omega)
      have hk1 : (k : Int) < 229 := by omega
      have hN2 := Lib.hid hN; clear hN
      have hka2 := Lib.hid hka; clear hka
      go_wp2
      clear hwa
      obtain ⟨wo, hwo⟩ : ∃ wo : World, wo = wr := ⟨_, rfl⟩
      subst hwo
      go_loopw [5, 7, 35] (fun s5 s7 s35 wq => ∃ t a2 : Nat, t ≤ 9 ∧ s35 = .int .i64 t ∧ s7 = .int .u32 ((wd A k / 10 ^ t : Nat) : Int) ∧ s5 = .int .i64 a2 ∧ a2 + 9 * k + t = N ∧ Byt wq w.heap.size N (mix (fun _ => 0) (dgt A N) a2) ∧ Num wq g A m ∧ Kp [] w wq)
        (fun _ _ i _ => 9 - (intOf i).toNat)
      case atStart => exact ⟨0, a, by omega, rfl, by simp, rfl, hka2.out, hby, hnm, hkp⟩
      case round =>
        obtain ⟨t, a2, ht, rfl, rfl, rfl, hta, hby2, hnm2, hkp2⟩ := hrel
        obtain ⟨wq, hwq⟩ : ∃ wq : World, wq = wr := ⟨_, rfl⟩
        subst hwq
        have hN3 := hN2.out
        have ht1 : (t : Int) ≤ 9 := by omega
        by_cases hlt3 : t < 9
        · obtain ⟨p, rfl⟩ : ∃ p, a2 = p + 1 := ⟨a2 - 1, by omega⟩
          have hrf : TextRound A N k t p (wd A k / 10 ^ t) := text_round A N k t p hlt3 (by omega)
          have hx : wd A k / 10 ^ t < 1000000000 := Nat.lt_of_le_of_lt (Nat.div_le_self _ _) (wd_lt A k)
          generalize wd A k / 10 ^ t = x at *
          have hpN : (p : Int) < (N : Int) := by omega
          have hpN' : p < N := by omega
          have hNb : (N : Int) ≤ 3000 := by omega
          have hp0 : (0 : Int) ≤ (p : Int) := by omega
          obtain ⟨old, hbc⟩ : ∃ old : Int, wq.cell? ⟨w.heap.size, p, none⟩ = some (.int .u8 old) := ⟨_, hby2.byte hpN'⟩
          have hfr := hby2.free p
          have hta2 := Lib.hid hta; clear hta
          have hN4 := Lib.hid hN3; clear hN3
          rw [Int.natCast_succ]
          go_wp2
          have hta3 := hta2.out
          go_roundw
          case rel =>
            refine ⟨t + 1, p, by omega, by go_num, val_i (by rw [hrf.2]; omega), rfl, by omega, ?_, ⟨hnm2.1.far (p := ⟨w.heap.size, p, none⟩) (show g ≠ w.heap.size by omega) _, hnm2.2⟩, hkp2.setCell (.inr (Nat.le_refl _)) _⟩
            rw [← mix_down]; exact hby2.set_ hpN' (by rw [hrf.1]; omega)
          case measure => simp [intOf]; omega
        · obtain rfl : t = 9 := by omega
          go_wp2
          go_roundw
          case rel => exact ⟨k + 1, a2, by omega, by go_num, rfl, by omega, hby2, hnm2, hkp2⟩
          case measure => simp [intOf]; omega
    · obtain rfl : k = nw A := by omega
      obtain rfl : a = 1 := by omega
      clear hlt2
      have hnd1 : nDigits A ≤ 9 * nw A := (nd_le_iff (by have := nw_ne h0; omega)).2 (by rw [← B9_ten]; exact lt_pow_nw A)
      have hnd0 := Go.Lib.nDigits_pos A
      have hN2 := Lib.hid hN; clear hN
      have hka2 := Lib.hid hka; clear hka
      have H0 := Lib.hid h0; clear h0
      have hNb : N ≤ 3000 := by have := hN2.out; omega
      go_wp2
      obtain ⟨wo, hwo⟩ : ∃ wo : World, wo = wr := ⟨_, rfl⟩
      subst hwo
      go_loopg [5] (N - nDigits A - 1) (fun gk s5 wq => ∃ a : Nat, s5 = .int .i64 a ∧ 1 ≤ a ∧ a + gk + nDigits A = N ∧ wo = wq)
      case atStart => exact ⟨1, rfl, by omega, by have := hN2.out; omega, rfl⟩
      case round =>
        obtain ⟨a, rfl, ha1, hga, rfl⟩ := hrel
        have haN : a < N := by omega
        have haN' : (a : Int) < (N : Int) := by omega
        have hNb' : (N : Int) ≤ 3000 := by omega
        have hbc := hby.byte haN
        rw [mix_ge _ _ ha1] at hbc
        have hdb := dgt_bd A N a
        by_cases hg0 : gk = 0
        · subst hg0
          have htop : ((dgt A N a : Int) == 48) = false := beq_eq_false_iff_ne.2 (by have := dgt_top (N := N) (a := a) H0.out (by omega); omega)
          have haa : a + nDigits A = N := by omega
          have hga2 := Lib.hid haa; clear hga haa
          have hff : ∀ i, a ≤ i → i < N → mix (fun _ => 0) (dgt A N) 1 i = dgt A N i := fun i h1 _ => mix_ge _ _ (by omega)
          have Hff := Lib.hid hff; clear hff
          by_cases hbig : nDigits A ≤ 1024
          · have hd : (N : Int) - (a : Int) ≤ 1024 := by have := hga2.out; omega
            have hsg := hnm.1.sgn
            have he1 : Hid (txtE A = 0) := if_pos hbig
            have he2 : Hid (txtB A m = ⟨(if m then 45 :: decDigits A else decDigits A).toArray⟩) := if_pos hbig
            clear hbig
            cases m with
            | false =>
              have hcv := conv_bytes 55 Tryz.underlying55 hby a (N - a) (N - a) (by omega)
              have hst : Hid (strOf (mix (fun _ => 0) (dgt A N) 1) a (N - a) = ⟨(decDigits A).toArray⟩) := by
                have := strOf_dec hga2.out Hff.out
                rw [show nDigits A = N - a by have := hga2.out; omega] at this
                exact this
              clear hdb
              go_wp2
              go_ret2
              exact ⟨by rw [he1.out, he2.out, hst.out]; rfl, hkp⟩
            | true =>
              obtain ⟨p, rfl⟩ : ∃ p, a = p + 1 := ⟨a - 1, by omega⟩
              clear hdb
              obtain ⟨old, hbp⟩ : ∃ old : Int, wo.cell? ⟨w.heap.size, p, none⟩ = some (.int .u8 old) := ⟨_, hby.byte (i := p) (by omega)⟩
              have hfp := hby.free p
              have hpN : (p : Int) < (N : Int) := by omega
              have hpN2 : p < N := by omega
              have hby3 := hby.set_ (i := p) (x := 45) (y := 45) (by omega) rfl
              have hcv := conv_bytes 55 Tryz.underlying55 hby3 p (N - p) (N - p) (by omega)
              have hst : Hid (strOf (upd (mix (fun _ => 0) (dgt A N) 1) p 45) p (N - p) = ⟨(45 :: decDigits A).toArray⟩) := by
                have := strOf_neg hga2.out Hff.out
                rw [show nDigits A + 1 = N - p by have := hga2.out; omega] at this
                exact this
              rw [Int.natCast_succ] at hd haN' ⊢
              go_wp2
              go_ret2
              exact ⟨by rw [he1.out, he2.out, hst.out]; rfl, hkp.setCell (.inr (Nat.le_refl _)) _⟩
          · have hd : 1024 < (N : Int) - (a : Int) := by have := hga2.out; omega
            have he1 : Hid (txtE A = 11) := if_neg hbig
            have he2 : Hid (txtB A m = ⟨#[]⟩) := if_neg hbig
            clear hbig hdb
            go_wp2
            go_ret2
            exact ⟨by rw [he1.out, he2.out]; rfl, hkp⟩
        · have h48 : ((dgt A N a : Int) == 48) = true := beq_iff_eq.2 (by have := dgt_zero (A := A) (N := N) (a := a) (by omega); omega)
          have hg0' := Lib.hid hg0; clear hg0 hdb
          have hga2 := Lib.hid hga; clear hga
          go_wp2
          have h1 := hga2.out; have h2 := hg0'.out
          go_roundg (gk - 1)
          case measure => omega
          case rel => exact ⟨a + 1, by go_num, by omega, by omega, rfl⟩
end Go.Proofs.YtiommpdbbpddpaaGreat

/- Integers and their texts: what read and text do for them; the check of several texts. -/
namespace Go.Proofs.YtiommpdbbpddpaaGreat
open Go.RowKit
open Go.Lib (nDigits itoa decDigits)

/-- the canonical text of an integer -/
def S (z : Int) : ByteArray := ⟨(itoa z).toArray⟩
theorem S_list (z : Int) : (S z).data.toList = itoa z := rfl
theorem S_inj {x y : Int} (h : S x = S y) : x = y := itoa_inj (by rw [← S_list, h, S_list])
/-- an integer that is not too long -/
def Ok (z : Int) : Prop := nDigits z.natAbs ≤ 1024
instance (z : Int) : Decidable (Ok z) := inferInstanceAs (Decidable (_ ≤ _))
theorem chk_S (z : Int) : chk (itoa z) = if Ok z then 0 else 11 := by
  unfold chk; rw [canon_itoa, mag_itoa, dec_len, if_pos rfl]
  by_cases h : Ok z
  · rw [if_pos h]; exact if_pos h
  · rw [if_neg h]; exact if_neg h
theorem chk_ok {z : Int} (h : Ok z) : chk (itoa z) = 0 := by rw [chk_S, if_pos h]
theorem eq_S_of_list {s : ByteArray} {z : Int} (h : s.data.toList = itoa z) : s = S z := by
  unfold S; rw [← h, Lib.mk_data]
theorem of_chk_zero {s : ByteArray} (h : chk s.data.toList = 0) : ∃ z, s = S z ∧ Ok z := by
  unfold chk at h
  by_cases hc : canon s.data.toList = true
  · obtain ⟨z, hz⟩ := (canon_iff _).1 hc
    refine ⟨z, eq_S_of_list hz, ?_⟩
    rw [if_pos hc] at h
    unfold Ok
    rw [← dec_len, ← mag_itoa, ← hz]
    split at h
    · assumption
    · omega
  · rw [if_neg hc] at h; omega
set_option exponentiation.threshold 2000 in
theorem Ok.lt {z : Int} (h : Ok z) : z.natAbs < B9 ^ 114 := by
  refine Nat.lt_of_lt_of_le (Go.Lib.lt_pow_nDigits _) ?_
  rw [B9_ten]; exact Nat.pow_le_pow_right (by decide) (by unfold Ok at h; omega)
theorem S_size (z : Int) : (S z).size ≤ nDigits z.natAbs + 1 := by
  rw [Lib.size_eq, S_list]
  have := dec_len z.natAbs
  rw [← mag_itoa] at this
  cases h : itoa z with
  | nil => simp
  | cons c t => rw [h] at this; simp only [mag] at this; split at this <;> simp_all <;> omega
theorem Ok.size {z : Int} (h : Ok z) : (S z).size ≤ 1025 := Nat.le_trans (S_size z) (by unfold Ok at h; omega)

/-- a long number that is an integer -/
def NumZ (w : World) (g : Nat) (z : Int) : Prop := Num w g z.natAbs (decide (z < 0))
theorem NumZ.lt {w : World} {g : Nat} {z : Int} (h : NumZ w g z) : g < w.heap.size := h.1.lt
theorem NumZ.kp {w w' : World} {g : Nat} {z : Int} {L : List Nat} (h : NumZ w g z) (k : Kp L w w') (hg : g ∉ L) : NumZ w' g z := ⟨h.1.kp k hg, h.2⟩
theorem NumZ.alloc {w : World} {g : Nat} {z : Int} (h : NumZ w g z) (o : Obj) : NumZ (w.alloc o) g z := ⟨h.1.alloc o, h.2⟩
theorem NumZ.drewN {w : World} {g : Nat} {z : Int} (h : NumZ w g z) (n : Nat) : NumZ (w.drewN n) g z := ⟨h.1.drewN n, h.2⟩
theorem NumZ.made (w : World) : NumZ (w.alloc (.cells Tryz.zeroCells148 148)) w.heap.size 0 :=
  ⟨by show NumF _ _ (wd 0) (nw 0) false; rw [nw_zero]; exact (NumF.made w).congr fun i _ => (wd_zero i).symm, B9p_pos _⟩

theorem readZ (g : Nat) (z : Int) (w : World) (hg : NumF w g (fun _ => 0) 0 false) (hz : Ok z) :
    Calls Tryz.prog 120 #[.pointer (some ⟨g, 0, none⟩), .string (S z)] w fun e w' => e = .returned (.tuple #[]) ∧ NumZ w' g z ∧ Kp [g] w w' := by
  refine (read_any g (S z) w hg (Nat.le_trans hz.size (by decide)) (by rw [S_list, mag_itoa]; exact dec_all _)).mono ?_
  rintro e w' ⟨he, hn, hk⟩
  rw [S_list, mag_itoa, valN_dec, neg_itoa] at hn
  have e1 : (decide (z < 0) && decide (z.natAbs ≠ 0)) = decide (z < 0) := by rw [Bool.eq_iff_iff]; simp; omega
  rw [e1] at hn
  exact ⟨he, hn, hk⟩

/-- the text and the error of a result -/
def resB (z : Int) : ByteArray := if Ok z then S z else ⟨#[]⟩
def resE (z : Int) : Int := if Ok z then 0 else 11
theorem textZ (g : Nat) (z : Int) (w : World) (hg : NumZ w g z) :
    Calls Tryz.prog 122 #[.pointer (some ⟨g, 0, none⟩)] w fun e w' => e = .returned (.tuple #[.string (resB z), .int .i64 (resE z)]) ∧ Kp [] w w' := by
  by_cases h0 : z = 0
  · subst h0
    refine (text_zero g w hg).mono ?_
    rintro e w' ⟨he, rfl⟩
    have hok : Ok 0 := by unfold Ok; rw [show (0 : Int).natAbs = 0 from rfl, Go.Lib.nDigits_small (by omega)]; omega
    refine ⟨?_, Kp.refl _ _⟩
    rw [he]
    unfold resB resE S
    rw [if_pos hok, if_pos hok, show itoa 0 = decDigits 0 from rfl, dec_zero]
  · refine (text_pos g z.natAbs (decide (z < 0)) w hg (by omega)).mono ?_
    rintro e w' ⟨he, hk⟩
    refine ⟨?_, hk⟩
    rw [he]
    unfold resB resE txtB txtE S
    by_cases h : nDigits z.natAbs ≤ 1024
    · rw [if_pos h, if_pos h, if_pos (show Ok z from h), if_pos (show Ok z from h)]
      have e1 : (if decide (z < 0) = true then 45 :: decDigits z.natAbs else decDigits z.natAbs) = itoa z := by
        unfold itoa
        by_cases hz : z < 0
        · rw [if_pos (by simpa using hz), if_pos hz]
        · rw [if_neg (by simpa using hz), if_neg hz]; congr 1; omega
      rw [e1]
    · rw [if_neg h, if_neg h, if_neg (show ¬ Ok z from h), if_neg (show ¬ Ok z from h)]

/-- the first error of texts -/
def chkL : List ByteArray → Int
  | [] => 0
  | s :: t => if chk s.data.toList = 0 then chkL t else chk s.data.toList
/-- cells from place o of block g on hold texts -/
def Strs (w : World) (g o : Nat) (ss : List ByteArray) : Prop := ∀ i (h : i < ss.length), w.cell? ⟨g, o + i, none⟩ = some (.string ss[i])

set_option maxHeartbeats 1000000 in
theorem checkAll_any (g o c : Nat) (ss : List ByteArray) (w : World) (hs : Strs w g o ss) (hz : ∀ s ∈ ss, s.size ≤ 9223372036854775807) (hl : ss.length ≤ 1000000) :
    Calls Tryz.prog 114 #[.slice (some ⟨g, o, none⟩) ss.length c] w fun e w' => e = .returned (.int .i64 (chkL ss)) ∧ w = w' := by
  go_enter Tryz.func114, Tryz.ntmps114
  go_wp2
  go_loopg [8] ss.length (fun gk s8 wr => ∃ k : Nat, s8 = .int .i64 k ∧ k + gk = ss.length ∧ chkL (ss.drop k) = chkL ss ∧ w = wr)
  case atStart => exact ⟨0, rfl, by omega, rfl, rfl⟩
  case round =>
    obtain ⟨k, rfl, hk, hc, rfl⟩ := hrel
    have hl1 : (ss.length : Int) ≤ 1000000 := by omega
    have Hc := Lib.hid hc; clear hc
    by_cases hlt : k < ss.length
    · have hcell := hs k hlt
      have hz' := hz _ (List.getElem_mem hlt)
      have Hd := Lib.hid (List.drop_eq_getElem_cons hlt)
      have hlt' : (k : Int) < (ss.length : Int) := by omega
      have Hk := Lib.hid hk; clear hk
      obtain ⟨s, hsk⟩ : ∃ s, s = ss[k] := ⟨_, rfl⟩
      rw [← hsk] at hcell hz' Hd
      have Hs := Lib.hid hsk; clear hsk
      go_wp2_with fail
      refine (check_any s _ hz').mono ?_
      rintro e w' ⟨rfl, rfl⟩
      by_cases h0 : chk s.data.toList = 0
      · have hb : (chk s.data.toList != 0) = false := by rw [h0]; rfl
        have H0 := Lib.hid h0; clear h0
        go_wp2
        have hk := Hk.out
        go_roundg (gk - 1)
        case measure => omega
        case rel =>
          refine ⟨k + 1, by go_num, by omega, ?_, rfl⟩
          rw [← Hc.out, Hd.out]; show _ = if _ = 0 then _ else _
          rw [if_pos H0.out]
      · have hb : (chk s.data.toList != 0) = true := bne_iff_ne.2 h0
        have hv : Hid (chkL ss = chk s.data.toList) := by
          show _ = _
          rw [← Hc.out, Hd.out]; show (if _ = 0 then _ else _) = _
          rw [if_neg h0]
        clear h0
        go_wp2
        go_ret
        exact ⟨by rw [hv.out]; rfl, rfl⟩
    · have hv : Hid (chkL ss = 0) := by
        show _ = _
        rw [← Hc.out, List.drop_of_length_le (by omega)]; rfl
      obtain rfl : k = ss.length := by omega
      go_wp2
      go_ret
      exact ⟨by rw [hv.out]; rfl, rfl⟩
end Go.Proofs.YtiommpdbbpddpaaGreat
