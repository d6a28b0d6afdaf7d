/- Walk over (*number).text: the canonical text of a number. -/
import Derived.Test.YtbhngccjacdlfaaBytes
import Derived.Test.YtbhngccjacdlfaaTxt2
namespace Go.Proofs.Ytbhngccjacdlfaa
open Go.RowKit
open Go.Lib (nDigits itoa decDigits dg)

/-- the digit that text writes at place p of N bytes -/
def dgt (u N p : Nat) : Nat := 48 + u / 10 ^ (N - 1 - p) % 10
/-- the text and the error that text returns -/
def txtB (A : Nat) (m : Bool) : ByteArray := if nDigits A ≤ 1024 then ⟨(if m then 45 :: decDigits A else decDigits A).toArray⟩ else ⟨#[]⟩
def txtE (A : Nat) : Int := if nDigits A ≤ 1024 then 0 else 11
theorem wd_digit (u k t : Nat) (ht : t < 9) : wd u k / 10 ^ t % 10 = u / 10 ^ (9 * k + t) % 10 := by
  rw [wd_eq, B9_ten, Nat.pow_add, ← Nat.div_div_eq_div_mul]
  generalize u / 10 ^ (9 * k) = x
  have h : 10 ^ 9 = 10 ^ t * (10 * 10 ^ (8 - t)) := by
    rw [← Nat.mul_assoc, ← Nat.pow_succ, ← Nat.pow_add]; congr 1; omega
  rw [show B9 = 10 ^ 9 from rfl, h, Nat.mod_mul_right_div_self, Nat.mod_mul_right_mod]

def TextRound (A N k t p x : Nat) : Prop := dgt A N p = 48 + x % 10 ∧ wd A k / 10 ^ (t + 1) = x / 10
theorem text_round (A N k t p : Nat) (ht : t < 9) (h : p + 1 + 9 * k + t = N) : TextRound A N k t p (wd A k / 10 ^ t) := by
  constructor
  · unfold dgt; rw [wd_digit A k t ht, show N - 1 - p = 9 * k + t by omega]
  · rw [Nat.pow_succ, ← Nat.div_div_eq_div_mul]
theorem strOf_dec {A N a : Nat} {f : Nat → Nat} (ha : a + nDigits A = N) (hf : ∀ i, a ≤ i → i < N → f i = dgt A N i) : strOf f a (nDigits A) = ⟨(decDigits A).toArray⟩ := by
  unfold strOf
  rw [Go.Lib.decDigits_eq]
  congr 2
  refine List.map_congr_left fun i hi => ?_
  have hi' : i < nDigits A := by simpa using hi
  rw [hf (a + i) (by omega) (by omega)]
  unfold dgt dg
  rw [show N - 1 - (a + i) = nDigits A - 1 - i by omega]
theorem strOf_neg {A N p : Nat} {f : Nat → Nat} (ha : p + 1 + nDigits A = N) (hf : ∀ i, p + 1 ≤ i → i < N → f i = dgt A N i) : strOf (upd f p 45) p (nDigits A + 1) = ⟨(45 :: decDigits A).toArray⟩ := by
  have h := strOf_dec (a := p + 1) ha hf
  unfold strOf at h ⊢
  have h' := congrArg (fun b : ByteArray => b.data.toList) h
  simp only at h'
  rw [← h', List.range_succ_eq_map, List.map_cons, List.map_map]
  congr 3
  · unfold upd; simp
  · refine List.map_congr_left fun i _ => ?_
    show UInt8.ofNat (upd f p 45 (p + (i + 1))) = UInt8.ofNat (f (p + 1 + i))
    unfold upd
    rw [if_neg (by omega), show p + (i + 1) = p + 1 + i by omega]
theorem dgt_zero {A N a : Nat} (h : nDigits A ≤ N - 1 - a) : dgt A N a = 48 := by
  unfold dgt
  rw [Nat.div_eq_of_lt (Nat.lt_of_lt_of_le (Go.Lib.lt_pow_nDigits A) (Nat.pow_le_pow_right (by decide) h))]
theorem dgt_top {A N a : Nat} (h0 : A ≠ 0) (h : N - 1 - a = nDigits A - 1) : dgt A N a ≠ 48 := by
  unfold dgt
  rw [h]
  have h1 := nd_pow_le (u := A) (by omega)
  have h2 := Go.Lib.lt_pow_nDigits A
  have h3 := Go.Lib.nDigits_pos A
  have hp : 0 < 10 ^ (nDigits A - 1) := Nat.pow_pos (by decide)
  have q1 : 1 ≤ A / 10 ^ (nDigits A - 1) := (Nat.one_le_div_iff hp).2 h1
  have q2 : A / 10 ^ (nDigits A - 1) < 10 := by
    refine (Nat.div_lt_iff_lt_mul hp).2 ?_
    rw [Nat.mul_comm, ← Nat.pow_succ, show (nDigits A - 1).succ = nDigits A by omega]; exact h2
  rw [Nat.mod_eq_of_lt q2]; omega
theorem dgt_bd (A N p : Nat) : 48 ≤ dgt A N p ∧ dgt A N p ≤ 57 := by unfold dgt; omega

set_option maxRecDepth 100000 in
set_option maxHeartbeats 4000000 in
theorem text_zero (g : Nat) (w : World) (hA : Num w g 0 false) :
    Calls Try.prog 53 #[.pointer (some ⟨g, 0, none⟩)] w fun e w' => e = .returned (.tuple #[.string ⟨#[48]⟩, .int .i64 0]) ∧ w = w' := by
  have hca := hA.1.cnt
  rw [nw_zero] at hca
  go_enter Try.func53, Try.ntmps53
  go_wp2
  go_ret2
  exact ⟨rfl, rfl⟩

set_option maxRecDepth 100000 in
set_option maxHeartbeats 4000000 in
theorem text_pos (g A : Nat) (m : Bool) (w : World) (hA : Num w g A m) (h0 : A ≠ 0) :
    Calls Try.prog 53 #[.pointer (some ⟨g, 0, none⟩)] w fun e w' => e = .returned (.tuple #[.string (txtB A m), .int .i64 (txtE A)]) ∧ Kp [] w w' := by
  have hca := hA.1.cnt
  have ha := nw_le hA.2
  have hlt := hA.1.lt
  have hb : ((nw A : Int) == 0) = false := beq_eq_false_iff_ne.2 (by have := nw_ne h0; omega)
  obtain ⟨N, hN⟩ : ∃ N, N = 1 + nw A * 9 := ⟨_, rfl⟩
  have hmk : ∀ W : World, (Instr.makeSlice 93 (.int .i64 (1 + (nw A : Int) * 9)) (.int .i64 (1 + (nw A : Int) * 9))).run Try.prog W = .ok (.slice (some ⟨W.heap.size, 0, none⟩) N N) (W.alloc (.cells (madeCells #[.int .u8 0] N) 5)) := fun W => by
    have := make_bytes N (by omega) W
    rw [hN] at this ⊢
    simpa using this
  have hsl := fun W => sl_high g (nw A) ha W
  have HN := Lib.hid hN; clear hN
  go_enter Try.func53, Try.ntmps53
  go_wp2
  go_quiet (fail)
  go_wp2
  have hby0 : Byt ((w.alloc (.cells (madeCells #[.int .u8 0] N) 5)).drewN nq) w.heap.size N (fun _ => 0) := (Byt.made w N).drewN _
  have hkp0 : Kp [] w ((w.alloc (.cells (madeCells #[.int .u8 0] N) 5)).drewN nq) := ((Kp.refl _ _).alloc _).drewN _
  have hnm0 : Num ((w.alloc (.cells (madeCells #[.int .u8 0] N) 5)).drewN nq) g A m := ⟨(hA.1.alloc _).drewN _, hA.2⟩
  have hN := HN.out
  clear hca hb hmk hsl
  go_loopw [5, 31] (fun s5 s31 wr => ∃ k a : Nat, k ≤ nw A ∧ s31 = .int .i64 k ∧ s5 = .int .i64 a ∧ a + 9 * k = N ∧ Byt wr w.heap.size N (mix (fun _ => 0) (dgt A N) a) ∧ Num wr g A m ∧ Kp [] w wr)
    (fun _ i _ => nw A - (intOf i).toNat)
  case atStart => exact ⟨0, N, Nat.zero_le _, rfl, rfl, by omega, hby0.congr fun i hi => (mix_lt (fun _ => 0) (dgt A N) hi).symm, hnm0, hkp0⟩
  case round =>
    obtain ⟨k, a, hk, rfl, rfl, hka, hby, hnm, hkp⟩ := hrel
    by_cases hlt2 : k < nw A
    · have hwa := hnm.1.word (i := k) (by omega)
      have hk1 : (k : Int) < 229 := by omega
      have hN2 := Lib.hid hN; clear hN
      have hka2 := Lib.hid hka; clear hka
      go_wp2
      clear hwa
      obtain ⟨wo, hwo⟩ : ∃ wo : World, wo = wr := ⟨_, rfl⟩
      subst hwo
      go_loopw [5, 7, 35] (fun s5 s7 s35 wq => ∃ t a2 : Nat, t ≤ 9 ∧ s35 = .int .i64 t ∧ s7 = .int .u32 ((wd A k / 10 ^ t : Nat) : Int) ∧ s5 = .int .i64 a2 ∧ a2 + 9 * k + t = N ∧ Byt wq w.heap.size N (mix (fun _ => 0) (dgt A N) a2) ∧ Num wq g A m ∧ Kp [] w wq)
        (fun _ _ i _ => 9 - (intOf i).toNat)
      case atStart => exact ⟨0, a, by omega, rfl, by simp, rfl, hka2.out, hby, hnm, hkp⟩
      case round =>
        obtain ⟨t, a2, ht, rfl, rfl, rfl, hta, hby2, hnm2, hkp2⟩ := hrel
        obtain ⟨wq, hwq⟩ : ∃ wq : World, wq = wr := ⟨_, rfl⟩
        subst hwq
        have hN3 := hN2.out
        have ht1 : (t : Int) ≤ 9 := by omega
        by_cases hlt3 : t < 9
        · obtain ⟨p, rfl⟩ : ∃ p, a2 = p + 1 := ⟨a2 - 1, by omega⟩
          have hrf : TextRound A N k t p (wd A k / 10 ^ t) := text_round A N k t p hlt3 (by omega)
          have hx : wd A k / 10 ^ t < 1000000000 := Nat.lt_of_le_of_lt (Nat.div_le_self _ _) (wd_lt A k)
          generalize wd A k / 10 ^ t = x at *
          have hpN : (p : Int) < (N : Int) := by omega
          have hpN' : p < N := by omega
          have hNb : (N : Int) ≤ 3000 := by omega
          have hp0 : (0 : Int) ≤ (p : Int) := by omega
          obtain ⟨old, hbc⟩ : ∃ old : Int, wq.cell? ⟨w.heap.size, p, none⟩ = some (.int .u8 old) := ⟨_, hby2.byte hpN'⟩
          have hfr := hby2.free p
          have hta2 := Lib.hid hta; clear hta
          have hN4 := Lib.hid hN3; clear hN3
          rw [Int.natCast_succ]
          go_wp2
          have hta3 := hta2.out
          go_roundw
          case rel =>
            refine ⟨t + 1, p, by omega, by go_num, val_i (by rw [hrf.2]; omega), rfl, by omega, ?_, ⟨hnm2.1.far (p := ⟨w.heap.size, p, none⟩) (show g ≠ w.heap.size by omega) _, hnm2.2⟩, hkp2.setCell (.inr (Nat.le_refl _)) _⟩
            rw [← mix_down]; exact hby2.set_ hpN' (by rw [hrf.1]; omega)
          case measure => simp [intOf]; omega
        · obtain rfl : t = 9 := by omega
          go_wp2
          go_roundw
          case rel => exact ⟨k + 1, a2, by omega, by go_num, rfl, by omega, hby2, hnm2, hkp2⟩
          case measure => simp [intOf]; omega
    · obtain rfl : k = nw A := by omega
      obtain rfl : a = 1 := by omega
      clear hlt2
      have hnd1 : nDigits A ≤ 9 * nw A := (nd_le_iff (by have := nw_ne h0; omega)).2 (by rw [← B9_ten]; exact lt_pow_nw A)
      have hnd0 := Go.Lib.nDigits_pos A
      have hN2 := Lib.hid hN; clear hN
      have hka2 := Lib.hid hka; clear hka
      have H0 := Lib.hid h0; clear h0
      have hNb : N ≤ 3000 := by have := hN2.out; omega
      go_wp2
      obtain ⟨wo, hwo⟩ : ∃ wo : World, wo = wr := ⟨_, rfl⟩
      subst hwo
      go_loopg [5] (N - nDigits A - 1) (fun gk s5 wq => ∃ a : Nat, s5 = .int .i64 a ∧ 1 ≤ a ∧ a + gk + nDigits A = N ∧ wo = wq)
      case atStart => exact ⟨1, rfl, by omega, by have := hN2.out; omega, rfl⟩
      case round =>
        obtain ⟨a, rfl, ha1, hga, rfl⟩ := hrel
        have haN : a < N := by omega
        have haN' : (a : Int) < (N : Int) := by omega
        have hNb' : (N : Int) ≤ 3000 := by omega
        have hbc := hby.byte haN
        rw [mix_ge _ _ ha1] at hbc
        have hdb := dgt_bd A N a
        by_cases hg0 : gk = 0
        · subst hg0
          have htop : ((dgt A N a : Int) == 48) = false := beq_eq_false_iff_ne.2 (by have := dgt_top (N := N) (a := a) H0.out (by omega); omega)
          have haa : a + nDigits A = N := by omega
          have hga2 := Lib.hid haa; clear hga haa
          have hff : ∀ i, a ≤ i → i < N → mix (fun _ => 0) (dgt A N) 1 i = dgt A N i := fun i h1 _ => mix_ge _ _ (by omega)
          have Hff := Lib.hid hff; clear hff
          by_cases hbig : nDigits A ≤ 1024
          · have hd : (N : Int) - (a : Int) ≤ 1024 := by have := hga2.out; omega
            have hsg := hnm.1.sgn
            have he1 : Hid (txtE A = 0) := if_pos hbig
            have he2 : Hid (txtB A m = ⟨(if m then 45 :: decDigits A else decDigits A).toArray⟩) := if_pos hbig
            clear hbig
            cases m with
            | false =>
              have hcv := conv_bytes 22 Try.underlying22 hby a (N - a) (N - a) (by omega)
              have hst : Hid (strOf (mix (fun _ => 0) (dgt A N) 1) a (N - a) = ⟨(decDigits A).toArray⟩) := by
                have := strOf_dec hga2.out Hff.out
                rw [show nDigits A = N - a by have := hga2.out; omega] at this
                exact this
              clear hdb
              go_wp2
              go_ret2
              exact ⟨by rw [he1.out, he2.out, hst.out]; rfl, hkp⟩
            | true =>
              obtain ⟨p, rfl⟩ : ∃ p, a = p + 1 := ⟨a - 1, by omega⟩
              clear hdb
              obtain ⟨old, hbp⟩ : ∃ old : Int, wo.cell? ⟨w.heap.size, p, none⟩ = some (.int .u8 old) := ⟨_, hby.byte (i := p) (by omega)⟩
              have hfp := hby.free p
              have hpN : (p : Int) < (N : Int) := by omega
              have hpN2 : p < N := by omega
              have hby3 := hby.set_ (i := p) (x := 45) (y := 45) (by omega) rfl
              have hcv := conv_bytes 22 Try.underlying22 hby3 p (N - p) (N - p) (by omega)
              have hst : Hid (strOf (upd (mix (fun _ => 0) (dgt A N) 1) p 45) p (N - p) = ⟨(45 :: decDigits A).toArray⟩) := by
                have := strOf_neg hga2.out Hff.out
                rw [show nDigits A + 1 = N - p by have := hga2.out; omega] at this
                exact this
              rw [Int.natCast_succ] at hd haN' ⊢
              go_wp2
              go_ret2
              exact ⟨by rw [he1.out, he2.out, hst.out]; rfl, hkp.setCell (.inr (Nat.le_refl _)) _⟩
          · have hd : 1024 < (N : Int) - (a : Int) := by have := hga2.out; omega
            have he1 : Hid (txtE A = 11) := if_neg hbig
            have he2 : Hid (txtB A m = ⟨#[]⟩) := if_neg hbig
            clear hbig hdb
            go_wp2
            go_ret2
            exact ⟨by rw [he1.out, he2.out]; rfl, hkp⟩
        · have h48 : ((dgt A N a : Int) == 48) = true := beq_iff_eq.2 (by have := dgt_zero (A := A) (N := N) (a := a) (by omega); omega)
          have hg0' := Lib.hid hg0; clear hg0 hdb
          have hga2 := Lib.hid hga; clear hga
          go_wp2
          have h1 := hga2.out; have h2 := hg0'.out
          go_roundg (gk - 1)
          case measure => omega
          case rel => exact ⟨a + 1, by go_num, by omega, by omega, rfl⟩
end Go.Proofs.Ytbhngccjacdlfaa
