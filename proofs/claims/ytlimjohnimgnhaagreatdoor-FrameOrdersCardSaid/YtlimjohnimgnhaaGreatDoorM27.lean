/- Texts Of3: each says in its own first comment what it proves. -/
import Derived.Test.YtlimjohnimgnhaaGreatDoorM41
/- The reference of package dimension: names. -/
namespace Go.Proofs.YtlimjohnimgnhaaGreatDoor
open Go.RowKit

def lB (z : Int) : Bool := (decide (65 ≤ z) && decide (z ≤ 90)) || (decide (97 ≤ z) && decide (z ≤ 122))
def dB (z : Int) : Bool := decide (48 ≤ z) && decide (z ≤ 57)
set_option maxRecDepth 100000 in
set_option maxHeartbeats 1000000 in
theorem rletter (z : Int) : Ca 124 #[.int .u8 z] (.bool (lB z)) := Lib.hid fun w => by
  unfold lB
  rcases (show z < 65 ∨ (65 ≤ z ∧ z ≤ 90) ∨ (91 ≤ z ∧ z ≤ 96) ∨ (97 ≤ z ∧ z ≤ 122) ∨ 123 ≤ z by omega) with h | ⟨h1, h2⟩ | ⟨h1, h2⟩ | ⟨h1, h2⟩ | h
  · have a : decide (65 ≤ z) = false := decide_eq_false (by omega)
    have b : decide (97 ≤ z) = false := decide_eq_false (by omega)
    rw [a, b]
    go_enter Tryz.func124, Tryz.ntmps124
    go_wp2
    go_ret
    exact ⟨rfl, Kb.refl _⟩
  · have a : decide (65 ≤ z) = true := decide_eq_true (by omega)
    have b : decide (97 ≤ z) = false := decide_eq_false (by omega)
    have c : decide (z ≤ 90) = true := decide_eq_true (by omega)
    rw [a, b, c]
    go_enter Tryz.func124, Tryz.ntmps124
    go_wp2
    go_ret
    exact ⟨rfl, Kb.refl _⟩
  · have a : decide (65 ≤ z) = true := decide_eq_true (by omega)
    have b : decide (97 ≤ z) = false := decide_eq_false (by omega)
    have c : decide (z ≤ 90) = false := decide_eq_false (by omega)
    rw [a, b, c]
    go_enter Tryz.func124, Tryz.ntmps124
    go_wp2
    go_ret
    exact ⟨rfl, Kb.refl _⟩
  · have a : decide (65 ≤ z) = true := decide_eq_true (by omega)
    have b : decide (97 ≤ z) = true := decide_eq_true (by omega)
    have c : decide (z ≤ 90) = false := decide_eq_false (by omega)
    have d : decide (z ≤ 122) = true := decide_eq_true (by omega)
    rw [a, b, c, d]
    go_enter Tryz.func124, Tryz.ntmps124
    go_wp2
    go_ret
    exact ⟨rfl, Kb.refl _⟩
  · have a : decide (65 ≤ z) = true := decide_eq_true (by omega)
    have b : decide (97 ≤ z) = true := decide_eq_true (by omega)
    have c : decide (z ≤ 90) = false := decide_eq_false (by omega)
    have d : decide (z ≤ 122) = false := decide_eq_false (by omega)
    rw [a, b, c, d]
    go_enter Tryz.func124, Tryz.ntmps124
    go_wp2
    go_ret
    exact ⟨rfl, Kb.refl _⟩
theorem isL_z (c : UInt8) : isL c = lB (c.toNat : Int) := by
  unfold isL lB
  rw [Bool.eq_iff_iff]
  simp
  omega
theorem isD_z (c : UInt8) : isD c = dB (c.toNat : Int) := by
  unfold isD dB
  rw [Bool.eq_iff_iff]
  simp
  omega
theorem nmE_eq (s : ByteArray) : nmE s = if 24 < s.size then 17 else if nmB s = true then 0 else 3 := by
  unfold nmE
  by_cases h : 24 < s.size
  · rw [if_pos h, decide_eq_true (show (24 : Int) < (s.size : Int) by omega)]; rfl
  · rw [if_neg h, decide_eq_false (show ¬ (24 : Int) < (s.size : Int) by omega)]
    cases nmB s <;> rfl

set_option maxRecDepth 100000 in
set_option maxHeartbeats 4000000 in
theorem rName_any (s : ByteArray) (w : World) (hs : s.size ≤ 1000000) : Calls Tryz.prog 88 #[.string s] w fun r W' => r = .returned (.int .i64 (nmE s)) ∧ Kb w W' := by
  rw [nmE_eq]
  by_cases hbig : 24 < s.size
  · rw [if_pos hbig]
    go_enter Tryz.func88, Tryz.ntmps88
    go_wp2
    go_ret
    exact ⟨rfl, Kb.refl _⟩
  rw [if_neg hbig]
  obtain ⟨E, hEE⟩ : ∃ E : Int, (if nmB s = true then 0 else 3) = E := ⟨_, rfl⟩
  rw [hEE]
  have HEE := Lib.hid hEE
  clear hEE
  by_cases h0 : s.size = 0
  · have e1 : nmB s = false := by unfold nmB; rw [h0]; rfl
    have he : E = 3 := HEE.out.symm.trans (by rw [e1]; rfl)
    rw [he]
    clear he
    have hz : ((s.size : Int) == 0) = true := by simpa using h0
    go_enter Tryz.func88, Tryz.ntmps88
    go_wp2
    go_ret
    exact ⟨rfl, Kb.refl _⟩
  have h00 : 0 < s.size := by omega
  have hz : ((s.size : Int) == 0) = false := by simpa using h0
  obtain ⟨x0, hx0⟩ : ∃ x, s[0]'h00 = x := ⟨_, rfl⟩
  have q0 := rletter (x0.toNat : Int)
  have HB : Hid (nmB s = nmR s 0) := by
    show nmB s = nmR s 0
    unfold nmB
    rw [show (s.size == 0) = false by simpa using h0]
    rfl
  have HS := Lib.hid (fun k (h : k < s.size) => nmR_step h)
  have HE := Lib.hid (nmR_end s)
  have hok0 : okAt s 0 = isL x0 := by
    unfold okAt
    rw [dif_pos h00, hx0]
    simp
  have HOK := Lib.hid hok0
  by_cases hl0 : lB (x0.toNat : Int) = true
  · rw [hl0] at q0
    have HL0 : Hid (isL x0 = true) := (isL_z x0).trans hl0
    unfold Ca at q0
    have HX0 := Lib.hid hx0
    have H0 := Lib.hid h0
    clear hok0 hl0 h0
    go_enter Tryz.func88, Tryz.ntmps88
    go_wp2_with fail
    (with_reducible refine (q0.out _).mono ?_)
    rintro r w1 ⟨rfl, k1⟩
    clear hx0 q0 hz
    go_wp2_with fail
    go_loopg [3] s.size (fun gk s3 wr => ∃ k : Nat, s3 = .int .i64 k ∧ k + gk = s.size ∧ Hid (nmB s = nmR s k) ∧ Kb w wr)
    case atStart => exact ⟨0, rfl, by omega, HB, k1⟩
    case round =>
      obtain ⟨k, rfl, hk, hR, kk⟩ := hrel
      have hk0 : (0 : Int) ≤ (k : Int) := by omega
      by_cases hlt : k < s.size
      · obtain ⟨x, hx⟩ : ∃ x, s[k]'hlt = x := ⟨_, rfl⟩
        have q1 := rletter (x.toNat : Int)
        have hst := HS.out k hlt
        have hok : okAt s k = (isL x || (!(k == 0) && isD x)) := by unfold okAt; rw [dif_pos hlt, hx]
        have hz1 : k = 0 → isL x = true := fun e => by
          subst e
          have : x = x0 := hx.symm.trans HX0.out
          rw [this]; exact HL0.out
        have Hk := Lib.hid hk
        have hxb : (x.toNat : Int) ≤ 255 := by have := x.toNat_lt; omega
        by_cases hl : lB (x.toNat : Int) = true
        · have g : Hid (nmB s = nmR s (k + 1)) := hR.out.trans (hst.trans (by rw [hok, isL_z, hl]; rfl))
          rw [hl] at q1
          unfold Ca at q1
          clear hst hok hz1 hk hR hl
          go_wp2_with fail
          (with_reducible refine (q1.out _).mono ?_)
          rintro r w2 ⟨rfl, k2⟩
          go_wp2
          have hk := Hk.out
          go_roundg (gk - 1)
          case measure => omega
          case rel => exact ⟨k + 1, by go_num, by omega, g, kk.trans k2⟩
        · have hlf : lB (x.toNat : Int) = false := by simpa using hl
          rw [hlf] at q1
          have hkn : ¬ k = 0 := fun e => by have := hz1 e; rw [isL_z] at this; exact hl this
          unfold Ca at q1
          rcases (show (x.toNat : Int) < 48 ∨ (48 ≤ (x.toNat : Int) ∧ (x.toNat : Int) ≤ 57) ∨ 58 ≤ (x.toNat : Int) by omega) with h | ⟨h1, h2⟩ | h
          · have b : Hid (nmB s = false) := hR.out.trans (hst.trans (by rw [hok, isL_z, isD_z, hlf]; unfold dB; rw [decide_eq_false (show ¬ 48 ≤ (x.toNat : Int) by omega)]; simp))
            clear hst hok hz1 hk hR hl hlf hkn
            go_wp2_with fail
            (with_reducible refine (q1.out _).mono ?_)
            rintro r w2 ⟨rfl, k2⟩
            go_wp2
            go_ret
            exact ⟨by rw [show E = 3 from HEE.out.symm.trans (by rw [b.out]; rfl)]; rfl, kk.trans k2⟩
          · have g : Hid (nmB s = nmR s (k + 1)) := hR.out.trans (hst.trans (by rw [hok, isL_z, isD_z, hlf, show (k == 0) = false by simpa using hkn]; unfold dB; rw [decide_eq_true h1, decide_eq_true h2]; rfl))
            clear hst hok hz1 hk hR hl hlf hkn
            go_wp2_with fail
            (with_reducible refine (q1.out _).mono ?_)
            rintro r w2 ⟨rfl, k2⟩
            go_wp2
            have hk := Hk.out
            go_roundg (gk - 1)
            case measure => omega
            case rel => exact ⟨k + 1, by go_num, by omega, g, kk.trans k2⟩
          · have b : Hid (nmB s = false) := hR.out.trans (hst.trans (by rw [hok, isL_z, isD_z, hlf]; unfold dB; rw [decide_eq_false (show ¬ (x.toNat : Int) ≤ 57 by omega)]; simp))
            clear hst hok hz1 hk hR hl hlf hkn
            go_wp2_with fail
            (with_reducible refine (q1.out _).mono ?_)
            rintro r w2 ⟨rfl, k2⟩
            go_wp2
            go_ret
            exact ⟨by rw [show E = 3 from HEE.out.symm.trans (by rw [b.out]; rfl)]; rfl, kk.trans k2⟩
      · obtain rfl : k = s.size := by omega
        have g : Hid (nmB s = true) := hR.out.trans HE.out
        clear HS HE hR hk
        go_wp2
        go_ret
        exact ⟨by rw [show E = 0 from HEE.out.symm.trans (by rw [g.out]; rfl)]; rfl, kk⟩
  · have hlf : lB (x0.toNat : Int) = false := by simpa using hl0
    rw [hlf] at q0
    unfold Ca at q0
    have b : Hid (nmB s = false) := HB.out.trans ((HS.out 0 h00).trans (by rw [hok0, isL_z, hlf]; rfl))
    clear hok0 hl0 h0 hlf
    go_enter Tryz.func88, Tryz.ntmps88
    go_wp2_with fail
    (with_reducible refine (q0.out _).mono ?_)
    rintro r w1 ⟨rfl, k1⟩
    go_wp2
    go_ret
    exact ⟨by rw [show E = 3 from HEE.out.symm.trans (by rw [b.out]; rfl)]; rfl, k1⟩
theorem rName (s : ByteArray) (hs : s.size ≤ 1000000) : Ca 88 #[.string s] (.int .i64 (nmE s)) := Lib.hid fun w => rName_any s w hs
end Go.Proofs.YtlimjohnimgnhaaGreatDoor
