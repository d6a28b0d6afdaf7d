/- Walk over short: the texts are short and canonical. -/
import Derived.Test.YtbhngccjacdlfaaRCheck
import Derived.Test.YtbhngccjacdlfaaInt
namespace Go.Proofs.Ytbhngccjacdlfaa
open Go.RowKit

/-- one text is short and canonical -/
def sh1 (s : ByteArray) : Bool := decide (s.size ≤ 50) && (chk s.data.toList == 0)
def shL (ss : List ByteArray) : Bool := ss.all sh1

set_option maxHeartbeats 1000000 in
theorem short_any (g o c : Nat) (ss : List ByteArray) (w : World) (hs : Strs w g o ss) (hl : ss.length ≤ 1000000) :
    Calls Try.prog 35 #[.slice (some ⟨g, o, none⟩) ss.length c] w fun e w' => e = .returned (.bool (shL ss)) ∧ w = w' := by
  go_enter Try.func35, Try.ntmps35
  go_wp2
  go_loopg [7] ss.length (fun gk s7 wr => ∃ k : Nat, s7 = .int .i64 k ∧ k + gk = ss.length ∧ shL (ss.drop k) = shL ss ∧ w = wr)
  case atStart => exact ⟨0, rfl, by omega, rfl, rfl⟩
  case round =>
    obtain ⟨k, rfl, hk, hc, rfl⟩ := hrel
    have hl1 : (ss.length : Int) ≤ 1000000 := by omega
    have Hc := Lib.hid hc; clear hc
    by_cases hlt : k < ss.length
    · have hcell := hs k hlt
      have Hd := Lib.hid (List.drop_eq_getElem_cons hlt)
      have hlt' : (k : Int) < (ss.length : Int) := by omega
      have Hk := Lib.hid hk; clear hk
      obtain ⟨s, hsk⟩ : ∃ s, s = ss[k] := ⟨_, rfl⟩
      rw [← hsk] at hcell Hd
      have Hs := Lib.hid hsk; clear hsk
      by_cases h50 : s.size ≤ 50
      · have hd50 : decide ((s.size : Int) > 50) = false := by simp; omega
        have hg50 : ¬ (50 : Int) < (s.size : Int) := by omega
        go_wp2_with fail
        refine (rcheck_any s _ (by omega)).mono ?_
        rintro e w' ⟨rfl, rfl⟩
        by_cases h0 : chk s.data.toList = 0
        · have hb : (chk s.data.toList != 0) = false := by rw [h0]; rfl
          have H0 := Lib.hid h0; clear h0
          go_wp2
          have hk := Hk.out
          go_roundg (gk - 1)
          case measure => omega
          case rel =>
            refine ⟨k + 1, by go_num, by omega, ?_, rfl⟩
            rw [← Hc.out, Hd.out]
            simp [shL, sh1, h50, H0.out]
        · have hb : (chk s.data.toList != 0) = true := bne_iff_ne.2 h0
          have hv : Hid (shL ss = false) := by
            show _ = _
            rw [← Hc.out, Hd.out]
            simp [shL, sh1, h0]
          clear h0
          go_wp2
          go_ret
          exact ⟨by rw [hv.out]; rfl, rfl⟩
      · have hd50 : decide ((s.size : Int) > 50) = true := by simp; omega
        have hg50 : (50 : Int) < (s.size : Int) := by omega
        have hv : Hid (shL ss = false) := by
          show _ = _
          rw [← Hc.out, Hd.out]
          simp [shL, sh1, h50]
        clear h50
        go_wp2
        go_ret
        exact ⟨by rw [hv.out]; rfl, rfl⟩
    · have hv : Hid (shL ss = true) := by
        show _ = _
        rw [← Hc.out, List.drop_of_length_le (by omega)]; rfl
      obtain rfl : k = ss.length := by omega
      go_wp2
      go_ret
      exact ⟨by rw [hv.out]; rfl, rfl⟩
end Go.Proofs.Ytbhngccjacdlfaa
