/- Integers and their texts: what read and text do for them; the check of several texts. -/
import Derived.Test.YtbhngccjacdlfaaRead
import Derived.Test.YtbhngccjacdlfaaText
import Derived.Test.YtbhngccjacdlfaaAdd
import Derived.Test.YtbhngccjacdlfaaLong
namespace Go.Proofs.Ytbhngccjacdlfaa
open Go.RowKit
open Go.Lib (nDigits itoa decDigits)

/-- the canonical text of an integer -/
def S (z : Int) : ByteArray := ⟨(itoa z).toArray⟩
theorem S_list (z : Int) : (S z).data.toList = itoa z := rfl
theorem S_inj {x y : Int} (h : S x = S y) : x = y := itoa_inj (by rw [← S_list, h, S_list])
/-- an integer that is not too long -/
def Ok (z : Int) : Prop := nDigits z.natAbs ≤ 1024
instance (z : Int) : Decidable (Ok z) := inferInstanceAs (Decidable (_ ≤ _))
theorem chk_S (z : Int) : chk (itoa z) = if Ok z then 0 else 11 := by
  unfold chk; rw [canon_itoa, mag_itoa, dec_len, if_pos rfl]
  by_cases h : Ok z
  · rw [if_pos h]; exact if_pos h
  · rw [if_neg h]; exact if_neg h
theorem chk_ok {z : Int} (h : Ok z) : chk (itoa z) = 0 := by rw [chk_S, if_pos h]
theorem eq_S_of_list {s : ByteArray} {z : Int} (h : s.data.toList = itoa z) : s = S z := by
  unfold S; rw [← h, Lib.mk_data]
theorem of_chk_zero {s : ByteArray} (h : chk s.data.toList = 0) : ∃ z, s = S z ∧ Ok z := by
  unfold chk at h
  by_cases hc : canon s.data.toList = true
  · obtain ⟨z, hz⟩ := (canon_iff _).1 hc
    refine ⟨z, eq_S_of_list hz, ?_⟩
    rw [if_pos hc] at h
    unfold Ok
    rw [← dec_len, ← mag_itoa, ← hz]
    split at h
    · assumption
    · omega
  · rw [if_neg hc] at h; omega
theorem chk_cases (l : List UInt8) : chk l = 0 ∨ chk l = 3 ∨ chk l = 11 := by
  unfold chk; split
  · split <;> simp
  · simp
set_option exponentiation.threshold 2000 in
theorem Ok.lt {z : Int} (h : Ok z) : z.natAbs < B9 ^ 114 := by
  refine Nat.lt_of_lt_of_le (Go.Lib.lt_pow_nDigits _) ?_
  rw [B9_ten]; exact Nat.pow_le_pow_right (by decide) (by unfold Ok at h; omega)
theorem S_size (z : Int) : (S z).size ≤ nDigits z.natAbs + 1 := by
  rw [Lib.size_eq, S_list]
  have := dec_len z.natAbs
  rw [← mag_itoa] at this
  cases h : itoa z with
  | nil => simp
  | cons c t => rw [h] at this; simp only [mag] at this; split at this <;> simp_all <;> omega
theorem Ok.size {z : Int} (h : Ok z) : (S z).size ≤ 1025 := Nat.le_trans (S_size z) (by unfold Ok at h; omega)

/-- a long number that is an integer -/
def NumZ (w : World) (g : Nat) (z : Int) : Prop := Num w g z.natAbs (decide (z < 0))
theorem NumZ.lt {w : World} {g : Nat} {z : Int} (h : NumZ w g z) : g < w.heap.size := h.1.lt
theorem NumZ.kp {w w' : World} {g : Nat} {z : Int} {L : List Nat} (h : NumZ w g z) (k : Kp L w w') (hg : g ∉ L) : NumZ w' g z := ⟨h.1.kp k hg, h.2⟩
theorem NumZ.alloc {w : World} {g : Nat} {z : Int} (h : NumZ w g z) (o : Obj) : NumZ (w.alloc o) g z := ⟨h.1.alloc o, h.2⟩
theorem NumZ.drewN {w : World} {g : Nat} {z : Int} (h : NumZ w g z) (n : Nat) : NumZ (w.drewN n) g z := ⟨h.1.drewN n, h.2⟩
theorem NumZ.made (w : World) : NumZ (w.alloc (.cells Try.zeroCells66 66)) w.heap.size 0 :=
  ⟨by show NumF _ _ (wd 0) (nw 0) false; rw [nw_zero]; exact (NumF.made w).congr fun i _ => (wd_zero i).symm, B9p_pos _⟩

theorem readZ (g : Nat) (z : Int) (w : World) (hg : NumF w g (fun _ => 0) 0 false) (hz : Ok z) :
    Calls Try.prog 51 #[.pointer (some ⟨g, 0, none⟩), .string (S z)] w fun e w' => e = .returned (.tuple #[]) ∧ NumZ w' g z ∧ Kp [g] w w' := by
  refine (read_any g (S z) w hg (Nat.le_trans hz.size (by decide)) (by rw [S_list, mag_itoa]; exact dec_all _)).mono ?_
  rintro e w' ⟨he, hn, hk⟩
  rw [S_list, mag_itoa, valN_dec, neg_itoa] at hn
  have e1 : (decide (z < 0) && decide (z.natAbs ≠ 0)) = decide (z < 0) := by rw [Bool.eq_iff_iff]; simp; omega
  rw [e1] at hn
  exact ⟨he, hn, hk⟩

/-- the text and the error of a result -/
def resB (z : Int) : ByteArray := if Ok z then S z else ⟨#[]⟩
def resE (z : Int) : Int := if Ok z then 0 else 11
theorem textZ (g : Nat) (z : Int) (w : World) (hg : NumZ w g z) :
    Calls Try.prog 53 #[.pointer (some ⟨g, 0, none⟩)] w fun e w' => e = .returned (.tuple #[.string (resB z), .int .i64 (resE z)]) ∧ Kp [] w w' := by
  by_cases h0 : z = 0
  · subst h0
    refine (text_zero g w hg).mono ?_
    rintro e w' ⟨he, rfl⟩
    have hok : Ok 0 := by unfold Ok; rw [show (0 : Int).natAbs = 0 from rfl, Go.Lib.nDigits_small (by omega)]; omega
    refine ⟨?_, Kp.refl _ _⟩
    rw [he]
    unfold resB resE S
    rw [if_pos hok, if_pos hok, show itoa 0 = decDigits 0 from rfl, dec_zero]
  · refine (text_pos g z.natAbs (decide (z < 0)) w hg (by omega)).mono ?_
    rintro e w' ⟨he, hk⟩
    refine ⟨?_, hk⟩
    rw [he]
    unfold resB resE txtB txtE S
    by_cases h : nDigits z.natAbs ≤ 1024
    · rw [if_pos h, if_pos h, if_pos (show Ok z from h), if_pos (show Ok z from h)]
      have e1 : (if decide (z < 0) = true then 45 :: decDigits z.natAbs else decDigits z.natAbs) = itoa z := by
        unfold itoa
        by_cases hz : z < 0
        · rw [if_pos (by simpa using hz), if_pos hz]
        · rw [if_neg (by simpa using hz), if_neg hz]; congr 1; omega
      rw [e1]
    · rw [if_neg h, if_neg h, if_neg (show ¬ Ok z from h), if_neg (show ¬ Ok z from h)]

/-- the first error of texts -/
def chkL : List ByteArray → Int
  | [] => 0
  | s :: t => if chk s.data.toList = 0 then chkL t else chk s.data.toList
theorem chkL_drop {ss : List ByteArray} : ∀ k : Nat, (∀ i (h : i < ss.length), i < k → chk ss[i].data.toList = 0) → chkL (ss.drop k) = chkL ss
  | 0, _ => rfl
  | k + 1, h => by
    rw [← chkL_drop k fun i hi hk => h i hi (by omega)]
    by_cases hk : k < ss.length
    · rw [List.drop_eq_getElem_cons hk]; show _ = if _ = 0 then _ else _
      rw [if_pos (h k hk (by omega))]
    · rw [List.drop_of_length_le (by omega), List.drop_of_length_le (by omega)]
/-- cells from place o of block g on hold texts -/
def Strs (w : World) (g o : Nat) (ss : List ByteArray) : Prop := ∀ i (h : i < ss.length), w.cell? ⟨g, o + i, none⟩ = some (.string ss[i])

set_option maxHeartbeats 1000000 in
theorem checkAll_any (g o c : Nat) (ss : List ByteArray) (w : World) (hs : Strs w g o ss) (hz : ∀ s ∈ ss, s.size ≤ 9223372036854775807) (hl : ss.length ≤ 1000000) :
    Calls Try.prog 42 #[.slice (some ⟨g, o, none⟩) ss.length c] w fun e w' => e = .returned (.int .i64 (chkL ss)) ∧ w = w' := by
  go_enter Try.func42, Try.ntmps42
  go_wp2
  go_loopg [8] ss.length (fun gk s8 wr => ∃ k : Nat, s8 = .int .i64 k ∧ k + gk = ss.length ∧ chkL (ss.drop k) = chkL ss ∧ w = wr)
  case atStart => exact ⟨0, rfl, by omega, rfl, rfl⟩
  case round =>
    obtain ⟨k, rfl, hk, hc, rfl⟩ := hrel
    have hl1 : (ss.length : Int) ≤ 1000000 := by omega
    have Hc := Lib.hid hc; clear hc
    by_cases hlt : k < ss.length
    · have hcell := hs k hlt
      have hz' := hz _ (List.getElem_mem hlt)
      have Hd := Lib.hid (List.drop_eq_getElem_cons hlt)
      have hlt' : (k : Int) < (ss.length : Int) := by omega
      have Hk := Lib.hid hk; clear hk
      obtain ⟨s, hsk⟩ : ∃ s, s = ss[k] := ⟨_, rfl⟩
      rw [← hsk] at hcell hz' Hd
      have Hs := Lib.hid hsk; clear hsk
      go_wp2_with fail
      refine (check_any s _ hz').mono ?_
      rintro e w' ⟨rfl, rfl⟩
      by_cases h0 : chk s.data.toList = 0
      · have hb : (chk s.data.toList != 0) = false := by rw [h0]; rfl
        have H0 := Lib.hid h0; clear h0
        go_wp2
        have hk := Hk.out
        go_roundg (gk - 1)
        case measure => omega
        case rel =>
          refine ⟨k + 1, by go_num, by omega, ?_, rfl⟩
          rw [← Hc.out, Hd.out]; show _ = if _ = 0 then _ else _
          rw [if_pos H0.out]
      · have hb : (chk s.data.toList != 0) = true := bne_iff_ne.2 h0
        have hv : Hid (chkL ss = chk s.data.toList) := by
          show _ = _
          rw [← Hc.out, Hd.out]; show (if _ = 0 then _ else _) = _
          rw [if_neg h0]
        clear h0
        go_wp2
        go_ret
        exact ⟨by rw [hv.out]; rfl, rfl⟩
    · have hv : Hid (chkL ss = 0) := by
        show _ = _
        rw [← Hc.out, List.drop_of_length_le (by omega)]; rfl
      obtain rfl : k = ss.length := by omega
      go_wp2
      go_ret
      exact ⟨by rw [hv.out]; rfl, rfl⟩
end Go.Proofs.Ytbhngccjacdlfaa
