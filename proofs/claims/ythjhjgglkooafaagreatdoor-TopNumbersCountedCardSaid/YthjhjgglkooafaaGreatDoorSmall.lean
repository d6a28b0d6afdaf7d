/- Small and Of: of whole and of the reference, for all texts and ints, where the listed variables of strconv hold what the row says. -/
import Derived.Test.YthjhjgglkooafaaGreatDoorM17
import Derived.Test.YthjhjgglkooafaaGreatDoorM25
import Derived.Lib.AtoiAll
import Derived.Lib.AppendIntMem
import Derived.Lib.AtoiErrMem
namespace Go.Proofs.YthjhjgglkooafaaGreatDoor
open Go.RowKit
open Go.Lib (nDigits itoa decDigits)

/-! what Atoi makes of a canonical text -/
def dstep (a : Nat) (c : UInt8) : Nat := 10 * a + (c.toNat - 48)
theorem fold_ge : ∀ (l : List UInt8) (a : Nat), a ≤ l.foldl dstep a
  | [], _ => Nat.le_refl _
  | c :: r, a => by
    have h := fold_ge r (dstep a c)
    have h2 : a ≤ dstep a c := by unfold dstep; omega
    exact Nat.le_trans h2 h
theorem parse_fold : ∀ (l : List UInt8) (a : Nat), l.all isDig = true → a < 18446744073709551616 →
    Lib.parseUint10 a l = if l.foldl dstep a < 18446744073709551616 then .ok (l.foldl dstep a) else .range
  | [], a, _, ha => by rw [List.foldl_nil, if_pos ha]; rfl
  | c :: r, a, hd, _ => by
    rw [List.all_cons, Bool.and_eq_true] at hd
    obtain ⟨h1, h2⟩ := (isDig_iff c).1 hd.1
    have hg := fold_ge r (dstep a c)
    rw [List.foldl_cons]
    unfold Lib.parseUint10
    rw [if_pos ⟨h1, h2⟩]
    by_cases h3 : 1844674407370955162 ≤ a
    · rw [if_pos h3, if_neg]
      have : dstep a c = 10 * a + (c.toNat - 48) := rfl
      omega
    · rw [if_neg h3]
      by_cases h4 : 18446744073709551616 ≤ a * 10 + (c.toNat - 48)
      · rw [if_pos h4, if_neg]
        have : dstep a c = 10 * a + (c.toNat - 48) := rfl
        omega
      · rw [if_neg h4, show a * 10 + (c.toNat - 48) = dstep a c by unfold dstep; omega]
        exact parse_fold r _ hd.2 (by unfold dstep; omega)
theorem parse_dec (u : Nat) : Lib.parseMag (decDigits u) = if u < 18446744073709551616 then .ok u else .range := by
  unfold Lib.parseMag
  rw [if_neg (dec_ne_nil u), parse_fold _ _ (dec_all u) (by omega)]
  have : (decDigits u).foldl dstep 0 = u := valN_dec u
  rw [this]
/-- an int -/
def InI (z : Int) : Prop := -9223372036854775808 ≤ z ∧ z ≤ 9223372036854775807
instance (z : Int) : Decidable (InI z) := inferInstanceAs (Decidable (_ ∧ _))
theorem atoi_itoa (z : Int) : Lib.atoiAll (itoa z) = if InI z then .ok z else .range := by
  by_cases hz : z < 0
  · obtain ⟨u, hu⟩ := Int.eq_ofNat_of_zero_le (show 0 ≤ -z by omega)
    obtain rfl : z = -(u : Int) := by omega
    rw [itoa_neg u (by omega)]
    have hp := parse_dec u
    unfold Lib.atoiAll
    simp only [show (45 : UInt8).toNat = 45 from rfl, if_true, or_true, hp, not_true, false_and, if_false, true_and]
    by_cases h1 : u < 18446744073709551616
    · rw [if_pos h1]
      simp only
      by_cases h2 : 9223372036854775808 < u
      · rw [if_pos h2, if_neg (fun h => by unfold InI at h; omega)]
      · rw [if_neg h2, if_pos (show InI _ by unfold InI; omega)]
    · rw [if_neg h1, if_neg (fun h => by unfold InI at h; omega)]
  · obtain ⟨u, rfl⟩ := Int.eq_ofNat_of_zero_le (show 0 ≤ z by omega)
    rw [itoa_nn]
    have hp := parse_dec u
    have ha := dec_all u
    cases hc : decDigits u with
    | nil => exact absurd hc (dec_ne_nil u)
    | cons c r =>
      rw [hc] at hp ha
      rw [List.all_cons, Bool.and_eq_true] at ha
      obtain ⟨h1, h2⟩ := (isDig_iff c).1 ha.1
      have e1 : ¬ c.toNat = 43 := by omega
      have e2 : ¬ c.toNat = 45 := by omega
      unfold Lib.atoiAll
      simp only [e1, e2, or_false, if_false, hp, not_false_eq_true, true_and, false_and]
      by_cases h1 : u < 18446744073709551616
      · rw [if_pos h1]
        simp only
        by_cases h2 : 9223372036854775808 ≤ u
        · rw [if_pos h2, if_neg (fun h => by unfold InI at h; omega)]
        · rw [if_neg h2, if_pos (show InI _ by unfold InI; omega)]
      · rw [if_neg h1, if_neg (fun h => by unfold InI at h; omega)]

/-- what the row lists, as the walks use it -/
def Lay (w : World) : Prop := (∃ tp p, w.var? Tryz.prog "strconv.ErrRange" = some #[.iface tp p]) ∧ Lib.TabIs Tryz.prog w "internal/strconv.uint64pow10" .u64 Lib.pow10Tab
theorem var_kp {P : Program} {w w' : World} {n : String} {cs : Array Value} (h : w.var? P n = some cs) (k : Kp [] w w') : w'.var? P n = some cs := by
  unfold World.var? at *
  cases hg : P.globalNamed n with
  | none => simp [hg] at h
  | some g =>
    simp only [hg, Option.bind_some] at h ⊢
    have hlt : g < w.heap.size := by
      rcases Nat.lt_or_ge g w.heap.size with h' | h'
      · exact h'
      · rw [Array.getElem?_eq_none h'] at h; simp at h
    rw [k.block g hlt (by simp)]
    exact h
theorem Lay.kp {w w' : World} (h : Lay w) (k : Kp [] w w') : Lay w' := by
  obtain ⟨⟨tp, p, h1⟩, h2⟩ := h
  exact ⟨⟨tp, p, var_kp h1 k⟩, var_kp h2 k⟩

theorem Of_any (n : Int) (w : World) (hn : InI n) (hl : Lay w) :
    Calls Tryz.prog 16 #[.int .i64 n] w fun e w' => e = .returned (.string (S n)) ∧ Kp [] w w' := by
  have q := Lib.hid (Tryz.strconv_Itoa n hn.1 hn.2 w hl.2)
  clear hl hn
  go_enter Tryz.func16, Tryz.ntmps16
  go_wp2_with fail
  refine q.out.mono ?_
  rintro e w' ⟨rfl, k, os, rfl⟩
  have hk : Kp [] w _ := Kp.of_below (Lib.below_grow w.heap.size w (Nat.le_refl _) k os)
  go_wp2
  go_ret
  exact ⟨rfl, hk⟩

/-- the int and the error of Small, of every text -/
def smV (a : ByteArray) : Int := if chk a.data.toList = 0 ∧ InI (valS a) then valS a else 0
def smE (a : ByteArray) : Int := if chk a.data.toList = 0 then (if InI (valS a) then 0 else 2) else chk a.data.toList

set_option maxRecDepth 100000 in
set_option maxHeartbeats 1000000 in
theorem Small_any (a : ByteArray) (w : World) (ha : a.size ≤ 100000) (hl : Lay w) :
    Calls Tryz.prog 14 #[.string a] w fun e w' => e = .returned (.tuple #[.int .i64 (smV a), .int .i64 (smE a)]) ∧ Kp [] w w' := by
  have q0 := Lib.hid (fun W => check_any a W (by omega))
  by_cases h : chk a.data.toList = 0
  · rw [h] at q0
    obtain ⟨z, rfl, hz⟩ := of_chk_zero h
    have hat := atoi_itoa z
    by_cases hi : InI z
    · have hv1 : Hid (smV (S z) = z) := by show _ = _; unfold smV; rw [valS_S, if_pos ⟨h, hi⟩]
      have hv2 : Hid (smE (S z) = 0) := by show _ = _; unfold smE; rw [valS_S, if_pos h, if_pos hi]
      rw [if_pos hi] at hat
      have q1 := Lib.hid (fun W => Tryz.strconv_Atoi_ok (S z) (by omega) z hat W)
      clear hat hi h hl ha hz
      rw [hv1.out, hv2.out]
      clear hv1 hv2
      generalize S z = s at *
      go_enter Tryz.func14, Tryz.ntmps14
      go_wp2_with fail
      refine (q0.out _).mono ?_
      rintro e w' ⟨rfl, rfl⟩
      go_wp2_with fail
      refine (q1.out _).mono ?_
      rintro e w' ⟨rfl, hw⟩
      have hk : Kp [] w w' := by
        rcases hw with rfl | ⟨t, rfl⟩
        · exact Kp.refl _ _
        · exact Kp.of_below (Lib.bytesWorld_below _ _ _)
      clear hw
      go_wp2
      go_ret2
      exact ⟨rfl, hk⟩
    · have hv1 : Hid (smV (S z) = 0) := by show _ = _; unfold smV; rw [valS_S, if_neg (fun k => hi k.2)]
      have hv2 : Hid (smE (S z) = 2) := by show _ = _; unfold smE; rw [valS_S, if_pos h, if_neg hi]
      rw [if_neg hi] at hat
      obtain ⟨⟨tp, p, hvar⟩, _⟩ := hl
      have q1 := Lib.hid (Tryz.strconv_Atoi_range_var (S z) (by omega) hat tp p w hvar)
      clear hat hi h ha hz hvar
      rw [hv1.out, hv2.out]
      clear hv1 hv2
      generalize S z = s at *
      go_enter Tryz.func14, Tryz.ntmps14
      go_wp2_with fail
      refine (q0.out _).mono ?_
      rintro e w' ⟨rfl, rfl⟩
      go_wp2_with fail
      refine q1.out.mono ?_
      rintro e w' ⟨N, rfl, _, _, hb⟩
      have hk : Kp [] w w' := Kp.of_below hb
      clear hb
      go_wp2
      go_ret2
      exact ⟨rfl, hk⟩
  · have hb : (chk a.data.toList != 0) = true := bne_iff_ne.2 h
    have hv1 : Hid (smV a = 0) := by show _ = _; unfold smV; rw [if_neg (fun k => h k.1)]
    have hv2 : Hid (smE a = chk a.data.toList) := by show _ = _; unfold smE; rw [if_neg h]
    rw [hv1.out, hv2.out]
    clear h hv1 hv2 hl
    go_enter Tryz.func14, Tryz.ntmps14
    go_wp2_with fail
    refine (q0.out _).mono ?_
    rintro e w' ⟨rfl, rfl⟩
    go_wp2
    go_ret2
    exact ⟨rfl, Kp.refl _ _⟩

/-! the reference's Small -/
def Says (f : Nat) (args : Array Value) (v : Value) : Prop := Hid (∀ W : World, Calls Tryz.prog f args W fun e w' => e = .returned v ∧ Kp [] W w')
def SaysS (f : Nat) (args : Array Value) (v : Value) : Prop := Hid (∀ W : World, Calls Tryz.prog f args W fun e w' => e = .returned v ∧ W = w')
















































theorem valN_mono (l : List UInt8) (k : Nat) : valN (l.take k) ≤ valN l := by
  have h : valN l = (l.drop k).foldl dstep (valN (l.take k)) := by
    show l.foldl dstep 0 = (l.drop k).foldl dstep ((l.take k).foldl dstep 0)
    rw [← List.foldl_append, List.take_append_drop]
  rw [h]; exact fold_ge _ _


























































































































































end Go.Proofs.YthjhjgglkooafaaGreatDoor
