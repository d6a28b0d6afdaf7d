/- Small and Of: of whole and of the reference, for all texts and ints, where the listed variables of strconv hold what the row says. -/
import Derived.Test.YtminjcknmhgpiaaGreatDoorM17
import Derived.Test.YtminjcknmhgpiaaGreatDoorM25
import Derived.Lib.AtoiAll
import Derived.Lib.AppendIntMem
import Derived.Lib.AtoiErrMem
namespace Go.Proofs.YtminjcknmhgpiaaGreatDoor
open Go.RowKit
open Go.Lib (nDigits itoa decDigits)

/-! what Atoi makes of a canonical text -/
def dstep (a : Nat) (c : UInt8) : Nat := 10 * a + (c.toNat - 48)
theorem fold_ge : ∀ (l : List UInt8) (a : Nat), a ≤ l.foldl dstep a
  | [], _ => Nat.le_refl _
  | c :: r, a => by
    have h := fold_ge r (dstep a c)
    have h2 : a ≤ dstep a c := by unfold dstep; omega
    exact Nat.le_trans h2 h
theorem parse_fold : ∀ (l : List UInt8) (a : Nat), l.all isDig = true → a < 18446744073709551616 →
    Lib.parseUint10 a l = if l.foldl dstep a < 18446744073709551616 then .ok (l.foldl dstep a) else .range
  | [], a, _, ha => by rw [List.foldl_nil, if_pos ha]; rfl
  | c :: r, a, hd, _ => by
    rw [List.all_cons, Bool.and_eq_true] at hd
    obtain ⟨h1, h2⟩ := (isDig_iff c).1 hd.1
    have hg := fold_ge r (dstep a c)
    rw [List.foldl_cons]
    unfold Lib.parseUint10
    rw [if_pos ⟨h1, h2⟩]
    by_cases h3 : 1844674407370955162 ≤ a
    · rw [if_pos h3, if_neg]
      have : dstep a c = 10 * a + (c.toNat - 48) := rfl
      omega
    · rw [if_neg h3]
      by_cases h4 : 18446744073709551616 ≤ a * 10 + (c.toNat - 48)
      · rw [if_pos h4, if_neg]
        have : dstep a c = 10 * a + (c.toNat - 48) := rfl
        omega
      · rw [if_neg h4, show a * 10 + (c.toNat - 48) = dstep a c by unfold dstep; omega]
        exact parse_fold r _ hd.2 (by unfold dstep; omega)
theorem parse_dec (u : Nat) : Lib.parseMag (decDigits u) = if u < 18446744073709551616 then .ok u else .range := by
  unfold Lib.parseMag
  rw [if_neg (dec_ne_nil u), parse_fold _ _ (dec_all u) (by omega)]
  have : (decDigits u).foldl dstep 0 = u := valN_dec u
  rw [this]
/-- an int -/
def InI (z : Int) : Prop := -9223372036854775808 ≤ z ∧ z ≤ 9223372036854775807
instance (z : Int) : Decidable (InI z) := inferInstanceAs (Decidable (_ ∧ _))
theorem atoi_itoa (z : Int) : Lib.atoiAll (itoa z) = if InI z then .ok z else .range := by
  by_cases hz : z < 0
  · obtain ⟨u, hu⟩ := Int.eq_ofNat_of_zero_le (show 0 ≤ -z by omega)
    obtain rfl : z = -(u : Int) := by omega
    rw [itoa_neg u (by omega)]
    have hp := parse_dec u
    unfold Lib.atoiAll
    simp only [show (45 : UInt8).toNat = 45 from rfl, if_true, or_true, hp, not_true, false_and, if_false, true_and]
    by_cases h1 : u < 18446744073709551616
    · rw [if_pos h1]
      simp only
      by_cases h2 : 9223372036854775808 < u
      · rw [if_pos h2, if_neg (fun h => by unfold InI at h; omega)]
      · rw [if_neg h2, if_pos (show InI _ by unfold InI; omega)]
    · rw [if_neg h1, if_neg (fun h => by unfold InI at h; omega)]
  · obtain ⟨u, rfl⟩ := Int.eq_ofNat_of_zero_le (show 0 ≤ z by omega)
    rw [itoa_nn]
    have hp := parse_dec u
    have ha := dec_all u
    cases hc : decDigits u with
    | nil => exact absurd hc (dec_ne_nil u)
    | cons c r =>
      rw [hc] at hp ha
      rw [List.all_cons, Bool.and_eq_true] at ha
      obtain ⟨h1, h2⟩ := (isDig_iff c).1 ha.1
      have e1 : ¬ c.toNat = 43 := by omega
      have e2 : ¬ c.toNat = 45 := by omega
      unfold Lib.atoiAll
      simp only [e1, e2, or_false, if_false, hp, not_false_eq_true, true_and, false_and]
      by_cases h1 : u < 18446744073709551616
      · rw [if_pos h1]
        simp only
        by_cases h2 : 9223372036854775808 ≤ u
        · rw [if_pos h2, if_neg (fun h => by unfold InI at h; omega)]
        · rw [if_neg h2, if_pos (show InI _ by unfold InI; omega)]
      · rw [if_neg h1, if_neg (fun h => by unfold InI at h; omega)]

/-- what the row lists, as the walks use it -/
def Lay (w : World) : Prop := (∃ tp p, w.var? Tryz.prog "strconv.ErrRange" = some #[.iface tp p]) ∧ Lib.TabIs Tryz.prog w "internal/strconv.uint64pow10" .u64 Lib.pow10Tab
theorem var_kp {P : Program} {w w' : World} {n : String} {cs : Array Value} (h : w.var? P n = some cs) (k : Kp [] w w') : w'.var? P n = some cs := by
  unfold World.var? at *
  cases hg : P.globalNamed n with
  | none => simp [hg] at h
  | some g =>
    simp only [hg, Option.bind_some] at h ⊢
    have hlt : g < w.heap.size := by
      rcases Nat.lt_or_ge g w.heap.size with h' | h'
      · exact h'
      · rw [Array.getElem?_eq_none h'] at h; simp at h
    rw [k.block g hlt (by simp)]
    exact h
theorem Lay.kp {w w' : World} (h : Lay w) (k : Kp [] w w') : Lay w' := by
  obtain ⟨⟨tp, p, h1⟩, h2⟩ := h
  exact ⟨⟨tp, p, var_kp h1 k⟩, var_kp h2 k⟩

theorem Of_any (n : Int) (w : World) (hn : InI n) (hl : Lay w) :
    Calls Tryz.prog 53 #[.int .i64 n] w fun e w' => e = .returned (.string (S n)) ∧ Kp [] w w' := by
  have q := Lib.hid (Tryz.strconv_Itoa n hn.1 hn.2 w hl.2)
  clear hl hn
  go_enter Tryz.func53, Tryz.ntmps53
  go_wp2_with fail
  refine q.out.mono ?_
  rintro e w' ⟨rfl, k, os, rfl⟩
  have hk : Kp [] w _ := Kp.of_below (Lib.below_grow w.heap.size w (Nat.le_refl _) k os)
  go_wp2
  go_ret
  exact ⟨rfl, hk⟩

/-- the int and the error of Small, of every text -/
def smV (a : ByteArray) : Int := if chk a.data.toList = 0 ∧ InI (valS a) then valS a else 0
def smE (a : ByteArray) : Int := if chk a.data.toList = 0 then (if InI (valS a) then 0 else 2) else chk a.data.toList




































































/-! the reference's Small -/
def Says (f : Nat) (args : Array Value) (v : Value) : Prop := Hid (∀ W : World, Calls Tryz.prog f args W fun e w' => e = .returned v ∧ Kp [] W w')
def SaysS (f : Nat) (args : Array Value) (v : Value) : Prop := Hid (∀ W : World, Calls Tryz.prog f args W fun e w' => e = .returned v ∧ W = w')

set_option maxRecDepth 100000 in
set_option maxHeartbeats 2000000 in
theorem rsmall_out (a m1 m2 : ByteArray) (c1 c2 : Int) (w : World) (hc : 0 < c1 ∨ (¬ 0 < c1 ∧ c2 < 0))
    (q0 : SaysS 67 #[.string a] (.int .i64 0))
    (q1 : Says 76 #[.int .i64 9223372036854775807] (.string m1)) (q2 : Says 76 #[.int .i64 (-9223372036854775808)] (.string m2))
    (q3 : Says 69 #[.string a, .string m1] (.int .i64 c1)) (q4 : Says 69 #[.string a, .string m2] (.int .i64 c2)) :
    Calls Tryz.prog 25 #[.string a] w fun e w' => e = .returned (.tuple #[.int .i64 0, .int .i64 2]) ∧ Kp [] w w' := by
  rcases hc with h1 | ⟨h1, h2⟩
  · go_enter Tryz.func25, Tryz.ntmps25
    go_wp2_with fail
    refine (q0.out _).mono ?_
    rintro e w' ⟨rfl, rfl⟩
    go_wp2_with fail
    refine (q1.out _).mono ?_
    rintro e w1 ⟨rfl, k1⟩
    go_wp2_with fail
    refine (q3.out _).mono ?_
    rintro e w2 ⟨rfl, k2⟩
    have k := k1.trans k2
    clear k1 k2
    go_wp2
    go_ret2
    exact ⟨rfl, k⟩
  · go_enter Tryz.func25, Tryz.ntmps25
    go_wp2_with fail
    refine (q0.out _).mono ?_
    rintro e w' ⟨rfl, rfl⟩
    go_wp2_with fail
    refine (q1.out _).mono ?_
    rintro e w1 ⟨rfl, k1⟩
    go_wp2_with fail
    refine (q3.out _).mono ?_
    rintro e w2 ⟨rfl, k2⟩
    have k := k1.trans k2
    clear k1 k2
    go_wp2_with fail
    refine (q2.out _).mono ?_
    rintro e w3 ⟨rfl, k3⟩
    go_wp2_with fail
    refine (q4.out _).mono ?_
    rintro e w4 ⟨rfl, k4⟩
    have kk := (k.trans k3).trans k4
    clear k k3 k4
    go_wp2
    go_ret2
    exact ⟨rfl, kk⟩

theorem valN_mono (l : List UInt8) (k : Nat) : valN (l.take k) ≤ valN l := by
  have h : valN l = (l.drop k).foldl dstep (valN (l.take k)) := by
    show l.foldl dstep 0 = (l.drop k).foldl dstep ((l.take k).foldl dstep 0)
    rw [← List.foldl_append, List.take_append_drop]
  rw [h]; exact fold_ge _ _

set_option maxRecDepth 100000 in
set_option maxHeartbeats 4000000 in
theorem rsmall_in (a s m1 m2 : ByteArray) (d : Bool) (v c1 c2 : Int) (w : World) (h1 : ¬ 0 < c1) (h2 : ¬ c2 < 0) (hd : s.data.toList.all isDig = true) (hs : s.size ≤ 30)
    (hv : Hid (v = if d then -(valN s.data.toList : Int) else valN s.data.toList)) (hlt : Hid (valN s.data.toList ≤ if d then 9223372036854775808 else 9223372036854775807))
    (q0 : SaysS 67 #[.string a] (.int .i64 0))
    (q1 : Says 76 #[.int .i64 9223372036854775807] (.string m1)) (q2 : Says 76 #[.int .i64 (-9223372036854775808)] (.string m2))
    (q3 : Says 69 #[.string a, .string m1] (.int .i64 c1)) (q4 : Says 69 #[.string a, .string m2] (.int .i64 c2))
    (q5 : SaysS 77 #[.string a] (.string s)) (q6 : SaysS 78 #[.string a] (.bool d)) :
    Calls Tryz.prog 25 #[.string a] w fun e w' => e = .returned (.tuple #[.int .i64 v, .int .i64 0]) ∧ Kp [] w w' := by
  go_enter Tryz.func25, Tryz.ntmps25
  go_wp2_with fail
  refine (q0.out _).mono ?_
  rintro e w' ⟨rfl, rfl⟩
  go_wp2_with fail
  refine (q1.out _).mono ?_
  rintro e w1 ⟨rfl, k1⟩
  go_wp2_with fail
  refine (q3.out _).mono ?_
  rintro e w2 ⟨rfl, k2⟩
  have k := k1.trans k2
  clear k1 k2
  go_wp2_with fail
  refine (q2.out _).mono ?_
  rintro e w3 ⟨rfl, k3⟩
  go_wp2_with fail
  refine (q4.out _).mono ?_
  rintro e w4 ⟨rfl, k4⟩
  have kk := (k.trans k3).trans k4
  clear k k3 k4
  go_wp2_with fail
  refine (q5.out _).mono ?_
  rintro e w5 ⟨rfl, rfl⟩
  clear q0 q1 q2 q3 q4 q5
  go_wp2
  go_loopg [5, 7] s.size (fun gk s5 s7 wr => ∃ (k : Nat) (u : Int), s5 = .int .i64 u ∧ s7 = .int .i64 (k : Int) ∧ k + gk = s.size ∧ Hid (u = if d then -(valN (s.data.toList.take k) : Int) else valN (s.data.toList.take k)) ∧ Kp [] w wr)
  case atStart => exact ⟨0, 0, rfl, rfl, by omega, by show (0 : Int) = _; cases d <;> rfl, kk⟩
  case round =>
    obtain ⟨k, u, rfl, rfl, hk, hu, hkp⟩ := hrel
    clear kk
    by_cases hlk : k < s.size
    · have hsn := valN_snoc (s.data.toList.take k) s[k]
      rw [← take_snoc s k hlk] at hsn
      have hmono := valN_mono s.data.toList (k + 1)
      obtain ⟨b1, b2⟩ := dig_at hd hlk
      have Hk := Lib.hid hk; clear hk
      cases d with
      | true =>
        have hl2 : valN s.data.toList ≤ 9223372036854775808 := hlt.out
        have hu2 : u = -(valN (s.data.toList.take k) : Int) := hu.out
        obtain ⟨t, ht⟩ : ∃ t : Int, t = -(valN (s.data.toList.take (k + 1)) : Int) := ⟨_, rfl⟩
        have w1 : wrap64 (10 * u) = 10 * u := by unfold wrap64; omega
        have w2 : 10 * u - ((s[k].toNat : Int) - 48) = t := by omega
        have w3 : wrap64 t = t := by unfold wrap64; omega
        have Ht := Lib.hid ht
        clear hmono hsn hl2 hu2 ht hu
        go_wp2_with fail
        refine (q6.out _).mono ?_
        rintro e w6 ⟨rfl, rfl⟩
        go_wp2
        have hk := Hk.out
        go_roundg (gk - 1)
        case measure => omega
        case rel => exact ⟨k + 1, t, val_i w3, by go_num, by omega, Ht, hkp⟩
      | false =>
        have hl2 : valN s.data.toList ≤ 9223372036854775807 := hlt.out
        have hu2 : u = (valN (s.data.toList.take k) : Int) := hu.out
        obtain ⟨t, ht⟩ : ∃ t : Int, t = (valN (s.data.toList.take (k + 1)) : Int) := ⟨_, rfl⟩
        have w1 : wrap64 (10 * u) = 10 * u := by unfold wrap64; omega
        have w2 : 10 * u + ((s[k].toNat : Int) - 48) = t := by omega
        have w3 : wrap64 t = t := by unfold wrap64; omega
        have Ht := Lib.hid ht
        clear hmono hsn hl2 hu2 ht hu
        go_wp2_with fail
        refine (q6.out _).mono ?_
        rintro e w6 ⟨rfl, rfl⟩
        go_wp2
        have hk := Hk.out
        go_roundg (gk - 1)
        case measure => omega
        case rel => exact ⟨k + 1, t, val_i w3, by go_num, by omega, Ht, hkp⟩
    · obtain rfl : k = s.size := by omega
      have ht := Lib.hid (show valN (s.data.toList.take s.size) = valN s.data.toList by rw [List.take_of_length_le (by simp)])
      have hvv : Hid (v = u) := by show v = u; rw [hv.out, hu.out, ht.out]
      clear hu hv hlt q6 ht
      go_wp2
      go_ret2
      exact ⟨by rw [hvv.out]; rfl, hkp⟩

theorem RSmall_any (a : ByteArray) (w : World) (ha : a.size ≤ 100000) :
    Calls Tryz.prog 25 #[.string a] w fun e w' => e = .returned (.tuple #[.int .i64 (smV a), .int .i64 (smE a)]) ∧ Kp [] w w' := by
  have q0 := Lib.hid (fun W => rcheck_any a W (by omega))
  by_cases h : chk a.data.toList = 0
  · rw [h] at q0
    obtain ⟨z, rfl, hz⟩ := of_chk_zero h
    have o1 : Ok 9223372036854775807 := by unfold Ok; exact Nat.le_trans (nd_le (k := 30) (by omega) (by decide)) (by omega)
    have o2 : Ok (-9223372036854775808) := by unfold Ok; exact Nat.le_trans (nd_le (k := 30) (by omega) (by decide)) (by omega)
    have q1 : Says 76 #[.int .i64 9223372036854775807] (.string (S 9223372036854775807)) := fun W => of_any _ W (by omega) (by omega)
    have q2 : Says 76 #[.int .i64 (-9223372036854775808)] (.string (S (-9223372036854775808))) := fun W => of_any _ W (by omega) (by omega)
    have q3 : Says 69 #[.string (S z), .string (S 9223372036854775807)] (.int .i64 (cmpI z 9223372036854775807)) := fun W => rorder_any plus_all z _ W hz o1
    have q4 : Says 69 #[.string (S z), .string (S (-9223372036854775808))] (.int .i64 (cmpI z (-9223372036854775808))) := fun W => rorder_any plus_all z _ W hz o2
    by_cases hi : InI z
    · have hv1 : smV (S z) = z := by unfold smV; rw [valS_S, if_pos ⟨h, hi⟩]
      have hv2 : smE (S z) = 0 := by unfold smE; rw [valS_S, if_pos h, if_pos hi]
      rw [hv1, hv2]
      obtain ⟨a1, a2⟩ := S_nn (z := (z.natAbs : Int)) (by omega)
      rw [Int.natAbs_natCast] at a1 a2
      rw [Lib.toList_data] at a1
      have hn : nDigits z.natAbs ≤ 20 := (nd_le_iff (by omega)).2 (Nat.lt_of_le_of_lt (show z.natAbs ≤ 9223372036854775808 by unfold InI at hi; omega) (by decide))
      refine rsmall_in (S z) (S (z.natAbs : Int)) _ _ (decide (z < 0)) z _ _ w ?_ ?_ (by rw [a1]; exact dec_all _) (by omega) ?_ ?_ q0.out q1 q2 q3 q4 ?_ (fun W => below_any z W)
      · unfold cmpI; unfold InI at hi; split
        · omega
        · rw [if_pos (by omega)]; omega
      · unfold cmpI; unfold InI at hi; rw [if_neg (by omega)]; split <;> omega
      · show z = _
        rw [a1, valN_dec]
        by_cases h : z < 0
        · simp [h]; omega
        · simp [h]; omega
      · show _ ≤ _
        rw [a1, valN_dec]
        unfold InI at hi
        by_cases h : z < 0
        · simp [h]; omega
        · simp [h]; omega
      · intro W
        have := rsize_any (S z) W (by omega)
        rwa [magB_S] at this
    · have hv1 : smV (S z) = 0 := by unfold smV; rw [valS_S, if_neg (fun k => hi k.2)]
      have hv2 : smE (S z) = 2 := by unfold smE; rw [valS_S, if_pos h, if_neg hi]
      rw [hv1, hv2]
      refine rsmall_out (S z) _ _ _ _ w ?_ q0.out q1 q2 q3 q4
      unfold InI at hi
      unfold cmpI
      by_cases h1 : 9223372036854775807 < z
      · left; rw [if_neg (by omega), if_neg (by omega)]; omega
      · right
        constructor
        · split
          · omega
          · rw [if_pos (by omega)]; omega
        · rw [if_pos (by omega)]; omega
  · have hb : (chk a.data.toList != 0) = true := bne_iff_ne.2 h
    have hv1 : Hid (smV a = 0) := by show _ = _; unfold smV; rw [if_neg (fun k => h k.1)]
    have hv2 : Hid (smE a = chk a.data.toList) := by show _ = _; unfold smE; rw [if_neg h]
    rw [hv1.out, hv2.out]
    clear h hv1 hv2
    go_enter Tryz.func25, Tryz.ntmps25
    go_wp2_with fail
    refine (q0.out _).mono ?_
    rintro e w' ⟨rfl, rfl⟩
    go_wp2
    go_ret2
    exact ⟨rfl, Kp.refl _ _⟩
end Go.Proofs.YtminjcknmhgpiaaGreatDoor
