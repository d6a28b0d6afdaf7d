/- Package grades: natural, Parse and Format, at texts of classes. -/
import Derived.Test.YthifdgddegpbjaaDoorShelf
import Derived.Test.YthifdgddegpbjaaDoorG2
import Derived.Test.YthifdgddegpbjaaDoorG5
namespace Go.Proofs.YthifdgddegpbjaaDoor
open Go.RowKit

abbrev letB : ByteArray := ⟨#[100, 101, 102, 103, 104, 106, 107, 109, 110, 112]⟩
set_option maxRecDepth 100000 in
set_option maxHeartbeats 4000000 in
theorem gnatural_ok (s : ByteArray) (n : Nat) (hn : n < 100) (hs : s.size ≤ 100) (ha : Lib.atoiAll s.data.toList = .ok (n : Int)) (he : (⟨(Lib.decDigits n).toArray⟩ : ByteArray) = s) :
    Gq 37 #[.string s] (.tuple #[.int .i64 (n : Int), .bool true]) := Lib.hid fun w _ => by
  have q1 := Lib.hid (fun W => Tryd.strconv_Atoi_ok s (by omega) n ha W)
  have q2 := Lib.hid (fun W => Tryd.strconv_Itoa_small n hn W)
  rw [he] at q2
  have n1 : (n : Int) ≤ 999 := by omega
  clear ha he hs
  go_enter Tryd.func37, Tryd.ntmps37
  go_wp2_with fail
  refine (q1.out _).mono ?_
  rintro e w1 ⟨rfl, hw⟩
  have hk : Kb w w1 := by
    rcases hw with rfl | ⟨t, rfl⟩
    · exact Kb.refl _
    · exact Lib.bytesWorld_below _ _ _
  clear hw
  go_wp2_with fail
  refine (q2.out _).mono ?_
  rintro e w2 ⟨rfl, rfl⟩
  go_wp2
  go_ret2
  exact ⟨rfl, hk⟩
set_option maxRecDepth 100000 in
set_option maxHeartbeats 4000000 in
theorem gParse_ok (s t : ByteArray) (c : UInt8) (d : UInt8) (k n : Nat) (hk : k < 10) (hn5 : 5 ≤ n) (hn : n ≤ 12) (hs : 1 ≤ s.size) (hs2 : s.size ≤ 100) (hc : c.toNat < 128) (h1 : s.extract 0 1 = ⟨#[c]⟩) (h2 : s.extract 1 s.size = t)
    (hl : (⟨(Lib.toLowerA [c]).toArray⟩ : ByteArray) = ⟨#[d]⟩) (hi : Lib.indexByte letB.data.toList d = (k : Int)) (q2 : Gq 37 #[.string t] (.tuple #[.int .i64 (n : Int), .bool true])) (hs0 : s[0]'hs = c) (hd : letB[k]'(show k < 10 from hk) = d) (w : World) (hg : Glo w) :
    Calls Tryd.prog 12 #[.string s] w fun r w' => r = .returned (.tuple #[.agg #[.bool ((c.toNat : Int) != (d.toNat : Int)), .int .i64 (k : Int), .int .i64 (n : Int)], .int .i64 0]) ∧ Kb w w' := by
  have q1 := Lib.hid (fun W => Tryd.strings_ToLower_ascii ⟨#[c]⟩ W (show 1 ≤ 140737488355328 by decide) (fun j b hj => by
    rcases j with _ | j
    · simp at hj; subst hj; exact hc
    · simp at hj))
  have q3 := Lib.hid (fun W => Tryd.strings_Index_one letB d W)
  have q4 := gcheckGrade (n : Int)
  have e0 : grE (n : Int) = 0 := if_pos (by omega)
  rw [e0] at q4
  unfold Gs at q4
  unfold Gq at q2
  have hne : (s.toList == []) = false := by
    have : s.toList.length = s.size := by rw [ByteArray.toList_eq]; simp
    cases h : s.toList with
    | nil => rw [h] at this; simp at this; omega
    | cons a b => rfl
  have kk := (Kb.refl w).alloc (.cells #[.bool false, .int .i64 0, .int .i64 0] 23 (0, 0))
  have cls := Is.made w #[.bool false, .int .i64 0, .int .i64 0] 23
  go_enter Tryd.func12, Tryd.ntmps12
  go_wp2_with fail
  refine (q1.out _).mono ?_
  rintro e w1 ⟨rfl, k1⟩
  have kk := kk.trans k1
  have cls := cls.kb k1
  have hg1 := hg.kb kk
  rw [hl]
  go_wp2_with fail
  refine (q3.out _).mono ?_
  rintro e w2 ⟨rfl, rfl⟩
  rw [hi]
  go_wp2_with fail
  with_reducible refine (q2.out _ hg1).mono ?_
  rintro e w3 ⟨rfl, k3⟩
  have kk := kk.trans k3
  have cls := cls.kb k3
  have hg2 := hg1.kb k3
  go_wp2_with fail
  with_reducible refine (q4.out _ hg2).mono ?_
  rintro e w4 ⟨rfl, rfl⟩
  have f0 := cls.f 0
  have f1 := cls.f 1
  have f2 := cls.f 2
  have c0 := cls.c (i := 0) rfl
  have c1 := cls.c (i := 1) rfl
  have c2 := cls.c (i := 2) rfl
  go_wp2_with fail
  have i1 : (0 : Int) ≤ (k : Int) := by omega
  have i2 : (k : Int) < 10 := by omega
  have i3 : 0 < s.size := hs
  have i4 : s[0] = c := hs0
  have i5 : letB[k]'(show k < 10 from hk) = d := hd
  clear q1 q2 q3 q4 h1 h2 hl hi hg hg1 hg2
  go_region
  all_goals go_wp2
  all_goals refine ret_row2 Tryd.results12 rfl rfl rfl (((cls.set 0 _).set 1 _).set 2 _).drew Tryd.underlying23 rfl (by kernel_rfl) ?_
  all_goals exact ⟨rfl, (((kk.setCell (Nat.le_refl _) _).setCell (Nat.le_refl _) _).setCell (Nat.le_refl _) _).drew⟩

/-! the letters -/
def lowU (k : Nat) : UInt8 := letB.data.toList.getD k 0
def uppU (k : Nat) : UInt8 := lowU k - 32
def headU (h : Bool) (k : Nat) : UInt8 := if h then uppU k else lowU k
def digL : Nat → List UInt8
  | 5 => [53] | 6 => [54] | 7 => [55] | 8 => [56] | 9 => [57] | 10 => [49, 48] | 11 => [49, 49] | _ => [49, 50]
def digB (n : Nat) : ByteArray := ⟨(digL n).toArray⟩
def txtC (h : Bool) (k n : Nat) : ByteArray := (⟨#[headU h k]⟩ : ByteArray) ++ digB n
theorem let_facts (k : Nat) (hk : k < 10) : letB[k]'(show k < 10 from hk) = lowU k ∧ Lib.indexByte letB.data.toList (lowU k) = (k : Int) ∧ Lib.toLowerA [lowU k] = [lowU k] ∧ Lib.toLowerA [uppU k] = [lowU k] ∧ Lib.toUpperA [lowU k] = [uppU k] ∧ (lowU k).toNat < 128 ∧ (uppU k).toNat < 128 ∧ ((uppU k).toNat : Int) ≠ ((lowU k).toNat : Int) ∧ letB.extract k (k + 1) = ⟨#[lowU k]⟩ := by
  rcases lt10 hk with rfl | rfl | rfl | rfl | rfl | rfl | rfl | rfl | rfl | rfl <;> exact ⟨by rfl, by rfl, by rfl, by rfl, by rfl, by decide, by decide, by decide, by rfl⟩
theorem gr_cases {n : Nat} (h5 : 5 ≤ n) (h : n ≤ 12) : n = 5 ∨ n = 6 ∨ n = 7 ∨ n = 8 ∨ n = 9 ∨ n = 10 ∨ n = 11 ∨ n = 12 := by omega
theorem dec_dig (n : Nat) (h5 : 5 ≤ n) (h : n ≤ 12) : (⟨(Lib.decDigits n).toArray⟩ : ByteArray) = digB n := by
  rcases gr_cases h5 h with rfl | rfl | rfl | rfl | rfl | rfl | rfl | rfl <;> kernel_rfl
theorem dig_facts (n : Nat) (h5 : 5 ≤ n) (h : n ≤ 12) (c : UInt8) : Lib.atoiAll (digB n).data.toList = .ok (n : Int) ∧ (digB n).size ≤ 2 ∧ ((⟨#[c]⟩ : ByteArray) ++ digB n).extract 0 1 = ⟨#[c]⟩ ∧ ((⟨#[c]⟩ : ByteArray) ++ digB n).extract 1 ((⟨#[c]⟩ : ByteArray) ++ digB n).size = digB n ∧ 1 ≤ ((⟨#[c]⟩ : ByteArray) ++ digB n).size ∧ ((⟨#[c]⟩ : ByteArray) ++ digB n).size ≤ 100 := by
  rcases gr_cases h5 h with rfl | rfl | rfl | rfl | rfl | rfl | rfl | rfl <;> exact ⟨by kernel_rfl, Nat.le_of_ble_eq_true (by kernel_rfl), by kernel_rfl, by kernel_rfl, Nat.le_of_ble_eq_true (by kernel_rfl), Nat.le_of_ble_eq_true (by kernel_rfl)⟩
theorem gParse (h : Bool) (k n : Nat) (hk : k < 10) (h5 : 5 ≤ n) (hn : n ≤ 12) : Gq 12 #[.string (txtC h k n)] (.tuple #[.agg #[.bool h, .int .i64 (k : Int), .int .i64 (n : Int)], .int .i64 0]) := Lib.hid fun w hg => by
  obtain ⟨a1, a2, a3, a4, a5, a6, a7, a8, a9⟩ := let_facts k hk
  obtain ⟨b1, b2, b3, b4, b5, b6⟩ := dig_facts n h5 hn (headU h k)
  have q2 := gnatural_ok (digB n) n (by omega) (by omega) b1 (dec_dig n h5 hn)
  have hh : Lib.toLowerA [headU h k] = [lowU k] := by cases h <;> assumption
  have hc : (headU h k).toNat < 128 := by cases h <;> assumption
  have hq : (((headU h k).toNat : Int) != ((lowU k).toNat : Int)) = h := by
    cases h with
    | true => exact bne_iff_ne.2 a8
    | false => exact bne_self_eq_false _
  have hs0 : (txtC h k n)[0]'b5 = headU h k := by unfold txtC; rfl
  have := gParse_ok (txtC h k n) (digB n) (headU h k) (lowU k) k n hk h5 hn b5 b6 hc b3 b4 (by rw [hh]) a2 q2 hs0 a1 w hg
  rwa [hq] at this

set_option maxRecDepth 100000 in
set_option maxHeartbeats 4000000 in
theorem gFormat (h : Bool) (k n : Nat) (hk : k < 10) (h5 : 5 ≤ n) (hn : n ≤ 12) : Gq 14 #[.agg #[.bool h, .int .i64 (k : Int), .int .i64 (n : Int)]] (.tuple #[.string (txtC h k n), .int .i64 0]) := Lib.hid fun w hg => by
  obtain ⟨a1, a2, a3, a4, a5, a6, a7, a8, a9⟩ := let_facts k hk
  have q1 := gCheck h (k : Int) (n : Int)
  have e0 : clE (k : Int) (n : Int) = 0 := by unfold clE grE; rw [if_pos (by omega), if_pos (by omega)]
  rw [e0] at q1
  unfold Gq at q1
  have q2 := Lib.hid (fun W => Tryd.strconv_Itoa_small n (by omega) W)
  rw [dec_dig n h5 hn] at q2
  have q3 := Lib.hid (fun W => Tryd.strings_ToUpper_ascii ⟨#[lowU k]⟩ W (show 1 ≤ 140737488355328 by decide) (fun j b hj => by
    rcases j with _ | j
    · simp at hj; subst hj; exact a6
    · simp at hj))
  rw [show (⟨#[lowU k]⟩ : ByteArray).data.toList = [lowU k] from rfl, a5] at q3
  have hD : ¬ 9223372036854775807 < 1 + (digB n).size := by have := (dig_facts n h5 hn 0).2.1; omega
  have T : Hid (txtC h k n = (⟨#[headU h k]⟩ : ByteArray) ++ digB n) := rfl
  have kk := (Kb.refl w).alloc (.cells #[.bool h, .int .i64 (k : Int), .int .i64 (n : Int)] 23 (0, 0))
  have cls := Is.made w #[.bool h, .int .i64 (k : Int), .int .i64 (n : Int)] 23
  have hg1 := hg.kb kk
  have c0 := cls.c (i := 0) rfl
  have c1 := cls.c (i := 1) rfl
  have c2 := cls.c (i := 2) rfl
  have i1 : (0 : Int) ≤ (k : Int) := by omega
  have i2 : (k : Int) < 10 := by omega
  have i3 : k ≤ 10 := by omega
  have i4 : k + 1 ≤ 10 := by omega
  have hd1 : Hid (headU true k = uppU k) := rfl
  have hd0 : Hid (headU false k = lowU k) := rfl
  clear a1 a2 a3 a4 a5 a6 a7 a8 e0
  generalize txtC h k n = X at *
  generalize lowU k = d at *
  generalize uppU k = u at *
  generalize digB n = D at *
  go_enter Tryd.func14, Tryd.ntmps14
  go_wp2_with fail
  with_reducible refine (q1.out _ hg1).mono ?_
  rintro r w1 ⟨rfl, k1⟩
  have kk1 := kk.trans k1
  have cls1 := cls.kb k1
  clear kk cls c0 c1 c2 hg1
  have c0 := cls1.c (i := 0) rfl
  have c1 := cls1.c (i := 1) rfl
  have c2 := cls1.c (i := 2) rfl
  cases h with
  | true =>
    go_wp2_with fail
    refine (q3.out _).mono ?_
    rintro r w2 ⟨rfl, k2⟩
    have k3 : Kb w1 w2 := k2
    have kk2 := kk1.trans k3
    have cls2 := cls1.kb k3
    have c2 := cls2.c (i := 2) rfl
    go_wp2_with fail
    refine (q2.out _).mono ?_
    rintro r w3 ⟨rfl, rfl⟩
    go_wp2
    go_ret2
    exact ⟨by rw [T.out, hd1.out]; rfl, kk2⟩
  | false =>
    go_wp2_with fail
    refine (q2.out _).mono ?_
    rintro r w3 ⟨rfl, rfl⟩
    go_wp2
    go_ret2
    exact ⟨by rw [T.out, hd0.out]; rfl, kk1⟩
end Go.Proofs.YthifdgddegpbjaaDoor
