/- Texts RTurned, RAdd, RLess, RNumber, RBrief, RBare: each says in its own first comment what it proves. -/
import Derived.Test.YtiommpdbbpddpaaGreatM13
import Derived.Test.YtiommpdbbpddpaaGreatM11
import Derived.Test.YtiommpdbbpddpaaGreatM12
import Derived.OwnWalk
/- The reference's Below, signed, Turned and Neg. -/
namespace Go.Proofs.YtiommpdbbpddpaaGreat
open Go.RowKit
open Go.Lib (nDigits itoa decDigits)

set_option maxHeartbeats 1000000 in
theorem below_any (z : Int) (w : World) :
    Calls Tryz.prog 52 #[.string (S z)] w fun e w' => e = .returned (.bool (decide (z < 0))) ∧ w = w' := by
  obtain ⟨hpos, h1, _⟩ := S_first z
  have hv : Hid ((((S z)[0].toNat : Int) == 45) = decide (z < 0)) := by
    show _ = _
    by_cases h : z < 0
    · rw [h1.2 h]; simp [h]
    · have h2 : (S z)[0] ≠ 45 := fun e => h (h1.1 e)
      have h3 : ((S z)[0].toNat : Int) ≠ 45 := fun e => h2 (UInt8.toNat_inj.1 (by
        have : (S z)[0].toNat = 45 := by omega
        rw [this]; rfl))
      simp [h, h3]
  clear h1
  generalize decide (z < 0) = d at *
  generalize S z = s at *
  go_enter Tryz.func52, Tryz.ntmps52
  go_wp2
  go_ret
  exact ⟨by rw [← hv.out]; rfl, rfl⟩

theorem magB_S (z : Int) : magB (S z) = S (z.natAbs : Int) := by
  apply eq_S_of_list
  rw [magB_list, S_list, mag_itoa]
  unfold itoa
  rw [if_neg (by omega)]
  rfl
theorem S_ne_zero {n : Nat} (h : n ≠ 0) : ((S (n : Int)).toList != [48]) = true := by
  rw [bne_iff_ne]; intro e
  have := S_eq_zero.1 e
  omega

set_option maxHeartbeats 1000000 in
theorem signed_any (n : Nat) (m : Bool) (w : World) (hsz : (S (n : Int)).size ≤ 1000000) :
    Calls Tryz.prog 53 #[.string (S (n : Int)), .bool m] w fun e w' => e = .returned (.string (S (if m then -(n : Int) else n))) ∧ w = w' := by
  cases m with
  | false =>
    have hv : Hid (S (if false = true then -(n : Int) else n) = S (n : Int)) := rfl
    rw [hv.out]
    clear hsz
    generalize S (n : Int) = s
    clear hv
    go_enter Tryz.func53, Tryz.ntmps53
    go_wp2
    go_ret
    exact ⟨rfl, rfl⟩
  | true =>
    by_cases h : n = 0
    · subst h
      rw [show S (if true = true then -((0 : Nat) : Int) else ((0 : Nat) : Int)) = ⟨#[48]⟩ from S_zero, show S ((0 : Nat) : Int) = ⟨#[48]⟩ from S_zero]
      go_enter Tryz.func53, Tryz.ntmps53
      go_wp2
      go_ret
      exact ⟨rfl, rfl⟩
    · have hne := S_ne_zero h
      have hne3 : ((S (n : Int)).toList == [48]) = false := by simpa using hne
      clear hne
      have hv := Lib.hid (S_minus (z := (n : Int)) (by omega))
      rw [show (if true = true then -(n : Int) else n) = -(n : Int) from rfl]
      clear h
      generalize S (-(n : Int)) = r at *
      generalize S (n : Int) = s at *
      go_enter Tryz.func53, Tryz.ntmps53
      go_wp2
      go_ret
      exact ⟨by rw [← hv.out]; rfl, rfl⟩

set_option maxHeartbeats 1000000 in
theorem turned_any (z : Int) (w : World) (hsz : (S z).size ≤ 100000) :
    Calls Tryz.prog 78 #[.string (S z)] w fun e w' => e = .returned (.string (S (-z))) ∧ w = w' := by
  have q1 := Lib.hid (fun W => rsize_any (S z) W (by omega))
  have hm := magB_S z
  have hle := magB_le (S z)
  rw [hm] at q1 hle
  have q2 := Lib.hid (fun W => below_any z W)
  have q3 := Lib.hid (fun W => signed_any z.natAbs (!decide (z < 0)) W (by omega))
  have hv : (if (!decide (z < 0)) = true then -(z.natAbs : Int) else z.natAbs) = -z := by
    by_cases h : z < 0
    · simp [h]; omega
    · simp [h]; omega
  rw [hv] at q3
  clear hv hm hle hsz
  generalize S (-z) = r at *
  generalize S (z.natAbs : Int) = m at *
  generalize S z = s at *
  generalize decide (z < 0) = d at *
  go_enter Tryz.func78, Tryz.ntmps78
  go_wp2_with fail
  refine (q1.out _).mono ?_
  rintro e w' ⟨rfl, rfl⟩
  go_wp2_with fail
  refine (q2.out _).mono ?_
  rintro e w' ⟨rfl, rfl⟩
  go_wp2_with fail
  refine (q3.out _).mono ?_
  rintro e w' ⟨rfl, rfl⟩
  go_wp2
  go_ret
  exact ⟨rfl, rfl⟩







































end Go.Proofs.YtiommpdbbpddpaaGreat

/- The reference's Add, Sub, Order and Compare, under the contract of its Plus. -/
namespace Go.Proofs.YtiommpdbbpddpaaGreat
open Go.RowKit

/-- the contract of the reference's Plus -/
def PlusAll : Prop := Hid (∀ (x y : Int) (W : World), Ok x → Ok y → Calls Tryz.prog 77 #[.string (S x), .string (S y)] W fun e w' => e = .returned (.string (S (x + y))) ∧ Kp [] W w')

set_option maxHeartbeats 1000000 in
theorem minus_any (hp : PlusAll) (x y : Int) (w : World) (hx : Ok x) (hy : Ok y) :
    Calls Tryz.prog 51 #[.string (S x), .string (S y)] w fun e w' => e = .returned (.string (S (x - y))) ∧ Kp [] w w' := by
  have q1 := Lib.hid (fun W => turned_any y W (Nat.le_trans hy.size (by decide)))
  have q2 := Lib.hid (fun W => hp.out x (-y) W hx hy.neg)
  rw [← Int.sub_eq_add_neg] at q2
  clear hp hx hy
  generalize S (x - y) = r at *
  generalize S (-y) = n at *
  generalize S x = a at *
  generalize S y = b at *
  go_enter Tryz.func51, Tryz.ntmps51
  go_wp2_with fail
  refine (q1.out _).mono ?_
  rintro e w' ⟨rfl, rfl⟩
  go_wp2_with fail
  refine (q2.out _).mono ?_
  rintro e w' ⟨rfl, hk⟩
  go_wp2
  go_ret
  exact ⟨rfl, hk⟩
























































































set_option maxHeartbeats 1000000 in
theorem rorder_any (hp : PlusAll) (x y : Int) (w : World) (hx : Ok x) (hy : Ok y) :
    Calls Tryz.prog 33 #[.string (S x), .string (S y)] w fun e w' => e = .returned (.int .i64 (cmpI x y)) ∧ Kp [] w w' := by
  have q1 := Lib.hid (fun W => minus_any hp x y W hx hy)
  have q2 := Lib.hid (fun W => below_any (x - y) W)
  by_cases h0 : x = y
  · have hv : Hid (cmpI x y = 0) := by show cmpI x y = 0; unfold cmpI; rw [if_neg (by omega), if_pos h0]
    rw [show x - y = 0 by omega, S_zero] at q1
    rw [hv.out]
    clear hp hx hy q2 hv h0
    generalize S x = a at *
    generalize S y = b at *
    go_enter Tryz.func33, Tryz.ntmps33
    go_wp2_with fail
    refine (q1.out _).mono ?_
    rintro e w' ⟨rfl, hk⟩
    go_wp2
    go_ret
    exact ⟨rfl, hk⟩
  · have hz : ¬ (S (x - y)).toList = [48] := fun e => h0 (by have := S_eq_zero.1 e; omega)
    have hz2 : ((S (x - y)).toList == [48]) = false := by simpa using hz
    by_cases h : x < y
    · have hv : Hid (cmpI x y = -1) := by show cmpI x y = -1; exact if_pos h
      rw [decide_eq_true (show x - y < 0 by omega)] at q2
      rw [hv.out]
      clear hp hx hy hv h0 h hz
      generalize S (x - y) = r at *
      generalize S x = a at *
      generalize S y = b at *
      go_enter Tryz.func33, Tryz.ntmps33
      go_wp2_with fail
      refine (q1.out _).mono ?_
      rintro e w' ⟨rfl, hk⟩
      go_wp2_with fail
      refine (q2.out _).mono ?_
      rintro e w' ⟨rfl, rfl⟩
      go_wp2
      go_ret
      exact ⟨rfl, hk⟩
    · have hv : Hid (cmpI x y = 1) := by show cmpI x y = 1; unfold cmpI; rw [if_neg h, if_neg h0]
      rw [decide_eq_false (show ¬ x - y < 0 by omega)] at q2
      rw [hv.out]
      clear hp hx hy hv h0 h hz
      generalize S (x - y) = r at *
      generalize S x = a at *
      generalize S y = b at *
      go_enter Tryz.func33, Tryz.ntmps33
      go_wp2_with fail
      refine (q1.out _).mono ?_
      rintro e w' ⟨rfl, hk⟩
      go_wp2_with fail
      refine (q2.out _).mono ?_
      rintro e w' ⟨rfl, rfl⟩
      go_wp2
      go_ret
      exact ⟨rfl, hk⟩





































end Go.Proofs.YtiommpdbbpddpaaGreat

/- The reference's less: the order of digits. -/
namespace Go.Proofs.YtiommpdbbpddpaaGreat
open Go.RowKit
open Go.Lib (nDigits itoa decDigits)

set_option maxHeartbeats 1000000 in
theorem rless_any (s t : ByteArray) (r : Bool) (w : World) (h : Shorter s.size t.size (Op.bytesLess s.toList t.toList) r) :
    Calls Tryz.prog 99 #[.string s, .string t] w fun e w' => e = .returned (.bool r) ∧ w = w' := by
  rcases h with ⟨h1, rfl⟩ | ⟨h1, rfl⟩ | ⟨h1, rfl⟩
  · have hl : (s.size : Int) < (t.size : Int) := by omega
    clear h1
    go_enter Tryz.func99, Tryz.ntmps99
    go_wp2
    go_ret
    exact ⟨rfl, rfl⟩
  · have hl : ¬ (s.size : Int) < (t.size : Int) := by omega
    have he : ((s.size : Int) == (t.size : Int)) = true := by simp [h1]
    have H := Lib.hid h1; clear h1
    generalize hq : Op.bytesLess s.toList t.toList = q at *
    have hn : (s.size : Int) = (t.size : Int) := by simpa using he
    clear he
    go_enter Tryz.func99, Tryz.ntmps99
    go_wp2
    go_ret
    exact ⟨rfl, rfl⟩
  · have hl : ¬ (s.size : Int) < (t.size : Int) := by omega
    have he : ((s.size : Int) == (t.size : Int)) = false := by simp; omega
    clear h1
    go_enter Tryz.func99, Tryz.ntmps99
    go_wp2
    go_ret
    exact ⟨rfl, rfl⟩

theorem rless_S (u v : Nat) (w : World) :
    Calls Tryz.prog 99 #[.string (S (u : Int)), .string (S (v : Int))] w fun e w' => e = .returned (.bool (decide (u < v))) ∧ w = w' := by
  refine rless_any _ _ _ w ?_
  obtain ⟨a1, a2⟩ := S_nn (z := (u : Int)) (by omega)
  obtain ⟨b1, b2⟩ := S_nn (z := (v : Int)) (by omega)
  rw [a1, a2, b1, b2, Int.natAbs_natCast, Int.natAbs_natCast]
  exact shorter_dec u v 0
end Go.Proofs.YtiommpdbbpddpaaGreat

/- The reference's number: the int of a short text. -/
namespace Go.Proofs.YtiommpdbbpddpaaGreat
open Go.RowKit
open Go.Lib (nDigits itoa decDigits)

set_option maxHeartbeats 1000000 in
theorem number_core (a s : ByteArray) (d : Bool) (v : Int) (w : World) (hd : s.data.toList.all isDig = true) (hs : s.size ≤ 18)
    (q1 : Hid (∀ W, Calls Tryz.prog 50 #[.string a] W fun e w' => e = .returned (.string s) ∧ W = w'))
    (q2 : Hid (∀ W, Calls Tryz.prog 52 #[.string a] W fun e w' => e = .returned (.bool d) ∧ W = w'))
    (hv : Hid (v = if d then -(valN s.data.toList : Int) else valN s.data.toList)) (hlt : valN s.data.toList < 1000000000000000000) :
    Calls Tryz.prog 79 #[.string a] w fun e w' => e = .returned (.int .i64 v) ∧ w = w' := by
  have Hlt := Lib.hid hlt; clear hlt
  go_enter Tryz.func79, Tryz.ntmps79
  go_wp2_with fail
  refine (q1.out _).mono ?_
  rintro e w' ⟨rfl, rfl⟩
  go_wp2
  go_loop [3, 5] (fun a i => ∃ k : Nat, k ≤ s.size ∧ i = .int .i64 k ∧ a = .int .i64 (valN (s.data.toList.take k) : Int)) (fun _ i => s.size - (intOf i).toNat)
  case atStart => exact ⟨0, Nat.zero_le _, rfl, rfl⟩
  case round =>
    obtain ⟨k, hk, rfl, rfl⟩ := hrel
    by_cases hlt : k < s.size
    · have hsn := valN_snoc (s.data.toList.take k) s[k]
      rw [← take_snoc s k hlt] at hsn
      have HS := Lib.hid hsn; clear hsn
      have hb := dig_at hd hlt
      have hv2 : valN (s.data.toList.take k) < 100000000000000000 := by
        have h1 := valN_lt _ (all_take hd k)
        rw [List.length_take] at h1
        exact Nat.lt_of_lt_of_le h1 (by rw [show 100000000000000000 = 10 ^ 17 from rfl]; exact Nat.pow_le_pow_right (by decide) (by omega))
      obtain ⟨hb1, hb2⟩ := hb
      go_wp2
      go_round
      case rel => exact ⟨k + 1, by omega, by go_num, val_i (by rw [HS.out]; omega)⟩
      case measure => simp [intOf]; omega
    · obtain rfl : k = s.size := by omega
      have ht := Lib.hid (show valN (s.data.toList.take s.size) = valN s.data.toList by rw [List.take_of_length_le (by simp)])
      rw [ht.out]
      have hv3 := Hlt.out
      generalize valN s.data.toList = m at *
      cases d with
      | true =>
        have hv' : Hid (v = -(m : Int)) := hv.out
        go_wp2_with fail
        refine (q2.out _).mono ?_
        rintro e w' ⟨rfl, rfl⟩
        go_wp2
        go_ret
        exact ⟨by rw [hv'.out]; rfl, rfl⟩
      | false =>
        have hv' : Hid (v = (m : Int)) := hv.out
        go_wp2_with fail
        refine (q2.out _).mono ?_
        rintro e w' ⟨rfl, rfl⟩
        go_wp2
        go_ret
        exact ⟨by rw [hv'.out]; rfl, rfl⟩

theorem number_any (z : Int) (w : World) (hz : nDigits z.natAbs ≤ 18) :
    Calls Tryz.prog 79 #[.string (S z)] w fun e w' => e = .returned (.int .i64 z) ∧ w = w' := by
  obtain ⟨a1, a2⟩ := S_nn (z := (z.natAbs : Int)) (by omega)
  rw [Int.natAbs_natCast] at a1 a2
  rw [Lib.toList_data] at a1
  have hsz := S_size z
  refine number_core (S z) (S (z.natAbs : Int)) (decide (z < 0)) z w (by rw [a1]; exact dec_all _) (by omega) ?_ (fun W => below_any z W) ?_ ?_
  · intro W
    have := rsize_any (S z) W (by omega)
    rwa [magB_S] at this
  · show z = _
    rw [a1, valN_dec]
    by_cases h : z < 0
    · simp [h]; omega
    · simp [h]; omega
  · rw [a1, valN_dec]
    exact (nd_le_iff (k := 18) (by omega)).1 hz
end Go.Proofs.YtiommpdbbpddpaaGreat

/- The reference's brief: two texts as ints, if both are short. -/
namespace Go.Proofs.YtiommpdbbpddpaaGreat
open Go.RowKit
open Go.Lib (nDigits itoa decDigits)

def SizeIs (a m : ByteArray) : Prop := Hid (∀ W, Calls Tryz.prog 50 #[.string a] W fun e w' => e = .returned (.string m) ∧ W = w')
theorem size_S (z : Int) (h : (S z).size ≤ 100000) : SizeIs (S z) (S (z.natAbs : Int)) := by
  intro W
  have := rsize_any (S z) W (by omega)
  rwa [magB_S] at this
theorem abs_size (z : Int) : (S (z.natAbs : Int)).size = nDigits z.natAbs := by
  have := (S_nn (z := (z.natAbs : Int)) (by omega)).2
  rwa [Int.natAbs_natCast] at this

set_option maxHeartbeats 1000000 in
theorem brief_yes (a b m n : ByteArray) (x y : Int) (w : World) (q1 : SizeIs a m) (q2 : SizeIs b n) (hm : ¬ (18 : Int) < (m.size : Int)) (hn : ¬ (18 : Int) < (n.size : Int))
    (q3 : Hid (∀ W, Calls Tryz.prog 79 #[.string a] W fun e w' => e = .returned (.int .i64 x) ∧ W = w'))
    (q4 : Hid (∀ W, Calls Tryz.prog 79 #[.string b] W fun e w' => e = .returned (.int .i64 y) ∧ W = w')) :
    Calls Tryz.prog 54 #[.string a, .string b] w fun e w' => e = .returned (.tuple #[.int .i64 x, .int .i64 y, .bool true]) ∧ w = w' := by
  go_enter Tryz.func54, Tryz.ntmps54
  go_wp2_with fail
  refine (q1.out _).mono ?_
  rintro e w' ⟨rfl, rfl⟩
  go_wp2_with fail
  refine (q2.out _).mono ?_
  rintro e w' ⟨rfl, rfl⟩
  go_wp2_with fail
  refine (q3.out _).mono ?_
  rintro e w' ⟨rfl, rfl⟩
  go_wp2_with fail
  refine (q4.out _).mono ?_
  rintro e w' ⟨rfl, rfl⟩
  go_wp2
  refine bodyPost_ret (results_tmp3 rfl _ _ _) rfl ?_
  exact ⟨rfl, rfl⟩

set_option maxHeartbeats 1000000 in
theorem brief_no1 (a b m : ByteArray) (w : World) (q1 : SizeIs a m) (hm : (18 : Int) < (m.size : Int)) :
    Calls Tryz.prog 54 #[.string a, .string b] w fun e w' => e = .returned (.tuple #[.int .i64 0, .int .i64 0, .bool false]) ∧ w = w' := by
  go_enter Tryz.func54, Tryz.ntmps54
  go_wp2_with fail
  refine (q1.out _).mono ?_
  rintro e w' ⟨rfl, rfl⟩
  go_wp2
  refine bodyPost_ret (results_tmp3 rfl _ _ _) rfl ?_
  exact ⟨rfl, rfl⟩
set_option maxHeartbeats 1000000 in
theorem brief_no2 (a b m n : ByteArray) (w : World) (q1 : SizeIs a m) (q2 : SizeIs b n) (hm : ¬ (18 : Int) < (m.size : Int)) (hn : (18 : Int) < (n.size : Int)) :
    Calls Tryz.prog 54 #[.string a, .string b] w fun e w' => e = .returned (.tuple #[.int .i64 0, .int .i64 0, .bool false]) ∧ w = w' := by
  go_enter Tryz.func54, Tryz.ntmps54
  go_wp2_with fail
  refine (q1.out _).mono ?_
  rintro e w' ⟨rfl, rfl⟩
  go_wp2_with fail
  refine (q2.out _).mono ?_
  rintro e w' ⟨rfl, rfl⟩
  go_wp2
  refine bodyPost_ret (results_tmp3 rfl _ _ _) rfl ?_
  exact ⟨rfl, rfl⟩

/-- both are short -/
def Brief (x y : Int) : Prop := nDigits x.natAbs ≤ 18 ∧ nDigits y.natAbs ≤ 18
theorem brief_S (x y : Int) (w : World) (hx : (S x).size ≤ 100000) (hy : (S y).size ≤ 100000) (h : Brief x y) :
    Calls Tryz.prog 54 #[.string (S x), .string (S y)] w fun e w' => e = .returned (.tuple #[.int .i64 x, .int .i64 y, .bool true]) ∧ w = w' :=
  brief_yes _ _ _ _ x y w (size_S x hx) (size_S y hy) (by rw [abs_size]; have := h.1; omega) (by rw [abs_size]; have := h.2; omega) (fun W => number_any x W h.1) (fun W => number_any y W h.2)
theorem brief_not (x y : Int) (w : World) (hx : (S x).size ≤ 100000) (hy : (S y).size ≤ 100000) (h : ¬ Brief x y) :
    Calls Tryz.prog 54 #[.string (S x), .string (S y)] w fun e w' => e = .returned (.tuple #[.int .i64 0, .int .i64 0, .bool false]) ∧ w = w' := by
  by_cases h1 : nDigits x.natAbs ≤ 18
  · exact brief_no2 _ _ _ _ w (size_S x hx) (size_S y hy) (by rw [abs_size]; omega) (by rw [abs_size]; have : ¬ nDigits y.natAbs ≤ 18 := fun k => h ⟨h1, k⟩; omega)
  · exact brief_no1 _ _ _ w (size_S x hx) (by rw [abs_size]; omega)
end Go.Proofs.YtiommpdbbpddpaaGreat

/- The reference's bare: digits without zeros in front. -/
namespace Go.Proofs.YtiommpdbbpddpaaGreat
open Go.RowKit
open Go.Lib (nDigits itoa decDigits)

theorem valN_zero_cons (l : List UInt8) : valN (48 :: l) = valN l := by simp [valN]
theorem S_of_canon {t : ByteArray} (h : canonM t.data.toList = true) : t = S (valN t.data.toList : Int) := by
  apply eq_S_of_list
  unfold itoa
  rw [if_neg (by omega), show ((valN t.data.toList : Nat) : Int).toNat = valN t.data.toList by omega]
  exact (canonM_iff _).1 h
theorem cons_of {t : ByteArray} (h : 0 < t.size) : t.data.toList = t[0] :: t.data.toList.drop 1 := by
  have hl : 0 < t.data.toList.length := by simpa using h
  conv => lhs; rw [← List.drop_zero (l := t.data.toList), List.drop_eq_getElem_cons hl]
  rfl

set_option maxHeartbeats 1000000 in
theorem bare_any (s : ByteArray) (w : World) (hs : 0 < s.size) (hsz : s.size ≤ 1000000) (hd : s.data.toList.all isDig = true) :
    Calls Tryz.prog 100 #[.string s] w fun e w' => e = .returned (.string (S (valN s.data.toList : Int))) ∧ w = w' := by
  go_enter Tryz.func100, Tryz.ntmps100
  go_wp2
  go_loopg [0] s.size (fun gk s0 wr => ∃ t : ByteArray, s0 = .string t ∧ t.size = gk ∧ 0 < t.size ∧ gk ≤ 1000000 ∧ Hid (t.data.toList.all isDig = true) ∧ Hid (valN t.data.toList = valN s.data.toList) ∧ w = wr)
  case atStart => exact ⟨s, rfl, rfl, hs, hsz, hd, rfl, rfl⟩
  case round =>
    obtain ⟨t, rfl, hk, h0, hk1, hdt, hvt, rfl⟩ := hrel
    have hcons := Lib.hid (cons_of h0)
    by_cases h1 : 1 < t.size
    · have h1' : (1 : Int) < (t.size : Int) := by omega
      by_cases h48 : t[0] = 48
      · have hb : t[0].toNat = 48 := by rw [h48]; rfl
        have H48 := Lib.hid h48; clear h48
        have hk' := Lib.hid hk; clear hk
        go_wp2
        go_roundg (gk - 1)
        case measure => have := hk'.out; omega
        case rel =>
          have hk := hk'.out
          have hl : (t.extract 1 t.size).data.toList = t.data.toList.drop 1 := by
            rw [Lib.extract_data, List.take_of_length_le (by rw [List.length_drop, Lib.size_eq]; omega)]
          have hc := hcons.out
          rw [H48.out] at hc
          refine ⟨t.extract 1 t.size, rfl, ?_, ?_, by omega, ?_, ?_, rfl⟩
          · rw [Lib.size_eq, hl, List.length_drop]; have := Lib.size_eq t; omega
          · rw [Lib.size_eq, hl, List.length_drop]; have := Lib.size_eq t; omega
          · show _ = true
            rw [hl]
            have := hdt.out
            rw [hc, List.all_cons, Bool.and_eq_true] at this
            exact this.2
          · show _ = _
            rw [hl, ← hvt.out]
            conv => rhs; rw [hc]
            rw [valN_zero_cons]
      · have hb : ¬ (t[0].toNat : Int) = 48 := fun e => h48 (UInt8.toNat_inj.1 (by
          have : t[0].toNat = 48 := by omega
          rw [this]; rfl))
        have hb2 : ((t[0].toNat : Int) == 48) = false := by simpa using hb
        have hcan : canonM t.data.toList = true := by
          unfold canonM
          have h48' := h48
          rw [hdt.out, hcons.out]
          simp [h48']
        have hv : Hid (S (valN s.data.toList : Int) = t) := by
          show S _ = t
          rw [← hvt.out]; exact (S_of_canon hcan).symm
        clear h48 hcan hb
        go_wp2
        go_ret
        exact ⟨by rw [hv.out]; rfl, rfl⟩
    · have h1' : ¬ (1 : Int) < (t.size : Int) := by omega
      have hcan : canonM t.data.toList = true := by
        unfold canonM
        have hlen : t.data.toList.length = 1 := by rw [← Lib.size_eq]; omega
        rw [hdt.out, hlen]
        have : t.data.toList.isEmpty = false := by
          cases hq : t.data.toList with
          | nil => rw [hq] at hlen; simp at hlen
          | cons _ _ => rfl
        rw [this]; simp
      have hv : Hid (S (valN s.data.toList : Int) = t) := by
        show S _ = t
        rw [← hvt.out]; exact (S_of_canon hcan).symm
      clear hcan
      go_wp2
      go_ret
      exact ⟨by rw [hv.out]; rfl, rfl⟩
end Go.Proofs.YtiommpdbbpddpaaGreat
