/- Texts Gv, Few2: each says in its own first comment what it proves. -/
import Derived.Test.YtminjcknmhgpiaaGreatDoorM45
import Derived.Test.YtminjcknmhgpiaaGreatDoorM44
import Derived.Test.YtminjcknmhgpiaaGreatDoorM46
import Derived.Test.YtminjcknmhgpiaaGreatDoorM23
import Derived.Test.YtminjcknmhgpiaaGreatDoorSmall
/- Calls that return a value and keep the old blocks. -/
namespace Go.Proofs.YtminjcknmhgpiaaGreatDoor
open Go.RowKit
open Go.Lib (nDigits itoa decDigits)

/-- a call that returns a value and keeps the old blocks, in worlds that keep what w has -/
def Gw (w : World) (n : Nat) (args : Array Value) (v : Value) : Prop := ∀ W : World, Kp [] w W → Calls Tryz.prog n args W fun e w' => e = .returned v ∧ Kp [] W w'
section
variable {n : Nat} {args : Array Value} {v : Value} {w : World}
theorem gw_of (h : ∀ W, Calls Tryz.prog n args W fun e w' => e = .returned v ∧ Kp [] W w') : Hid (Gw w n args v) := fun W _ => h W
theorem gw_same (h : ∀ W, Calls Tryz.prog n args W fun e w' => e = .returned v ∧ W = w') : Hid (Gw w n args v) := fun W _ => (h W).mono fun _ _ ⟨a, b⟩ => ⟨a, b ▸ Kp.refl _ _⟩
theorem gw_awake (hl : Tab w) : Hid (Gw w 11 #[] (.bool true)) := fun W k => awakeR_any W (tab_kp hl k)
end
theorem zero_list : (S 0).toList = [48] := by rw [S_zero]; decide +kernel
theorem isZero_S (x : Int) : ((S x).toList == [48]) = decide (x = 0) := by rw [← zero_list]; exact S_beq x 0

end Go.Proofs.YtminjcknmhgpiaaGreatDoor

/- Few and FewInt of the reference of layer 2. -/
namespace Go.Proofs.YtminjcknmhgpiaaGreatDoor
open Go.RowKit
open Go.Lib (nDigits itoa decDigits)

set_option maxRecDepth 100000 in
set_option maxHeartbeats 4000000 in
theorem fewInt_any (a : ByteArray) (w : World) (ha : a.size ≤ 9223372036854775807) :
    Calls Tryz.prog 22 #[.string a] w fun e w' => e = .returned (.bool (decide (a.size ≤ 120))) ∧ w = w' := by
  have ha' : (a.size : Int) ≤ 9223372036854775807 := by omega
  go_enter Tryz.func22, Tryz.ntmps22
  go_wp2
  go_ret
  refine ⟨?_, rfl⟩
  show Ending.returned (.bool (decide ((a.size : Int) ≤ 120))) = _
  congr 2
  exact decide_eq_decide.2 (by omega)
theorem fewInt_t {w : World} {a : ByteArray} (h : a.size ≤ 120) : Hid (Gw w 22 #[.string a] (.bool true)) := gw_same fun W => by
  have := fewInt_any a W (by omega)
  rwa [decide_eq_true h] at this
theorem fewInt_f {w : World} {a : ByteArray} (ha : a.size ≤ 9223372036854775807) (h : ¬ a.size ≤ 120) : Hid (Gw w 22 #[.string a] (.bool false)) := gw_same fun W => by
  have := fewInt_any a W ha
  rwa [decide_eq_false h] at this
/-- a text with few bytes before and behind the slash, or with too many -/
def fewB (a : ByteArray) : Bool := decide ((cN a).size ≤ 120) && decide ((cD a).size ≤ 120) || (decide (a.size < 5000) && (decide (1025 < (cN a).size) || decide (1025 < (cD a).size)))

set_option maxRecDepth 100000 in
set_option maxHeartbeats 4000000 in
theorem few_1 (a n d : ByteArray) (w : World) (za : (a.size : Int) ≤ 9223372036854775807) (zn : (n.size : Int) ≤ 9223372036854775807) (zd : (d.size : Int) ≤ 9223372036854775807) (s : Hid (Gw w 55 #[.string a] (.tuple #[.string n, .string d])))
    (f1 : Hid (Gw w 22 #[.string n] (.bool true))) (f2 : Hid (Gw w 22 #[.string d] (.bool true)))  :
    Calls Tryz.prog 10 #[.string a] w fun e w' => e = .returned (.bool true) ∧ Kp [] w w' := by
  unfold Gw at s f1 f2
  have kk := Kp.refl [] w
  go_enter Tryz.func10, Tryz.ntmps10
  go_wp2_with fail
  with_reducible refine (s.out _ kk).mono ?_
  rintro e w1 ⟨rfl, k⟩
  replace kk := kk.trans k; clear k
  go_wp2_with fail
  with_reducible refine (f1.out _ kk).mono ?_
  rintro e w2 ⟨rfl, k⟩
  replace kk := kk.trans k; clear k
  go_wp2_with fail
  with_reducible refine (f2.out _ kk).mono ?_
  rintro e w3 ⟨rfl, k⟩
  replace kk := kk.trans k; clear k
  go_wp2
  go_ret
  first | exact ⟨rfl, kk⟩ | (refine ⟨?_, kk⟩; congr 2; first | exact decide_eq_true (by omega) | exact decide_eq_false (by omega))

set_option maxRecDepth 100000 in
set_option maxHeartbeats 4000000 in
theorem few_2 (a n d : ByteArray) (w : World) (za : (a.size : Int) ≤ 9223372036854775807) (zn : (n.size : Int) ≤ 9223372036854775807) (zd : (d.size : Int) ≤ 9223372036854775807) (s : Hid (Gw w 55 #[.string a] (.tuple #[.string n, .string d])))
    (f1 : Hid (Gw w 22 #[.string n] (.bool true))) (f2 : Hid (Gw w 22 #[.string d] (.bool false))) (ha : ¬ (a.size : Int) < 5000) :
    Calls Tryz.prog 10 #[.string a] w fun e w' => e = .returned (.bool false) ∧ Kp [] w w' := by
  unfold Gw at s f1 f2
  have kk := Kp.refl [] w
  go_enter Tryz.func10, Tryz.ntmps10
  go_wp2_with fail
  with_reducible refine (s.out _ kk).mono ?_
  rintro e w1 ⟨rfl, k⟩
  replace kk := kk.trans k; clear k
  go_wp2_with fail
  with_reducible refine (f1.out _ kk).mono ?_
  rintro e w2 ⟨rfl, k⟩
  replace kk := kk.trans k; clear k
  go_wp2_with fail
  with_reducible refine (f2.out _ kk).mono ?_
  rintro e w3 ⟨rfl, k⟩
  replace kk := kk.trans k; clear k
  go_wp2
  go_ret
  first | exact ⟨rfl, kk⟩ | (refine ⟨?_, kk⟩; congr 2; first | exact decide_eq_true (by omega) | exact decide_eq_false (by omega))

set_option maxRecDepth 100000 in
set_option maxHeartbeats 4000000 in
theorem few_3 (a n d : ByteArray) (w : World) (za : (a.size : Int) ≤ 9223372036854775807) (zn : (n.size : Int) ≤ 9223372036854775807) (zd : (d.size : Int) ≤ 9223372036854775807) (s : Hid (Gw w 55 #[.string a] (.tuple #[.string n, .string d])))
    (f1 : Hid (Gw w 22 #[.string n] (.bool true))) (f2 : Hid (Gw w 22 #[.string d] (.bool false))) (ha : (a.size : Int) < 5000) (hn : ¬ (n.size : Int) > 1025) (hd : (d.size : Int) > 1025) :
    Calls Tryz.prog 10 #[.string a] w fun e w' => e = .returned (.bool true) ∧ Kp [] w w' := by
  unfold Gw at s f1 f2
  have kk := Kp.refl [] w
  go_enter Tryz.func10, Tryz.ntmps10
  go_wp2_with fail
  with_reducible refine (s.out _ kk).mono ?_
  rintro e w1 ⟨rfl, k⟩
  replace kk := kk.trans k; clear k
  go_wp2_with fail
  with_reducible refine (f1.out _ kk).mono ?_
  rintro e w2 ⟨rfl, k⟩
  replace kk := kk.trans k; clear k
  go_wp2_with fail
  with_reducible refine (f2.out _ kk).mono ?_
  rintro e w3 ⟨rfl, k⟩
  replace kk := kk.trans k; clear k
  go_wp2
  go_ret
  first | exact ⟨rfl, kk⟩ | (refine ⟨?_, kk⟩; congr 2; first | exact decide_eq_true (by omega) | exact decide_eq_false (by omega))

set_option maxRecDepth 100000 in
set_option maxHeartbeats 4000000 in
theorem few_4 (a n d : ByteArray) (w : World) (za : (a.size : Int) ≤ 9223372036854775807) (zn : (n.size : Int) ≤ 9223372036854775807) (zd : (d.size : Int) ≤ 9223372036854775807) (s : Hid (Gw w 55 #[.string a] (.tuple #[.string n, .string d])))
    (f1 : Hid (Gw w 22 #[.string n] (.bool true))) (f2 : Hid (Gw w 22 #[.string d] (.bool false))) (ha : (a.size : Int) < 5000) (hn : ¬ (n.size : Int) > 1025) (hd : ¬ (d.size : Int) > 1025) :
    Calls Tryz.prog 10 #[.string a] w fun e w' => e = .returned (.bool false) ∧ Kp [] w w' := by
  unfold Gw at s f1 f2
  have kk := Kp.refl [] w
  go_enter Tryz.func10, Tryz.ntmps10
  go_wp2_with fail
  with_reducible refine (s.out _ kk).mono ?_
  rintro e w1 ⟨rfl, k⟩
  replace kk := kk.trans k; clear k
  go_wp2_with fail
  with_reducible refine (f1.out _ kk).mono ?_
  rintro e w2 ⟨rfl, k⟩
  replace kk := kk.trans k; clear k
  go_wp2_with fail
  with_reducible refine (f2.out _ kk).mono ?_
  rintro e w3 ⟨rfl, k⟩
  replace kk := kk.trans k; clear k
  go_wp2
  go_ret
  refine ⟨?_, kk⟩
  show Ending.returned (.bool (decide ((1025 : Int) < (n.size : Int)) || decide ((1025 : Int) < (d.size : Int)))) = _
  rw [decide_eq_false (by omega : ¬ (1025 : Int) < (d.size : Int)), decide_eq_false (by omega : ¬ (1025 : Int) < (n.size : Int))]
  rfl

set_option maxRecDepth 100000 in
set_option maxHeartbeats 4000000 in
theorem few_5 (a n d : ByteArray) (w : World) (za : (a.size : Int) ≤ 9223372036854775807) (zn : (n.size : Int) ≤ 9223372036854775807) (zd : (d.size : Int) ≤ 9223372036854775807) (s : Hid (Gw w 55 #[.string a] (.tuple #[.string n, .string d])))
    (f1 : Hid (Gw w 22 #[.string n] (.bool false)))  (ha : ¬ (a.size : Int) < 5000) :
    Calls Tryz.prog 10 #[.string a] w fun e w' => e = .returned (.bool false) ∧ Kp [] w w' := by
  unfold Gw at s f1
  have kk := Kp.refl [] w
  go_enter Tryz.func10, Tryz.ntmps10
  go_wp2_with fail
  with_reducible refine (s.out _ kk).mono ?_
  rintro e w1 ⟨rfl, k⟩
  replace kk := kk.trans k; clear k
  go_wp2_with fail
  with_reducible refine (f1.out _ kk).mono ?_
  rintro e w2 ⟨rfl, k⟩
  replace kk := kk.trans k; clear k
  go_wp2
  go_ret
  first | exact ⟨rfl, kk⟩ | (refine ⟨?_, kk⟩; congr 2; first | exact decide_eq_true (by omega) | exact decide_eq_false (by omega))

set_option maxRecDepth 100000 in
set_option maxHeartbeats 4000000 in
theorem few_6 (a n d : ByteArray) (w : World) (za : (a.size : Int) ≤ 9223372036854775807) (zn : (n.size : Int) ≤ 9223372036854775807) (zd : (d.size : Int) ≤ 9223372036854775807) (s : Hid (Gw w 55 #[.string a] (.tuple #[.string n, .string d])))
    (f1 : Hid (Gw w 22 #[.string n] (.bool false)))  (ha : (a.size : Int) < 5000) (hn : (n.size : Int) > 1025) :
    Calls Tryz.prog 10 #[.string a] w fun e w' => e = .returned (.bool true) ∧ Kp [] w w' := by
  unfold Gw at s f1
  have kk := Kp.refl [] w
  go_enter Tryz.func10, Tryz.ntmps10
  go_wp2_with fail
  with_reducible refine (s.out _ kk).mono ?_
  rintro e w1 ⟨rfl, k⟩
  replace kk := kk.trans k; clear k
  go_wp2_with fail
  with_reducible refine (f1.out _ kk).mono ?_
  rintro e w2 ⟨rfl, k⟩
  replace kk := kk.trans k; clear k
  go_wp2
  go_ret
  first | exact ⟨rfl, kk⟩ | (refine ⟨?_, kk⟩; congr 2; first | exact decide_eq_true (by omega) | exact decide_eq_false (by omega))

set_option maxRecDepth 100000 in
set_option maxHeartbeats 4000000 in
theorem few_7 (a n d : ByteArray) (w : World) (za : (a.size : Int) ≤ 9223372036854775807) (zn : (n.size : Int) ≤ 9223372036854775807) (zd : (d.size : Int) ≤ 9223372036854775807) (s : Hid (Gw w 55 #[.string a] (.tuple #[.string n, .string d])))
    (f1 : Hid (Gw w 22 #[.string n] (.bool false)))  (ha : (a.size : Int) < 5000) (hn : ¬ (n.size : Int) > 1025) (hd : (d.size : Int) > 1025) :
    Calls Tryz.prog 10 #[.string a] w fun e w' => e = .returned (.bool true) ∧ Kp [] w w' := by
  unfold Gw at s f1
  have kk := Kp.refl [] w
  go_enter Tryz.func10, Tryz.ntmps10
  go_wp2_with fail
  with_reducible refine (s.out _ kk).mono ?_
  rintro e w1 ⟨rfl, k⟩
  replace kk := kk.trans k; clear k
  go_wp2_with fail
  with_reducible refine (f1.out _ kk).mono ?_
  rintro e w2 ⟨rfl, k⟩
  replace kk := kk.trans k; clear k
  go_wp2
  go_ret
  first | exact ⟨rfl, kk⟩ | (refine ⟨?_, kk⟩; congr 2; first | exact decide_eq_true (by omega) | exact decide_eq_false (by omega))

set_option maxRecDepth 100000 in
set_option maxHeartbeats 4000000 in
theorem few_8 (a n d : ByteArray) (w : World) (za : (a.size : Int) ≤ 9223372036854775807) (zn : (n.size : Int) ≤ 9223372036854775807) (zd : (d.size : Int) ≤ 9223372036854775807) (s : Hid (Gw w 55 #[.string a] (.tuple #[.string n, .string d])))
    (f1 : Hid (Gw w 22 #[.string n] (.bool false)))  (ha : (a.size : Int) < 5000) (hn : ¬ (n.size : Int) > 1025) (hd : ¬ (d.size : Int) > 1025) :
    Calls Tryz.prog 10 #[.string a] w fun e w' => e = .returned (.bool false) ∧ Kp [] w w' := by
  unfold Gw at s f1
  have kk := Kp.refl [] w
  go_enter Tryz.func10, Tryz.ntmps10
  go_wp2_with fail
  with_reducible refine (s.out _ kk).mono ?_
  rintro e w1 ⟨rfl, k⟩
  replace kk := kk.trans k; clear k
  go_wp2_with fail
  with_reducible refine (f1.out _ kk).mono ?_
  rintro e w2 ⟨rfl, k⟩
  replace kk := kk.trans k; clear k
  go_wp2
  go_ret
  refine ⟨?_, kk⟩
  show Ending.returned (.bool (decide ((1025 : Int) < (n.size : Int)) || decide ((1025 : Int) < (d.size : Int)))) = _
  rw [decide_eq_false (by omega : ¬ (1025 : Int) < (d.size : Int)), decide_eq_false (by omega : ¬ (1025 : Int) < (n.size : Int))]
  rfl

theorem few_any (a : ByteArray) (w : World) (ha : a.size ≤ 9223372036854775807) :
    Calls Tryz.prog 10 #[.string a] w fun e w' => e = .returned (.bool (fewB a)) ∧ Kp [] w w' := by
  have s : Hid (Gw w 55 #[.string a] (.tuple #[.string (cN a), .string (cD a)])) := gw_of fun W => Split_any a W ha
  have zn : (cN a).size ≤ 9223372036854775807 := Nat.le_trans (cN_le a) ha
  have zd : (cD a).size ≤ 9223372036854775807 := by have := cD_le a; omega
  unfold fewB
  generalize cN a = n at *
  generalize cD a = d at *
  by_cases h1 : n.size ≤ 120
  · by_cases h2 : d.size ≤ 120
    · rw [decide_eq_true h1, decide_eq_true h2]
      exact few_1 a n d w (by omega) (by omega) (by omega) s (fewInt_t h1) (fewInt_t h2)
    · by_cases h3 : a.size < 5000
      · by_cases h5 : 1025 < d.size
        · rw [decide_eq_false h2, decide_eq_true h3, decide_eq_true h5, Bool.and_false, Bool.or_true]
          exact few_3 a n d w (by omega) (by omega) (by omega) s (fewInt_t h1) (fewInt_f zd h2) (by omega) (by omega) (by omega)
        · rw [decide_eq_false h2, decide_eq_false h5, decide_eq_false (show ¬ 1025 < n.size by omega), Bool.and_false, Bool.or_false, Bool.and_false]
          exact few_4 a n d w (by omega) (by omega) (by omega) s (fewInt_t h1) (fewInt_f zd h2) (by omega) (by omega) (by omega)
      · rw [decide_eq_false h2, decide_eq_false h3, Bool.and_false, Bool.false_and]
        exact few_2 a n d w (by omega) (by omega) (by omega) s (fewInt_t h1) (fewInt_f zd h2) (by omega)
  · rw [decide_eq_false h1, Bool.false_and, Bool.false_or]
    by_cases h3 : a.size < 5000
    · rw [decide_eq_true h3, Bool.true_and]
      by_cases h4 : 1025 < n.size
      · rw [decide_eq_true h4, Bool.true_or]
        exact few_6 a n d w (by omega) (by omega) (by omega) s (fewInt_f zn h1) (by omega) (by omega)
      · rw [decide_eq_false h4, Bool.false_or]
        by_cases h5 : 1025 < d.size
        · rw [decide_eq_true h5]
          exact few_7 a n d w (by omega) (by omega) (by omega) s (fewInt_f zn h1) (by omega) (by omega) (by omega)
        · rw [decide_eq_false h5]
          exact few_8 a n d w (by omega) (by omega) (by omega) s (fewInt_f zn h1) (by omega) (by omega) (by omega)
    · rw [decide_eq_false h3, Bool.false_and]
      exact few_5 a n d w (by omega) (by omega) (by omega) s (fewInt_f zn h1) (by omega)
/-- what few texts are: wrong, or those of small numbers -/
theorem few_cases {a : ByteArray} (h : fewB a = true) : spE a ≠ 0 ∧ a.size ≤ 5000 ∨ ∃ q, a = RS q ∧ Sm 120 q ∧ (S q.num).size ≤ 120 ∧ (S (q.den : Int)).size ≤ 120 := by
  have hle := cN_le a
  have hcut := cut_size a
  unfold fewB at h
  by_cases hs : spE a = 0
  · right
    obtain ⟨q, rfl, hq⟩ := RS_of_sp hs
    obtain ⟨e1, e2, _⟩ := sp_RS hq
    rw [e1, e2] at h
    have z1 := hq.1.size
    have z2 := hq.2.size
    have h2 : (S q.num).size ≤ 120 ∧ (S (q.den : Int)).size ≤ 120 := by
      simp only [Bool.or_eq_true, Bool.and_eq_true, decide_eq_true_eq] at h
      omega
    have n1 : nDigits q.num.natAbs ≤ 120 := by
      have : nDigits q.num.natAbs ≤ (S q.num).size := by
        by_cases hn : q.num < 0
        · have := (S_neg hn).2; omega
        · have := (S_nn (z := q.num) (by omega)).2; omega
      omega
    have n2 : nDigits q.den ≤ 120 := by
      have := (S_nn (z := (q.den : Int)) (by omega)).2
      rw [Int.natAbs_natCast] at this
      omega
    exact ⟨q, rfl, ⟨nd_len_lt n1 (by omega), nd_len_lt n2 (by omega)⟩, h2.1, h2.2⟩
  · left
    refine ⟨hs, ?_⟩
    simp only [Bool.or_eq_true, Bool.and_eq_true, decide_eq_true_eq] at h
    omega

end Go.Proofs.YtminjcknmhgpiaaGreatDoor
