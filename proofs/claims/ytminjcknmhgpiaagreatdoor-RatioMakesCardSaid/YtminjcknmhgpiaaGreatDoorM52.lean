/- Texts RMake2, Makes2: each says in its own first comment what it proves. -/
import Derived.Test.YtminjcknmhgpiaaGreatDoorM51
import Derived.Test.YtminjcknmhgpiaaGreatDoorM38
import Derived.Test.YtminjcknmhgpiaaGreatDoorM47
/- Make and Whole of the reference of layer 2. -/
namespace Go.Proofs.YtminjcknmhgpiaaGreatDoor
open Go.RowKit
open Go.Lib (nDigits itoa decDigits)

set_option maxRecDepth 100000 in
set_option maxHeartbeats 4000000 in
theorem rmake_e1 (n d : ByteArray) (c : Int) (w : World) (hc : (c == 0) = false) (q1 : Hid (Gw w 67 #[.string n] (.int .i64 c))) :
    Calls Tryz.prog 24 #[.string n, .string d] w fun e w' => e = .returned (.tuple #[.string ⟨#[]⟩, .int .i64 c]) ∧ Kp [] w w' := by
  unfold Gw at q1
  have kk := Kp.refl [] w
  go_enter Tryz.func24, Tryz.ntmps24
  go_wp2_with fail
  with_reducible refine (q1.out _ kk).mono ?_
  rintro e w1 ⟨rfl, k⟩
  replace kk := kk.trans k; clear k
  go_wp2
  go_ret2
  exact ⟨rfl, kk⟩

set_option maxRecDepth 100000 in
set_option maxHeartbeats 4000000 in
theorem rmake_e2 (n d : ByteArray) (c : Int) (w : World) (hc : (c == 0) = false) (q1 : Hid (Gw w 67 #[.string n] (.int .i64 0))) (q2 : Hid (Gw w 67 #[.string d] (.int .i64 c))) :
    Calls Tryz.prog 24 #[.string n, .string d] w fun e w' => e = .returned (.tuple #[.string ⟨#[]⟩, .int .i64 c]) ∧ Kp [] w w' := by
  unfold Gw at q1 q2
  have kk := Kp.refl [] w
  go_enter Tryz.func24, Tryz.ntmps24
  go_wp2_with fail
  with_reducible refine (q1.out _ kk).mono ?_
  rintro e w1 ⟨rfl, k⟩
  replace kk := kk.trans k; clear k
  go_wp2_with fail
  with_reducible refine (q2.out _ kk).mono ?_
  rintro e w2 ⟨rfl, k⟩
  replace kk := kk.trans k; clear k
  go_wp2
  go_ret2
  exact ⟨rfl, kk⟩

set_option maxRecDepth 100000 in
set_option maxHeartbeats 4000000 in
theorem rmake_z (n d : ByteArray) (w : World) (hd : (d.toList == [48]) = true) (q1 : Hid (Gw w 67 #[.string n] (.int .i64 0))) (q2 : Hid (Gw w 67 #[.string d] (.int .i64 0))) :
    Calls Tryz.prog 24 #[.string n, .string d] w fun e w' => e = .returned (.tuple #[.string ⟨#[]⟩, .int .i64 10]) ∧ Kp [] w w' := by
  unfold Gw at q1 q2
  have kk := Kp.refl [] w
  go_enter Tryz.func24, Tryz.ntmps24
  go_wp2_with fail
  with_reducible refine (q1.out _ kk).mono ?_
  rintro e w1 ⟨rfl, k⟩
  replace kk := kk.trans k; clear k
  go_wp2_with fail
  with_reducible refine (q2.out _ kk).mono ?_
  rintro e w2 ⟨rfl, k⟩
  replace kk := kk.trans k; clear k
  go_wp2
  go_ret2
  exact ⟨rfl, kk⟩

set_option maxRecDepth 100000 in
set_option maxHeartbeats 4000000 in
theorem rmake_0 (n d s : ByteArray) (w : World) (hd : (d.toList == [48]) = false) (q1 : Hid (Gw w 67 #[.string n] (.int .i64 0))) (q2 : Hid (Gw w 67 #[.string d] (.int .i64 0))) (q3 : Hid (Gw w 75 #[.string n, .string d] (.string s))) :
    Calls Tryz.prog 24 #[.string n, .string d] w fun e w' => e = .returned (.tuple #[.string s, .int .i64 0]) ∧ Kp [] w w' := by
  unfold Gw at q1 q2 q3
  have kk := Kp.refl [] w
  go_enter Tryz.func24, Tryz.ntmps24
  go_wp2_with fail
  with_reducible refine (q1.out _ kk).mono ?_
  rintro e w1 ⟨rfl, k⟩
  replace kk := kk.trans k; clear k
  go_wp2_with fail
  with_reducible refine (q2.out _ kk).mono ?_
  rintro e w2 ⟨rfl, k⟩
  replace kk := kk.trans k; clear k
  go_wp2_with fail
  with_reducible refine (q3.out _ kk).mono ?_
  rintro e w3 ⟨rfl, k⟩
  replace kk := kk.trans k; clear k
  go_wp2
  go_ret2
  exact ⟨rfl, kk⟩

/-- MAKE of the reference, for any texts -/
theorem rmake_any (n d : ByteArray) (w : World) (hn : n.size ≤ 9223372036854775807) (hd : d.size ≤ 9223372036854775807) :
    Calls Tryz.prog 24 #[.string n, .string d] w fun e w' => e = .returned (.tuple #[.string (rT (redN n d) (redD n d) (mkE n d)), .int .i64 (mkE n d)]) ∧ Kp [] w w' := by
  have q1 : Hid (Gw w 67 #[.string n] (.int .i64 (chk n.data.toList))) := gw_same fun W => rcheck_any n W hn
  have q2 : Hid (Gw w 67 #[.string d] (.int .i64 (chk d.data.toList))) := gw_same fun W => rcheck_any d W hd
  by_cases h1 : chk n.data.toList = 0
  · by_cases h2 : chk d.data.toList = 0
    · rw [h1] at q1
      rw [h2] at q2
      obtain ⟨x, rfl, hx⟩ := of_chk_zero h1
      obtain ⟨y, rfl, hy⟩ := of_chk_zero h2
      by_cases h0 : y = 0
      · subst h0
        have e : mkE (S x) (S 0) = 10 := by
          unfold mkE
          rw [h1, h2, signI_S hy]
          rfl
        rw [e]
        exact rmake_z _ _ w (by rw [isZero_S]; rfl) q1 q2
      · obtain ⟨e1, e2⟩ := qMake_RS hx hy h0
        rw [e2, e1]
        exact rmake_0 _ _ _ w (by rw [isZero_S]; exact decide_eq_false h0) q1 q2 (gw_of fun W => lowest_S hx hy h0 W)
    · have e : mkE n d = chk d.data.toList := by
        unfold mkE
        rw [h1]
        unfold kp
        rw [if_pos rfl, if_neg h2]
      have e2 : rT (redN n d) (redD n d) (mkE n d) = ⟨#[]⟩ := by rw [e]; exact if_neg h2
      rw [e2, e]
      rw [h1] at q1
      exact rmake_e2 n d _ w (beq_eq_false_iff_ne.2 h2) q1 q2
  · have e : mkE n d = chk n.data.toList := by
      unfold mkE
      unfold kp
      rw [if_neg h1]
    have e2 : rT (redN n d) (redD n d) (mkE n d) = ⟨#[]⟩ := by rw [e]; exact if_neg h1
    rw [e2, e]
    exact rmake_e1 n d _ w (beq_eq_false_iff_ne.2 h1) q1

set_option maxRecDepth 100000 in
set_option maxHeartbeats 4000000 in
theorem rwhole_any (n : Int) (w : World) (hn : I64 n) :
    Calls Tryz.prog 28 #[.int .i64 n] w fun e w' => e = .returned (.string (S n)) ∧ Kp [] w w' := by
  have q : Hid (Gw w 76 #[.int .i64 n] (.string (S n))) := gw_of fun W => of_any n W hn.1 (by have := hn.2; omega)
  generalize S n = t at *
  unfold Gw at q
  have kk := Kp.refl [] w
  go_enter Tryz.func28, Tryz.ntmps28
  go_wp2_with fail
  with_reducible refine (q.out _ kk).mono ?_
  rintro e w1 ⟨rfl, k⟩
  replace kk := kk.trans k; clear k
  go_wp2
  go_ret
  exact ⟨rfl, kk⟩

end Go.Proofs.YtminjcknmhgpiaaGreatDoor

/- RatioMakes returns true for every input. -/
namespace Go.Proofs.YtminjcknmhgpiaaGreatDoor
open Go.RowKit
open Go.Lib (nDigits itoa decDigits)

set_option maxRecDepth 100000 in
set_option maxHeartbeats 4000000 in
theorem makes_a1 (n d : ByteArray) (w : World) (zn : (n.size : Int) ≤ 9223372036854775807) (zd : (d.size : Int) ≤ 9223372036854775807) (f1 : Hid (Gw w 22 #[.string n] (.bool true))) (f2 : Hid (Gw w 22 #[.string d] (.bool false))) (h1 : (n.size : Int) ≤ 1025) (aw : Hid (Gw w 11 #[] (.bool true))) :
    Calls Tryz.prog 4 #[.string n, .string d] w fun e w' => e = .returned (.bool true) ∧ Kp [] w w' := by
  unfold Gw at f1 f2 aw
  have kk := Kp.refl [] w
  go_enter Tryz.func4, Tryz.ntmps4
  go_wp2_with fail
  with_reducible refine (f1.out _ kk).mono ?_
  rintro e w1 ⟨rfl, k⟩
  replace kk := kk.trans k; clear k
  go_wp2_with fail
  with_reducible refine (f2.out _ kk).mono ?_
  rintro e w2 ⟨rfl, k⟩
  replace kk := kk.trans k; clear k
  go_wp2_with fail
  with_reducible refine (aw.out _ kk).mono ?_
  rintro e w3 ⟨rfl, k⟩
  replace kk := kk.trans k; clear k
  go_wp2
  go_ret
  exact ⟨rfl, kk⟩

set_option maxRecDepth 100000 in
set_option maxHeartbeats 4000000 in
theorem makes_a2 (n d : ByteArray) (w : World) (zn : (n.size : Int) ≤ 9223372036854775807) (zd : (d.size : Int) ≤ 9223372036854775807) (f1 : Hid (Gw w 22 #[.string n] (.bool false)))  (h1 : (n.size : Int) ≤ 1025) (aw : Hid (Gw w 11 #[] (.bool true))) :
    Calls Tryz.prog 4 #[.string n, .string d] w fun e w' => e = .returned (.bool true) ∧ Kp [] w w' := by
  unfold Gw at f1 aw
  have kk := Kp.refl [] w
  go_enter Tryz.func4, Tryz.ntmps4
  go_wp2_with fail
  with_reducible refine (f1.out _ kk).mono ?_
  rintro e w1 ⟨rfl, k⟩
  replace kk := kk.trans k; clear k
  go_wp2_with fail
  with_reducible refine (aw.out _ kk).mono ?_
  rintro e w2 ⟨rfl, k⟩
  replace kk := kk.trans k; clear k
  go_wp2
  go_ret
  exact ⟨rfl, kk⟩

set_option maxRecDepth 100000 in
set_option maxHeartbeats 4000000 in
theorem makes_a3 (n d : ByteArray) (w : World) (zn : (n.size : Int) ≤ 9223372036854775807) (zd : (d.size : Int) ≤ 9223372036854775807) (f1 : Hid (Gw w 22 #[.string n] (.bool false)))  (h1 : ¬ (n.size : Int) ≤ 1025) (h2 : (n.size : Int) > 3000) (aw : Hid (Gw w 11 #[] (.bool true))) :
    Calls Tryz.prog 4 #[.string n, .string d] w fun e w' => e = .returned (.bool true) ∧ Kp [] w w' := by
  unfold Gw at f1 aw
  have kk := Kp.refl [] w
  go_enter Tryz.func4, Tryz.ntmps4
  go_wp2_with fail
  with_reducible refine (f1.out _ kk).mono ?_
  rintro e w1 ⟨rfl, k⟩
  replace kk := kk.trans k; clear k
  go_wp2_with fail
  with_reducible refine (aw.out _ kk).mono ?_
  rintro e w2 ⟨rfl, k⟩
  replace kk := kk.trans k; clear k
  go_wp2
  go_ret
  exact ⟨rfl, kk⟩

set_option maxRecDepth 100000 in
set_option maxHeartbeats 4000000 in
theorem makes_a4 (n d : ByteArray) (w : World) (zn : (n.size : Int) ≤ 9223372036854775807) (zd : (d.size : Int) ≤ 9223372036854775807) (f1 : Hid (Gw w 22 #[.string n] (.bool false)))  (h1 : ¬ (n.size : Int) ≤ 1025) (h2 : ¬ (n.size : Int) > 3000) (h3 : (d.size : Int) > 3000) (aw : Hid (Gw w 11 #[] (.bool true))) :
    Calls Tryz.prog 4 #[.string n, .string d] w fun e w' => e = .returned (.bool true) ∧ Kp [] w w' := by
  unfold Gw at f1 aw
  have kk := Kp.refl [] w
  go_enter Tryz.func4, Tryz.ntmps4
  go_wp2_with fail
  with_reducible refine (f1.out _ kk).mono ?_
  rintro e w1 ⟨rfl, k⟩
  replace kk := kk.trans k; clear k
  go_wp2_with fail
  with_reducible refine (aw.out _ kk).mono ?_
  rintro e w2 ⟨rfl, k⟩
  replace kk := kk.trans k; clear k
  go_wp2
  go_ret
  exact ⟨rfl, kk⟩

set_option maxRecDepth 100000 in
set_option maxHeartbeats 4000000 in
theorem makes_g1_x (n d : ByteArray) (w : World) (zn : (n.size : Int) ≤ 9223372036854775807) (zd : (d.size : Int) ≤ 9223372036854775807) (t s : ByteArray) (E u c v g : Int)  (f1 : Hid (Gw w 22 #[.string n] (.bool true))) (f2 : Hid (Gw w 22 #[.string d] (.bool true)))  (m1 : Hid (Gw w 23 #[.string n, .string d] (.tuple #[.string t, .int .i64 E]))) (m2 : Hid (Gw w 24 #[.string n, .string d] (.tuple #[.string t, .int .i64 E]))) (s1 : Hid (Gw w 25 #[.string n] (.tuple #[.int .i64 u, .int .i64 c]))) (s2 : Hid (Gw w 25 #[.string d] (.tuple #[.int .i64 v, .int .i64 g]))) (hc : (c == 0) = false) (aw : Hid (Gw w 11 #[] (.bool true))) :
    Calls Tryz.prog 4 #[.string n, .string d] w fun e w' => e = .returned (.bool true) ∧ Kp [] w w' := by
  unfold Gw at f1 f2 m1 m2 s1 s2 aw
  have kk := Kp.refl [] w
  go_enter Tryz.func4, Tryz.ntmps4
  go_wp2_with fail
  with_reducible refine (f1.out _ kk).mono ?_
  rintro e w1 ⟨rfl, k⟩
  replace kk := kk.trans k; clear k
  go_wp2_with fail
  with_reducible refine (f2.out _ kk).mono ?_
  rintro e w2 ⟨rfl, k⟩
  replace kk := kk.trans k; clear k
  go_wp2_with fail
  with_reducible refine (m1.out _ kk).mono ?_
  rintro e w3 ⟨rfl, k⟩
  replace kk := kk.trans k; clear k
  go_wp2_with fail
  with_reducible refine (m2.out _ kk).mono ?_
  rintro e w4 ⟨rfl, k⟩
  replace kk := kk.trans k; clear k
  go_wp2_with fail
  with_reducible refine (s1.out _ kk).mono ?_
  rintro e w5 ⟨rfl, k⟩
  replace kk := kk.trans k; clear k
  go_wp2_with fail
  with_reducible refine (s2.out _ kk).mono ?_
  rintro e w6 ⟨rfl, k⟩
  replace kk := kk.trans k; clear k
  go_wp2_with fail
  with_reducible refine (aw.out _ kk).mono ?_
  rintro e w7 ⟨rfl, k⟩
  replace kk := kk.trans k; clear k
  go_wp2
  go_ret
  exact ⟨rfl, kk⟩

set_option maxRecDepth 100000 in
set_option maxHeartbeats 4000000 in
theorem makes_g1_y (n d : ByteArray) (w : World) (zn : (n.size : Int) ≤ 9223372036854775807) (zd : (d.size : Int) ≤ 9223372036854775807) (t s : ByteArray) (E u c v g : Int)  (f1 : Hid (Gw w 22 #[.string n] (.bool true))) (f2 : Hid (Gw w 22 #[.string d] (.bool true)))  (m1 : Hid (Gw w 23 #[.string n, .string d] (.tuple #[.string t, .int .i64 E]))) (m2 : Hid (Gw w 24 #[.string n, .string d] (.tuple #[.string t, .int .i64 E]))) (s1 : Hid (Gw w 25 #[.string n] (.tuple #[.int .i64 u, .int .i64 c]))) (s2 : Hid (Gw w 25 #[.string d] (.tuple #[.int .i64 v, .int .i64 g]))) (hc : c = 0) (hg : (g == 0) = false) (aw : Hid (Gw w 11 #[] (.bool true))) :
    Calls Tryz.prog 4 #[.string n, .string d] w fun e w' => e = .returned (.bool true) ∧ Kp [] w w' := by
  subst hc
  unfold Gw at f1 f2 m1 m2 s1 s2 aw
  have kk := Kp.refl [] w
  go_enter Tryz.func4, Tryz.ntmps4
  go_wp2_with fail
  with_reducible refine (f1.out _ kk).mono ?_
  rintro e w1 ⟨rfl, k⟩
  replace kk := kk.trans k; clear k
  go_wp2_with fail
  with_reducible refine (f2.out _ kk).mono ?_
  rintro e w2 ⟨rfl, k⟩
  replace kk := kk.trans k; clear k
  go_wp2_with fail
  with_reducible refine (m1.out _ kk).mono ?_
  rintro e w3 ⟨rfl, k⟩
  replace kk := kk.trans k; clear k
  go_wp2_with fail
  with_reducible refine (m2.out _ kk).mono ?_
  rintro e w4 ⟨rfl, k⟩
  replace kk := kk.trans k; clear k
  go_wp2_with fail
  with_reducible refine (s1.out _ kk).mono ?_
  rintro e w5 ⟨rfl, k⟩
  replace kk := kk.trans k; clear k
  go_wp2_with fail
  with_reducible refine (s2.out _ kk).mono ?_
  rintro e w6 ⟨rfl, k⟩
  replace kk := kk.trans k; clear k
  go_wp2_with fail
  with_reducible refine (aw.out _ kk).mono ?_
  rintro e w7 ⟨rfl, k⟩
  replace kk := kk.trans k; clear k
  go_wp2
  go_ret
  exact ⟨rfl, kk⟩

set_option maxRecDepth 100000 in
set_option maxHeartbeats 4000000 in
theorem makes_g1_z (n d : ByteArray) (w : World) (zn : (n.size : Int) ≤ 9223372036854775807) (zd : (d.size : Int) ≤ 9223372036854775807) (t s : ByteArray) (E u c v g : Int)  (f1 : Hid (Gw w 22 #[.string n] (.bool true))) (f2 : Hid (Gw w 22 #[.string d] (.bool true)))  (m1 : Hid (Gw w 23 #[.string n, .string d] (.tuple #[.string t, .int .i64 E]))) (m2 : Hid (Gw w 24 #[.string n, .string d] (.tuple #[.string t, .int .i64 E]))) (s1 : Hid (Gw w 25 #[.string n] (.tuple #[.int .i64 u, .int .i64 c]))) (s2 : Hid (Gw w 25 #[.string d] (.tuple #[.int .i64 v, .int .i64 g]))) (hc : c = 0) (hg : g = 0) (o1 : Hid (Gw w 26 #[.int .i64 u, .int .i64 v] (.tuple #[.string t, .int .i64 E]))) (o2 : Hid (Gw w 27 #[.int .i64 u] (.string s))) (o3 : Hid (Gw w 28 #[.int .i64 u] (.string s))) (aw : Hid (Gw w 11 #[] (.bool true))) :
    Calls Tryz.prog 4 #[.string n, .string d] w fun e w' => e = .returned (.bool true) ∧ Kp [] w w' := by
  subst hc hg
  unfold Gw at f1 f2 m1 m2 s1 s2 o1 o2 o3 aw
  have kk := Kp.refl [] w
  go_enter Tryz.func4, Tryz.ntmps4
  go_wp2_with fail
  with_reducible refine (f1.out _ kk).mono ?_
  rintro e w1 ⟨rfl, k⟩
  replace kk := kk.trans k; clear k
  go_wp2_with fail
  with_reducible refine (f2.out _ kk).mono ?_
  rintro e w2 ⟨rfl, k⟩
  replace kk := kk.trans k; clear k
  go_wp2_with fail
  with_reducible refine (m1.out _ kk).mono ?_
  rintro e w3 ⟨rfl, k⟩
  replace kk := kk.trans k; clear k
  go_wp2_with fail
  with_reducible refine (m2.out _ kk).mono ?_
  rintro e w4 ⟨rfl, k⟩
  replace kk := kk.trans k; clear k
  go_wp2_with fail
  with_reducible refine (s1.out _ kk).mono ?_
  rintro e w5 ⟨rfl, k⟩
  replace kk := kk.trans k; clear k
  go_wp2_with fail
  with_reducible refine (s2.out _ kk).mono ?_
  rintro e w6 ⟨rfl, k⟩
  replace kk := kk.trans k; clear k
  go_wp2_with fail
  with_reducible refine (o1.out _ kk).mono ?_
  rintro e w7 ⟨rfl, k⟩
  replace kk := kk.trans k; clear k
  go_wp2_with fail
  with_reducible refine (o2.out _ kk).mono ?_
  rintro e w8 ⟨rfl, k⟩
  replace kk := kk.trans k; clear k
  go_wp2_with fail
  with_reducible refine (o3.out _ kk).mono ?_
  rintro e w9 ⟨rfl, k⟩
  replace kk := kk.trans k; clear k
  go_wp2_with fail
  with_reducible refine (aw.out _ kk).mono ?_
  rintro e w10 ⟨rfl, k⟩
  replace kk := kk.trans k; clear k
  go_wp2
  go_ret
  exact ⟨rfl, kk⟩

set_option maxRecDepth 100000 in
set_option maxHeartbeats 4000000 in
theorem makes_g2_x (n d : ByteArray) (w : World) (zn : (n.size : Int) ≤ 9223372036854775807) (zd : (d.size : Int) ≤ 9223372036854775807) (t s : ByteArray) (E u c v g : Int)  (f1 : Hid (Gw w 22 #[.string n] (.bool false)))  (h1 : ¬ (n.size : Int) ≤ 1025) (h2 : ¬ (n.size : Int) > 3000) (h3 : ¬ (d.size : Int) > 3000) (m1 : Hid (Gw w 23 #[.string n, .string d] (.tuple #[.string t, .int .i64 E]))) (m2 : Hid (Gw w 24 #[.string n, .string d] (.tuple #[.string t, .int .i64 E]))) (s1 : Hid (Gw w 25 #[.string n] (.tuple #[.int .i64 u, .int .i64 c]))) (s2 : Hid (Gw w 25 #[.string d] (.tuple #[.int .i64 v, .int .i64 g]))) (hc : (c == 0) = false) (aw : Hid (Gw w 11 #[] (.bool true))) :
    Calls Tryz.prog 4 #[.string n, .string d] w fun e w' => e = .returned (.bool true) ∧ Kp [] w w' := by
  unfold Gw at f1 m1 m2 s1 s2 aw
  have kk := Kp.refl [] w
  go_enter Tryz.func4, Tryz.ntmps4
  go_wp2_with fail
  with_reducible refine (f1.out _ kk).mono ?_
  rintro e w1 ⟨rfl, k⟩
  replace kk := kk.trans k; clear k
  go_wp2_with fail
  with_reducible refine (m1.out _ kk).mono ?_
  rintro e w2 ⟨rfl, k⟩
  replace kk := kk.trans k; clear k
  go_wp2_with fail
  with_reducible refine (m2.out _ kk).mono ?_
  rintro e w3 ⟨rfl, k⟩
  replace kk := kk.trans k; clear k
  go_wp2_with fail
  with_reducible refine (s1.out _ kk).mono ?_
  rintro e w4 ⟨rfl, k⟩
  replace kk := kk.trans k; clear k
  go_wp2_with fail
  with_reducible refine (s2.out _ kk).mono ?_
  rintro e w5 ⟨rfl, k⟩
  replace kk := kk.trans k; clear k
  go_wp2_with fail
  with_reducible refine (aw.out _ kk).mono ?_
  rintro e w6 ⟨rfl, k⟩
  replace kk := kk.trans k; clear k
  go_wp2
  go_ret
  exact ⟨rfl, kk⟩


theorem smE_zero {a : ByteArray} (h : smE a = 0) : ∃ z, a = S z ∧ Ok z ∧ I64 z ∧ smV a = z := by
  unfold smE at h
  by_cases h1 : chk a.data.toList = 0
  · rw [if_pos h1] at h
    obtain ⟨z, rfl, hz⟩ := of_chk_zero h1
    rw [valS_S] at h
    by_cases h2 : InI z
    · exact ⟨z, rfl, hz, h2, by unfold smV; rw [valS_S, if_pos ⟨h1, h2⟩]⟩
    · rw [if_neg h2] at h; cases h
  · rw [if_neg h1] at h; exact absurd h h1
/-- too long a text is wrong -/
theorem chk_long {a : ByteArray} (h : 1025 < a.size) : chk a.data.toList ≠ 0 := fun e => by
  obtain ⟨z, rfl, hz⟩ := of_chk_zero e
  have := hz.size
  omega
theorem Makes2_any (n d : ByteArray) (w : World) (zn : n.size ≤ 9223372036854775807) (zd : d.size ≤ 9223372036854775807) (hl : Tab w) :
    Calls Tryz.prog 4 #[.string n, .string d] w fun e w' => e = .returned (.bool true) ∧ Kp [] w w' := by
  have aw := gw_awake hl
  have go : n.size ≤ 3000 → d.size ≤ 3000 →
      Hid (Gw w 23 #[.string n, .string d] (.tuple #[.string (rT (redN n d) (redD n d) (mkE n d)), .int .i64 (mkE n d)])) ∧
      Hid (Gw w 24 #[.string n, .string d] (.tuple #[.string (rT (redN n d) (redD n d) (mkE n d)), .int .i64 (mkE n d)])) ∧
      Hid (Gw w 25 #[.string n] (.tuple #[.int .i64 (smV n), .int .i64 (smE n)])) ∧
      Hid (Gw w 25 #[.string d] (.tuple #[.int .i64 (smV d), .int .i64 (smE d)])) := fun h1 h2 =>
    ⟨gw_of fun W => qMake_any n d W (by omega) (by omega), gw_of fun W => rmake_any n d W zn zd, gw_of fun W => RSmall_any n W (by omega), gw_of fun W => RSmall_any d W (by omega)⟩
  by_cases h1 : n.size ≤ 120
  · by_cases h2 : d.size ≤ 120
    · obtain ⟨m1, m2, s1, s2⟩ := go (by omega) (by omega)
      by_cases e1 : smE n = 0
      · by_cases e2 : smE d = 0
        · obtain ⟨x, rfl, hx, ix, vx⟩ := smE_zero e1
          obtain ⟨y, rfl, hy, iy, vy⟩ := smE_zero e2
          rw [vx] at s1
          rw [vy] at s2
          exact makes_g1_z _ _ w (by omega) (by omega) _ (S x) _ _ _ _ _ (fewInt_t h1) (fewInt_t h2) m1 m2 s1 s2 e1 e2 (fun W k => qOf_any x y W ix iy (tab_kp hl k)) (fun W k => qWhole_any x W ix (tab_kp hl k)) (gw_of fun W => rwhole_any x W ix) aw
        · exact makes_g1_y n d w (by omega) (by omega) _ n _ _ _ _ _ (fewInt_t h1) (fewInt_t h2) m1 m2 s1 s2 e1 (beq_eq_false_iff_ne.2 e2) aw
      · exact makes_g1_x n d w (by omega) (by omega) _ n _ _ _ _ _ (fewInt_t h1) (fewInt_t h2) m1 m2 s1 s2 (beq_eq_false_iff_ne.2 e1) aw
    · exact makes_a1 n d w (by omega) (by omega) (fewInt_t h1) (fewInt_f zd h2) (by omega) aw
  · by_cases h3 : n.size ≤ 1025
    · exact makes_a2 n d w (by omega) (by omega) (fewInt_f zn h1) (by omega) aw
    · by_cases h4 : n.size > 3000
      · exact makes_a3 n d w (by omega) (by omega) (fewInt_f zn h1) (by omega) (by omega) aw
      · by_cases h5 : d.size > 3000
        · exact makes_a4 n d w (by omega) (by omega) (fewInt_f zn h1) (by omega) (by omega) (by omega) aw
        · obtain ⟨m1, m2, s1, s2⟩ := go (by omega) (by omega)
          have e1 : smE n ≠ 0 := by
            have h := chk_long (a := n) (by omega)
            unfold smE
            rw [if_neg h]
            exact h
          exact makes_g2_x n d w (by omega) (by omega) _ n _ _ _ _ _ (fewInt_f zn h1) (by omega) (by omega) (by omega) m1 m2 s1 s2 (beq_eq_false_iff_ne.2 e1) aw

end Go.Proofs.YtminjcknmhgpiaaGreatDoor
