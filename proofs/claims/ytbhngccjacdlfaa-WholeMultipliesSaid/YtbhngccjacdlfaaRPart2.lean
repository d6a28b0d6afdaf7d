/- The reference's Parted, where a number is long. -/
import Derived.Test.YtbhngccjacdlfaaRDiv
import Derived.Test.YtbhngccjacdlfaaM31
import Derived.Test.YtbhngccjacdlfaaRPartM
import Derived.Test.YtbhngccjacdlfaaRPart
import Derived.Test.YtbhngccjacdlfaaM20
namespace Go.Proofs.Ytbhngccjacdlfaa
open Go.RowKit
open Go.Lib (nDigits itoa decDigits)

set_option maxRecDepth 100000 in
set_option maxHeartbeats 4000000 in
theorem part_a (a b m n q out D F ty : ByteArray) (d f : Bool) (w : World) (q1 : Hid (∀ W, Calls Try.prog 68 #[.string a, .string b] W fun e w' => e = .returned (.tuple #[.int .i64 0, .int .i64 0, .bool false]) ∧ W = w'))
    (q2 : SizeIs a m) (q3 : SizeIs b n)
    (q4 : Hid (∀ W, Calls Try.prog 78 #[.string m, .string n] W fun e w' => e = .returned (.tuple #[.string q, .string ⟨#[48]⟩]) ∧ Kp [] W w'))
    (q5 : Hid (∀ W, Calls Try.prog 70 #[.string a] W fun e w' => e = .returned (.bool d) ∧ W = w'))
    (q6 : Hid (∀ W, Calls Try.prog 70 #[.string b] W fun e w' => e = .returned (.bool f) ∧ W = w'))
    (q7 : Hid (∀ W, Calls Try.prog 71 #[.string q, .bool (!(d == f))] W fun e w' => e = .returned (.string out) ∧ W = w'))
    (q8 : out = D)
    (q9 : Hid (∀ W, Calls Try.prog 54 #[.string D, .string b] W fun e w' => e = .returned (.string ty) ∧ Kp [] W w'))
    (q10 : Hid (∀ W, Calls Try.prog 44 #[.string a, .string ty] W fun e w' => e = .returned (.string F) ∧ Kp [] W w')) :
    Calls Try.prog 56 #[.string a, .string b] w fun e w' => e = .returned (.tuple #[.string D, .string F]) ∧ Kp [] w w' := by
  subst q8
  go_enter Try.func56, Try.ntmps56
  go_wp2_with fail
  with_reducible refine (q1.out _).mono ?_
  rintro e w1 ⟨rfl, rfl⟩
  go_wp2_with fail
  refine (q2.out _).mono ?_
  rintro e w2 ⟨rfl, rfl⟩
  go_wp2_with fail
  refine (q3.out _).mono ?_
  rintro e w3 ⟨rfl, rfl⟩
  go_wp2_with fail
  with_reducible refine (q4.out _).mono ?_
  rintro e w4 ⟨rfl, k4⟩
  go_wp2_with fail
  with_reducible refine (q5.out _).mono ?_
  rintro e w5 ⟨rfl, rfl⟩
  go_wp2_with fail
  with_reducible refine (q6.out _).mono ?_
  rintro e w6 ⟨rfl, rfl⟩
  go_wp2_with fail
  with_reducible refine (q7.out _).mono ?_
  rintro e w7 ⟨rfl, rfl⟩
  go_wp2_with fail
  with_reducible refine (q9.out _).mono ?_
  rintro e w9 ⟨rfl, k9⟩
  go_wp2_with fail
  with_reducible refine (q10.out _).mono ?_
  rintro e w10 ⟨rfl, k10⟩
  go_wp2
  go_ret2
  exact ⟨rfl, (k4.trans k9).trans k10⟩
set_option maxRecDepth 100000 in
set_option maxHeartbeats 4000000 in
theorem part_b (a b m n q r out D F ty : ByteArray) (d f : Bool) (w : World) (q1 : Hid (∀ W, Calls Try.prog 68 #[.string a, .string b] W fun e w' => e = .returned (.tuple #[.int .i64 0, .int .i64 0, .bool false]) ∧ W = w'))
    (q2 : SizeIs a m) (q3 : SizeIs b n)
    (q4 : Hid (∀ W, Calls Try.prog 78 #[.string m, .string n] W fun e w' => e = .returned (.tuple #[.string q, .string r]) ∧ Kp [] W w'))
    (q5 : Hid (∀ W, Calls Try.prog 70 #[.string a] W fun e w' => e = .returned (.bool d) ∧ W = w'))
    (q6 : Hid (∀ W, Calls Try.prog 70 #[.string b] W fun e w' => e = .returned (.bool f) ∧ W = w'))
    (q7 : Hid (∀ W, Calls Try.prog 71 #[.string q, .bool (!(d == f))] W fun e w' => e = .returned (.string out) ∧ W = w'))
    (hr : (r.toList == [48]) = false) (hdf : (!(d == f)) = false) (q8 : out = D)
    (q9 : Hid (∀ W, Calls Try.prog 54 #[.string D, .string b] W fun e w' => e = .returned (.string ty) ∧ Kp [] W w'))
    (q10 : Hid (∀ W, Calls Try.prog 44 #[.string a, .string ty] W fun e w' => e = .returned (.string F) ∧ Kp [] W w')) :
    Calls Try.prog 56 #[.string a, .string b] w fun e w' => e = .returned (.tuple #[.string D, .string F]) ∧ Kp [] w w' := by
  rw [hdf] at q7
  subst q8
  go_enter Try.func56, Try.ntmps56
  go_wp2_with fail
  with_reducible refine (q1.out _).mono ?_
  rintro e w1 ⟨rfl, rfl⟩
  go_wp2_with fail
  refine (q2.out _).mono ?_
  rintro e w2 ⟨rfl, rfl⟩
  go_wp2_with fail
  refine (q3.out _).mono ?_
  rintro e w3 ⟨rfl, rfl⟩
  go_wp2_with fail
  with_reducible refine (q4.out _).mono ?_
  rintro e w4 ⟨rfl, k4⟩
  go_wp2_with fail
  with_reducible refine (q5.out _).mono ?_
  rintro e w5 ⟨rfl, rfl⟩
  go_wp2_with fail
  with_reducible refine (q6.out _).mono ?_
  rintro e w6 ⟨rfl, rfl⟩
  go_wp2_with fail
  with_reducible refine (q7.out _).mono ?_
  rintro e w7 ⟨rfl, rfl⟩
  go_wp2_with fail
  with_reducible refine (q5.out _).mono ?_
  rintro e w5 ⟨rfl, rfl⟩
  go_wp2_with fail
  with_reducible refine (q6.out _).mono ?_
  rintro e w6 ⟨rfl, rfl⟩
  go_wp2_with fail
  with_reducible refine (q9.out _).mono ?_
  rintro e w9 ⟨rfl, k9⟩
  go_wp2_with fail
  with_reducible refine (q10.out _).mono ?_
  rintro e w10 ⟨rfl, k10⟩
  go_wp2
  go_ret2
  exact ⟨rfl, (k4.trans k9).trans k10⟩
set_option maxRecDepth 100000 in
set_option maxHeartbeats 4000000 in
theorem part_c (a b m n q r out D F ty : ByteArray) (d f : Bool) (w : World) (q1 : Hid (∀ W, Calls Try.prog 68 #[.string a, .string b] W fun e w' => e = .returned (.tuple #[.int .i64 0, .int .i64 0, .bool false]) ∧ W = w'))
    (q2 : SizeIs a m) (q3 : SizeIs b n)
    (q4 : Hid (∀ W, Calls Try.prog 78 #[.string m, .string n] W fun e w' => e = .returned (.tuple #[.string q, .string r]) ∧ Kp [] W w'))
    (q5 : Hid (∀ W, Calls Try.prog 70 #[.string a] W fun e w' => e = .returned (.bool d) ∧ W = w'))
    (q6 : Hid (∀ W, Calls Try.prog 70 #[.string b] W fun e w' => e = .returned (.bool f) ∧ W = w'))
    (q7 : Hid (∀ W, Calls Try.prog 71 #[.string q, .bool (!(d == f))] W fun e w' => e = .returned (.string out) ∧ W = w'))
    (hr : (r.toList == [48]) = false) (hdf : (!(d == f)) = true) (q8 : Hid (∀ W, Calls Try.prog 44 #[.string out, .string ⟨#[49]⟩] W fun e w' => e = .returned (.string D) ∧ Kp [] W w'))
    (q9 : Hid (∀ W, Calls Try.prog 54 #[.string D, .string b] W fun e w' => e = .returned (.string ty) ∧ Kp [] W w'))
    (q10 : Hid (∀ W, Calls Try.prog 44 #[.string a, .string ty] W fun e w' => e = .returned (.string F) ∧ Kp [] W w')) :
    Calls Try.prog 56 #[.string a, .string b] w fun e w' => e = .returned (.tuple #[.string D, .string F]) ∧ Kp [] w w' := by
  rw [hdf] at q7
  go_enter Try.func56, Try.ntmps56
  go_wp2_with fail
  with_reducible refine (q1.out _).mono ?_
  rintro e w1 ⟨rfl, rfl⟩
  go_wp2_with fail
  refine (q2.out _).mono ?_
  rintro e w2 ⟨rfl, rfl⟩
  go_wp2_with fail
  refine (q3.out _).mono ?_
  rintro e w3 ⟨rfl, rfl⟩
  go_wp2_with fail
  with_reducible refine (q4.out _).mono ?_
  rintro e w4 ⟨rfl, k4⟩
  go_wp2_with fail
  with_reducible refine (q5.out _).mono ?_
  rintro e w5 ⟨rfl, rfl⟩
  go_wp2_with fail
  with_reducible refine (q6.out _).mono ?_
  rintro e w6 ⟨rfl, rfl⟩
  go_wp2_with fail
  with_reducible refine (q7.out _).mono ?_
  rintro e w7 ⟨rfl, rfl⟩
  go_wp2_with fail
  with_reducible refine (q5.out _).mono ?_
  rintro e w5 ⟨rfl, rfl⟩
  go_wp2_with fail
  with_reducible refine (q6.out _).mono ?_
  rintro e w6 ⟨rfl, rfl⟩
  go_wp2_with fail
  with_reducible refine (q8.out _).mono ?_
  rintro e w8 ⟨rfl, k8⟩
  go_wp2_with fail
  with_reducible refine (q9.out _).mono ?_
  rintro e w9 ⟨rfl, k9⟩
  go_wp2_with fail
  with_reducible refine (q10.out _).mono ?_
  rintro e w10 ⟨rfl, k10⟩
  go_wp2
  go_ret2
  exact ⟨rfl, ((k4.trans k8).trans k9).trans k10⟩

theorem minus_big (x y : Int) (w : World) (hx : nDigits x.natAbs ≤ 3000) (hy : nDigits y.natAbs ≤ 3000) :
    Calls Try.prog 44 #[.string (S x), .string (S y)] w fun e w' => e = .returned (.string (S (x - y))) ∧ Kp [] w w' := by
  have q1 := Lib.hid (fun W => turned_any y W (Nat.le_trans (abs_sz hy) (by omega)))
  have q2 := Lib.hid (fun W => plus_any x (-y) W hx (by rw [Int.natAbs_neg]; exact hy))
  rw [← Int.sub_eq_add_neg] at q2
  clear hx hy
  generalize S (x - y) = r at *
  generalize S (-y) = n at *
  generalize S x = a at *
  generalize S y = b at *
  go_enter Try.func44, Try.ntmps44
  go_wp2_with fail
  refine (q1.out _).mono ?_
  rintro e w' ⟨rfl, rfl⟩
  go_wp2_with fail
  refine (q2.out _).mono ?_
  rintro e w' ⟨rfl, hk⟩
  go_wp2
  go_ret
  exact ⟨rfl, hk⟩

theorem parted_long (x y : Int) (w : World) (hb : ¬ Brief x y) (hy : y ≠ 0) (hx : nDigits x.natAbs ≤ 1024) (hv : nDigits y.natAbs ≤ 1024) :
    Calls Try.prog 56 #[.string (S x), .string (S y)] w fun e w' => e = .returned (.tuple #[.string (S (x.fdiv y)), .string (S (x.fmod y))]) ∧ Kp [] w w' := by
  have sx := abs_sz hx
  have sy := abs_sz hv
  have hd := nd_fdiv (by omega) hy hx
  have hk := nd_back (by omega) hy hx hv
  have q1 := Lib.hid (fun W => brief_not x y W (by omega) (by omega) hb)
  have q2 := size_S x (by omega)
  have q3 := size_S y (by omega)
  have q4 := Lib.hid (fun W => divided_S x.natAbs y.natAbs W (by omega) (by omega) (by omega))
  have q5 := Lib.hid (fun W => below_any x W)
  have q6 := Lib.hid (fun W => below_any y W)
  have hqd : nDigits (x.natAbs / y.natAbs) ≤ 1024 := Nat.le_trans (nd_mono (Nat.div_le_self _ _)) hx
  have q7 := Lib.hid (fun W => signed_any (x.natAbs / y.natAbs) (!(decide (x < 0) == decide (y < 0))) W (Nat.le_trans (abs_sz (k := 1024) (by rw [Int.natAbs_natCast]; exact hqd)) (by omega)))
  rw [tdiv_abs] at q7
  have q9 := Lib.hid (fun W => times_ref (x.fdiv y) y W (by omega) (by omega))
  have q10 := Lib.hid (fun W => minus_big x (x.fdiv y * y) W (by omega) (by omega))
  rw [fdiv_back] at q10
  rcases part_cases (x := x) hy with ⟨h0, h1⟩ | ⟨h0, hdf, h1⟩ | ⟨h0, hdf, h1⟩
  · rw [h0, show ((0 : Nat) : Int) = 0 from rfl, S_zero] at q4
    exact part_a _ _ _ _ _ _ _ _ _ _ _ w q1 q2 q3 q4 q5 q6 q7 (by rw [h1]) q9 q10
  · exact part_b _ _ _ _ _ _ _ _ _ _ _ _ w q1 q2 q3 q4 q5 q6 q7 (by simpa using S_ne_zero h0) hdf (by rw [h1]) q9 q10
  · have hq : Ok (x.tdiv y) := by
      have := tdiv_abs x y
      have e : (x.tdiv y).natAbs = x.natAbs / y.natAbs := Int.natAbs_tdiv x y
      unfold Ok; rw [e]; omega
    have q8 := Lib.hid (fun W => minus_any plus_all (x.tdiv y) 1 W hq (by unfold Ok; rw [show (1 : Int).natAbs = 1 from rfl]; exact Nat.le_trans ((nd_le_iff (k := 1) (by omega)).2 (by decide)) (by omega)))
    rw [h1, S_one] at q8
    exact part_c _ _ _ _ _ _ _ _ _ _ _ _ w q1 q2 q3 q4 q5 q6 q7 (by simpa using S_ne_zero h0) hdf q8 q9 q10
theorem parted_any (x y : Int) (w : World) (hy : y ≠ 0) (hx : nDigits x.natAbs ≤ 1024) (hv : nDigits y.natAbs ≤ 1024) :
    Calls Try.prog 56 #[.string (S x), .string (S y)] w fun e w' => e = .returned (.tuple #[.string (S (x.fdiv y)), .string (S (x.fmod y))]) ∧ Kp [] w w' := by
  by_cases hb : Brief x y
  · have sx : (S x).size ≤ 19 := abs_sz hb.1
    have sy : (S y).size ≤ 19 := abs_sz hb.2
    exact parted_brief x y w hb hy (by omega) (by omega)
  · exact parted_long x y w hb hy hx hv
theorem fdiv_le {x y : Int} (hy : y ≠ 0) : (x.fdiv y).natAbs ≤ x.natAbs := by
  have h := Int.mul_fdiv_add_fmod x y
  have hs := fmod_side (x := x) hy
  by_cases h1 : y.natAbs = 1
  · have hF : x.fmod y = 0 := by rcases hs with h | h <;> omega
    have e : (y * x.fdiv y).natAbs = y.natAbs * (x.fdiv y).natAbs := Int.natAbs_mul _ _
    rw [h1, Nat.one_mul] at e
    omega
  · have hm : (x.fmod y).natAbs < y.natAbs := by rcases hs with h | h <;> omega
    have e : (y * x.fdiv y).natAbs = y.natAbs * (x.fdiv y).natAbs := Int.natAbs_mul _ _
    have h3 : y.natAbs * (x.fdiv y).natAbs < x.natAbs + y.natAbs := by rw [← e]; omega
    rcases Nat.lt_or_ge x.natAbs (x.fdiv y).natAbs with h2 | h2
    · exfalso
      obtain ⟨v, hv⟩ : ∃ v, y.natAbs = v + 2 := ⟨y.natAbs - 2, by omega⟩
      have h4 := Nat.mul_le_mul_left y.natAbs (show x.natAbs + 1 ≤ (x.fdiv y).natAbs by omega)
      rw [hv] at h3 h4
      have h5 : (v + 2) * (x.natAbs + 1) = v * x.natAbs + v + 2 * x.natAbs + 2 := by rw [Nat.add_mul, Nat.mul_add, Nat.mul_add]; omega
      generalize (v + 2) * (x.fdiv y).natAbs = A at *
      generalize v * x.natAbs = B at *
      omega
    · exact h2
theorem fdiv_ok {x y : Int} (hy : y ≠ 0) (h : Ok x) : Ok (x.fdiv y) := Nat.le_trans (nd_mono (fdiv_le hy)) h
theorem fmod_ok {x y : Int} (hy : y ≠ 0) (h : Ok y) : Ok (x.fmod y) :=
  Nat.le_trans (nd_mono (by rcases fmod_side (x := x) hy with h | h <;> omega)) h
end Go.Proofs.Ytbhngccjacdlfaa
