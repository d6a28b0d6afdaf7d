/- Texts Cut, Join: each says in its own first comment what it proves. -/
import Derived.Test.YtiommpdbbpddpaaGreatM22
import Derived.Test.YtiommpdbbpddpaaGreatShelf
import Derived.BigQuiet
import Derived.Lib.AppendIntMem
/- The texts of package ratio: strings.Cut at a slash, the check and the text of a fraction, split. -/
namespace Go.Proofs.YtiommpdbbpddpaaGreat
open Go.RowKit
open Go.Lib (nDigits itoa decDigits)

/-- where the first slash of a text is, or its length -/
def slashAt (a : ByteArray) : Nat := a.data.toList.findIdx (· == 47)
def cW (a : ByteArray) : Bool := decide (slashAt a < a.size)
def cN (a : ByteArray) : ByteArray := a.extract 0 (slashAt a)
def cD0 (a : ByteArray) : ByteArray := if slashAt a < a.size then a.extract (slashAt a + 1) a.size else ⟨#[]⟩
def cD (a : ByteArray) : ByteArray := if slashAt a < a.size then a.extract (slashAt a + 1) a.size else ⟨#[49]⟩

theorem index_find : ∀ l : List UInt8, Lib.indexByte l 47 = if l.findIdx (· == 47) < l.length then (l.findIdx (· == 47) : Int) else -1
  | [] => rfl
  | b :: l => by
    have ih := index_find l
    unfold Lib.indexByte
    by_cases hb : (b == 47) = true
    · rw [if_pos hb, List.findIdx_cons, hb]; simp
    · have hb' : (b == 47) = false := by simpa using hb
      rw [if_neg hb, List.findIdx_cons, hb', ih]
      by_cases hl : l.findIdx (· == 47) < l.length
      · rw [if_pos hl]
        have : ((l.findIdx (· == 47) : Int) == -1) = false := by first | (simp; done) | (simp; omega)
        simp only [this, cond_false, List.length_cons]
        rw [if_neg (by simp), if_pos (by omega)]; omega
      · rw [if_neg hl]
        simp only [cond_false, List.length_cons]
        rw [if_pos (by rfl), if_neg (by omega)]
theorem slash_le (a : ByteArray) : slashAt a ≤ a.size := by
  have := List.findIdx_le_length (p := (· == (47 : UInt8))) (xs := a.data.toList)
  unfold slashAt; rw [Lib.size_eq]; exact this

set_option maxRecDepth 100000 in
set_option maxHeartbeats 1000000 in
theorem cut_lite (a : ByteArray) (w : World) (ha : a.size ≤ 9223372036854775807) :
    Calls Tryz.prog 89 #[.string a, .string ⟨#[47]⟩] w fun e w' => e = .returned (.tuple #[.string (cN a), .string (cD0 a), .bool (cW a)]) ∧ Kp [] w w' := by
  have q := Lib.hid (fun W => Tryz.stringslite_Index_one a 47 W)
  have hi := index_find a.data.toList
  rw [← Lib.size_eq] at hi
  have hi2 : Lib.indexByte a.data.toList 47 = if slashAt a < a.size then (slashAt a : Int) else -1 := hi
  rw [hi2] at q
  have hle := slash_le a
  clear hi hi2
  by_cases h : slashAt a < a.size
  · have h1 : Hid (cD0 a = a.extract (slashAt a + 1) a.size) := if_pos h
    have h2 : Hid (cW a = true) := decide_eq_true h
    have h3 : Hid (cN a = a.extract 0 (slashAt a)) := rfl
    rw [if_pos h] at q
    generalize slashAt a = i at *
    have b1 : (0 : Int) ≤ (i : Int) := by omega
    have b2 : (i : Int) ≤ (a.size : Int) := by omega
    have b3 : (0 : Int) ≤ (i : Int) + 1 := by omega
    have b4 : (i : Int) + 1 ≤ (a.size : Int) := by omega
    have hw : IntKind.i64.wrap ((i : Int) + 1) = (i : Int) + 1 := IntWalk.i64_in _ (by omega)
    go_enter Tryz.func89, Tryz.ntmps89
    go_wp2_with fail
    refine (q.out _).mono ?_
    rintro x w1 ⟨rfl, rfl⟩
    go_wp2
    go_quiet (fail)
    go_wp2
    refine bodyPost_ret (results_tmp3 rfl _ _ _) rfl ?_
    exact ⟨by rw [h1.out, h2.out, h3.out]; rfl, (Kp.refl _ _).drewN _⟩
  · have h1 : Hid (cD0 a = ⟨#[]⟩) := if_neg h
    have h2 : Hid (cW a = false) := decide_eq_false h
    have h3 : Hid (cN a = a) := by
      show a.extract 0 (slashAt a) = a
      rw [show slashAt a = a.size by omega]; simp
    rw [if_neg h] at q
    clear hle h
    go_enter Tryz.func89, Tryz.ntmps89
    go_wp2_with fail
    refine (q.out _).mono ?_
    rintro x w1 ⟨rfl, rfl⟩
    go_wp2
    refine bodyPost_ret (results_tmp3 rfl _ _ _) rfl ?_
    exact ⟨by rw [h1.out, h2.out, h3.out]; rfl, Kp.refl _ _⟩

set_option maxRecDepth 100000 in
set_option maxHeartbeats 1000000 in
theorem cut_any (a : ByteArray) (w : World) (ha : a.size ≤ 9223372036854775807) :
    Calls Tryz.prog 70 #[.string a, .string ⟨#[47]⟩] w fun e w' => e = .returned (.tuple #[.string (cN a), .string (cD0 a), .bool (cW a)]) ∧ Kp [] w w' := by
  have q := Lib.hid (fun W => cut_lite a W ha)
  generalize cN a = n at *
  generalize cD0 a = d at *
  generalize cW a = b at *
  go_enter Tryz.func70, Tryz.ntmps70
  go_wp2_with fail
  with_reducible refine (q.out _).mono ?_
  rintro x w1 ⟨rfl, k1⟩
  go_wp2
  refine bodyPost_ret (results_tmp3 rfl _ _ _) rfl ?_
  exact ⟨rfl, k1⟩

/-! a fraction's check -/
def lowB (n d : ByteArray) : Bool := !decide (cmpV d ⟨#[49]⟩ ≤ 0) && isOne (binB gcdI n d)
def frE (n d : ByteArray) (wr : Bool) : Int :=
  if chk n.data.toList = 3 then 3 else if chk d.data.toList ≠ 0 then chk d.data.toList else if chk n.data.toList ≠ 0 then chk n.data.toList else if (wr && !lowB n d) = true then 3 else 0

set_option maxRecDepth 100000 in
set_option maxHeartbeats 1000000 in
theorem lowest_any (n d : ByteArray) (w : World) (hn : n.size ≤ 9223372036854775807) (hd : d.size ≤ 9223372036854775807) :
    Calls Tryz.prog 91 #[.agg #[.string n, .string d]] w fun e w' => e = .returned (.bool (lowB n d)) ∧ Kp [] w w' := by
  have q1 := Lib.hid (fun W => Compare_any d ⟨#[49]⟩ W (by omega) (by decide))
  have q2 := Lib.hid (fun W => Gcd_all n d W (by omega) (by omega))
  have b := FrB.made w n d
  have k0 : Kp [] w (w.alloc (.cells #[.string n, .string d] 79 (0, 0))) := (Kp.refl _ _).alloc _
  by_cases hc : cmpV d ⟨#[49]⟩ ≤ 0
  · have hv : Hid (lowB n d = false) := by show _ = _; unfold lowB; rw [decide_eq_true hc]; rfl
    generalize cmpV d ⟨#[49]⟩ = c at *
    go_enter Tryz.func91, Tryz.ntmps91
    go_wp2_with fail
    with_reducible refine (q1.out _).mono ?_
    rintro x w1 ⟨rfl, k1⟩
    have kk := k0.trans k1
    go_wp2
    go_ret
    exact ⟨by rw [hv.out]; rfl, kk⟩
  · have hv : Hid (lowB n d = ((binB gcdI n d).toList == [49])) := by show _ = _; unfold lowB; rw [decide_eq_false hc]; rfl
    generalize cmpV d ⟨#[49]⟩ = c at *
    generalize binB gcdI n d = G at *
    go_enter Tryz.func91, Tryz.ntmps91
    go_wp2_with fail
    with_reducible refine (q1.out _).mono ?_
    rintro x w1 ⟨rfl, k1⟩
    have b1 := b.kept k1 (by simp)
    have k01 := k0.trans k1
    have c0 := b1.c0
    have c1 := b1.c1
    go_wp2_with fail
    with_reducible refine (q2.out _).mono ?_
    rintro x w2 ⟨rfl, k2⟩
    have kk := k01.trans k2
    go_wp2
    go_ret
    exact ⟨by rw [hv.out]; rfl, kk⟩


set_option maxRecDepth 100000 in
set_option maxHeartbeats 4000000 in
theorem frc_a (n d : ByteArray) (wr lb : Bool) (cn cd : Int) (w : World) (h1 : (cn == 3) = true)
    (q1 : Hid (∀ W, Calls Tryz.prog 90 #[.string n] W fun e w' => e = .returned (.int .i64 cn) ∧ W = w'))
    (q2 : Hid (∀ W, Calls Tryz.prog 90 #[.string d] W fun e w' => e = .returned (.int .i64 cd) ∧ W = w'))
    (_q3 : Hid (∀ W, Calls Tryz.prog 91 #[.agg #[.string n, .string d]] W fun e w' => e = .returned (.bool lb) ∧ Kp [] W w')) :
    Calls Tryz.prog 72 #[.agg #[.string n, .string d], .bool wr] w fun e w' => e = .returned (.int .i64 cn) ∧ Kp [] w w' := by
  have b := FrB.made w n d
  have k0 : Kp [] w (w.alloc (.cells #[.string n, .string d] 79 (0, 0))) := (Kp.refl _ _).alloc _
  have c0 := b.c0
  have c1 := b.c1
  go_enter Tryz.func72, Tryz.ntmps72
  go_wp2_with fail
  go_region_held3 (fun w' => w'.cell? ⟨w.heap.size, 0, none⟩ = some (.string n) ∧ w'.cell? ⟨w.heap.size, 1, none⟩ = some (.string d))
    (first
      | go_keep)
    (first
      | (go_at_call 90; with_reducible refine (q1.out _).mono ?_; rintro x w4 ⟨rfl, rfl⟩)
      | (go_at_call 90; with_reducible refine (q2.out _).mono ?_; rintro x w5 ⟨rfl, rfl⟩))
  have kk := k0.drew
  go_wp2
  go_ret
  exact ⟨rfl, kk⟩

set_option maxRecDepth 100000 in
set_option maxHeartbeats 4000000 in
theorem frc_b (n d : ByteArray) (wr lb : Bool) (cn cd : Int) (w : World) (h1 : (cn == 3) = false) (h2 : (cd != 0) = true)
    (q1 : Hid (∀ W, Calls Tryz.prog 90 #[.string n] W fun e w' => e = .returned (.int .i64 cn) ∧ W = w'))
    (q2 : Hid (∀ W, Calls Tryz.prog 90 #[.string d] W fun e w' => e = .returned (.int .i64 cd) ∧ W = w'))
    (_q3 : Hid (∀ W, Calls Tryz.prog 91 #[.agg #[.string n, .string d]] W fun e w' => e = .returned (.bool lb) ∧ Kp [] W w')) :
    Calls Tryz.prog 72 #[.agg #[.string n, .string d], .bool wr] w fun e w' => e = .returned (.int .i64 cd) ∧ Kp [] w w' := by
  have b := FrB.made w n d
  have k0 : Kp [] w (w.alloc (.cells #[.string n, .string d] 79 (0, 0))) := (Kp.refl _ _).alloc _
  have c0 := b.c0
  have c1 := b.c1
  go_enter Tryz.func72, Tryz.ntmps72
  go_wp2_with fail
  go_region_held3 (fun w' => w'.cell? ⟨w.heap.size, 0, none⟩ = some (.string n) ∧ w'.cell? ⟨w.heap.size, 1, none⟩ = some (.string d))
    (first
      | go_keep)
    (first
      | (go_at_call 90; with_reducible refine (q1.out _).mono ?_; rintro x w4 ⟨rfl, rfl⟩)
      | (go_at_call 90; with_reducible refine (q2.out _).mono ?_; rintro x w5 ⟨rfl, rfl⟩))
  have kk := k0.drew
  go_wp2
  go_ret
  exact ⟨rfl, kk⟩

set_option maxRecDepth 100000 in
set_option maxHeartbeats 4000000 in
theorem frc_c (n d : ByteArray) (wr lb : Bool) (cn cd : Int) (w : World) (h1 : (cn == 3) = false) (h2 : (cd != 0) = false) (h3 : (cn != 0) = true)
    (q1 : Hid (∀ W, Calls Tryz.prog 90 #[.string n] W fun e w' => e = .returned (.int .i64 cn) ∧ W = w'))
    (q2 : Hid (∀ W, Calls Tryz.prog 90 #[.string d] W fun e w' => e = .returned (.int .i64 cd) ∧ W = w'))
    (_q3 : Hid (∀ W, Calls Tryz.prog 91 #[.agg #[.string n, .string d]] W fun e w' => e = .returned (.bool lb) ∧ Kp [] W w')) :
    Calls Tryz.prog 72 #[.agg #[.string n, .string d], .bool wr] w fun e w' => e = .returned (.int .i64 cn) ∧ Kp [] w w' := by
  have b := FrB.made w n d
  have k0 : Kp [] w (w.alloc (.cells #[.string n, .string d] 79 (0, 0))) := (Kp.refl _ _).alloc _
  have c0 := b.c0
  have c1 := b.c1
  go_enter Tryz.func72, Tryz.ntmps72
  go_wp2_with fail
  go_region_held3 (fun w' => w'.cell? ⟨w.heap.size, 0, none⟩ = some (.string n) ∧ w'.cell? ⟨w.heap.size, 1, none⟩ = some (.string d))
    (first
      | go_keep)
    (first
      | (go_at_call 90; with_reducible refine (q1.out _).mono ?_; rintro x w4 ⟨rfl, rfl⟩)
      | (go_at_call 90; with_reducible refine (q2.out _).mono ?_; rintro x w5 ⟨rfl, rfl⟩))
  have kk := k0.drew
  go_wp2
  go_ret
  exact ⟨rfl, kk⟩

set_option maxRecDepth 100000 in
set_option maxHeartbeats 4000000 in
theorem frc_d (n d : ByteArray) (wr lb : Bool) (cn cd : Int) (w : World) (h1 : (cn == 3) = false) (h2 : (cd != 0) = false) (h3 : (cn != 0) = false) (h4 : wr = false)
    (q1 : Hid (∀ W, Calls Tryz.prog 90 #[.string n] W fun e w' => e = .returned (.int .i64 cn) ∧ W = w'))
    (q2 : Hid (∀ W, Calls Tryz.prog 90 #[.string d] W fun e w' => e = .returned (.int .i64 cd) ∧ W = w'))
    (_q3 : Hid (∀ W, Calls Tryz.prog 91 #[.agg #[.string n, .string d]] W fun e w' => e = .returned (.bool lb) ∧ Kp [] W w')) :
    Calls Tryz.prog 72 #[.agg #[.string n, .string d], .bool wr] w fun e w' => e = .returned (.int .i64 0) ∧ Kp [] w w' := by
  try subst h5
  try subst h4
  have b := FrB.made w n d
  have k0 : Kp [] w (w.alloc (.cells #[.string n, .string d] 79 (0, 0))) := (Kp.refl _ _).alloc _
  have c0 := b.c0
  have c1 := b.c1
  go_enter Tryz.func72, Tryz.ntmps72
  go_wp2_with fail
  go_region_held3 (fun w' => w'.cell? ⟨w.heap.size, 0, none⟩ = some (.string n) ∧ w'.cell? ⟨w.heap.size, 1, none⟩ = some (.string d))
    (first
      | go_keep)
    (first
      | (go_at_call 90; with_reducible refine (q1.out _).mono ?_; rintro x w4 ⟨rfl, rfl⟩)
      | (go_at_call 90; with_reducible refine (q2.out _).mono ?_; rintro x w5 ⟨rfl, rfl⟩))
  have kk := k0.drew
  go_wp2
  go_ret
  exact ⟨rfl, kk⟩

set_option maxRecDepth 100000 in
set_option maxHeartbeats 4000000 in
theorem frc_e (n d : ByteArray) (wr lb : Bool) (cn cd : Int) (w : World) (h1 : (cn == 3) = false) (h2 : (cd != 0) = false) (h3 : (cn != 0) = false) (h4 : wr = true) (h5 : lb = false)
    (q1 : Hid (∀ W, Calls Tryz.prog 90 #[.string n] W fun e w' => e = .returned (.int .i64 cn) ∧ W = w'))
    (q2 : Hid (∀ W, Calls Tryz.prog 90 #[.string d] W fun e w' => e = .returned (.int .i64 cd) ∧ W = w'))
    (q3 : Hid (∀ W, Calls Tryz.prog 91 #[.agg #[.string n, .string d]] W fun e w' => e = .returned (.bool lb) ∧ Kp [] W w')) :
    Calls Tryz.prog 72 #[.agg #[.string n, .string d], .bool wr] w fun e w' => e = .returned (.int .i64 3) ∧ Kp [] w w' := by
  subst h5
  subst h4
  have b := FrB.made w n d
  have k0 : Kp [] w (w.alloc (.cells #[.string n, .string d] 79 (0, 0))) := (Kp.refl _ _).alloc _
  have c0 := b.c0
  have c1 := b.c1
  go_enter Tryz.func72, Tryz.ntmps72
  go_wp2_with fail
  go_region_held3 (fun w' => w'.cell? ⟨w.heap.size, 0, none⟩ = some (.string n) ∧ w'.cell? ⟨w.heap.size, 1, none⟩ = some (.string d))
    (first
      | go_keep)
    (first
      | (go_at_call 90; with_reducible refine (q1.out _).mono ?_; rintro x w4 ⟨rfl, rfl⟩)
      | (go_at_call 90; with_reducible refine (q2.out _).mono ?_; rintro x w5 ⟨rfl, rfl⟩))
  have kk := k0.drew
  have c0 := (FrB.drew b).c0
  have c1 := (FrB.drew b).c1
  go_wp2_with fail
  with_reducible refine (q3.out _).mono ?_
  rintro x w6 ⟨rfl, k6⟩
  have k7 := kk.trans k6
  go_wp2
  go_ret
  exact ⟨rfl, k7⟩

set_option maxRecDepth 100000 in
set_option maxHeartbeats 4000000 in
theorem frc_f (n d : ByteArray) (wr lb : Bool) (cn cd : Int) (w : World) (h1 : (cn == 3) = false) (h2 : (cd != 0) = false) (h3 : (cn != 0) = false) (h4 : wr = true) (h5 : lb = true)
    (q1 : Hid (∀ W, Calls Tryz.prog 90 #[.string n] W fun e w' => e = .returned (.int .i64 cn) ∧ W = w'))
    (q2 : Hid (∀ W, Calls Tryz.prog 90 #[.string d] W fun e w' => e = .returned (.int .i64 cd) ∧ W = w'))
    (q3 : Hid (∀ W, Calls Tryz.prog 91 #[.agg #[.string n, .string d]] W fun e w' => e = .returned (.bool lb) ∧ Kp [] W w')) :
    Calls Tryz.prog 72 #[.agg #[.string n, .string d], .bool wr] w fun e w' => e = .returned (.int .i64 0) ∧ Kp [] w w' := by
  try subst h5
  try subst h4
  have b := FrB.made w n d
  have k0 : Kp [] w (w.alloc (.cells #[.string n, .string d] 79 (0, 0))) := (Kp.refl _ _).alloc _
  have c0 := b.c0
  have c1 := b.c1
  go_enter Tryz.func72, Tryz.ntmps72
  go_wp2_with fail
  go_region_held3 (fun w' => w'.cell? ⟨w.heap.size, 0, none⟩ = some (.string n) ∧ w'.cell? ⟨w.heap.size, 1, none⟩ = some (.string d))
    (first
      | go_keep)
    (first
      | (go_at_call 90; with_reducible refine (q1.out _).mono ?_; rintro x w4 ⟨rfl, rfl⟩)
      | (go_at_call 90; with_reducible refine (q2.out _).mono ?_; rintro x w5 ⟨rfl, rfl⟩))
  have kk := k0.drew
  have c0 := (FrB.drew b).c0
  have c1 := (FrB.drew b).c1
  go_wp2_with fail
  with_reducible refine (q3.out _).mono ?_
  rintro x w6 ⟨rfl, k6⟩
  have k7 := kk.trans k6
  go_wp2
  go_ret
  exact ⟨rfl, k7⟩

theorem frcheck_any (n d : ByteArray) (wr : Bool) (w : World) (hn : n.size ≤ 9223372036854775807) (hd : d.size ≤ 9223372036854775807) :
    Calls Tryz.prog 72 #[.agg #[.string n, .string d], .bool wr] w fun e w' => e = .returned (.int .i64 (frE n d wr)) ∧ Kp [] w w' := by
  have q1 := Lib.hid (fun W => check_any n W (by omega))
  have q2 := Lib.hid (fun W => check_any d W (by omega))
  have q3 := Lib.hid (fun W => lowest_any n d W hn hd)
  unfold frE
  by_cases h1 : chk n.data.toList = 3
  · rw [if_pos h1]
    have := frc_a n d wr (lowB n d) _ _ w (by simpa using h1) q1 q2 q3
    rwa [h1] at this
  · rw [if_neg h1]
    have e1 : (chk n.data.toList == 3) = false := by simpa using h1
    by_cases h2 : chk d.data.toList ≠ 0
    · rw [if_pos h2]; exact frc_b n d wr (lowB n d) _ _ w e1 (by simpa using h2) q1 q2 q3
    · rw [if_neg h2]
      have e2 : (chk d.data.toList != 0) = false := by simpa using h2
      by_cases h3 : chk n.data.toList ≠ 0
      · rw [if_pos h3]; exact frc_c n d wr (lowB n d) _ _ w e1 e2 (by simpa using h3) q1 q2 q3
      · rw [if_neg h3]
        have e3 : (chk n.data.toList != 0) = false := by simpa using h3
        cases hw : wr with
        | false => exact frc_d n d false (lowB n d) _ _ w e1 e2 e3 rfl q1 q2 q3
        | true =>
          cases hl : lowB n d with
          | false => exact frc_e n d true (lowB n d) _ _ w e1 e2 e3 rfl hl q1 q2 q3
          | true => exact frc_f n d true (lowB n d) _ _ w e1 e2 e3 rfl hl q1 q2 q3

set_option maxRecDepth 100000 in
set_option maxHeartbeats 1000000 in
theorem frtext_any (n d : ByteArray) (w : World) (hn : n.size ≤ 4000000000) (hd : d.size ≤ 4000000000) :
    Calls Tryz.prog 69 #[.agg #[.string n, .string d]] w fun e w' => e = .returned (.string (if isOne d then n else n ++ ⟨#[47]⟩ ++ d)) ∧ Kp [] w w' := by
  have k0 : Kp [] w (w.alloc (.cells #[.string n, .string d] 79 (0, 0))) := (Kp.refl _ _).alloc _
  have hs : (1 : Int) ≤ 9223372036854775807 := by decide
  cases h : isOne d with
  | true =>
    have h' : (d.toList == [49]) = true := h
    go_enter Tryz.func69, Tryz.ntmps69
    go_wp2
    go_ret
    exact ⟨rfl, k0⟩
  | false =>
    have h' : (d.toList == [49]) = false := h
    go_enter Tryz.func69, Tryz.ntmps69
    go_wp2
    go_ret
    exact ⟨rfl, k0⟩

/-- the error of a rational's text -/
def spE (a : ByteArray) : Int := frE (cN a) (cD a) (cW a)

set_option maxRecDepth 100000 in
set_option maxHeartbeats 4000000 in
theorem k_split (g : Nat) (e : Int) (a : ByteArray) (w : World) (h : KE w g e) (ha : a.size ≤ 9223372036854775807) :
    Calls Tryz.prog 47 #[.pointer (some ⟨g, 0, none⟩), .string a] w fun x w' => x = .returned (.agg #[.string (cN a), .string (cD a)]) ∧ KE w' g (kp e (spE a)) ∧ Kp [g] w w' := by
  have hl := h.lt
  have q1 := Lib.hid (fun W => cut_any a W ha)
  have sn : (cN a).size ≤ 9223372036854775807 := by unfold cN; rw [ByteArray.size_extract]; omega
  have sd : (cD a).size ≤ 9223372036854775807 := by
    unfold cD; split
    · rw [ByteArray.size_extract]; omega
    · decide
  have q2 := Lib.hid (fun W => frcheck_any (cN a) (cD a) (cW a) W sn sd)
  have hv : Hid (spE a = frE (cN a) (cD a) (cW a)) := rfl
  rw [← hv.out] at q2
  have b0 := FrB.made w ⟨#[]⟩ ⟨#[]⟩
  have k0 : Kp [g] w (w.alloc (.cells #[.string ⟨#[]⟩, .string ⟨#[]⟩] 79 (0, 0))) := (Kp.refl _ _).alloc _
  have h0 := h.alloc (.cells #[.string ⟨#[]⟩, .string ⟨#[]⟩] 79 (0, 0))
  clear h sn sd
  by_cases hw : slashAt a < a.size
  · have e1 : cD0 a = cD a := by unfold cD0 cD; rw [if_pos hw, if_pos hw]
    have e2 : cW a = true := decide_eq_true hw
    rw [e1, e2] at q1
    rw [e2] at q2
    clear e1 e2 hw hv
    generalize cN a = n at *
    generalize cD a = d at *
    generalize spE a = E at *
    go_enter Tryz.func47, Tryz.ntmps47
    go_wp2_with fail
    with_reducible refine (q1.out _).mono ?_
    rintro x w1 ⟨rfl, k1⟩
    have b1 := b0.kept k1 (by simp)
    have h1 := h0.kept k1 (by simp)
    have hs1 := k1.size
    rw [World.size_alloc] at hs1
    have kk := k0.trans (k1.mono (by simp))
    clear b0 h0 k0 k1
    go_wp2_with fail
    with_reducible refine (q2.out _).mono ?_
    rintro x w2 ⟨rfl, k2⟩
    have b2 := (b1.alloc (.cells #[.string n, .string d] 79 (0, 0))).kept k2 (by simp)
    have f2 := (FrB.made w1 n d).kept k2 (by simp)
    have h2 := (h1.alloc (.cells #[.string n, .string d] 79 (0, 0))).kept k2 (by simp)
    have kk2 := (kk.alloc (.cells #[.string n, .string d] 79 (0, 0))).trans (k2.mono (by simp))
    clear b1 h1 kk k2
    go_wp2_with fail
    with_reducible refine (keep_any g e E _ h2).mono ?_
    rintro x w3 ⟨rfl, h3, k3⟩
    have b3 := b2.kept k3 (nmem_one (by omega))
    have f3 := f2.kept k3 (nmem_one (by omega))
    have kk3 := kk2.trans k3
    clear b2 f2 h2 kk2 k3
    have c0 := f3.c0
    have c1 := f3.c1
    have z0 := b3.c0
    have z1 := b3.c1
    have y0 := b3.f0 0
    have y1 := b3.f0 1
    go_wp2
    have b4 := b3.set2 (x := n) (y := d)
    have h4 := ke_set2 h3 (b := w.heap.size) (by omega) (.string n) (.string d)
    have kk4 := kp_set2 kk3 (b := w.heap.size) (by omega) (.string n) (.string d)
    generalize (w3.setCell ⟨w.heap.size, 0, none⟩ (.string n)).setCell ⟨w.heap.size, 1, none⟩ (.string d) = W at *
    have d0 := b4.c0
    have d1 := b4.c1
    refine bodyPost_ret (v := .agg #[.string n, .string d]) (by simp [results, Tryz.results47, go_sem, d0, d1]) rfl ?_
    exact ⟨rfl, h4, kk4⟩
  · have e1 : cD0 a = ⟨#[]⟩ := by unfold cD0; rw [if_neg hw]
    have e2 : cW a = false := decide_eq_false hw
    have e3 : cD a = ⟨#[49]⟩ := by unfold cD; rw [if_neg hw]
    rw [e1, e2] at q1
    rw [e2, e3] at q2
    rw [e3]
    clear e1 e2 e3 hw hv
    generalize cN a = n at *
    generalize spE a = E at *
    go_enter Tryz.func47, Tryz.ntmps47
    go_wp2_with fail
    with_reducible refine (q1.out _).mono ?_
    rintro x w1 ⟨rfl, k1⟩
    have b1 := b0.kept k1 (by simp)
    have h1 := h0.kept k1 (by simp)
    have hs1 := k1.size
    rw [World.size_alloc] at hs1
    have kk := k0.trans (k1.mono (by simp))
    clear b0 h0 k0 k1
    go_wp2_with fail
    with_reducible refine (q2.out _).mono ?_
    rintro x w2 ⟨rfl, k2⟩
    have b2 := (b1.alloc (.cells #[.string n, .string ⟨#[49]⟩] 79 (0, 0))).kept k2 (by simp)
    have f2 := (FrB.made w1 n ⟨#[49]⟩).kept k2 (by simp)
    have h2 := (h1.alloc (.cells #[.string n, .string ⟨#[49]⟩] 79 (0, 0))).kept k2 (by simp)
    have kk2 := (kk.alloc (.cells #[.string n, .string ⟨#[49]⟩] 79 (0, 0))).trans (k2.mono (by simp))
    clear b1 h1 kk k2
    go_wp2_with fail
    with_reducible refine (keep_any g e E _ h2).mono ?_
    rintro x w3 ⟨rfl, h3, k3⟩
    have b3 := b2.kept k3 (nmem_one (by omega))
    have f3 := f2.kept k3 (nmem_one (by omega))
    have kk3 := kk2.trans k3
    clear b2 f2 h2 kk2 k3
    have c0 := f3.c0
    have c1 := f3.c1
    have z0 := b3.c0
    have z1 := b3.c1
    have y0 := b3.f0 0
    have y1 := b3.f0 1
    go_wp2
    have b4 := b3.set2 (x := n) (y := ⟨#[49]⟩)
    have h4 := ke_set2 h3 (b := w.heap.size) (by omega) (.string n) (.string ⟨#[49]⟩)
    have kk4 := kp_set2 kk3 (b := w.heap.size) (by omega) (.string n) (.string ⟨#[49]⟩)
    generalize (w3.setCell ⟨w.heap.size, 0, none⟩ (.string n)).setCell ⟨w.heap.size, 1, none⟩ (.string ⟨#[49]⟩) = W at *
    have d0 := b4.c0
    have d1 := b4.c1
    refine bodyPost_ret (v := .agg #[.string n, .string ⟨#[49]⟩]) (by simp [results, Tryz.results47, go_sem, d0, d1]) rfl ?_
    exact ⟨rfl, h4, kk4⟩
end Go.Proofs.YtiommpdbbpddpaaGreat

/- Sums, differences, products and the order of fractions, in package ratio. -/
namespace Go.Proofs.YtiommpdbbpddpaaGreat
open Go.RowKit
open Go.Lib (nDigits itoa decDigits)

theorem FrB.far2 {w : World} {b c : Nat} {n d : ByteArray} (h : FrB w b n d) (hb : b ≠ c) (x y : Value) : FrB ((w.setCell ⟨c, 0, none⟩ x).setCell ⟨c, 1, none⟩ y) b n d :=
  (Below.heap_setCell _ ⟨c, 1, none⟩ y b hb).trans ((Below.heap_setCell w ⟨c, 0, none⟩ x b hb).trans h)
def tM (a b : ByteArray) : ByteArray := binB (· * ·) a b
def tME (a b : ByteArray) : Int := binE (· * ·) a b
def tA (a b : ByteArray) : ByteArray := binB (· + ·) a b
def tAE (a b : ByteArray) : Int := binE (· + ·) a b
def tS (a b : ByteArray) : ByteArray := binB (· - ·) a b
def tSE (a b : ByteArray) : Int := binE (· - ·) a b
theorem tM_size (a b : ByteArray) : (tM a b).size ≤ 9223372036854775807 := bin_size _ _ _
theorem tA_size (a b : ByteArray) : (tA a b).size ≤ 9223372036854775807 := bin_size _ _ _
theorem tS_size (a b : ByteArray) : (tS a b).size ≤ 9223372036854775807 := bin_size _ _ _
theorem k_tM (g : Nat) (e : Int) (a b : ByteArray) (w : World) (h : KE w g e) (ha : a.size ≤ 9223372036854775807) (hb : b.size ≤ 9223372036854775807) :
    Calls Tryz.prog 73 #[.pointer (some ⟨g, 0, none⟩), .string a, .string b] w fun x w' => x = .returned (.string (tM a b)) ∧ KE w' g (kp e (tME a b)) ∧ Kp [g] w w' := k_times g e a b w h (by omega) (by omega)
theorem k_tA (g : Nat) (e : Int) (a b : ByteArray) (w : World) (h : KE w g e) (ha : a.size ≤ 9223372036854775807) (hb : b.size ≤ 9223372036854775807) :
    Calls Tryz.prog 49 #[.pointer (some ⟨g, 0, none⟩), .string a, .string b] w fun x w' => x = .returned (.string (tA a b)) ∧ KE w' g (kp e (tAE a b)) ∧ Kp [g] w w' := k_plus g e a b w h (by omega) (by omega)
theorem k_tS (g : Nat) (e : Int) (a b : ByteArray) (w : World) (h : KE w g e) (ha : a.size ≤ 9223372036854775807) (hb : b.size ≤ 9223372036854775807) :
    Calls Tryz.prog 68 #[.pointer (some ⟨g, 0, none⟩), .string a, .string b] w fun x w' => x = .returned (.string (tS a b)) ∧ KE w' g (kp e (tSE a b)) ∧ Kp [g] w w' := k_minus g e a b w h (by omega) (by omega)

/-- of a sum -/
def suN (n p m q : ByteArray) : ByteArray := redN (tA (tM n q) (tM m p)) (tM p q)
def suD (n p m q : ByteArray) : ByteArray := redD (tA (tM n q) (tM m p)) (tM p q)
def suE (n p m q : ByteArray) : Int := kp (tME n q) (kp (tME m p) (kp (tAE (tM n q) (tM m p)) (kp (tME p q) (redE (tA (tM n q) (tM m p)) (tM p q)))))
/-- of a difference -/
def diN (n p m q : ByteArray) : ByteArray := redN (tS (tM n q) (tM m p)) (tM p q)
def diD (n p m q : ByteArray) : ByteArray := redD (tS (tM n q) (tM m p)) (tM p q)
def diE (n p m q : ByteArray) : Int := kp (tME n q) (kp (tME m p) (kp (tSE (tM n q) (tM m p)) (kp (tME p q) (redE (tS (tM n q) (tM m p)) (tM p q)))))
/-- the order, and its error -/
def orV (n p m q : ByteArray) : Int := cmpV (tM n q) (tM m p)
def orE (n p m q : ByteArray) : Int := kp (tME n q) (kp (tME m p) (chkL [tM n q, tM m p]))





















































set_option maxRecDepth 100000 in
set_option maxHeartbeats 4000000 in
theorem k_join_plus (g : Nat) (e : Int) (n p m q : ByteArray) (w : World) (h : KE w g e) (hn : n.size ≤ 9223372036854775807) (hp : p.size ≤ 9223372036854775807) (hm : m.size ≤ 9223372036854775807) (hq : q.size ≤ 9223372036854775807) :
    Calls Tryz.prog 48 #[.pointer (some ⟨g, 0, none⟩), .agg #[.string n, .string p], .agg #[.string m, .string q], .func (.func 49) #[.pointer (some ⟨g, 0, none⟩)] #[]] w fun x w' => x = .returned (.agg #[.string (suN n p m q), .string (suD n p m q)]) ∧ KE w' g (kp e (suE n p m q)) ∧ Kp [g] w w' := by
  have hl := h.lt
  have q1 := Lib.hid (fun W E hE => k_tM g E n q W hE hn hq)
  have q2 := Lib.hid (fun W E hE => k_tM g E m p W hE hm hp)
  have q3 := Lib.hid (fun W E hE => k_tA g E (tM n q) (tM m p) W hE (tM_size _ _) (tM_size _ _))
  have q4 := Lib.hid (fun W E hE => k_tM g E p q W hE hp hq)
  have q5 := Lib.hid (fun W E hE => k_reduce g E (tA (tM n q) (tM m p)) (tM p q) W hE (tA_size _ _) (tM_size _ _))
  have e1 : Hid (suN n p m q = redN (tA (tM n q) (tM m p)) (tM p q)) := rfl
  have e2 : Hid (suD n p m q = redD (tA (tM n q) (tM m p)) (tM p q)) := rfl
  have e3 : Hid (suE n p m q = kp (tME n q) (kp (tME m p) (kp (tAE (tM n q) (tM m p)) (kp (tME p q) (redE (tA (tM n q) (tM m p)) (tM p q)))))) := rfl
  rw [← e1.out, ← e2.out] at q5
  generalize redE (tA (tM n q) (tM m p)) (tM p q) = E5 at *
  generalize tAE (tM n q) (tM m p) = E3 at *
  generalize tA (tM n q) (tM m p) = C at *
  generalize tM n q = A at *
  generalize tM m p = B at *
  generalize tM p q = G at *
  have bx := ((FrB.made w n p).alloc (.cells #[.string m, .string q] 79 (0, 0))).alloc (.cells #[.string ⟨#[]⟩, .string ⟨#[]⟩] 79 (0, 0))
  have by_ := (FrB.made (w.alloc (.cells #[.string n, .string p] 79 (0, 0))) m q).alloc (.cells #[.string ⟨#[]⟩, .string ⟨#[]⟩] 79 (0, 0))
  rw [World.size_alloc] at by_
  have bz := FrB.made ((w.alloc (.cells #[.string n, .string p] 79 (0, 0))).alloc (.cells #[.string m, .string q] 79 (0, 0))) ⟨#[]⟩ ⟨#[]⟩
  rw [World.size_alloc, World.size_alloc] at bz
  have hE := ((h.alloc (.cells #[.string n, .string p] 79 (0, 0))).alloc (.cells #[.string m, .string q] 79 (0, 0))).alloc (.cells #[.string ⟨#[]⟩, .string ⟨#[]⟩] 79 (0, 0))
  have k0 : Kp [g] w (((w.alloc (.cells #[.string n, .string p] 79 (0, 0))).alloc (.cells #[.string m, .string q] 79 (0, 0))).alloc (.cells #[.string ⟨#[]⟩, .string ⟨#[]⟩] 79 (0, 0))) := (((Kp.refl _ _).alloc _).alloc _).alloc _
  have cx0 := bx.c0
  have cx1 := bx.c1
  have cy0 := by_.c0
  have cy1 := by_.c1
  clear h
  go_enter Tryz.func48, Tryz.ntmps48
  go_wp2_with fail
  go_region_held3 (fun w' => w'.cell? ⟨w.heap.size, 0, none⟩ = some (.string n) ∧ w'.cell? ⟨w.heap.size, 1, none⟩ = some (.string p) ∧ w'.cell? ⟨w.heap.size + 1, 0, none⟩ = some (.string m) ∧ w'.cell? ⟨w.heap.size + 1, 1, none⟩ = some (.string q))
    (first
      | exact ⟨bx7.c0, bx7.c1, by7.c0, by7.c1⟩
      | exact ⟨bx6.c0, bx6.c1, by6.c0, by6.c1⟩
      | exact ⟨bx5.c0, bx5.c1, by5.c0, by5.c1⟩
      | exact ⟨bx4.c0, bx4.c1, by4.c0, by4.c1⟩
      | exact ⟨(FrB.far2 bx6 (by omega) _ _).c0, (FrB.far2 bx6 (by omega) _ _).c1, (FrB.far2 by6 (by omega) _ _).c0, (FrB.far2 by6 (by omega) _ _).c1⟩
      | go_keep)
    (first
      | (go_at_call 73; with_reducible refine (q1.out _ _ (KE.drew hE)).mono ?_; rintro x w4 ⟨rfl, hE4, k4⟩; have bx4 := FrB.kept (FrB.drew bx) k4 (nmem_one (by omega)); have by4 := FrB.kept (FrB.drew by_) k4 (nmem_one (by omega)); have bz4 := FrB.kept (FrB.drew bz) k4 (nmem_one (by omega)))
      | (go_at_call 73; with_reducible refine (q2.out _ _ hE4).mono ?_; rintro x w5 ⟨rfl, hE5, k5⟩; have bx5 := FrB.kept bx4 k5 (nmem_one (by omega)); have by5 := FrB.kept by4 k5 (nmem_one (by omega)); have bz5 := FrB.kept bz4 k5 (nmem_one (by omega)))
      | (go_at_call 49; with_reducible refine (q3.out _ _ hE5).mono ?_; rintro x w6 ⟨rfl, hE6, k6⟩; have bx6 := FrB.kept bx5 k6 (nmem_one (by omega)); have by6 := FrB.kept by5 k6 (nmem_one (by omega)); have bz6 := FrB.kept bz5 k6 (nmem_one (by omega))))
  have kk6 := (((Kp.drew k0).trans k4).trans k5).trans k6
  clear bx bx4 bx5 by_ by4 by5 bz bz4 bz5 hE hE4 hE5 k0 k4 k5 k6
  have cx0 := bx6.c0
  have cx1 := bx6.c1
  have cy0 := by6.c0
  have cy1 := by6.c1
  go_wp2_with fail
  with_reducible refine (q4.out _ _ hE6).mono ?_
  rintro x w7 ⟨rfl, hE7, k7⟩
  have bz7 := bz6.kept k7 (nmem_one (by omega))
  have kk7 := kk6.trans k7
  clear kk6 k7 hE6 bx6 by6 bz6
  go_wp2_with fail
  with_reducible refine (q5.out _ _ hE7).mono ?_
  rintro x w8 ⟨rfl, hE8, k8⟩
  have bz8 := bz7.kept k8 (nmem_one (by omega))
  have kk8 := kk7.trans k8
  clear kk7 k8 hE7 bz7
  have z0 := bz8.c0
  have z1 := bz8.c1
  have y0 := bz8.f0 0
  have y1 := bz8.f0 1
  go_wp2
  have b4 := bz8.set2 (x := suN n p m q) (y := suD n p m q)
  have h4 := ke_set2 hE8 (b := w.heap.size + 2) (by omega) (.string (suN n p m q)) (.string (suD n p m q))
  have kk4 := kp_set2 kk8 (b := w.heap.size + 2) (by omega) (.string (suN n p m q)) (.string (suD n p m q))
  generalize (w8.setCell ⟨w.heap.size + 2, 0, none⟩ (.string (suN n p m q))).setCell ⟨w.heap.size + 2, 1, none⟩ (.string (suD n p m q)) = W at *
  have d0 := b4.c0
  have d1 := b4.c1
  refine bodyPost_ret (v := .agg #[.string (suN n p m q), .string (suD n p m q)]) (by simp [results, Tryz.results48, go_sem, d0, d1]) rfl ?_
  exact ⟨rfl, by rw [e3.out]; simpa only [kp_assoc] using h4, kk4⟩

set_option maxRecDepth 100000 in
set_option maxHeartbeats 4000000 in
theorem k_join_minus (g : Nat) (e : Int) (n p m q : ByteArray) (w : World) (h : KE w g e) (hn : n.size ≤ 9223372036854775807) (hp : p.size ≤ 9223372036854775807) (hm : m.size ≤ 9223372036854775807) (hq : q.size ≤ 9223372036854775807) :
    Calls Tryz.prog 48 #[.pointer (some ⟨g, 0, none⟩), .agg #[.string n, .string p], .agg #[.string m, .string q], .func (.func 68) #[.pointer (some ⟨g, 0, none⟩)] #[]] w fun x w' => x = .returned (.agg #[.string (diN n p m q), .string (diD n p m q)]) ∧ KE w' g (kp e (diE n p m q)) ∧ Kp [g] w w' := by
  have hl := h.lt
  have q1 := Lib.hid (fun W E hE => k_tM g E n q W hE hn hq)
  have q2 := Lib.hid (fun W E hE => k_tM g E m p W hE hm hp)
  have q3 := Lib.hid (fun W E hE => k_tS g E (tM n q) (tM m p) W hE (tM_size _ _) (tM_size _ _))
  have q4 := Lib.hid (fun W E hE => k_tM g E p q W hE hp hq)
  have q5 := Lib.hid (fun W E hE => k_reduce g E (tS (tM n q) (tM m p)) (tM p q) W hE (tS_size _ _) (tM_size _ _))
  have e1 : Hid (diN n p m q = redN (tS (tM n q) (tM m p)) (tM p q)) := rfl
  have e2 : Hid (diD n p m q = redD (tS (tM n q) (tM m p)) (tM p q)) := rfl
  have e3 : Hid (diE n p m q = kp (tME n q) (kp (tME m p) (kp (tSE (tM n q) (tM m p)) (kp (tME p q) (redE (tS (tM n q) (tM m p)) (tM p q)))))) := rfl
  rw [← e1.out, ← e2.out] at q5
  generalize redE (tS (tM n q) (tM m p)) (tM p q) = E5 at *
  generalize tSE (tM n q) (tM m p) = E3 at *
  generalize tS (tM n q) (tM m p) = C at *
  generalize tM n q = A at *
  generalize tM m p = B at *
  generalize tM p q = G at *
  have bx := ((FrB.made w n p).alloc (.cells #[.string m, .string q] 79 (0, 0))).alloc (.cells #[.string ⟨#[]⟩, .string ⟨#[]⟩] 79 (0, 0))
  have by_ := (FrB.made (w.alloc (.cells #[.string n, .string p] 79 (0, 0))) m q).alloc (.cells #[.string ⟨#[]⟩, .string ⟨#[]⟩] 79 (0, 0))
  rw [World.size_alloc] at by_
  have bz := FrB.made ((w.alloc (.cells #[.string n, .string p] 79 (0, 0))).alloc (.cells #[.string m, .string q] 79 (0, 0))) ⟨#[]⟩ ⟨#[]⟩
  rw [World.size_alloc, World.size_alloc] at bz
  have hE := ((h.alloc (.cells #[.string n, .string p] 79 (0, 0))).alloc (.cells #[.string m, .string q] 79 (0, 0))).alloc (.cells #[.string ⟨#[]⟩, .string ⟨#[]⟩] 79 (0, 0))
  have k0 : Kp [g] w (((w.alloc (.cells #[.string n, .string p] 79 (0, 0))).alloc (.cells #[.string m, .string q] 79 (0, 0))).alloc (.cells #[.string ⟨#[]⟩, .string ⟨#[]⟩] 79 (0, 0))) := (((Kp.refl _ _).alloc _).alloc _).alloc _
  have cx0 := bx.c0
  have cx1 := bx.c1
  have cy0 := by_.c0
  have cy1 := by_.c1
  clear h
  go_enter Tryz.func48, Tryz.ntmps48
  go_wp2_with fail
  go_region_held3 (fun w' => w'.cell? ⟨w.heap.size, 0, none⟩ = some (.string n) ∧ w'.cell? ⟨w.heap.size, 1, none⟩ = some (.string p) ∧ w'.cell? ⟨w.heap.size + 1, 0, none⟩ = some (.string m) ∧ w'.cell? ⟨w.heap.size + 1, 1, none⟩ = some (.string q))
    (first
      | exact ⟨bx7.c0, bx7.c1, by7.c0, by7.c1⟩
      | exact ⟨bx6.c0, bx6.c1, by6.c0, by6.c1⟩
      | exact ⟨bx5.c0, bx5.c1, by5.c0, by5.c1⟩
      | exact ⟨bx4.c0, bx4.c1, by4.c0, by4.c1⟩
      | exact ⟨(FrB.far2 bx6 (by omega) _ _).c0, (FrB.far2 bx6 (by omega) _ _).c1, (FrB.far2 by6 (by omega) _ _).c0, (FrB.far2 by6 (by omega) _ _).c1⟩
      | go_keep)
    (first
      | (go_at_call 73; with_reducible refine (q1.out _ _ (KE.drew hE)).mono ?_; rintro x w4 ⟨rfl, hE4, k4⟩; have bx4 := FrB.kept (FrB.drew bx) k4 (nmem_one (by omega)); have by4 := FrB.kept (FrB.drew by_) k4 (nmem_one (by omega)); have bz4 := FrB.kept (FrB.drew bz) k4 (nmem_one (by omega)))
      | (go_at_call 73; with_reducible refine (q2.out _ _ hE4).mono ?_; rintro x w5 ⟨rfl, hE5, k5⟩; have bx5 := FrB.kept bx4 k5 (nmem_one (by omega)); have by5 := FrB.kept by4 k5 (nmem_one (by omega)); have bz5 := FrB.kept bz4 k5 (nmem_one (by omega)))
      | (go_at_call 68; with_reducible refine (q3.out _ _ hE5).mono ?_; rintro x w6 ⟨rfl, hE6, k6⟩; have bx6 := FrB.kept bx5 k6 (nmem_one (by omega)); have by6 := FrB.kept by5 k6 (nmem_one (by omega)); have bz6 := FrB.kept bz5 k6 (nmem_one (by omega))))
  have kk6 := (((Kp.drew k0).trans k4).trans k5).trans k6
  clear bx bx4 bx5 by_ by4 by5 bz bz4 bz5 hE hE4 hE5 k0 k4 k5 k6
  have cx0 := bx6.c0
  have cx1 := bx6.c1
  have cy0 := by6.c0
  have cy1 := by6.c1
  go_wp2_with fail
  with_reducible refine (q4.out _ _ hE6).mono ?_
  rintro x w7 ⟨rfl, hE7, k7⟩
  have bz7 := bz6.kept k7 (nmem_one (by omega))
  have kk7 := kk6.trans k7
  clear kk6 k7 hE6 bx6 by6 bz6
  go_wp2_with fail
  with_reducible refine (q5.out _ _ hE7).mono ?_
  rintro x w8 ⟨rfl, hE8, k8⟩
  have bz8 := bz7.kept k8 (nmem_one (by omega))
  have kk8 := kk7.trans k8
  clear kk7 k8 hE7 bz7
  have z0 := bz8.c0
  have z1 := bz8.c1
  have y0 := bz8.f0 0
  have y1 := bz8.f0 1
  go_wp2
  have b4 := bz8.set2 (x := diN n p m q) (y := diD n p m q)
  have h4 := ke_set2 hE8 (b := w.heap.size + 2) (by omega) (.string (diN n p m q)) (.string (diD n p m q))
  have kk4 := kp_set2 kk8 (b := w.heap.size + 2) (by omega) (.string (diN n p m q)) (.string (diD n p m q))
  generalize (w8.setCell ⟨w.heap.size + 2, 0, none⟩ (.string (diN n p m q))).setCell ⟨w.heap.size + 2, 1, none⟩ (.string (diD n p m q)) = W at *
  have d0 := b4.c0
  have d1 := b4.c1
  refine bodyPost_ret (v := .agg #[.string (diN n p m q), .string (diD n p m q)]) (by simp [results, Tryz.results48, go_sem, d0, d1]) rfl ?_
  exact ⟨rfl, by rw [e3.out]; simpa only [kp_assoc] using h4, kk4⟩
end Go.Proofs.YtiommpdbbpddpaaGreat
