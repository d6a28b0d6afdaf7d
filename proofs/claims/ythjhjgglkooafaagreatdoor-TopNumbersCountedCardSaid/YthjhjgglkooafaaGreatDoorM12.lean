/- Texts Quo, QuoAll, Times: each says in its own first comment what it proves. -/
import Derived.Test.YthjhjgglkooafaaGreatDoorM11
import Derived.Test.YthjhjgglkooafaaGreatDoorM10
import Derived.Test.YthjhjgglkooafaaGreatDoorM08
/- Walks over whole.divide, Quo and Rem, for all texts. -/
namespace Go.Proofs.YthjhjgglkooafaaGreatDoor
open Go.RowKit
open Go.Lib (nDigits itoa decDigits)

theorem S_zero : S 0 = ⟨#[48]⟩ := by unfold S; rw [show itoa 0 = decDigits 0 from rfl, dec_zero]
theorem S_eq_zero {z : Int} : (S z).toList = [48] ↔ z = 0 := by
  rw [Lib.toList_data, S_list]
  constructor
  · intro h; exact itoa_inj (x := z) (y := 0) (by rw [h, show itoa 0 = decDigits 0 from rfl, dec_zero])
  · rintro rfl; rw [show itoa 0 = decDigits 0 from rfl, dec_zero]
/-- the result of a division of two texts -/
def divB (f : Int → Int → Int) (a b : ByteArray) : ByteArray := if chkL [a, b] = 0 then (if valS b = 0 then ⟨#[]⟩ else resB (f (valS a) (valS b))) else ⟨#[]⟩
def divE (f : Int → Int → Int) (a b : ByteArray) : Int := if chkL [a, b] = 0 then (if valS b = 0 then 10 else resE (f (valS a) (valS b))) else chkL [a, b]
def TakeOutAll (a b : ByteArray) : Prop := chkL [a, b] = 0 → valS b ≠ 0 → TakeOutOk (valS a).natAbs (valS b).natAbs

set_option maxRecDepth 100000 in
set_option maxHeartbeats 1000000 in
theorem divide_bad (q r : Nat) (a b : ByteArray) (w : World) (ha : a.size ≤ 9223372036854775807) (hb : b.size ≤ 9223372036854775807) (hne : chkL [a, b] ≠ 0) :
    Calls Tryz.prog 84 #[.string a, .string b, .pointer (some ⟨q, 0, none⟩), .pointer (some ⟨r, 0, none⟩)] w fun e w' => e = .returned (.int .i64 (chkL [a, b])) ∧ Kp [] w w' := by
  have hc := check2 a b w ha hb
  have hbb : (chkL [a, b] != 0) = true := bne_iff_ne.2 hne
  have H := Lib.hid hc; clear hc hne
  generalize chkL [a, b] = k at *
  go_enter Tryz.func84, Tryz.ntmps84
  go_wp2_with fail
  refine H.out.mono ?_
  rintro e w' ⟨rfl, rfl⟩
  go_wp2
  go_ret
  exact ⟨rfl, (Kp.refl _ _).alloc _⟩

set_option maxRecDepth 100000 in
set_option maxHeartbeats 1000000 in
theorem divide_zero (q r : Nat) (x y : Int) (w : World) (hx : Ok x) (hy : Ok y) (h0 : y = 0) :
    Calls Tryz.prog 84 #[.string (S x), .string (S y), .pointer (some ⟨q, 0, none⟩), .pointer (some ⟨r, 0, none⟩)] w fun e w' => e = .returned (.int .i64 10) ∧ Kp [] w w' := by
  have hc := check2 (S x) (S y) w (Nat.le_trans hx.size (by decide)) (Nat.le_trans hy.size (by decide))
  rw [show chkL [S x, S y] = 0 from chkL_map (zs := [x, y]) (fun z hz => by
    rcases List.mem_cons.1 hz with rfl | hz
    · exact hx
    · rcases List.mem_cons.1 hz with rfl | hz
      · exact hy
      · cases hz)] at hc
  have hb : ((S y).toList == [48]) = true := by rw [S_eq_zero.2 h0]; rfl
  have H := Lib.hid hc; clear hc h0
  generalize S y = t at *
  go_enter Tryz.func84, Tryz.ntmps84
  go_wp2_with fail
  refine H.out.mono ?_
  rintro e w' ⟨rfl, rfl⟩
  go_wp2
  go_ret
  exact ⟨rfl, (Kp.refl _ _).alloc _⟩

set_option maxRecDepth 100000 in
set_option maxHeartbeats 1000000 in
theorem divide_ok (q r : Nat) (x y : Int) (w : World) (hT : TakeOutOk x.natAbs y.natAbs) (hx : Ok x) (hy : Ok y) (h0 : y ≠ 0) (hq : NumF w q (fun _ => 0) 0 false) (hr : NumF w r (fun _ => 0) 0 false) (hqr : q ≠ r) :
    Calls Tryz.prog 84 #[.string (S x), .string (S y), .pointer (some ⟨q, 0, none⟩), .pointer (some ⟨r, 0, none⟩)] w fun e w' => e = .returned (.int .i64 0) ∧ NumZ w' q (x.fdiv y) ∧ NumZ w' r (x.fmod y) ∧ Kp [q, r] w w' := by
  have hc := check2 (S x) (S y) w (Nat.le_trans hx.size (by decide)) (Nat.le_trans hy.size (by decide))
  rw [show chkL [S x, S y] = 0 from chkL_map (zs := [x, y]) (fun z hz => by
    rcases List.mem_cons.1 hz with rfl | hz
    · exact hx
    · rcases List.mem_cons.1 hz with rfl | hz
      · exact hy
      · cases hz)] at hc
  have hb : ((S y).toList == [48]) = false := beq_eq_false_iff_ne.2 (fun e => h0 (S_eq_zero.1 e))
  have H := Lib.hid hc; clear hc
  have hlq := hq.lt
  have hlr := hr.lt
  have n1 := NumF.made (w.alloc (.cells #[.string (S x), .string (S y)] 29))
  rw [World.size_alloc] at n1
  have k1 : Kp [q, r] w (w.alloc (.cells #[.string (S x), .string (S y)] 29)) := (Kp.refl _ _).alloc _
  go_enter Tryz.func84, Tryz.ntmps84
  go_wp2_with fail
  refine H.out.mono ?_
  rintro e w' ⟨rfl, rfl⟩
  go_wp2_with fail
  refine (readZ r x _ ((hr.alloc _).alloc _) hx).mono ?_
  rintro e w1 ⟨rfl, hr1, hk1⟩
  have hq1 := ((hq.alloc _).alloc _).kp hk1 (by simpa using hqr)
  have hn1 := n1.kp hk1 (by simp <;> omega)
  go_wp2_with fail
  refine (readZ (w.heap.size + 1) y _ hn1 hy).mono ?_
  rintro e w2 ⟨rfl, hy2, hk2⟩
  have hr2 := hr1.kp hk2 (by simp <;> omega)
  have hq2 := hq1.kp hk2 (by simp <;> omega)
  go_wp2_with fail
  refine (divideZ r (w.heap.size + 1) q x y _ hT hr2 hy2 hq2 (by omega) (fun e => hqr e.symm) (by omega) h0 (Nat.lt_of_lt_of_le hx.lt (pow_le (by omega))) (Nat.lt_of_lt_of_le hy.lt (pow_le (by omega)))).mono ?_
  rintro e w3 ⟨rfl, hr3, hq3, hk3⟩
  go_wp2
  go_ret
  exact ⟨rfl, hq3, hr3, (((k1.alloc _).step hk1 (by simp <;> omega)).step hk2 (by simp <;> omega)).step hk3 (by simp <;> omega)⟩

set_option maxRecDepth 100000 in
set_option maxHeartbeats 1000000 in
theorem Quo_any (a b : ByteArray) (w : World) (hT : TakeOutAll a b) (ha : a.size ≤ 9223372036854775807) (hb : b.size ≤ 9223372036854775807) :
    Calls Tryz.prog 60 #[.string a, .string b] w fun e w' => e = .returned (.tuple #[.string (divB Int.fdiv a b), .int .i64 (divE Int.fdiv a b)]) ∧ Kp [] w w' := by
  have n1 := NumF.made w
  have n2 := NumF.made (w.alloc (.cells Tryz.zeroCells98 98))
  rw [World.size_alloc] at n2
  have k1 : Kp [] w ((w.alloc (.cells Tryz.zeroCells98 98)).alloc (.cells Tryz.zeroCells98 98)) := ((Kp.refl _ _).alloc _).alloc _
  by_cases h : chkL [a, b] = 0
  · have hT' := hT h
    obtain ⟨x, y, rfl, rfl, hx, hy⟩ := chkL2 h
    rw [valS_S, valS_S] at hT'
    by_cases h0 : y = 0
    · have hv1 : Hid (divB Int.fdiv (S x) (S y) = ⟨#[]⟩) := by show divB _ _ _ = _; unfold divB; rw [if_pos h, valS_S, if_pos h0]
      have hv2 : Hid (divE Int.fdiv (S x) (S y) = 10) := by show divE _ _ _ = _; unfold divE; rw [if_pos h, valS_S, if_pos h0]
      have hd := Lib.hid (divide_zero w.heap.size (w.heap.size + 1) x y ((w.alloc (.cells Tryz.zeroCells98 98)).alloc (.cells Tryz.zeroCells98 98)) hx hy h0)
      clear h h0 hT hT'
      go_enter Tryz.func60, Tryz.ntmps60
      go_wp2_with fail
      refine hd.out.mono ?_
      rintro e w' ⟨rfl, hk⟩
      go_wp2
      go_ret2
      exact ⟨by rw [hv1.out, hv2.out]; rfl, k1.trans hk⟩
    · have hv1 : Hid (divB Int.fdiv (S x) (S y) = resB (x.fdiv y)) := by show divB _ _ _ = _; unfold divB; rw [if_pos h, valS_S, valS_S, if_neg h0]
      have hv2 : Hid (divE Int.fdiv (S x) (S y) = resE (x.fdiv y)) := by show divE _ _ _ = _; unfold divE; rw [if_pos h, valS_S, valS_S, if_neg h0]
      have hd := Lib.hid (divide_ok w.heap.size (w.heap.size + 1) x y _ (hT' h0) hx hy h0 (n1.alloc _) n2 (by omega))
      clear h h0 hT hT'
      go_enter Tryz.func60, Tryz.ntmps60
      go_wp2_with fail
      refine hd.out.mono ?_
      rintro e w1 ⟨rfl, hq, hr, hk⟩
      go_wp2_with fail
      refine (textZ _ _ _ hq).mono ?_
      rintro e w2 ⟨rfl, hk2⟩
      go_wp2
      go_ret2
      exact ⟨by rw [hv1.out, hv2.out]; rfl, (k1.step hk (by simp <;> omega)).trans hk2⟩
  · have hv1 : Hid (divB Int.fdiv a b = ⟨#[]⟩) := if_neg h
    have hv2 : Hid (divE Int.fdiv a b = chkL [a, b]) := if_neg h
    have hbb : (chkL [a, b] != 0) = true := bne_iff_ne.2 h
    have hd := Lib.hid (divide_bad w.heap.size (w.heap.size + 1) a b ((w.alloc (.cells Tryz.zeroCells98 98)).alloc (.cells Tryz.zeroCells98 98)) ha hb h)
    clear h hT
    generalize chkL [a, b] = k at *
    go_enter Tryz.func60, Tryz.ntmps60
    go_wp2_with fail
    refine hd.out.mono ?_
    rintro e w' ⟨rfl, hk⟩
    go_wp2
    go_ret2
    exact ⟨by rw [hv1.out, hv2.out]; rfl, k1.trans hk⟩



















































end Go.Proofs.YthjhjgglkooafaaGreatDoor

/- Quo and Rem for every two texts. -/
namespace Go.Proofs.YthjhjgglkooafaaGreatDoor
open Go.RowKit

theorem takeOut_texts (a b : ByteArray) : TakeOutAll a b := by
  intro h h0
  obtain ⟨x, y, rfl, rfl, hx, hy⟩ := chkL2 h
  rw [valS_S] at h0
  rw [valS_S, valS_S]
  exact takeOut_all (by omega) (Nat.lt_of_lt_of_le hx.lt (pow_le (by omega)))
theorem Quo_all (a b : ByteArray) (w : World) (ha : a.size ≤ 9223372036854775807) (hb : b.size ≤ 9223372036854775807) :
    Calls Tryz.prog 60 #[.string a, .string b] w fun e w' => e = .returned (.tuple #[.string (divB Int.fdiv a b), .int .i64 (divE Int.fdiv a b)]) ∧ Kp [] w w' :=
  Quo_any a b w (takeOut_texts a b) ha hb




theorem divB_S {f : Int → Int → Int} {x y : Int} (hx : Ok x) (hy : Ok y) (h0 : y ≠ 0) : divB f (S x) (S y) = resB (f x y) := by
  unfold divB
  rw [if_pos (show chkL [S x, S y] = 0 from chkL_map (zs := [x, y]) (by intro z hz; simp at hz; rcases hz with rfl | rfl <;> assumption)), valS_S, valS_S, if_neg h0]
theorem divE_S {f : Int → Int → Int} {x y : Int} (hx : Ok x) (hy : Ok y) (h0 : y ≠ 0) : divE f (S x) (S y) = resE (f x y) := by
  unfold divE
  rw [if_pos (show chkL [S x, S y] = 0 from chkL_map (zs := [x, y]) (by intro z hz; simp at hz; rcases hz with rfl | rfl <;> assumption)), valS_S, valS_S, if_neg h0]
theorem quoS (x y : Int) (w : World) (hx : Ok x) (hy : Ok y) (h0 : y ≠ 0) (h : Ok (x.fdiv y)) :
    Calls Tryz.prog 60 #[.string (S x), .string (S y)] w fun e w' => e = .returned (.tuple #[.string (S (x.fdiv y)), .int .i64 0]) ∧ Kp [] w w' := by
  have := Quo_all (S x) (S y) w (Nat.le_trans hx.size (by decide)) (Nat.le_trans hy.size (by decide))
  rw [divB_S hx hy h0, divE_S hx hy h0, show resB (x.fdiv y) = S (x.fdiv y) from if_pos h, show resE (x.fdiv y) = 0 from if_pos h] at this
  exact this





end Go.Proofs.YthjhjgglkooafaaGreatDoor

/- Walk over (*number).times: a number becomes its product with another, and whether that is not too long. -/
namespace Go.Proofs.YthjhjgglkooafaaGreatDoor
open Go.RowKit
open Go.Lib (nDigits)




























end Go.Proofs.YthjhjgglkooafaaGreatDoor
