/- Texts Quo, QuoAll, Times, Total: each says in its own first comment what it proves. -/
import Derived.Test.YtcgilcmhandgfaaGreatDoorM11
import Derived.Test.YtcgilcmhandgfaaGreatDoorM10
import Derived.Test.YtcgilcmhandgfaaGreatDoorM08
/- Walks over whole.divide, Quo and Rem, for all texts. -/
namespace Go.Proofs.YtcgilcmhandgfaaGreatDoor
open Go.RowKit
open Go.Lib (nDigits itoa decDigits)

theorem S_zero : S 0 = ⟨#[48]⟩ := by unfold S; rw [show itoa 0 = decDigits 0 from rfl, dec_zero]
theorem S_eq_zero {z : Int} : (S z).toList = [48] ↔ z = 0 := by
  rw [Lib.toList_data, S_list]
  constructor
  · intro h; exact itoa_inj (x := z) (y := 0) (by rw [h, show itoa 0 = decDigits 0 from rfl, dec_zero])
  · rintro rfl; rw [show itoa 0 = decDigits 0 from rfl, dec_zero]
/-- the result of a division of two texts -/
def divB (f : Int → Int → Int) (a b : ByteArray) : ByteArray := if chkL [a, b] = 0 then (if valS b = 0 then ⟨#[]⟩ else resB (f (valS a) (valS b))) else ⟨#[]⟩
def divE (f : Int → Int → Int) (a b : ByteArray) : Int := if chkL [a, b] = 0 then (if valS b = 0 then 10 else resE (f (valS a) (valS b))) else chkL [a, b]
def TakeOutAll (a b : ByteArray) : Prop := chkL [a, b] = 0 → valS b ≠ 0 → TakeOutOk (valS a).natAbs (valS b).natAbs

set_option maxRecDepth 100000 in
set_option maxHeartbeats 1000000 in
theorem divide_bad (q r : Nat) (a b : ByteArray) (w : World) (ha : a.size ≤ 9223372036854775807) (hb : b.size ≤ 9223372036854775807) (hne : chkL [a, b] ≠ 0) :
    Calls Tryz.prog 222 #[.string a, .string b, .pointer (some ⟨q, 0, none⟩), .pointer (some ⟨r, 0, none⟩)] w fun e w' => e = .returned (.int .i64 (chkL [a, b])) ∧ Kp [] w w' := by
  have hc := check2 a b w ha hb
  have hbb : (chkL [a, b] != 0) = true := bne_iff_ne.2 hne
  have H := Lib.hid hc; clear hc hne
  generalize chkL [a, b] = k at *
  go_enter Tryz.func222, Tryz.ntmps222
  go_wp2_with fail
  refine H.out.mono ?_
  rintro e w' ⟨rfl, rfl⟩
  go_wp2
  go_ret
  exact ⟨rfl, (Kp.refl _ _).alloc _⟩

set_option maxRecDepth 100000 in
set_option maxHeartbeats 1000000 in
theorem divide_zero (q r : Nat) (x y : Int) (w : World) (hx : Ok x) (hy : Ok y) (h0 : y = 0) :
    Calls Tryz.prog 222 #[.string (S x), .string (S y), .pointer (some ⟨q, 0, none⟩), .pointer (some ⟨r, 0, none⟩)] w fun e w' => e = .returned (.int .i64 10) ∧ Kp [] w w' := by
  have hc := check2 (S x) (S y) w (Nat.le_trans hx.size (by decide)) (Nat.le_trans hy.size (by decide))
  rw [show chkL [S x, S y] = 0 from chkL_map (zs := [x, y]) (fun z hz => by
    rcases List.mem_cons.1 hz with rfl | hz
    · exact hx
    · rcases List.mem_cons.1 hz with rfl | hz
      · exact hy
      · cases hz)] at hc
  have hb : ((S y).toList == [48]) = true := by rw [S_eq_zero.2 h0]; rfl
  have H := Lib.hid hc; clear hc h0
  generalize S y = t at *
  go_enter Tryz.func222, Tryz.ntmps222
  go_wp2_with fail
  refine H.out.mono ?_
  rintro e w' ⟨rfl, rfl⟩
  go_wp2
  go_ret
  exact ⟨rfl, (Kp.refl _ _).alloc _⟩

set_option maxRecDepth 100000 in
set_option maxHeartbeats 1000000 in
theorem divide_ok (q r : Nat) (x y : Int) (w : World) (hT : TakeOutOk x.natAbs y.natAbs) (hx : Ok x) (hy : Ok y) (h0 : y ≠ 0) (hq : NumF w q (fun _ => 0) 0 false) (hr : NumF w r (fun _ => 0) 0 false) (hqr : q ≠ r) :
    Calls Tryz.prog 222 #[.string (S x), .string (S y), .pointer (some ⟨q, 0, none⟩), .pointer (some ⟨r, 0, none⟩)] w fun e w' => e = .returned (.int .i64 0) ∧ NumZ w' q (x.fdiv y) ∧ NumZ w' r (x.fmod y) ∧ Kp [q, r] w w' := by
  have hc := check2 (S x) (S y) w (Nat.le_trans hx.size (by decide)) (Nat.le_trans hy.size (by decide))
  rw [show chkL [S x, S y] = 0 from chkL_map (zs := [x, y]) (fun z hz => by
    rcases List.mem_cons.1 hz with rfl | hz
    · exact hx
    · rcases List.mem_cons.1 hz with rfl | hz
      · exact hy
      · cases hz)] at hc
  have hb : ((S y).toList == [48]) = false := beq_eq_false_iff_ne.2 (fun e => h0 (S_eq_zero.1 e))
  have H := Lib.hid hc; clear hc
  have hlq := hq.lt
  have hlr := hr.lt
  have n1 := NumF.made (w.alloc (.cells #[.string (S x), .string (S y)] 121))
  rw [World.size_alloc] at n1
  have k1 : Kp [q, r] w (w.alloc (.cells #[.string (S x), .string (S y)] 121)) := (Kp.refl _ _).alloc _
  go_enter Tryz.func222, Tryz.ntmps222
  go_wp2_with fail
  refine H.out.mono ?_
  rintro e w' ⟨rfl, rfl⟩
  go_wp2_with fail
  refine (readZ r x _ ((hr.alloc _).alloc _) hx).mono ?_
  rintro e w1 ⟨rfl, hr1, hk1⟩
  have hq1 := ((hq.alloc _).alloc _).kp hk1 (by simpa using hqr)
  have hn1 := n1.kp hk1 (by simp <;> omega)
  go_wp2_with fail
  refine (readZ (w.heap.size + 1) y _ hn1 hy).mono ?_
  rintro e w2 ⟨rfl, hy2, hk2⟩
  have hr2 := hr1.kp hk2 (by simp <;> omega)
  have hq2 := hq1.kp hk2 (by simp <;> omega)
  go_wp2_with fail
  refine (divideZ r (w.heap.size + 1) q x y _ hT hr2 hy2 hq2 (by omega) (fun e => hqr e.symm) (by omega) h0 (Nat.lt_of_lt_of_le hx.lt (pow_le (by omega))) (Nat.lt_of_lt_of_le hy.lt (pow_le (by omega)))).mono ?_
  rintro e w3 ⟨rfl, hr3, hq3, hk3⟩
  go_wp2
  go_ret
  exact ⟨rfl, hq3, hr3, (((k1.alloc _).step hk1 (by simp <;> omega)).step hk2 (by simp <;> omega)).step hk3 (by simp <;> omega)⟩

set_option maxRecDepth 100000 in
set_option maxHeartbeats 1000000 in
theorem Quo_any (a b : ByteArray) (w : World) (hT : TakeOutAll a b) (ha : a.size ≤ 9223372036854775807) (hb : b.size ≤ 9223372036854775807) :
    Calls Tryz.prog 206 #[.string a, .string b] w fun e w' => e = .returned (.tuple #[.string (divB Int.fdiv a b), .int .i64 (divE Int.fdiv a b)]) ∧ Kp [] w w' := by
  have n1 := NumF.made w
  have n2 := NumF.made (w.alloc (.cells Tryz.zeroCells211 211))
  rw [World.size_alloc] at n2
  have k1 : Kp [] w ((w.alloc (.cells Tryz.zeroCells211 211)).alloc (.cells Tryz.zeroCells211 211)) := ((Kp.refl _ _).alloc _).alloc _
  by_cases h : chkL [a, b] = 0
  · have hT' := hT h
    obtain ⟨x, y, rfl, rfl, hx, hy⟩ := chkL2 h
    rw [valS_S, valS_S] at hT'
    by_cases h0 : y = 0
    · have hv1 : Hid (divB Int.fdiv (S x) (S y) = ⟨#[]⟩) := by show divB _ _ _ = _; unfold divB; rw [if_pos h, valS_S, if_pos h0]
      have hv2 : Hid (divE Int.fdiv (S x) (S y) = 10) := by show divE _ _ _ = _; unfold divE; rw [if_pos h, valS_S, if_pos h0]
      have hd := Lib.hid (divide_zero w.heap.size (w.heap.size + 1) x y ((w.alloc (.cells Tryz.zeroCells211 211)).alloc (.cells Tryz.zeroCells211 211)) hx hy h0)
      clear h h0 hT hT'
      go_enter Tryz.func206, Tryz.ntmps206
      go_wp2_with fail
      refine hd.out.mono ?_
      rintro e w' ⟨rfl, hk⟩
      go_wp2
      go_ret2
      exact ⟨by rw [hv1.out, hv2.out]; rfl, k1.trans hk⟩
    · have hv1 : Hid (divB Int.fdiv (S x) (S y) = resB (x.fdiv y)) := by show divB _ _ _ = _; unfold divB; rw [if_pos h, valS_S, valS_S, if_neg h0]
      have hv2 : Hid (divE Int.fdiv (S x) (S y) = resE (x.fdiv y)) := by show divE _ _ _ = _; unfold divE; rw [if_pos h, valS_S, valS_S, if_neg h0]
      have hd := Lib.hid (divide_ok w.heap.size (w.heap.size + 1) x y _ (hT' h0) hx hy h0 (n1.alloc _) n2 (by omega))
      clear h h0 hT hT'
      go_enter Tryz.func206, Tryz.ntmps206
      go_wp2_with fail
      refine hd.out.mono ?_
      rintro e w1 ⟨rfl, hq, hr, hk⟩
      go_wp2_with fail
      refine (textZ _ _ _ hq).mono ?_
      rintro e w2 ⟨rfl, hk2⟩
      go_wp2
      go_ret2
      exact ⟨by rw [hv1.out, hv2.out]; rfl, (k1.step hk (by simp <;> omega)).trans hk2⟩
  · have hv1 : Hid (divB Int.fdiv a b = ⟨#[]⟩) := if_neg h
    have hv2 : Hid (divE Int.fdiv a b = chkL [a, b]) := if_neg h
    have hbb : (chkL [a, b] != 0) = true := bne_iff_ne.2 h
    have hd := Lib.hid (divide_bad w.heap.size (w.heap.size + 1) a b ((w.alloc (.cells Tryz.zeroCells211 211)).alloc (.cells Tryz.zeroCells211 211)) ha hb h)
    clear h hT
    generalize chkL [a, b] = k at *
    go_enter Tryz.func206, Tryz.ntmps206
    go_wp2_with fail
    refine hd.out.mono ?_
    rintro e w' ⟨rfl, hk⟩
    go_wp2
    go_ret2
    exact ⟨by rw [hv1.out, hv2.out]; rfl, k1.trans hk⟩



















































end Go.Proofs.YtcgilcmhandgfaaGreatDoor

/- Quo and Rem for every two texts. -/
namespace Go.Proofs.YtcgilcmhandgfaaGreatDoor
open Go.RowKit

theorem takeOut_texts (a b : ByteArray) : TakeOutAll a b := by
  intro h h0
  obtain ⟨x, y, rfl, rfl, hx, hy⟩ := chkL2 h
  rw [valS_S] at h0
  rw [valS_S, valS_S]
  exact takeOut_all (by omega) (Nat.lt_of_lt_of_le hx.lt (pow_le (by omega)))
theorem Quo_all (a b : ByteArray) (w : World) (ha : a.size ≤ 9223372036854775807) (hb : b.size ≤ 9223372036854775807) :
    Calls Tryz.prog 206 #[.string a, .string b] w fun e w' => e = .returned (.tuple #[.string (divB Int.fdiv a b), .int .i64 (divE Int.fdiv a b)]) ∧ Kp [] w w' :=
  Quo_any a b w (takeOut_texts a b) ha hb




theorem divB_S {f : Int → Int → Int} {x y : Int} (hx : Ok x) (hy : Ok y) (h0 : y ≠ 0) : divB f (S x) (S y) = resB (f x y) := by
  unfold divB
  rw [if_pos (show chkL [S x, S y] = 0 from chkL_map (zs := [x, y]) (by intro z hz; simp at hz; rcases hz with rfl | rfl <;> assumption)), valS_S, valS_S, if_neg h0]
theorem divE_S {f : Int → Int → Int} {x y : Int} (hx : Ok x) (hy : Ok y) (h0 : y ≠ 0) : divE f (S x) (S y) = resE (f x y) := by
  unfold divE
  rw [if_pos (show chkL [S x, S y] = 0 from chkL_map (zs := [x, y]) (by intro z hz; simp at hz; rcases hz with rfl | rfl <;> assumption)), valS_S, valS_S, if_neg h0]
theorem quoS (x y : Int) (w : World) (hx : Ok x) (hy : Ok y) (h0 : y ≠ 0) (h : Ok (x.fdiv y)) :
    Calls Tryz.prog 206 #[.string (S x), .string (S y)] w fun e w' => e = .returned (.tuple #[.string (S (x.fdiv y)), .int .i64 0]) ∧ Kp [] w w' := by
  have := Quo_all (S x) (S y) w (Nat.le_trans hx.size (by decide)) (Nat.le_trans hy.size (by decide))
  rw [divB_S hx hy h0, divE_S hx hy h0, show resB (x.fdiv y) = S (x.fdiv y) from if_pos h, show resE (x.fdiv y) = 0 from if_pos h] at this
  exact this





end Go.Proofs.YtcgilcmhandgfaaGreatDoor

/- Walk over (*number).times: a number becomes its product with another, and whether that is not too long. -/
namespace Go.Proofs.YtcgilcmhandgfaaGreatDoor
open Go.RowKit
open Go.Lib (nDigits)




























end Go.Proofs.YtcgilcmhandgfaaGreatDoor

/- Walk over whole.Total: the sum of a list of texts. -/
namespace Go.Proofs.YtcgilcmhandgfaaGreatDoor
open Go.RowKit

def sumB (ss : List ByteArray) : ByteArray := if chkL ss = 0 then resB (ss.map valS).sum else ⟨#[]⟩
def sumE (ss : List ByteArray) : Int := if chkL ss = 0 then resE (ss.map valS).sum else chkL ss
theorem chkL_all {ss : List ByteArray} (h : chkL ss = 0) : ∃ zs : List Int, ss = zs.map S ∧ ∀ z ∈ zs, Ok z := by
  induction ss with
  | nil => exact ⟨[], rfl, by simp⟩
  | cons a t ih =>
    unfold chkL at h
    by_cases ha : chk a.data.toList = 0
    · rw [if_pos ha] at h
      obtain ⟨zs, rfl, hz⟩ := ih h
      obtain ⟨z, rfl, hz1⟩ := of_chk_zero ha
      refine ⟨z :: zs, rfl, fun y hy => ?_⟩
      rcases List.mem_cons.1 hy with rfl | hy
      · exact hz1
      · exact hz y hy
    · rw [if_neg ha] at h; exact absurd h ha
theorem map_valS (zs : List Int) : (zs.map S).map valS = zs := by
  induction zs with
  | nil => rfl
  | cons a t ih => rw [List.map_cons, List.map_cons, ih, valS_S]

/-- the sum of a slice that is not empty, for all texts -/
theorem sum_all (g o c : Nat) (ss : List ByteArray) (w : World) (hs : Strs w g o ss) (hg : g < w.heap.size) (hz : ∀ s ∈ ss, s.size ≤ 9223372036854775807) (hl : ss.length ≤ 4096) :
    Calls Tryz.prog 223 #[.slice (some ⟨g, o, none⟩) ss.length c] w fun e w' => e = .returned (.tuple #[.string (sumB ss), .int .i64 (sumE ss)]) ∧ Kp [] w w' := by
  by_cases h : chkL ss = 0
  · obtain ⟨zs, rfl, hok⟩ := chkL_all h
    have := sum_ok g o c zs w hs hg hok (by simpa using hl)
    unfold sumB sumE
    rw [if_pos h, if_pos h, map_valS, List.length_map]; exact this
  · refine (sum_bad g o c ss w hs hz (by omega) h).mono ?_
    rintro e w' ⟨he, rfl⟩
    unfold sumB sumE
    rw [if_neg h, if_neg h]; exact ⟨he, Kp.refl _ _⟩

set_option maxHeartbeats 1000000 in
theorem checkAll_nil (a : Option Addr) (c : Nat) (w : World) :
    Calls Tryz.prog 170 #[.slice a 0 c] w fun e w' => e = .returned (.int .i64 0) ∧ w = w' := by
  go_enter Tryz.func170, Tryz.ntmps170
  go_wp2
  go_loop [8] (fun s8 => s8 = .int .i64 0) (fun _ => 0)
  case atStart => rfl
  case round =>
    subst hrel
    go_wp2
    go_ret
    exact ⟨rfl, rfl⟩

set_option maxRecDepth 100000 in
set_option maxHeartbeats 1000000 in
theorem sum_nil (a : Option Addr) (c : Nat) (w : World) :
    Calls Tryz.prog 223 #[.slice a 0 c] w fun e w' => e = .returned (.tuple #[.string (sumB []), .int .i64 (sumE [])]) ∧ Kp [] w w' := by
  have hn0 := NumZ.made w
  have hk0 : Kp [] w (w.alloc (.cells Tryz.zeroCells211 211)) := (Kp.refl _ _).alloc _
  have hv1 : Hid (sumB [] = resB 0) := by show sumB [] = _; exact if_pos rfl
  have hv2 : Hid (sumE [] = resE 0) := by show sumE [] = _; exact if_pos rfl
  go_enter Tryz.func223, Tryz.ntmps223
  go_wp2_with fail
  refine (checkAll_nil a c _).mono ?_
  rintro e w' ⟨rfl, rfl⟩
  go_wp2
  go_loopg [16] 1 (fun _ s16 wr => s16 = .int .i64 0 ∧ NumZ wr w.heap.size 0 ∧ Kp [] w wr)
  case atStart => exact ⟨rfl, hn0, hk0⟩
  case round =>
    obtain ⟨rfl, hn, hk⟩ := hrel
    go_wp2_with fail
    refine (textZ _ _ _ hn).mono ?_
    rintro e w2 ⟨rfl, hk2⟩
    go_wp2
    go_ret2
    exact ⟨by rw [hv1.out, hv2.out]; rfl, hk.trans hk2⟩

def totB (ss : List ByteArray) : ByteArray := if 4096 < ss.length then ⟨#[]⟩ else sumB ss
def totE (ss : List ByteArray) : Int := if 4096 < ss.length then 5 else sumE ss



















end Go.Proofs.YtcgilcmhandgfaaGreatDoor
