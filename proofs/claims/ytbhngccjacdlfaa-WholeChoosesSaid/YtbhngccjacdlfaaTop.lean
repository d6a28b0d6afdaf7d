/- Walks over Sign, Neg, Add, Sub and Mul of package whole, for all texts. -/
import Derived.Test.YtbhngccjacdlfaaSum
import Derived.Test.YtbhngccjacdlfaaMul
namespace Go.Proofs.Ytbhngccjacdlfaa
open Go.RowKit
open Go.Lib (nDigits itoa decDigits)

def valS (s : ByteArray) : Int := val s.data.toList
theorem valS_S (z : Int) : valS (S z) = z := val_itoa z
/-- the result of an operation with two texts -/
def binB (f : Int → Int → Int) (a b : ByteArray) : ByteArray := if chkL [a, b] = 0 then resB (f (valS a) (valS b)) else ⟨#[]⟩
def binE (f : Int → Int → Int) (a b : ByteArray) : Int := if chkL [a, b] = 0 then resE (f (valS a) (valS b)) else chkL [a, b]
def unB (f : Int → Int) (a : ByteArray) : ByteArray := if chk a.data.toList = 0 then S (f (valS a)) else ⟨#[]⟩
def signI (a : ByteArray) : Int := if chk a.data.toList = 0 then sgn (valS a) else 0

theorem chkL2 {a b : ByteArray} (h : chkL [a, b] = 0) : ∃ x y, a = S x ∧ b = S y ∧ Ok x ∧ Ok y := by
  unfold chkL at h
  by_cases ha : chk a.data.toList = 0
  · rw [if_pos ha] at h
    unfold chkL at h
    by_cases hb : chk b.data.toList = 0
    · obtain ⟨x, hx, hx'⟩ := of_chk_zero ha
      obtain ⟨y, hy, hy'⟩ := of_chk_zero hb
      exact ⟨x, y, hx, hy, hx', hy'⟩
    · rw [if_neg hb] at h; exact absurd h hb
  · rw [if_neg ha] at h; exact absurd h ha
theorem binB_S {f : Int → Int → Int} {x y : Int} (h : chkL [S x, S y] = 0) : binB f (S x) (S y) = resB (f x y) := by unfold binB; rw [if_pos h, valS_S, valS_S]
theorem binE_S {f : Int → Int → Int} {x y : Int} (h : chkL [S x, S y] = 0) : binE f (S x) (S y) = resE (f x y) := by unfold binE; rw [if_pos h, valS_S, valS_S]
theorem strs2 (a b : ByteArray) (w : World) : Strs (w.alloc (.cells #[.string a, .string b] 22)) w.heap.size 0 [a, b] := by
  intro i hi
  have h2 : i < 2 := hi
  have : i = 0 ∨ i = 1 := by omega
  rcases this with rfl | rfl
  · unfold World.cell?; rw [heap_alloc_new w]; rfl
  · unfold World.cell?; rw [heap_alloc_new w]; rfl
theorem Ok.neg {z : Int} (h : Ok z) : Ok (-z) := by unfold Ok at *; rwa [Int.natAbs_neg]

/-- the check of two texts in a new slice -/
theorem check2 (a b : ByteArray) (w : World) (ha : a.size ≤ 9223372036854775807) (hb : b.size ≤ 9223372036854775807) :
    Calls Try.prog 42 #[.slice (some ⟨w.heap.size, 0, none⟩) 2 2] (w.alloc (.cells #[.string a, .string b] 22)) fun e w' => e = .returned (.int .i64 (chkL [a, b])) ∧ w.alloc (.cells #[.string a, .string b] 22) = w' :=
  checkAll_any w.heap.size 0 2 [a, b] _ (strs2 a b w) (fun s hs => by
    rcases List.mem_cons.1 hs with rfl | hs
    · exact ha
    · rcases List.mem_cons.1 hs with rfl | hs
      · exact hb
      · cases hs) (by simp)

set_option maxHeartbeats 1000000 in
theorem Sign_any (a : ByteArray) (w : World) (ha : a.size ≤ 9223372036854775807) :
    Calls Try.prog 36 #[.string a] w fun e w' => e = .returned (.tuple #[.int .i64 (signI a), .int .i64 (chk a.data.toList)]) ∧ w = w' := by
  have hc := check_any a
  by_cases h : chk a.data.toList = 0
  · obtain ⟨z, rfl, hz⟩ := of_chk_zero h
    have hv : Hid (signI (S z) = sgn z) := by show (if _ then _ else _) = _; rw [if_pos h, valS_S]
    rw [h] at hc ⊢
    have H := Lib.hid hc; clear hc h
    have hs := Lib.hid (sign_any z)
    generalize S z = s at *
    go_enter Try.func36, Try.ntmps36
    go_wp2_with fail
    refine (H.out _ ha).mono ?_
    rintro e w' ⟨rfl, rfl⟩
    go_wp2_with fail
    refine (hs.out _).mono ?_
    rintro e w' ⟨rfl, rfl⟩
    go_wp2
    go_ret2
    exact ⟨by rw [hv.out]; rfl, rfl⟩
  · have hv : Hid (signI a = 0) := by show (if _ then _ else _) = _; rw [if_neg h]
    have hb : (chk a.data.toList != 0) = true := bne_iff_ne.2 h
    have H := Lib.hid hc; clear hc h
    generalize chk a.data.toList = c at *
    go_enter Try.func36, Try.ntmps36
    go_wp2_with fail
    refine (H.out _ ha).mono ?_
    rintro e w' ⟨rfl, rfl⟩
    go_wp2
    go_ret2
    exact ⟨by rw [hv.out]; rfl, rfl⟩

set_option maxHeartbeats 1000000 in
theorem Neg_any (a : ByteArray) (w : World) (ha : a.size ≤ 9223372036854775807) :
    Calls Try.prog 16 #[.string a] w fun e w' => e = .returned (.tuple #[.string (unB (- ·) a), .int .i64 (chk a.data.toList)]) ∧ w = w' := by
  have hc := check_any a
  by_cases h : chk a.data.toList = 0
  · obtain ⟨z, rfl, hz⟩ := of_chk_zero h
    have hv : Hid (unB (- ·) (S z) = S (-z)) := by show (if _ then _ else _) = _; rw [if_pos h, valS_S]
    rw [h] at hc ⊢
    have H := Lib.hid hc; clear hc h
    have hs := Lib.hid (fun w => opposite_any z w (Nat.le_trans hz.size (by decide)))
    go_enter Try.func16, Try.ntmps16
    go_wp2_with fail
    refine (H.out _ ha).mono ?_
    rintro e w' ⟨rfl, rfl⟩
    go_wp2_with fail
    refine (hs.out _).mono ?_
    rintro e w' ⟨rfl, rfl⟩
    go_wp2
    go_ret2
    exact ⟨by rw [hv.out]; rfl, rfl⟩
  · have hv : Hid (unB (- ·) a = ⟨#[]⟩) := by show (if _ then _ else _) = _; rw [if_neg h]
    have hb : (chk a.data.toList != 0) = true := bne_iff_ne.2 h
    have H := Lib.hid hc; clear hc h
    generalize chk a.data.toList = c at *
    go_enter Try.func16, Try.ntmps16
    go_wp2_with fail
    refine (H.out _ ha).mono ?_
    rintro e w' ⟨rfl, rfl⟩
    go_wp2
    go_ret2
    exact ⟨by rw [hv.out]; rfl, rfl⟩

set_option maxHeartbeats 1000000 in
theorem sum_bad (g o c : Nat) (ss : List ByteArray) (w : World) (hs : Strs w g o ss) (hz : ∀ s ∈ ss, s.size ≤ 9223372036854775807) (hl : ss.length ≤ 1000000) (hne : chkL ss ≠ 0) :
    Calls Try.prog 38 #[.slice (some ⟨g, o, none⟩) ss.length c] w fun e w' => e = .returned (.tuple #[.string ⟨#[]⟩, .int .i64 (chkL ss)]) ∧ w = w' := by
  have hb : (chkL ss != 0) = true := bne_iff_ne.2 hne
  have H := Lib.hid (checkAll_any g o c ss w hs hz hl)
  clear hne
  generalize chkL ss = k at *
  go_enter Try.func38, Try.ntmps38
  go_wp2_with fail
  refine H.out.mono ?_
  rintro e w' ⟨rfl, rfl⟩
  go_wp2
  go_ret2
  exact ⟨rfl, rfl⟩

theorem sum2 (a b : ByteArray) (w : World) (ha : a.size ≤ 9223372036854775807) (hb : b.size ≤ 9223372036854775807) :
    Calls Try.prog 38 #[.slice (some ⟨w.heap.size, 0, none⟩) 2 2] (w.alloc (.cells #[.string a, .string b] 22)) fun e w' => e = .returned (.tuple #[.string (binB (· + ·) a b), .int .i64 (binE (· + ·) a b)]) ∧ Kp [] w w' := by
  by_cases h : chkL [a, b] = 0
  · obtain ⟨x, y, rfl, rfl, hx, hy⟩ := chkL2 h
    rw [binB_S h, binE_S h]
    have := sum_ok w.heap.size 0 2 [x, y] (w.alloc (.cells #[.string (S x), .string (S y)] 22)) (strs2 _ _ w) (by simp) (fun z hz => by
      rcases List.mem_cons.1 hz with rfl | hz
      · exact hx
      · rcases List.mem_cons.1 hz with rfl | hz
        · exact hy
        · cases hz) (by simp)
    refine this.mono ?_
    rintro e w' ⟨he, hk⟩
    have e1 : [x, y].sum = x + y := by simp
    rw [e1] at he
    exact ⟨he, ((Kp.refl _ _).alloc _).trans hk⟩
  · have := sum_bad w.heap.size 0 2 [a, b] (w.alloc (.cells #[.string a, .string b] 22)) (strs2 a b w) (fun s hs => by
      rcases List.mem_cons.1 hs with rfl | hs
      · exact ha
      · rcases List.mem_cons.1 hs with rfl | hs
        · exact hb
        · cases hs) (by simp) h
    refine this.mono ?_
    rintro e w' ⟨he, rfl⟩
    refine ⟨?_, (Kp.refl _ _).alloc _⟩
    rw [he]; unfold binB binE; rw [if_neg h, if_neg h]

set_option maxHeartbeats 1000000 in
theorem Add_any (a b : ByteArray) (w : World) (ha : a.size ≤ 9223372036854775807) (hb : b.size ≤ 9223372036854775807) :
    Calls Try.prog 12 #[.string a, .string b] w fun e w' => e = .returned (.tuple #[.string (binB (· + ·) a b), .int .i64 (binE (· + ·) a b)]) ∧ Kp [] w w' := by
  go_enter Try.func12, Try.ntmps12
  go_wp2_with fail
  refine (sum2 a b w ha hb).mono ?_
  rintro e w' ⟨rfl, hk⟩
  go_wp2
  go_ret2
  exact ⟨rfl, hk⟩

set_option maxHeartbeats 1000000 in
theorem Sub_any (a b : ByteArray) (w : World) (ha : a.size ≤ 9223372036854775807) (hb : b.size ≤ 9223372036854775807) :
    Calls Try.prog 14 #[.string a, .string b] w fun e w' => e = .returned (.tuple #[.string (binB (· - ·) a b), .int .i64 (binE (· - ·) a b)]) ∧ Kp [] w w' := by
  have hc := check2 a b w ha hb
  by_cases h : chkL [a, b] = 0
  · obtain ⟨x, y, rfl, rfl, hx, hy⟩ := chkL2 h
    rw [binB_S h, binE_S h]
    rw [h] at hc
    have H := Lib.hid hc; clear hc h
    have hx2 : (S x).size ≤ 9223372036854775807 := ha
    go_enter Try.func14, Try.ntmps14
    go_wp2_with fail
    refine H.out.mono ?_
    rintro e w' ⟨rfl, rfl⟩
    go_wp2_with fail
    refine (opposite_any y _ (Nat.le_trans hy.size (by decide))).mono ?_
    rintro e w' ⟨rfl, rfl⟩
    go_wp2_with fail
    have hs2 := sum2 (S x) (S (-y)) (w.alloc (.cells #[.string (S x), .string (S y)] 22)) ha (Nat.le_trans hy.neg.size (by decide))
    rw [World.size_alloc] at hs2
    refine hs2.mono ?_
    rintro e w' ⟨rfl, hk⟩
    have hz : chkL [S x, S (-y)] = 0 := chkL_map (zs := [x, -y]) (fun z hz => by
      rcases List.mem_cons.1 hz with rfl | hz
      · exact hx
      · rcases List.mem_cons.1 hz with rfl | hz
        · exact hy.neg
        · cases hz)
    rw [binB_S hz, binE_S hz]
    go_wp2
    go_ret2
    exact ⟨rfl, ((Kp.refl _ _).alloc _).trans hk⟩
  · have hv : Hid (binB (· - ·) a b = ⟨#[]⟩) := if_neg h
    have hv2 : Hid (binE (· - ·) a b = chkL [a, b]) := if_neg h
    have hbb : (chkL [a, b] != 0) = true := bne_iff_ne.2 h
    have H := Lib.hid hc; clear hc h
    generalize chkL [a, b] = k at *
    go_enter Try.func14, Try.ntmps14
    go_wp2_with fail
    refine H.out.mono ?_
    rintro e w' ⟨rfl, rfl⟩
    go_wp2
    go_ret2
    exact ⟨by rw [hv.out, hv2.out]; rfl, (Kp.refl _ _).alloc _⟩
end Go.Proofs.Ytbhngccjacdlfaa
