/- Texts Short, Obeys: each says in its own first comment what it proves. -/
import Derived.Test.YtobfboemgelmoaaM16
import Derived.Test.YtobfboemgelmoaaM08
import Derived.Test.YtobfboemgelmoaaM22
import Derived.Test.YtobfboemgelmoaaM15
import Derived.Test.YtobfboemgelmoaaM09
/- Walk over short: the texts are short and canonical. -/
namespace Go.Proofs.Ytobfboemgelmoaa
open Go.RowKit

/-- one text is short and canonical -/
def sh1 (s : ByteArray) : Bool := decide (s.size ≤ 50) && (chk s.data.toList == 0)
def shL (ss : List ByteArray) : Bool := ss.all sh1

set_option maxHeartbeats 1000000 in
theorem short_any (g o c : Nat) (ss : List ByteArray) (w : World) (hs : Strs w g o ss) (hl : ss.length ≤ 1000000) :
    Calls Try.prog 35 #[.slice (some ⟨g, o, none⟩) ss.length c] w fun e w' => e = .returned (.bool (shL ss)) ∧ w = w' := by
  go_enter Try.func35, Try.ntmps35
  go_wp2
  go_loopg [7] ss.length (fun gk s7 wr => ∃ k : Nat, s7 = .int .i64 k ∧ k + gk = ss.length ∧ shL (ss.drop k) = shL ss ∧ w = wr)
  case atStart => exact ⟨0, rfl, by omega, rfl, rfl⟩
  case round =>
    obtain ⟨k, rfl, hk, hc, rfl⟩ := hrel
    have hl1 : (ss.length : Int) ≤ 1000000 := by omega
    have Hc := Lib.hid hc; clear hc
    by_cases hlt : k < ss.length
    · have hcell := hs k hlt
      have Hd := Lib.hid (List.drop_eq_getElem_cons hlt)
      have hlt' : (k : Int) < (ss.length : Int) := by omega
      have Hk := Lib.hid hk; clear hk
      obtain ⟨s, hsk⟩ : ∃ s, s = ss[k] := ⟨_, rfl⟩
      rw [← hsk] at hcell Hd
      have Hs := Lib.hid hsk; clear hsk
      by_cases h50 : s.size ≤ 50
      · have hd50 : decide ((s.size : Int) > 50) = false := by simp; omega
        have hg50 : ¬ (50 : Int) < (s.size : Int) := by omega
        go_wp2_with fail
        refine (rcheck_any s _ (by omega)).mono ?_
        rintro e w' ⟨rfl, rfl⟩
        by_cases h0 : chk s.data.toList = 0
        · have hb : (chk s.data.toList != 0) = false := by rw [h0]; rfl
          have H0 := Lib.hid h0; clear h0
          go_wp2
          have hk := Hk.out
          go_roundg (gk - 1)
          case measure => omega
          case rel =>
            refine ⟨k + 1, by go_num, by omega, ?_, rfl⟩
            rw [← Hc.out, Hd.out]
            simp [shL, sh1, h50, H0.out]
        · have hb : (chk s.data.toList != 0) = true := bne_iff_ne.2 h0
          have hv : Hid (shL ss = false) := by
            show _ = _
            rw [← Hc.out, Hd.out]
            simp [shL, sh1, h0]
          clear h0
          go_wp2
          go_ret
          exact ⟨by rw [hv.out]; rfl, rfl⟩
      · have hd50 : decide ((s.size : Int) > 50) = true := by simp; omega
        have hg50 : (50 : Int) < (s.size : Int) := by omega
        have hv : Hid (shL ss = false) := by
          show _ = _
          rw [← Hc.out, Hd.out]
          simp [shL, sh1, h50]
        clear h50
        go_wp2
        go_ret
        exact ⟨by rw [hv.out]; rfl, rfl⟩
    · have hv : Hid (shL ss = true) := by
        show _ = _
        rw [← Hc.out, List.drop_of_length_le (by omega)]; rfl
      obtain rfl : k = ss.length := by omega
      go_wp2
      go_ret
      exact ⟨by rw [hv.out]; rfl, rfl⟩
end Go.Proofs.Ytobfboemgelmoaa

/- Walk over WholeObeys: the laws of a commutative ring at short texts. -/
namespace Go.Proofs.Ytobfboemgelmoaa
open Go.RowKit
open Go.Lib (nDigits itoa decDigits lt_pow_nDigits)

def Sm (n : Nat) (z : Int) : Prop := z.natAbs < 10 ^ n
theorem Sm.ok {n : Nat} {z : Int} (h : Sm n z) (h1 : 1 ≤ n) (hn : n ≤ 1024) : Ok z := by
  unfold Ok; exact Nat.le_trans (nd_le h1 h) hn
theorem Sm.mono {n m : Nat} {z : Int} (h : Sm n z) (hn : n ≤ m) : Sm m z := Nat.lt_of_lt_of_le h (Nat.pow_le_pow_right (by decide) hn)
theorem Sm.neg {n : Nat} {z : Int} (h : Sm n z) : Sm n (-z) := by unfold Sm at *; rwa [Int.natAbs_neg]
theorem Sm.mul {n m : Nat} {x y : Int} (h : Sm n x) (k : Sm m y) : Sm (n + m) (x * y) := by
  unfold Sm at *
  rw [Int.natAbs_mul, Nat.pow_add]
  exact Nat.mul_lt_mul'' h k
theorem Sm.add {n : Nat} {x y : Int} (h : Sm n x) (k : Sm n y) : Sm (n + 1) (x + y) := by
  unfold Sm at *
  have := Int.natAbs_add_le x y
  rw [Nat.pow_succ]; omega
theorem Sm.sub {n : Nat} {x y : Int} (h : Sm n x) (k : Sm n y) : Sm (n + 1) (x - y) := by
  rw [Int.sub_eq_add_neg]; exact h.add k.neg
theorem sm_of_short {z : Int} (h : (S z).size ≤ 50) : Sm 50 z := by
  unfold Sm
  refine Nat.lt_of_lt_of_le (lt_pow_nDigits _) (Nat.pow_le_pow_right (by decide) ?_)
  by_cases hz : z < 0
  · have := (S_neg hz).2; omega
  · have := (S_nn hz).2; omega

theorem addS (x y : Int) (w : World) (hx : Ok x) (hy : Ok y) (h : Ok (x + y)) :
    Calls Try.prog 12 #[.string (S x), .string (S y)] w fun e w' => e = .returned (.tuple #[.string (S (x + y)), .int .i64 0]) ∧ Kp [] w w' := by
  have hc := chk_two hx hy
  have := Add_any (S x) (S y) w (Nat.le_trans hx.size (by decide)) (Nat.le_trans hy.size (by decide))
  rw [binB_S hc, binE_S hc, show resB (x + y) = S (x + y) from if_pos h, show resE (x + y) = 0 from if_pos h] at this
  exact this
theorem subS (x y : Int) (w : World) (hx : Ok x) (hy : Ok y) (h : Ok (x - y)) :
    Calls Try.prog 14 #[.string (S x), .string (S y)] w fun e w' => e = .returned (.tuple #[.string (S (x - y)), .int .i64 0]) ∧ Kp [] w w' := by
  have hc := chk_two hx hy
  have := Sub_any (S x) (S y) w (Nat.le_trans hx.size (by decide)) (Nat.le_trans hy.size (by decide))
  rw [binB_S hc, binE_S hc, show resB (x - y) = S (x - y) from if_pos h, show resE (x - y) = 0 from if_pos h] at this
  exact this
theorem mulS (x y : Int) (w : World) (hx : Ok x) (hy : Ok y) (h : Ok (x * y)) :
    Calls Try.prog 24 #[.string (S x), .string (S y)] w fun e w' => e = .returned (.tuple #[.string (S (x * y)), .int .i64 0]) ∧ Kp [] w w' := by
  have hc := chk_two hx hy
  have := Mul_any (S x) (S y) w (Nat.le_trans hx.size (by decide)) (Nat.le_trans hy.size (by decide))
  rw [binB_S hc, binE_S hc, show resB (x * y) = S (x * y) from if_pos h, show resE (x * y) = 0 from if_pos h] at this
  exact this
theorem chk_of_ok {x : Int} (hx : Ok x) : chk (S x).data.toList = 0 := by rw [S_list, chk_S, if_pos hx]
theorem negS (x : Int) (w : World) (hx : Ok x) :
    Calls Try.prog 16 #[.string (S x)] w fun e w' => e = .returned (.tuple #[.string (S (-x)), .int .i64 0]) ∧ w = w' := by
  have hc := chk_of_ok hx
  have := Neg_any (S x) w (Nat.le_trans hx.size (by decide))
  rw [hc, show unB (- ·) (S x) = S (-x) by unfold unB; rw [if_pos hc, valS_S]] at this
  exact this
theorem signS (x : Int) (w : World) (hx : Ok x) :
    Calls Try.prog 36 #[.string (S x)] w fun e w' => e = .returned (.tuple #[.int .i64 (sgn x), .int .i64 0]) ∧ w = w' := by
  have hc := chk_of_ok hx
  have := Sign_any (S x) w (Nat.le_trans hx.size (by decide))
  rw [hc, show signI (S x) = sgn x by unfold signI; rw [if_pos hc, valS_S]] at this
  exact this
theorem cmp_sgn (x y : Int) : cmpI x y = sgn (x - y) := by
  unfold cmpI sgn
  repeat' split
  all_goals omega

theorem strs3 {W : World} {g : Nat} {a b c : ByteArray} {T : Nat} (hb : W.heap[g]? = some (.cells #[.string a, .string b, .string c] T (0, 0))) : Strs W g 0 [a, b, c] := by
  intro i h
  rw [cell_of hb]
  have h3 : i < 3 := h
  have : i = 0 ∨ i = 1 ∨ i = 2 := by omega
  rcases this with rfl | rfl | rfl <;> rfl

set_option maxHeartbeats 1000000 in
theorem Obeys_long (a b c : ByteArray) (w : World) (hsh : shL [a, b, c] = false) :
    Calls Try.prog 7 #[.string a, .string b, .string c] w fun e w' => e = .returned (.bool true) ∧ Kp [] w w' := by
  have hs := strs3 (made (w := w) (.cells #[.string a, .string b, .string c] 22 (0, 0)))
  have hk0 : Kp [] w (w.alloc (.cells #[.string a, .string b, .string c] 22 (0, 0))) := (Kp.refl _ _).alloc _
  have hq := Lib.hid (short_any w.heap.size 0 3 [a, b, c] _ hs (by simp))
  rw [hsh] at hq
  clear hs hsh
  go_enter Try.func7, Try.ntmps7
  go_wp2_with fail
  refine hq.out.mono ?_
  rintro e w' ⟨rfl, rfl⟩
  clear hq
  go_wp2_with fail
  refine (awake_any _).mono ?_
  rintro e w2 ⟨rfl, hk2⟩
  go_wp2
  go_ret
  exact ⟨rfl, hk0.trans hk2⟩

/-- a call that returns a text (a number) with error 0 and keeps the old blocks -/
def Gives2 (n : Nat) (a b : ByteArray) (r : Value) : Prop := Hid (∀ W : World, Calls Try.prog n #[.string a, .string b] W fun e w' => e = .returned (.tuple #[r, .int .i64 0]) ∧ Kp [] W w')
def Gives1 (n : Nat) (a : ByteArray) (r : Value) : Prop := Hid (∀ W : World, Calls Try.prog n #[.string a] W fun e w' => e = .returned (.tuple #[r, .int .i64 0]) ∧ Kp [] W w')

set_option maxRecDepth 100000 in
set_option maxHeartbeats 4000000 in
theorem Obeys_core (a b c ab ac sm left n d : ByteArray) (o : Int) (w : World) (hsh : shL [a, b, c] = true)
    (q1 : Gives2 24 a b (.string ab)) (q2 : Gives2 24 a c (.string ac)) (q3 : Gives2 12 b c (.string sm))
    (q4 : Gives2 24 sm a (.string left)) (q5 : Gives2 12 ac ab (.string left)) (q6 : Gives2 14 sm c (.string b))
    (q7 : Gives1 16 a (.string n)) (q8 : Gives2 12 n a (.string ⟨#[48]⟩)) (q9 : Gives2 18 a b (.int .i64 o))
    (q10 : Gives2 14 a b (.string d)) (q11 : Gives1 36 d (.int .i64 o)) (q12 : Gives2 24 b a (.string ab)) :
    Calls Try.prog 7 #[.string a, .string b, .string c] w fun e w' => e = .returned (.bool true) ∧ Kp [] w w' := by
  have hs := strs3 (made (w := w) (.cells #[.string a, .string b, .string c] 22 (0, 0)))
  have hk0 : Kp [] w (w.alloc (.cells #[.string a, .string b, .string c] 22 (0, 0))) := (Kp.refl _ _).alloc _
  have hq := Lib.hid (short_any w.heap.size 0 3 [a, b, c] _ hs (by simp))
  rw [hsh] at hq
  clear hs hsh
  go_enter Try.func7, Try.ntmps7
  go_wp2_with fail
  refine hq.out.mono ?_
  rintro e w' ⟨rfl, rfl⟩
  clear hq
  go_wp2_with fail
  refine (q1.out _).mono ?_
  rintro e w1 ⟨rfl, k⟩
  have hk1 := hk0.trans k
  clear k q1 hk0
  go_wp2_with fail
  refine (q2.out _).mono ?_
  rintro e w2 ⟨rfl, k⟩
  have hk2 := hk1.trans k
  clear k q2 hk1
  go_wp2_with fail
  refine (q3.out _).mono ?_
  rintro e w3 ⟨rfl, k⟩
  have hk3 := hk2.trans k
  clear k q3 hk2
  go_wp2_with fail
  refine (q4.out _).mono ?_
  rintro e w4 ⟨rfl, k⟩
  have hk4 := hk3.trans k
  clear k q4 hk3
  go_wp2_with fail
  refine (q5.out _).mono ?_
  rintro e w5 ⟨rfl, k⟩
  have hk5 := hk4.trans k
  clear k q5 hk4
  go_wp2_with fail
  refine (q6.out _).mono ?_
  rintro e w6 ⟨rfl, k⟩
  have hk6 := hk5.trans k
  clear k q6 hk5
  go_wp2_with fail
  refine (q7.out _).mono ?_
  rintro e w7 ⟨rfl, k⟩
  have hk7 := hk6.trans k
  clear k q7 hk6
  go_wp2_with fail
  refine (q8.out _).mono ?_
  rintro e w8 ⟨rfl, k⟩
  have hk8 := hk7.trans k
  clear k q8 hk7
  go_wp2_with fail
  refine (q9.out _).mono ?_
  rintro e w9 ⟨rfl, k⟩
  have hk9 := hk8.trans k
  clear k q9 hk8
  go_wp2_with fail
  refine (q10.out _).mono ?_
  rintro e w10 ⟨rfl, k⟩
  have hk10 := hk9.trans k
  clear k q10 hk9
  go_wp2_with fail
  refine (q11.out _).mono ?_
  rintro e w11 ⟨rfl, k⟩
  have hk11 := hk10.trans k
  clear k q11 hk10
  go_wp2_with fail
  refine (q12.out _).mono ?_
  rintro e w12 ⟨rfl, k⟩
  have hk12 := hk11.trans k
  clear k q12 hk11
  go_wp2_with fail
  refine (awake_any _).mono ?_
  rintro e w13 ⟨rfl, k⟩
  have hk13 := hk12.trans k
  clear k
  go_wp2
  go_ret
  exact ⟨rfl, hk13⟩

theorem Obeys_any (a b c : ByteArray) (w : World) :
    Calls Try.prog 7 #[.string a, .string b, .string c] w fun e w' => e = .returned (.bool true) ∧ Kp [] w w' := by
  cases hsh : shL [a, b, c] with
  | false => exact Obeys_long a b c w hsh
  | true =>
    have h3 : sh1 a = true ∧ sh1 b = true ∧ sh1 c = true := by simpa [shL] using hsh
    have one : ∀ s, sh1 s = true → ∃ z, s = S z ∧ Sm 50 z := by
      intro s h
      unfold sh1 at h
      have h2 : s.size ≤ 50 ∧ chk s.data.toList = 0 := by simpa using h
      obtain ⟨z, rfl, _⟩ := of_chk_zero h2.2
      exact ⟨z, rfl, sm_of_short h2.1⟩
    obtain ⟨x, rfl, hx⟩ := one _ h3.1
    obtain ⟨y, rfl, hy⟩ := one _ h3.2.1
    obtain ⟨z, rfl, hz⟩ := one _ h3.2.2
    have ox := hx.ok (by decide) (by decide)
    have oy := hy.ok (by decide) (by decide)
    have oz := hz.ok (by decide) (by decide)
    have hxy := hx.mul hy
    have hxz := hx.mul hz
    have hyz := hy.add hz
    have hl := hyz.mul hx
    have oxy := hxy.ok (by decide) (by decide)
    have oxz := hxz.ok (by decide) (by decide)
    have oyz := hyz.ok (by decide) (by decide)
    have ol := hl.ok (by decide) (by decide)
    have od := (hx.sub hy).ok (by decide) (by decide)
    have e1 : x * z + x * y = (y + z) * x := by rw [← Int.mul_add, Int.add_comm, Int.mul_comm]
    have e2 : y + z - z = y := by omega
    have e3 : -x + x = 0 := by omega
    refine Obeys_core (S x) (S y) (S z) (S (x * y)) (S (x * z)) (S (y + z)) (S ((y + z) * x)) (S (-x)) (S (x - y)) (sgn (x - y)) w hsh
      (fun W => mulS x y W ox oy oxy) (fun W => mulS x z W ox oz oxz) (fun W => addS y z W oy oz oyz) (fun W => mulS _ x W oyz ox ol) ?_ ?_ ?_ ?_ ?_ (fun W => subS x y W ox oy od) ?_ ?_
    · intro W; have := addS (x * z) (x * y) W oxz oxy (by rw [e1]; exact ol); rwa [e1] at this
    · intro W; have := subS (y + z) z W oyz oz (by rw [e2]; exact oy); rwa [e2] at this
    · intro W; refine (negS x W ox).mono ?_; rintro e w' ⟨h, rfl⟩; exact ⟨h, Kp.refl _ _⟩
    · intro W; have := addS (-x) x W ox.neg ox (by rw [e3]; exact ok_small (by decide)); rwa [e3, S_zero] at this
    · intro W; have := Compare_ok x y W ox oy; rwa [cmp_sgn] at this
    · intro W; refine (signS (x - y) W od).mono ?_; rintro e w' ⟨h, rfl⟩; exact ⟨h, Kp.refl _ _⟩
    · intro W; have := mulS y x W oy ox (by rw [Int.mul_comm]; exact oxy); rwa [Int.mul_comm] at this
end Go.Proofs.Ytobfboemgelmoaa
