/- Texts Shelf, Binom: each says in its own first comment what it proves. -/
import Derived.Shelf.Small.Bits
import Derived.Shelf.Strconv.Itoa0
import Derived.Test.YtobfboemgelmoaaProg
import Derived.Test.YtobfboemgelmoaaM09
import Derived.Test.YtobfboemgelmoaaM04
import Derived.Test.YtobfboemgelmoaaM07
/-
  DERIVED: THE SHELF's CONTRACTS AT THIS DUMP, IN PLAIN WORDS (tools/lay-plain.mjs out of 'TryShelf.lean', which tools/lay-shelf.mjs wrote): THE SAME DECLARATIONS UNDER THE SAME NAMES: 'import', 'namespace', 'open', 'def', 'theorem' AND NOTHING ELSE: no command of the shelf's: FOR A HAND-IN. Each laying: the table of numbers ('.._ren') and one theorem, a field a fact of the dump's own or the kernel's comparison; each contract: ONE APPLICATION.
-/
namespace Go.Proofs
open Go.Shelf
def Try.lays128_ren : Go.Shelf.Ren := ⟨fun | 128 => 83 | n => n, fun | 51 => 63 | 3 => 3 | 4 => 4 | 46 => 76 | 5 => 5 | 9 => 9 | n => n, fun | n => n⟩
theorem Try.lays128 : Go.Proofs.Lays.n128 Try.prog Try.lays128_ren := {
  mixed := by kernel_rfl
  f128 := Try.func83.trans (congrArg some (by kernel_rfl))
  t3 := Try.underlying3
  a3 := Try.isAgg3
  z3 := Try.sizeOf3
  v3 := Try.zeroValue3
  t4 := Try.underlying4
  a4 := Try.isAgg4
  z4 := Try.sizeOf4
  v4 := Try.zeroValue4
  t5 := Try.underlying5
  a5 := Try.isAgg5
  z5 := Try.sizeOf5
  v5 := Try.zeroValue5
  t9 := Try.underlying9
  a9 := Try.isAgg9
  z9 := Try.sizeOf9
  v9 := Try.zeroValue9
  t46 := Try.underlying76
  a46 := Try.isAgg76
  z46 := Try.sizeOf76
  v46 := Try.zeroValue76
  t51 := Try.underlying63
  a51 := Try.isAgg63
  z51 := Try.sizeOf63
  v51 := Try.zeroValue63 }
/-- bits.Len32: "Len32 returns the minimum number of bits required to represent x; the result is 0 for x == 0.": IT RETURNS 'Lib.bitLen x'; the world is as it was. ('h0', 'h1': x is a uint32.) (LAID: no walk: one application.) -/
theorem Try.bits_Len32 (x : Int) (w : World) (h0 : 0 ≤ x) (h1 : x ≤ 4294967295) :
    Calls Try.prog 83 #[.int .u32 x] w fun e w' => e = .returned (.int .i64 (Lib.bitLen x.toNat)) ∧ w' = w := Any.bits_Len32 Try.lays128 x w h0 h1
def Try.lays125_ren : Go.Shelf.Ren := ⟨fun | 125 => 59 | 128 => 83 | 129 => 84 | n => n, fun | 46 => 76 | 3 => 3 | 51 => 63 | 53 => 92 | 4 => 4 | 5 => 5 | 9 => 9 | n => n, fun | n => n⟩
theorem Try.lays125 : Go.Proofs.Lays.n125 Try.prog Try.lays125_ren := {
  mixed := by kernel_rfl
  f125 := Try.func59.trans (congrArg some (by kernel_rfl))
  f128 := Try.func83.trans (congrArg some (by kernel_rfl))
  f129 := Try.func84.trans (congrArg some (by kernel_rfl))
  t3 := Try.underlying3
  a3 := Try.isAgg3
  z3 := Try.sizeOf3
  v3 := Try.zeroValue3
  t4 := Try.underlying4
  a4 := Try.isAgg4
  z4 := Try.sizeOf4
  v4 := Try.zeroValue4
  t5 := Try.underlying5
  a5 := Try.isAgg5
  z5 := Try.sizeOf5
  v5 := Try.zeroValue5
  t9 := Try.underlying9
  a9 := Try.isAgg9
  z9 := Try.sizeOf9
  v9 := Try.zeroValue9
  t46 := Try.underlying76
  a46 := Try.isAgg76
  z46 := Try.sizeOf76
  v46 := Try.zeroValue76
  t51 := Try.underlying63
  a51 := Try.isAgg63
  z51 := Try.sizeOf63
  v51 := Try.zeroValue63
  t53 := Try.underlying92
  a53 := Try.isAgg92
  z53 := Try.sizeOf92
  v53 := Try.zeroValue92 }
/-- bits.Len: "Len returns the minimum number of bits required to represent x; the result is 0 for x == 0.": IT RETURNS 'Lib.bitLen x'; the world is as it was. (A uint has 64 bits in the model.) ITS CALLEE bits.Len64 IS MET BY ITS OWN CONTRACT OFF THE SHELF (lay that first). (LAID: no walk: one application.) -/
theorem Try.bits_Len (x : Int) (w : World) (h0 : 0 ≤ x) (h1 : x ≤ 18446744073709551615) :
    Calls Try.prog 59 #[.int .u64 x] w fun e w' => e = .returned (.int .i64 (Lib.bitLen x.toNat)) ∧ w' = w := Any.bits_Len Try.lays125 x w h0 h1
def Try.lays129_ren : Go.Shelf.Ren := ⟨fun | 129 => 84 | n => n, fun | 53 => 92 | 3 => 3 | 4 => 4 | 46 => 76 | 5 => 5 | 9 => 9 | n => n, fun | n => n⟩
theorem Try.lays129 : Go.Proofs.Lays.n129 Try.prog Try.lays129_ren := {
  mixed := by kernel_rfl
  f129 := Try.func84.trans (congrArg some (by kernel_rfl))
  t3 := Try.underlying3
  a3 := Try.isAgg3
  z3 := Try.sizeOf3
  v3 := Try.zeroValue3
  t4 := Try.underlying4
  a4 := Try.isAgg4
  z4 := Try.sizeOf4
  v4 := Try.zeroValue4
  t5 := Try.underlying5
  a5 := Try.isAgg5
  z5 := Try.sizeOf5
  v5 := Try.zeroValue5
  t9 := Try.underlying9
  a9 := Try.isAgg9
  z9 := Try.sizeOf9
  v9 := Try.zeroValue9
  t46 := Try.underlying76
  a46 := Try.isAgg76
  z46 := Try.sizeOf76
  v46 := Try.zeroValue76
  t53 := Try.underlying92
  a53 := Try.isAgg92
  z53 := Try.sizeOf92
  v53 := Try.zeroValue92 }
/-- bits.Len64: "Len64 returns the minimum number of bits required to represent x; the result is 0 for x == 0.": IT RETURNS 'Lib.bitLen x'; the world is as it was. ('h0', 'h1': x is a uint64.) (LAID: no walk: one application.) -/
theorem Try.bits_Len64 (x : Int) (w : World) (h0 : 0 ≤ x) (h1 : x ≤ 18446744073709551615) :
    Calls Try.prog 84 #[.int .u64 x] w fun e w' => e = .returned (.int .i64 (Lib.bitLen x.toNat)) ∧ w' = w := Any.bits_Len64 Try.lays129 x w h0 h1
end Go.Proofs

/- Walk over whole.Binomial: the number of sets of k elements among n. -/
namespace Go.Proofs.Ytobfboemgelmoaa
open Go.RowKit
open Go.Lib (nDigits itoa decDigits)

/-- the number of sets of k elements among n -/
def ch : Nat → Nat → Nat
  | _, 0 => 1
  | 0, _ + 1 => 0
  | n + 1, k + 1 => ch n k + ch n (k + 1)
theorem ch_zero (n : Nat) : ch n 0 = 1 := by cases n <;> rfl
theorem ch_gt : ∀ (n k : Nat), n < k → ch n k = 0
  | _, 0, h => by omega
  | 0, _ + 1, _ => rfl
  | n + 1, k + 1, h => by show ch n k + ch n (k + 1) = 0; rw [ch_gt n k (by omega), ch_gt n (k + 1) (by omega)]
theorem ch_mul : ∀ (n k : Nat), ch n (k + 1) * (k + 1) = ch n k * (n - k)
  | 0, k => by
    show 0 * (k + 1) = ch 0 k * (0 - k)
    rw [Nat.zero_sub]; simp
  | n + 1, k => by
    have ih := ch_mul n k
    show (ch n k + ch n (k + 1)) * (k + 1) = ch (n + 1) k * (n + 1 - k)
    by_cases hk : k ≤ n
    · have e1 : (ch n k + ch n (k + 1)) * (k + 1) = ch n k * (n + 1) := by
        rw [Nat.add_mul, ih, ← Nat.mul_add]; congr 1; omega
      rw [e1]
      cases k with
      | zero => rw [ch_zero, ch_zero]; simp
      | succ j =>
        have ih2 := ch_mul n j
        show _ = (ch n j + ch n (j + 1)) * (n + 1 - (j + 1))
        rw [show n + 1 - (j + 1) = n - j by omega, Nat.add_mul, ← ih2, ← Nat.mul_add]; congr 1; omega
    · rw [show n + 1 - k = 0 by omega, Nat.mul_zero, ch_gt n k (by omega), ch_gt n (k + 1) (by omega)]; simp
theorem ch_self : ∀ n : Nat, ch n n = 1
  | 0 => rfl
  | n + 1 => by show ch n n + ch n (n + 1) = 1; rw [ch_self n, ch_gt n (n + 1) (by omega)]
theorem ch_symm : ∀ (n k : Nat), k ≤ n → ch n k = ch n (n - k)
  | 0, k, h => by obtain rfl : k = 0 := by omega
                  rfl
  | n + 1, 0, _ => by rw [ch_zero, Nat.sub_zero, ch_self]
  | n + 1, k + 1, h => by
    by_cases hk : k = n
    · subst hk; rw [Nat.sub_self, ch_zero, ch_self]
    · rw [show n + 1 - (k + 1) = (n - k - 1) + 1 by omega]
      show ch n k + ch n (k + 1) = ch n (n - k - 1) + ch n (n - k - 1 + 1)
      rw [ch_symm n k (by omega), ch_symm n (k + 1) (by omega), show n - (k + 1) = n - k - 1 by omega, show n - k - 1 + 1 = n - k by omega, Nat.add_comm]
theorem ch_rise (n j : Nat) (h : 2 * j + 1 ≤ n) : ch n j ≤ ch n (j + 1) := by
  have h1 := ch_mul n j
  have h2 : ch n j * (j + 1) ≤ ch n j * (n - j) := Nat.mul_le_mul_left _ (by omega)
  rw [← h1] at h2
  exact Nat.le_of_mul_le_mul_right h2 (by omega)
theorem ch_mono (n : Nat) : ∀ (d j : Nat), 2 * (j + d) ≤ n → ch n j ≤ ch n (j + d)
  | 0, j, _ => Nat.le_refl _
  | d + 1, j, h => Nat.le_trans (ch_mono n d j (by omega)) (ch_rise n (j + d) (by omega))
theorem ch_pos : ∀ (n k : Nat), k ≤ n → 0 < ch n k
  | n, 0, _ => by rw [ch_zero]; omega
  | 0, k + 1, h => by omega
  | n + 1, k + 1, h => by show 0 < ch n k + ch n (k + 1); have := ch_pos n k (by omega); omega
def half (n k : Nat) : Nat := if k < n - k then k else n - k
theorem ch_half {n k : Nat} (h : k ≤ n) : ch n (half n k) = ch n k := by
  unfold half; split
  · rfl
  · exact (ch_symm n k h).symm
theorem ch_step (n i : Nat) : ch n i * (n - i) / (i + 1) = ch n (i + 1) := by
  rw [← ch_mul]; exact Nat.mul_div_cancel _ (by omega)
set_option exponentiation.threshold 2000 in
theorem ok_of_le {a b : Nat} (h : a ≤ b) (hb : Ok (b : Int)) : Ok (a : Int) := by
  unfold Ok at *
  simp only [Int.natAbs_natCast] at *
  exact (nd_le_iff (by omega)).2 (Nat.lt_of_le_of_lt h ((nd_le_iff (by omega)).1 hb))

set_option maxHeartbeats 1000000 in
theorem Binomial_range (n k : Int) (w : World) (h : n < 0 ∨ (0 ≤ n ∧ 4096 < n)) :
    Calls Try.prog 33 #[.int .i64 n, .int .i64 k] w fun e w' => e = .returned (.tuple #[.string ⟨#[]⟩, .int .i64 2]) ∧ w = w' := by
  rcases h with h | ⟨h0, h⟩
  all_goals
    go_enter Try.func33, Try.ntmps33
    go_wp2
    go_ret2
    exact ⟨rfl, rfl⟩
set_option maxHeartbeats 1000000 in
theorem Binomial_none (n k : Int) (w : World) (h0 : 0 ≤ n) (h : n ≤ 4096) (hk : k < 0 ∨ (0 ≤ k ∧ n < k)) :
    Calls Try.prog 33 #[.int .i64 n, .int .i64 k] w fun e w' => e = .returned (.tuple #[.string ⟨#[48]⟩, .int .i64 0]) ∧ w = w' := by
  rcases hk with hk | ⟨hk0, hk⟩
  all_goals
    go_enter Try.func33, Try.ntmps33
    go_wp2
    go_ret2
    exact ⟨rfl, rfl⟩

theorem S_one : S 1 = ⟨#[49]⟩ := by unfold S; rw [show itoa 1 = decDigits 1 from rfl, dec_small (by omega)]; rfl
theorem ok_one : Ok 1 := by unfold Ok; rw [show (1 : Int).natAbs = 1 from rfl, Go.Lib.nDigits_small (by omega)]; omega
theorem read_one (g : Nat) (w : World) (hg : NumF w g (fun _ => 0) 0 false) :
    Calls Try.prog 51 #[.pointer (some ⟨g, 0, none⟩), .string ⟨#[49]⟩] w fun e w' => e = .returned (.tuple #[]) ∧ NumZ w' g 1 ∧ Kp [g] w w' := by
  have := readZ g 1 w hg ok_one
  rwa [S_one] at this

theorem scale_i (g A q : Nat) (p : Int) (w : World) (hA : Num w g A false) (hA' : A < B9 ^ 228) (hp : 0 < q) (hp' : q < 1000000000) (e : p = (q : Int)) :
    Calls Try.prog 61 #[.pointer (some ⟨g, 0, none⟩), .int .u32 p] w fun e w' => e = .returned (.tuple #[]) ∧ Num w' g (A * q) false ∧ Kp [g] w w' := by
  subst e
  have := scale_any g A q false w hA hA' hp hp'
  simpa only [Bool.false_and] using this
theorem split_i (g A q : Nat) (p : Int) (w : World) (hA : Num w g A false) (hp : 0 < q) (hp' : q < 1000000000) (e : p = (q : Int)) :
    Calls Try.prog 62 #[.pointer (some ⟨g, 0, none⟩), .int .u32 p] w fun e w' => e = .returned (.int .u32 ((A % q : Nat) : Int)) ∧ Num w' g (A / q) false ∧ Kp [g] w w' := by
  subst e
  have := split_any g A q false w hA hp hp'
  simpa only [Bool.false_and] using this
theorem numZ_nat {w : World} {g c : Nat} (h : Num w g c false) : NumZ w g (c : Int) := by
  show Num _ _ _ _
  rw [Int.natAbs_natCast, show decide ((c : Int) < 0) = false from decide_eq_false (by omega)]; exact h

set_option maxRecDepth 100000 in
set_option maxHeartbeats 4000000 in
theorem Binomial_ok (n k : Nat) (w : World) (hn : n ≤ 4096) (hk : k ≤ n) :
    Calls Try.prog 33 #[.int .i64 (n : Int), .int .i64 (k : Int)] w fun e w' => e = .returned (.tuple #[.string (resB (ch n k : Int)), .int .i64 (resE (ch n k : Int))]) ∧ Kp [] w w' := by
  have n1 := NumF.made w
  have k1 : Kp [] w (w.alloc (.cells Try.zeroCells66 66)) := (Kp.refl _ _).alloc _
  have hn' : (n : Int) ≤ 4096 := by omega
  have hk' : (k : Int) ≤ (n : Int) := by omega
  by_cases hmin : ¬ (n : Int) - (k : Int) < (k : Int)
  · go_enter Try.func33, Try.ntmps33
    go_wp2_with fail
    refine (read_one w.heap.size _ n1).mono ?_
    rintro e w1 ⟨rfl, hn1', hk1⟩
    have hz1 : Num w1 w.heap.size 1 false := hn1'
    have hk0 : Kp [] w w1 := k1.step hk1 (by simp)
    go_wp2
    clear hn1' k1
    have hlim : k ≤ n ∧ 2 * k ≤ n ∧ ch n k = ch n k := ⟨by omega, by omega, rfl⟩
    obtain ⟨hE1, hE2, hE3⟩ := hlim
    have HE3 := Lib.hid hE3; clear hE3
    go_loopg [29] k (fun gk s29 wr => ∃ i : Nat, s29 = .int .i64 (i : Int) ∧ i + gk = k ∧ Num wr w.heap.size (ch n i) false ∧ Ok (ch n i : Int) ∧ Kp [] w wr)
    case atStart => exact ⟨0, rfl, by omega, by rw [ch_zero]; exact hz1, by rw [ch_zero]; exact ok_one, hk0⟩
    case round =>
      obtain ⟨i, rfl, hi, hnm, hok, hkp⟩ := hrel
      have hlh := hnm.1.lt
      have Hi := Lib.hid hi
      by_cases hlt : i < k
      · have hb : ch n i < B9 ^ 228 := Nat.lt_of_lt_of_le (by have := hok.lt; simpa using this) (pow_le (by omega))
        have hcs := Lib.hid (ch_step n i)
        have hle : Hid (ch n (i + 1) ≤ ch n k) := by
          show _ ≤ _
          rw [← HE3.out, show k = (i + 1) + (k - (i + 1)) by omega]
          exact ch_mono n _ _ (by omega)
        clear hi
        go_wp2_with fail
        refine (scale_i w.heap.size (ch n i) (n - i) _ _ hnm hb (by omega) (by omega) (by omega)).mono ?_
        rintro e w2 ⟨rfl, hn2, hk2⟩
        go_wp2_with fail
        refine (split_i w.heap.size (ch n i * (n - i)) (i + 1) _ _ hn2 (by omega) (by omega) (by omega)).mono ?_
        rintro e w3 ⟨rfl, hn3, hk3⟩
        rw [hcs.out] at hn3
        go_wp2_with fail
        refine (long_any w.heap.size (ch n (i + 1)) false _ hn3).mono ?_
        rintro e w4 ⟨rfl, m, rfl⟩
        have kk : Kp [] w (w3.drewN m) := ((hkp.step hk2 (by simp)).step hk3 (by simp)).drewN m
        by_cases hok2 : Ok (ch n (i + 1) : Int)
        · have hd : decide (1024 < nDigits (ch n (i + 1))) = false := decide_eq_false (by have := hok2; unfold Ok at this; simp only [Int.natAbs_natCast] at this; omega)
          have HO := Lib.hid hok2; clear hok2
          go_wp2
          have hi := Hi.out
          go_roundg (gk - 1)
          case measure => omega
          case rel => exact ⟨i + 1, by go_num, by omega, ⟨hn3.1.drewN m, hn3.2⟩, HO.out, kk⟩
        · have hd : decide (1024 < nDigits (ch n (i + 1))) = true := decide_eq_true (by have := hok2; unfold Ok at this; simp only [Int.natAbs_natCast] at this; omega)
          have hv1 : Hid (resB (ch n k : Int) = ⟨#[]⟩) := if_neg (fun h => hok2 (ok_of_le hle.out h))
          have hv2 : Hid (resE (ch n k : Int) = 11) := if_neg (fun h => hok2 (ok_of_le hle.out h))
          clear hok2
          go_wp2
          go_ret2
          exact ⟨by rw [hv1.out, hv2.out]; rfl, kk⟩
      · obtain rfl : i = k := by omega
        have hv : Hid (ch n i = ch n i) := rfl
        clear hi
        go_wp2_with fail
        refine (textZ w.heap.size (ch n i : Int) _ (numZ_nat hnm)).mono ?_
        rintro e w2 ⟨rfl, hk2⟩
        go_wp2
        go_ret2
        exact ⟨rfl, hkp.trans hk2⟩
  · go_enter Try.func33, Try.ntmps33
    go_wp2_with fail
    refine (read_one w.heap.size _ n1).mono ?_
    rintro e w1 ⟨rfl, hn1', hk1⟩
    have hz1 : Num w1 w.heap.size 1 false := hn1'
    have hk0 : Kp [] w w1 := k1.step hk1 (by simp)
    go_wp2
    clear hn1' k1
    have hlim : (n - k) ≤ n ∧ 2 * (n - k) ≤ n ∧ ch n (n - k) = ch n k := ⟨by omega, by omega, (ch_symm n k hk).symm⟩
    obtain ⟨hE1, hE2, hE3⟩ := hlim
    have HE3 := Lib.hid hE3; clear hE3
    go_loopg [29] (n - k) (fun gk s29 wr => ∃ i : Nat, s29 = .int .i64 (i : Int) ∧ i + gk = (n - k) ∧ Num wr w.heap.size (ch n i) false ∧ Ok (ch n i : Int) ∧ Kp [] w wr)
    case atStart => exact ⟨0, rfl, by omega, by rw [ch_zero]; exact hz1, by rw [ch_zero]; exact ok_one, hk0⟩
    case round =>
      obtain ⟨i, rfl, hi, hnm, hok, hkp⟩ := hrel
      have hlh := hnm.1.lt
      have Hi := Lib.hid hi
      by_cases hlt : i < (n - k)
      · have hb : ch n i < B9 ^ 228 := Nat.lt_of_lt_of_le (by have := hok.lt; simpa using this) (pow_le (by omega))
        have hcs := Lib.hid (ch_step n i)
        have hle : Hid (ch n (i + 1) ≤ ch n k) := by
          show _ ≤ _
          rw [← HE3.out, show (n - k) = (i + 1) + ((n - k) - (i + 1)) by omega]
          exact ch_mono n _ _ (by omega)
        clear hi
        go_wp2_with fail
        refine (scale_i w.heap.size (ch n i) (n - i) _ _ hnm hb (by omega) (by omega) (by omega)).mono ?_
        rintro e w2 ⟨rfl, hn2, hk2⟩
        go_wp2_with fail
        refine (split_i w.heap.size (ch n i * (n - i)) (i + 1) _ _ hn2 (by omega) (by omega) (by omega)).mono ?_
        rintro e w3 ⟨rfl, hn3, hk3⟩
        rw [hcs.out] at hn3
        go_wp2_with fail
        refine (long_any w.heap.size (ch n (i + 1)) false _ hn3).mono ?_
        rintro e w4 ⟨rfl, m, rfl⟩
        have kk : Kp [] w (w3.drewN m) := ((hkp.step hk2 (by simp)).step hk3 (by simp)).drewN m
        by_cases hok2 : Ok (ch n (i + 1) : Int)
        · have hd : decide (1024 < nDigits (ch n (i + 1))) = false := decide_eq_false (by have := hok2; unfold Ok at this; simp only [Int.natAbs_natCast] at this; omega)
          have HO := Lib.hid hok2; clear hok2
          go_wp2
          have hi := Hi.out
          go_roundg (gk - 1)
          case measure => omega
          case rel => exact ⟨i + 1, by go_num, by omega, ⟨hn3.1.drewN m, hn3.2⟩, HO.out, kk⟩
        · have hd : decide (1024 < nDigits (ch n (i + 1))) = true := decide_eq_true (by have := hok2; unfold Ok at this; simp only [Int.natAbs_natCast] at this; omega)
          have hv1 : Hid (resB (ch n k : Int) = ⟨#[]⟩) := if_neg (fun h => hok2 (ok_of_le hle.out h))
          have hv2 : Hid (resE (ch n k : Int) = 11) := if_neg (fun h => hok2 (ok_of_le hle.out h))
          clear hok2
          go_wp2
          go_ret2
          exact ⟨by rw [hv1.out, hv2.out]; rfl, kk⟩
      · obtain rfl : i = n - k := by omega
        have hv : Hid (ch n (n - k) = ch n k) := HE3.out
        clear hi
        go_wp2_with fail
        refine (textZ w.heap.size (ch n (n - k) : Int) _ (numZ_nat hnm)).mono ?_
        rintro e w2 ⟨rfl, hk2⟩
        go_wp2
        go_ret2
        exact ⟨by rw [← hv.out]; rfl, hkp.trans hk2⟩
end Go.Proofs.Ytobfboemgelmoaa
