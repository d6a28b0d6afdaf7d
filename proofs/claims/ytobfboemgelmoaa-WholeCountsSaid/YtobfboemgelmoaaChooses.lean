/- Walk over WholeChooses: binomials and powers. -/
import Derived.Test.YtobfboemgelmoaaChooseA
import Derived.OwnWalk
namespace Go.Proofs.Ytobfboemgelmoaa
open Go.RowKit
open Go.Lib (nDigits itoa decDigits)

theorem strs1L {W : World} {g : Nat} {a : ByteArray} {T : Nat} (hb : W.heap[g]? = some (.cells #[.string a] T (0, 0))) : Strs W g 0 [a] := by
  intro i h
  rw [cell_of hb]
  have h3 : i < 1 := h
  have : i = 0 := by omega
  subst this; rfl
theorem int_info : (Try.prog.info? 22).map (fun i => (i.zero, i.size, i.bytes)) = some (some (.string ⟨#[]⟩), 1, 16) := by kernel_rfl

def GivesII (n : Nat) (a b : Int) (r : Value) : Prop := Hid (∀ W : World, Calls Try.prog n #[.int .i64 a, .int .i64 b] W fun e w' => e = .returned (.tuple #[r, .int .i64 0]) ∧ Kp [] W w')
def GivesSI (n : Nat) (a : ByteArray) (b : Int) (r : Value) : Prop := Hid (∀ W : World, Calls Try.prog n #[.string a, .int .i64 b] W fun e w' => e = .returned (.tuple #[r, .int .i64 0]) ∧ Kp [] W w')

set_option maxRecDepth 100000 in
set_option maxHeartbeats 1000000 in
theorem Chooses_long (n k : Nat) (a : ByteArray) (w : World) (hn : n ≤ 255) (hk : k ≤ 255) (hl : (12 : Int) < (a.size : Int)) :
    Calls Try.prog 10 #[.int .u8 (n : Int), .int .u8 (k : Int), .string a] w fun e w' => e = .returned (.bool true) ∧ Kp [] w w' := by
  go_enter Try.func10, Try.ntmps10
  go_wp2_with fail
  refine (awake_any _).mono ?_
  rintro e w2 ⟨rfl, hk2⟩
  go_wp2
  go_ret
  exact ⟨rfl, hk2⟩

set_option maxRecDepth 100000 in
set_option maxHeartbeats 1000000 in
theorem Chooses_bad (n k : Nat) (a : ByteArray) (w : World) (hn : n ≤ 255) (hk : k ≤ 255) (hl : ¬ (12 : Int) < (a.size : Int)) (hsh : shL [a] = false) :
    Calls Try.prog 10 #[.int .u8 (n : Int), .int .u8 (k : Int), .string a] w fun e w' => e = .returned (.bool true) ∧ Kp [] w w' := by
  have hs := strs1L (made (w := w) (.cells #[.string a] 22 (0, 0)))
  have hk0 : Kp [] w (w.alloc (.cells #[.string a] 22 (0, 0))) := (Kp.refl _ _).alloc _
  have hq := Lib.hid (short_any w.heap.size 0 1 [a] _ hs (by simp))
  rw [hsh] at hq
  clear hs hsh
  go_enter Try.func10, Try.ntmps10
  go_wp2_with fail
  refine hq.out.mono ?_
  rintro e w' ⟨rfl, rfl⟩
  clear hq
  go_wp2_with fail
  refine (awake_any _).mono ?_
  rintro e w2 ⟨rfl, hk2⟩
  go_wp2
  go_ret
  exact ⟨rfl, hk0.trans hk2⟩

/-- the texts of the binomials of m below i -/
def chTexts (m i : Nat) : List ByteArray := (List.range i).map fun t => S (ch m t : Int)
theorem chTexts_succ (m i : Nat) : chTexts m (i + 1) = chTexts m i ++ [S (ch m i : Int)] := by
  unfold chTexts; rw [List.range_succ, List.map_append]; rfl

set_option maxRecDepth 100000 in
set_option maxHeartbeats 4000000 in
theorem Chooses_core (n k m j r : Nat) (a all y z x u v t : ByteArray) (w : World) (hn : n ≤ 255) (hk : k ≤ 255) (hl : ¬ (12 : Int) < (a.size : Int)) (hsh : shL [a] = true)
    (hm : (1 : Int) + (n : Int) % 60 = (m : Int)) (hj : (k : Int) % 70 = (j : Int)) (hr : (m : Int) % 7 = (r : Int)) (hm1 : 1 ≤ m) (hm2 : m ≤ 60) (hj2 : j < 70) (hr2 : r < 7)
    (q1 : Hid (∀ i : Nat, i ≤ m → GivesII 33 (m : Int) (i : Int) (.string (S (ch m i : Int)))))
    (q2 : Hid (∀ (ad : Option Addr) (c : Nat) (W : World), (∃ g, ad = some ⟨g, 0, none⟩ ∧ Strs W g 0 (chTexts m (m + 1)) ∧ g < W.heap.size) →
      Calls Try.prog 21 #[.slice ad (m + 1) c] W fun e w' => e = .returned (.tuple #[.string all, .int .i64 0]) ∧ Kp [] W w'))
    (q3 : GivesSI 31 ⟨#[50]⟩ (m : Int) (.string all))
    (q4 : GivesII 33 (m : Int) (j : Int) (.string x)) (q5 : GivesII 33 ((m : Int) - 1) (j : Int) (.string y))
    (q6 : GivesII 33 ((m : Int) - 1) ((j : Int) - 1) (.string z)) (q7 : Gives2 12 y z (.string x)) (q8 : GivesII 33 (m : Int) ((m : Int) - (j : Int)) (.string x))
    (q9 : GivesSI 31 a (m : Int) (.string u)) (q10 : GivesSI 31 a (r : Int) (.string v)) (q11 : Gives2 24 u v (.string t)) (q12 : GivesSI 31 a ((m : Int) + (r : Int)) (.string t)) :
    Calls Try.prog 10 #[.int .u8 (n : Int), .int .u8 (k : Int), .string a] w fun e w' => e = .returned (.bool true) ∧ Kp [] w w' := by
  have hs := strs1L (made (w := w) (.cells #[.string a] 22 (0, 0)))
  have hk0 : Kp [] w (w.alloc (.cells #[.string a] 22 (0, 0))) := (Kp.refl _ _).alloc _
  have hq := Lib.hid (short_any w.heap.size 0 1 [a] _ hs (by simp))
  rw [hsh] at hq
  clear hs hsh
  obtain ⟨i0, hi, hz0, hz1, hz2⟩ := info_parts int_info
  go_enter Try.func10, Try.ntmps10
  go_wp2_with fail
  refine hq.out.mono ?_
  rintro e w' ⟨rfl, rfl⟩
  clear hq
  go_wp2_with fail
  have hown0 : ((w.alloc (.cells #[.string a] 22)).alloc (.cells #[] 22)).ownsRow w.heap.size 22 1 (.slice (some ⟨w.heap.size + 1, 0, none⟩) 0 0) 0 ((chTexts m 0).map Value.string) := by
    have := World.ownsRow_made (w := w.alloc (.cells #[.string a] 22)) (base := w.heap.size) (e := 22) (size := 1) #[] 0 (by simp) (by decide) rfl
    rwa [World.size_alloc] at this
  have hk1 : Kp [] w ((w.alloc (.cells #[.string a] 22)).alloc (.cells #[] 22)) := hk0.alloc _
  clear hk0
  go_loopw [9, 51] (fun s9 s51 wr => ∃ (i : Nat) (sv : Value), sv = s9 ∧ i ≤ m + 1 ∧ s51 = .int .i64 i ∧ wr.ownsRow w.heap.size 22 1 sv i ((chTexts m i).map Value.string) ∧ Kp [] w wr)
    (fun _ i _ => m + 1 - (intOf i).toNat)
  case atStart => exact ⟨0, _, rfl, Nat.zero_le _, rfl, hown0, hk1⟩
  case round =>
    obtain ⟨i, sv, rfl, hi1, rfl, hown, hkp⟩ := hrel
    clear hown0 hk1
    by_cases hlt : i < m + 1
    · have q := q1.out i (by omega)
      go_wp2_with fail
      refine (q.out _).mono ?_
      rintro e w1 ⟨rfl, k⟩
      have hown1 := hown.kept (kp_grown k) (by cases sv.ownBlock <;> simp)
      have hkp1 := hkp.trans k
      clear q k hown hkp
      generalize htx : S (ch m i : Int) = tx at *
      have Htx := Lib.hid htx; clear htx
      go_wp2_with (first | (at_builtin; refine wpList_append_own _ rfl _ _ 36 rfl w.heap.size 22 i0 (.string ⟨#[]⟩) 1 16 Try.underlying36 hi hz0 hz1 hz2 rfl (by decide) _ _ _ rfl (hown1.alloc _) ⟨w1.heap.size, 0, none⟩ 1 1 [.string tx] rfl rfl ?c1 ?c2 ?c3 ?c4 ?c5 ?_) | fail)
      case c1 => exact cell_one_new _ _ _
      case c2 => intro u hu; simp at hu; subst hu; rfl
      case c3 => unfold maxLen; omega
      case c4 => omega
      case c5 => have := hkp1.size; simp; omega
      · intro sv' w2 hown2 hgrow _
        have hkp2 : Kp [] w w2 := grown_kp (hkp1.alloc _) hgrow (fun b hb => (hown1.lt b hb).1)
        have hown3 : w2.ownsRow w.heap.size 22 1 sv' (i + 1) ((chTexts m (i + 1)).map Value.string) := by
          rw [chTexts_succ, List.map_append, Htx.out]; exact hown2
        clear hown2 hgrow hown1 hkp1
        go_wp2_with fail
        go_roundw
        case rel => exact ⟨i + 1, sv', rfl, by omega, by go_num, hown3, hkp2⟩
        case measure => simp [intOf]; omega
    · obtain rfl : i = m + 1 := by omega
      obtain ⟨g, cap, rfl, hstr, hg⟩ : ∃ g cap, sv = .slice (some ⟨g, 0, none⟩) (m + 1) cap ∧ Strs wr g 0 (chTexts m (m + 1)) ∧ g < wr.heap.size := by
        have h2 := hown
        obtain ⟨_, ⟨_, h3⟩ | ⟨g, cap, cur, rfl, _, hgg, _⟩⟩ := h2
        · omega
        · exact ⟨g, cap, rfl, (strs_own hown).1, (Array.getElem?_eq_some_iff.1 hgg).1⟩
      have qt := Lib.hid (q2.out (some ⟨g, 0, none⟩) cap wr ⟨g, rfl, hstr, hg⟩)
      clear hown hstr q1 q2 hlt
      go_wp2_with fail
      refine qt.out.mono ?_
      rintro e w1 ⟨rfl, k1⟩
      have hk1 := hkp.trans k1
      clear k1 qt hkp
      go_wp2_with fail
      refine (q3.out _).mono ?_
      rintro e w2 ⟨rfl, k⟩
      have hk2 := hk1.trans k
      clear k q3 hk1
      go_wp2_with fail
      refine (q4.out _).mono ?_
      rintro e w3 ⟨rfl, k⟩
      have hk3 := hk2.trans k
      clear k q4 hk2
      go_wp2_with fail
      refine (q5.out _).mono ?_
      rintro e w4 ⟨rfl, k⟩
      have hk4 := hk3.trans k
      clear k q5 hk3
      go_wp2_with fail
      refine (q6.out _).mono ?_
      rintro e w5 ⟨rfl, k⟩
      have hk5 := hk4.trans k
      clear k q6 hk4
      go_wp2_with fail
      refine (q7.out _).mono ?_
      rintro e w6 ⟨rfl, k⟩
      have hk6 := hk5.trans k
      clear k q7 hk5
      go_wp2_with fail
      refine (q8.out _).mono ?_
      rintro e w7 ⟨rfl, k⟩
      have hk7 := hk6.trans k
      clear k q8 hk6
      go_wp2_with fail
      refine (q9.out _).mono ?_
      rintro e w8 ⟨rfl, k⟩
      have hk8 := hk7.trans k
      clear k q9 hk7
      go_wp2_with fail
      refine (q10.out _).mono ?_
      rintro e w9 ⟨rfl, k⟩
      have hk9 := hk8.trans k
      clear k q10 hk8
      go_wp2_with fail
      refine (q11.out _).mono ?_
      rintro e w10 ⟨rfl, k⟩
      have hk10 := hk9.trans k
      clear k q11 hk9
      go_wp2_with fail
      refine (q12.out _).mono ?_
      rintro e w11 ⟨rfl, k⟩
      have hk11 := hk10.trans k
      clear k q12 hk10
      go_wp2_with fail
      refine (awake_any _).mono ?_
      rintro e w12 ⟨rfl, k⟩
      have hk12 := hk11.trans k
      clear k
      go_wp2
      go_ret
      exact ⟨rfl, hk12⟩

theorem powS (x : Int) (n : Nat) (w : World) (hx : Ok x) (hn : n ≤ 4096) (h : Ok (x ^ n)) :
    Calls Try.prog 31 #[.string (S x), .int .i64 (n : Int)] w fun e w' => e = .returned (.tuple #[.string (S (x ^ n)), .int .i64 0]) ∧ Kp [] w w' := by
  have := Pow_ok x n w hx hn
  rw [show resB (x ^ n) = S (x ^ n) from if_pos h, show resE (x ^ n) = 0 from if_pos h] at this
  exact this

set_option exponentiation.threshold 2000 in
theorem Chooses_any (n k : Nat) (a : ByteArray) (w : World) (hn : n ≤ 255) (hk : k ≤ 255) :
    Calls Try.prog 10 #[.int .u8 (n : Int), .int .u8 (k : Int), .string a] w fun e w' => e = .returned (.bool true) ∧ Kp [] w w' := by
  by_cases hl : (12 : Int) < (a.size : Int)
  · exact Chooses_long n k a w hn hk hl
  cases hsh : shL [a] with
  | false => exact Chooses_bad n k a w hn hk hl hsh
  | true =>
    have h3 : sh1 a = true := by simpa [shL] using hsh
    have h2 : a.size ≤ 50 ∧ chk a.data.toList = 0 := by unfold sh1 at h3; simpa using h3
    obtain ⟨x, rfl, hx⟩ := of_chk_zero h2.2
    have hx12 : Sm 12 x := by
      unfold Sm
      refine Nat.lt_of_lt_of_le (Go.Lib.lt_pow_nDigits _) (Nat.pow_le_pow_right (by decide) ?_)
      by_cases hz : x < 0
      · have := (S_neg hz).2; omega
      · have := (S_nn hz).2; omega
    obtain ⟨m, hm⟩ : ∃ m : Nat, m = 1 + n % 60 := ⟨_, rfl⟩
    obtain ⟨j, hj⟩ : ∃ j : Nat, j = k % 70 := ⟨_, rfl⟩
    obtain ⟨r, hr⟩ : ∃ r : Nat, r = m % 7 := ⟨_, rfl⟩
    have hm60 : m ≤ 60 := by omega
    have opow : ∀ i : Nat, i ≤ 70 → Ok (x ^ i) := by
      intro i hi
      unfold Ok
      refine nd_le (k := 840) (by omega) ?_ |> fun h => Nat.le_trans h (by omega)
      rw [natAbs_pow]
      have h1 : x.natAbs ^ i ≤ (10 ^ 12) ^ i := Nat.pow_le_pow_left (Nat.le_of_lt hx12) i
      rw [← Nat.pow_mul] at h1
      by_cases h0 : i = 0
      · subst h0; simp
      · have h4 : x.natAbs ^ i < (10 ^ 12) ^ i := Nat.pow_lt_pow_left hx12 h0
        rw [← Nat.pow_mul] at h4
        exact Nat.lt_of_lt_of_le h4 (Nat.pow_le_pow_right (by decide) (by omega))
    have o2 : ∀ i : Nat, i ≤ 60 → Ok ((2 : Int) ^ i) := by
      intro i hi
      refine ok_small ?_
      rw [natAbs_pow]
      exact Nat.lt_of_le_of_lt (Nat.pow_le_pow_right (show 0 < (2:Int).natAbs by decide) hi) (by decide)
    have em1 : ((m - 1 : Nat) : Int) = (m : Int) - 1 := by omega
    have hpas : chI m (j : Int) = chI (m - 1) (j : Int) + chI (m - 1) ((j : Int) - 1) := by
      have := chI_pascal (m - 1) (j : Int) (by omega)
      rwa [show m - 1 + 1 = m by omega] at this
    have hsym : chI m ((m : Int) - (j : Int)) = chI m (j : Int) := (chI_symm m (j : Int) (by omega)).symm
    refine Chooses_core n k m j r (S x) (S (2 ^ m)) (S (chI (m - 1) (j : Int) : Int)) (S (chI (m - 1) ((j : Int) - 1) : Int)) (S (chI m (j : Int) : Int)) (S (x ^ m)) (S (x ^ r)) (S (x ^ m * x ^ r)) w hn hk hl hsh
      (by omega) (by omega) (by omega) (by omega) hm60 (by omega) (by omega) ?_ ?_ ?_ (fun W => Binomial_small m (j : Int) W hm60) ?_ ?_ ?_ ?_ (fun W => powS x m W hx (by omega) (opow m (by omega))) (fun W => powS x r W hx (by omega) (opow r (by omega))) ?_ ?_
    · intro i hi W
      have := Binomial_small m (i : Int) W hm60
      rwa [chI_nat] at this
    · rintro ad c W ⟨g, rfl, hst, hg⟩
      have hz : ∃ zs : List Int, chTexts m (m + 1) = zs.map S ∧ (∀ z ∈ zs, Ok z) ∧ zs.sum = 2 ^ m ∧ zs.length = m + 1 := by
        refine ⟨(List.range (m + 1)).map fun i => (ch m i : Int), by unfold chTexts; rw [List.map_map]; rfl, ?_, ?_, by simp⟩
        · intro z hz
          obtain ⟨i, _, rfl⟩ := List.mem_map.1 hz
          exact ch_ok hm60
        · rw [chSum_list, chSum_all]; simp
      obtain ⟨zs, hzs, hok, hsum, hlen⟩ := hz
      rw [hzs] at hst
      have h1 := sum_ok g 0 c zs W hst hg hok (by omega)
      rw [hsum, hlen, show resB ((2 : Int) ^ m) = S (2 ^ m) from if_pos (o2 m hm60), show resE ((2 : Int) ^ m) = 0 from if_pos (o2 m hm60)] at h1
      exact Total_few (some ⟨g, 0, none⟩) (m + 1) c _ _ W (by omega) h1
    · intro W
      have := powS 2 m W (ok_small (by decide)) (by omega) (o2 m hm60)
      rwa [t_2] at this
    · intro W
      have := Binomial_small (m - 1) (j : Int) W (by omega)
      rwa [em1] at this
    · intro W
      have := Binomial_small (m - 1) ((j : Int) - 1) W (by omega)
      rwa [em1] at this
    · intro W
      have := addS (chI (m - 1) (j : Int) : Int) (chI (m - 1) ((j : Int) - 1) : Int) W (chI_ok _ (by omega)) (chI_ok _ (by omega)) (by rw [← Int.natCast_add, ← hpas]; exact chI_ok _ hm60)
      rwa [← Int.natCast_add, ← hpas] at this
    · intro W
      have := Binomial_small m ((m : Int) - (j : Int)) W hm60
      rwa [hsym] at this
    · intro W
      exact mulS (x ^ m) (x ^ r) W (opow m (by omega)) (opow r (by omega)) (by rw [← Int.pow_add]; exact opow _ (by omega))
    · intro W
      have := powS x (m + r) W hx (by omega) (opow _ (by omega))
      rw [Int.pow_add] at this
      rwa [show ((m + r : Nat) : Int) = (m : Int) + (r : Int) from by omega] at this
end Go.Proofs.Ytobfboemgelmoaa
