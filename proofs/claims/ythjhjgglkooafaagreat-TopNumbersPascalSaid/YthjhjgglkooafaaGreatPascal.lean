/- TopNumbersPascal returns true for every input. -/
import Derived.Test.YthjhjgglkooafaaGreatChooses
import Derived.Test.YthjhjgglkooafaaGreatM48
import Derived.Test.YthjhjgglkooafaaGreatM49
import Derived.Test.YthjhjgglkooafaaGreatM23
namespace Go.Proofs.YthjhjgglkooafaaGreat
open Go.RowKit
open Go.Lib (nDigits itoa decDigits)

theorem play_add : Hid (∀ W : World, Calls Tryz.prog 26 #[.string ⟨#[49, 47, 49, 52]⟩, .string ⟨#[49, 47, 50, 49]⟩] W fun e w' => e = .returned (.tuple #[.string ⟨#[53, 47, 52, 50]⟩, .int .i64 0]) ∧ Kp [] W w') := fun W => by
  have c := add_c (q := mkRat 1 14) (r := mkRat 1 21) (sm_lit (by decide +kernel)) (sm_lit (by decide +kernel)) (by omega) W
  rwa [show mkRat 1 14 + mkRat 1 21 = mkRat 5 42 by decide +kernel, l_1_14, l_1_21, l_5_42] at c
set_option maxRecDepth 100000 in
theorem play_any (w : World) : Calls Tryz.prog 9 #[] w fun e w' => e = .returned (.bool true) ∧ Kp [] w w' := by
  have q := play_add
  go_enter Tryz.func9, Tryz.ntmps9
  go_wp2_with fail
  with_reducible refine (q.out _).mono ?_
  rintro e w1 ⟨rfl, k⟩
  go_wp2
  go_ret
  exact ⟨rfl, k⟩
set_option maxRecDepth 100000 in
theorem over_core (x y : Int) (a b s : ByteArray) (w : World) (o1 : Hid (Gw w 22 #[.int .i64 x] (.string a))) (o2 : Hid (Gw w 22 #[.int .i64 y] (.string b)))
    (o3 : Hid (Gw w 21 #[.string a, .string b] (.string s))) :
    Calls Tryz.prog 6 #[.int .i64 x, .int .i64 y] w fun e w' => e = .returned (.string s) ∧ Kp [] w w' := by
  unfold Gw at o1 o2 o3
  have kk := Kp.refl [] w
  go_enter Tryz.func6, Tryz.ntmps6
  go_wp2_with fail
  with_reducible refine (o1.out _ kk).mono ?_
  rintro e w1 ⟨rfl, k⟩
  replace kk := kk.trans k; clear k
  go_wp2_with fail
  with_reducible refine (o2.out _ kk).mono ?_
  rintro e w2 ⟨rfl, k⟩
  replace kk := kk.trans k; clear k
  go_wp2_with fail
  with_reducible refine (o3.out _ kk).mono ?_
  rintro e w3 ⟨rfl, k⟩
  replace kk := kk.trans k; clear k
  go_wp2
  go_ret
  exact ⟨rfl, kk⟩

set_option maxRecDepth 100000 in
set_option maxHeartbeats 4000000 in
theorem Pascal_core (n k m i : Nat) (all a b x : ByteArray) (d c : Int) (w : World) (hn : n ≤ 255) (hk : k ≤ 255)
    (hm : (n : Int) % 60 = (m : Int)) (hi : (k : Int) % ((m : Int) + 1) = (i : Int)) (_hm2 : m ≤ 59) (hi2 : i ≤ m) (hd : (m : Int) - (i : Int) = d) (hc : (i : Int) + 1 = c)
    (q1 : Hid (∀ j : Nat, j ≤ m → GivesII 4 (m : Int) (j : Int) (.string (S (ch m j : Int)))))
    (qa : GivesII 4 (m : Int) (i : Int) (.string a)) (qb : GivesII 4 (m : Int) c (.string b))
    (qm : Gives2 5 b a (.string x)) (qo : Hid (∀ W : World, Calls Tryz.prog 6 #[.int .i64 d, .int .i64 c] W fun e w' => e = .returned (.string x) ∧ Kp [] W w'))
    (q2 : Hid (∀ (ad : Option Addr) (c : Nat) (W : World), (∃ g, ad = some ⟨g, 0, none⟩ ∧ Strs W g 0 (chTexts m (m + 1)) ∧ g < W.heap.size) →
      Calls Tryz.prog 7 #[.slice ad (m + 1) c] W fun e w' => e = .returned (.tuple #[.string all, .int .i64 0]) ∧ Kp [] W w'))
    (q3 : GivesSI 8 ⟨#[50]⟩ (m : Int) (.string all)) :
    Calls Tryz.prog 3 #[.int .u8 (n : Int), .int .u8 (k : Int)] w fun e w' => e = .returned (.bool true) ∧ Kp [] w w' := by
  obtain ⟨i0, hi0, hz0, hz1, hz2⟩ := info_parts int_info
  have hm1 : ((m : Int) + 1 == 0) = false := beq_eq_false_iff_ne.2 (by omega)
  unfold GivesII at qa qb q1
  unfold Gives2 at qm
  unfold GivesSI at q3
  have HI := Lib.hid hi2
  have HC := Lib.hid hc
  go_enter Tryz.func3, Tryz.ntmps3
  go_wp2_with fail
  with_reducible refine (qa.out _).mono ?_
  rintro e w1 ⟨rfl, k1⟩
  go_wp2_with fail
  with_reducible refine (qb.out _).mono ?_
  rintro e w2 ⟨rfl, k⟩
  replace k1 := k1.trans k; clear k
  go_wp2_with fail
  with_reducible refine (qm.out _).mono ?_
  rintro e w3 ⟨rfl, k⟩
  replace k1 := k1.trans k; clear k
  go_wp2_with fail
  with_reducible refine (qo.out _).mono ?_
  rintro e w4 ⟨rfl, k⟩
  replace k1 := k1.trans k; clear k qa qb qm qo
  go_wp2_with fail
  have hown0 : w4.ownsRow w.heap.size 22 1 (.slice none 0 0) 0 ((chTexts m 0).map Value.string) := World.ownsRow_nil w4 _ _ _
  go_loopw [13, 64] (fun s13 s64 wr => ∃ (i : Nat) (sv : Value), sv = s13 ∧ i ≤ m + 1 ∧ s64 = .int .i64 i ∧ wr.ownsRow w.heap.size 22 1 sv i ((chTexts m i).map Value.string) ∧ Kp [] w wr)
    (fun _ i _ => m + 1 - (intOf i).toNat)
  case atStart => exact ⟨0, _, rfl, Nat.zero_le _, rfl, hown0, k1⟩
  case round =>
    obtain ⟨j, sv, rfl, hj1, rfl, hown, hkp⟩ := hrel
    clear hown0 k1
    by_cases hlt : j < m + 1
    · have q := q1.out j (by omega)
      go_wp2_with fail
      refine (q.out _).mono ?_
      rintro e w5 ⟨rfl, k⟩
      have hown1 := hown.kept (kp_grown k) (by cases sv.ownBlock <;> simp)
      have hkp1 := hkp.trans k
      clear q k hown hkp
      generalize htx : S (ch m j : Int) = tx at *
      have Htx := Lib.hid htx; clear htx
      go_wp2_with (first | (at_builtin; refine wpList_append_own _ rfl _ _ 30 rfl w.heap.size 22 i0 (.string ⟨#[]⟩) 1 16 Tryz.underlying30 hi0 hz0 hz1 hz2 rfl (by decide) _ _ _ rfl (hown1.alloc _) ⟨w5.heap.size, 0, none⟩ 1 1 [.string tx] rfl rfl ?c1 ?c2 ?c3 ?c4 ?c5 ?_) | fail)
      case c1 => exact cell_one_new _ _ _
      case c2 => intro u hu; simp at hu; subst hu; rfl
      case c3 => unfold maxLen; omega
      case c4 => omega
      case c5 => have := hkp1.size; simp; omega
      · intro sv' w6 hown2 hgrow _
        have hkp2 : Kp [] w w6 := grown_kp (hkp1.alloc _) hgrow (fun b hb => (hown1.lt b hb).1)
        have hown3 : w6.ownsRow w.heap.size 22 1 sv' (j + 1) ((chTexts m (j + 1)).map Value.string) := by
          rw [chTexts_succ, List.map_append, Htx.out]; exact hown2
        clear hown2 hgrow hown1 hkp1
        go_wp2_with fail
        go_roundw
        case rel => exact ⟨j + 1, sv', rfl, by omega, by go_num, hown3, hkp2⟩
        case measure => simp [intOf]; omega
    · obtain rfl : j = m + 1 := by omega
      obtain ⟨g, cap, rfl, hstr, hg⟩ : ∃ g cap, sv = .slice (some ⟨g, 0, none⟩) (m + 1) cap ∧ Strs wr g 0 (chTexts m (m + 1)) ∧ g < wr.heap.size := by
        have h2 := hown
        obtain ⟨_, ⟨_, h3⟩ | ⟨g, cap, cur, rfl, _, hgg, _⟩⟩ := h2
        · omega
        · exact ⟨g, cap, rfl, (strs_own hown).1, (Array.getElem?_eq_some_iff.1 hgg).1⟩
      have qt := Lib.hid (q2.out (some ⟨g, 0, none⟩) cap wr ⟨g, rfl, hstr, hg⟩)
      clear hown hstr q1 q2 hlt
      go_wp2_with fail
      refine qt.out.mono ?_
      rintro e w5 ⟨rfl, k⟩
      replace hkp := hkp.trans k
      clear k qt
      go_wp2_with fail
      refine (q3.out _).mono ?_
      rintro e w6 ⟨rfl, k⟩
      replace hkp := hkp.trans k
      clear k q3
      go_wp2_with fail
      refine (play_any _).mono ?_
      rintro e w7 ⟨rfl, k⟩
      replace hkp := hkp.trans k
      clear k
      go_wp2
      go_ret
      exact ⟨rfl, hkp⟩

theorem divInt_ch (m i : Nat) (h : i ≤ m) : Rat.divInt (ch m (i + 1) : Int) (ch m i : Int) = Rat.divInt ((m : Int) - (i : Int)) ((i : Int) + 1) := by
  have h1 := ch_mul m i
  have h2 := ch_pos m i h
  rw [Rat.divInt_eq_divInt_iff (by omega) (by omega)]
  have h3 : ((ch m (i + 1) * (i + 1) : Nat) : Int) = ((ch m i * (m - i) : Nat) : Int) := by rw [h1]
  rw [Int.natCast_mul, Int.natCast_mul, Int.natCast_sub h] at h3
  rw [show ((i : Int) + 1) = ((i + 1 : Nat) : Int) by omega, h3, Int.mul_comm]
set_option exponentiation.threshold 2000 in
theorem Pascal_any (n k : Nat) (w : World) (hn : n ≤ 255) (hk : k ≤ 255) :
    Calls Tryz.prog 3 #[.int .u8 (n : Int), .int .u8 (k : Int)] w fun e w' => e = .returned (.bool true) ∧ Kp [] w w' := by
  obtain ⟨m, hm⟩ : ∃ m : Nat, m = n % 60 := ⟨_, rfl⟩
  obtain ⟨i, hi⟩ : ∃ i : Nat, i = k % (m + 1) := ⟨_, rfl⟩
  have hm60 : m ≤ 60 := by omega
  have hi2 : i ≤ m := by have := Nat.mod_lt k (show m + 1 > 0 by omega); omega
  have o2 : ∀ i : Nat, i ≤ 60 → Ok ((2 : Int) ^ i) := by
    intro i hi
    refine ok_small ?_
    rw [natAbs_pow]
    exact Nat.lt_of_le_of_lt (Nat.pow_le_pow_right (show 0 < (2:Int).natAbs by decide) hi) (by decide)
  have bin : ∀ j : Nat, GivesII 4 (m : Int) (j : Int) (.string (S (ch m j : Int))) := by
    intro j W
    have := Binomial_small m (j : Int) W hm60
    rwa [chI_nat] at this
  have p0 : (ch m i : Int) ≠ 0 := by have := ch_pos m i hi2; omega
  refine Pascal_core n k m i (S (2 ^ m)) (S (ch m i : Int)) (S (ch m (i + 1) : Int)) (RS (Rat.divInt (ch m (i + 1) : Int) (ch m i : Int))) ((m : Int) - (i : Int)) ((i : Int) + 1) w hn hk (by omega) ?_ (by omega) hi2 rfl rfl
    (fun j _ => bin j) (bin i) (bin (i + 1)) (fun W => make_c (ch_ok hm60) (ch_ok hm60) p0 W) ?_ ?_ ?_
  · rw [hi]; exact (Int.natCast_emod k (m + 1)).symm
  · intro W
    have hd : ((m : Int) - (i : Int)).natAbs < 10 ^ 30 := by omega
    have hc : ((i : Int) + 1).natAbs < 10 ^ 30 := by omega
    rw [divInt_ch m i hi2]
    exact over_core _ _ _ _ _ W (gw_of fun W' => of_any _ W' (by omega) (by omega)) (gw_of fun W' => of_any _ W' (by omega) (by omega)) (gw_of fun W' => lowest_S (ok_small hd) (ok_small hc) (by omega) W')
  · rintro ad c W ⟨g, rfl, hst, hg⟩
    have hz : ∃ zs : List Int, chTexts m (m + 1) = zs.map S ∧ (∀ z ∈ zs, Ok z) ∧ zs.sum = 2 ^ m ∧ zs.length = m + 1 := by
      refine ⟨(List.range (m + 1)).map fun i => (ch m i : Int), by unfold chTexts; rw [List.map_map]; rfl, ?_, ?_, by simp⟩
      · intro z hz
        obtain ⟨i, _, rfl⟩ := List.mem_map.1 hz
        exact ch_ok hm60
      · rw [chSum_list, chSum_all]; simp
    obtain ⟨zs, hzs, hok, hsum, hlen⟩ := hz
    rw [hzs] at hst
    have h1 := sum_ok g 0 c zs W hst hg hok (by omega)
    rw [hsum, hlen, show resB ((2 : Int) ^ m) = S (2 ^ m) from if_pos (o2 m hm60), show resE ((2 : Int) ^ m) = 0 from if_pos (o2 m hm60)] at h1
    exact Total_few (some ⟨g, 0, none⟩) (m + 1) c _ _ W (by omega) h1
  · intro W
    have := powS 2 m W (ok_small (by decide)) (by omega) (o2 m hm60)
    rwa [t_2] at this
end Go.Proofs.YthjhjgglkooafaaGreat
