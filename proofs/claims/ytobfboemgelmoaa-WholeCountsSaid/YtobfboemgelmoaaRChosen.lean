/- The reference's Chosen: a row of the triangle of Pascal; and Binomial. -/
import Derived.Test.YtobfboemgelmoaaM28
import Derived.Test.YtobfboemgelmoaaM24
import Derived.Test.YtobfboemgelmoaaChooses
import Derived.Deep.RegionHeld3
import Derived.Deep.AppendLies
import Derived.Deep.DrawnRows
namespace Go.Proofs.Ytobfboemgelmoaa
open Go.RowKit
open Go.Lib (nDigits itoa decDigits)

theorem ch_two : ∀ n k : Nat, ch n k ≤ 2 ^ n
  | 0, 0 => Nat.le_refl _
  | 0, _ + 1 => Nat.zero_le _
  | n + 1, 0 => by rw [ch_zero]; exact Nat.one_le_two_pow
  | n + 1, k + 1 => by
    show ch n k + ch n (k + 1) ≤ _
    have h1 := ch_two n k
    have h2 := ch_two n (k + 1)
    rw [Nat.pow_succ]; omega
theorem ch_nd {n : Nat} (k : Nat) (hn : n ≤ 40) : nDigits ((ch n k : Nat) : Int).natAbs ≤ 41 := by
  rw [Int.natAbs_natCast]
  refine (nd_le_iff (by omega)).2 (Nat.lt_of_le_of_lt (ch_two n k) (Nat.lt_of_le_of_lt (Nat.pow_le_pow_right (by decide) hn) (by decide)))
theorem ch_pascal (n k : Nat) : ((ch n k : Nat) : Int) + ((ch n (k + 1) : Nat) : Int) = ((ch (n + 1) (k + 1) : Nat) : Int) := by
  show _ = ((ch n k + ch n (k + 1) : Nat) : Int)
  omega
theorem ownsRow_base {w : World} {b b' e size n : Nat} {v : Value} {xs : List Value} (h : w.ownsRow b e size v n xs) (hb : b' ≤ b) : w.ownsRow b' e size v n xs := by
  obtain ⟨h1, h2 | ⟨g, cap, cur, h3, h4, h5⟩⟩ := h
  · exact ⟨h1, .inl h2⟩
  · exact ⟨h1, .inr ⟨g, cap, cur, h3, Nat.le_trans hb h4, h5⟩⟩
theorem chTexts_len (m i : Nat) : (chTexts m i).length = i := by unfold chTexts; simp
theorem chTexts_get (m i j : Nat) (h : j < (chTexts m i).length) : (chTexts m i)[j] = S (ch m j : Int) := by
  have h1 : j < i := by rwa [chTexts_len] at h
  have h2 : (chTexts m i)[j]? = some (S (ch m j : Int)) := by
    rw [chTexts, List.getElem?_map, List.getElem?_range h1]; rfl
  exact Option.some.inj ((List.getElem?_eq_getElem h).symm.trans h2)
theorem own_one (w : World) (e : TypeId) (s : ByteArray) : (w.alloc (.cells #[.string s] e (0, 0))).ownsRow w.heap.size e 1 (.slice (some ⟨w.heap.size, 0, none⟩) 1 1) 1 ([s].map Value.string) :=
  ⟨rfl, .inr ⟨w.heap.size, 1, #[.string s], rfl, Nat.le_refl _, made (w := w) (.cells #[.string s] e (0, 0)), Nat.le_refl _, by decide, rfl, rfl⟩⟩
theorem chTexts_one (m : Nat) : chTexts m 1 = [⟨#[49]⟩] := by
  unfold chTexts
  rw [show List.range 1 = [0] from rfl]
  show [S (ch m 0 : Int)] = _
  rw [ch_zero]; exact congrArg (fun x => [x]) S_one

set_option maxRecDepth 100000 in
set_option maxHeartbeats 1000000 in
theorem Chosen_none (n k : Int) (w : World) (hk : k < 0 ∨ (0 ≤ k ∧ n < k)) :
    Calls Try.prog 64 #[.int .i64 n, .int .i64 k] w fun e w' => e = .returned (.string ⟨#[48]⟩) ∧ w = w' := by
  rcases hk with hk | ⟨hk0, hk⟩
  all_goals
    go_enter Try.func64, Try.ntmps64
    go_wp2
    go_ret
    exact ⟨rfl, rfl⟩

attribute [local go_sem ↓] Go.wp_at_zero Go.wp_at_succ

set_option maxRecDepth 100000 in
set_option maxHeartbeats 4000000 in
theorem Chosen_ok (n k : Nat) (w : World) (hn : n ≤ 40) (hk : k ≤ n) :
    Calls Try.prog 64 #[.int .i64 (n : Int), .int .i64 (k : Int)] w fun e w' => e = .returned (.string (S (ch n k : Int))) ∧ Kp [] w w' := by
  have q1 : Hid (∀ (i j : Nat) W, i ≤ 40 → Calls Try.prog 41 #[.string (S (ch i j : Int)), .string (S (ch i (j + 1) : Int))] W fun e w' => e = .returned (.string (S (ch (i + 1) (j + 1) : Int))) ∧ Kp [] W w') := by
    intro i j W hi
    have := plus_any (ch i j : Int) (ch i (j + 1) : Int) W (Nat.le_trans (ch_nd _ hi) (by omega)) (Nat.le_trans (ch_nd _ hi) (by omega))
    rwa [ch_pascal] at this
  obtain ⟨i0, hi0, hz0, hz1, hz2⟩ := info_parts int_info
  have d1 : decide ((k : Int) < 0) = false := decide_eq_false (by omega)
  have d2 : decide (n < k) = false := decide_eq_false (by omega)
  have d2' : decide ((n : Int) < (k : Int)) = false := decide_eq_false (by omega)
  have hown0 : (w.alloc (.cells #[.string ⟨#[49]⟩] 22 (0, 0))).ownsRow w.heap.size 22 1 (.slice (some ⟨w.heap.size, 0, none⟩) 1 1) 1 ((chTexts 0 1).map Value.string) := by
    rw [chTexts_one]
    exact own_one w _ _
  have hk0 : Kp [] w (w.alloc (.cells #[.string ⟨#[49]⟩] 22 (0, 0))) := (Kp.refl _ _).alloc _
  go_enter Try.func64, Try.ntmps64
  go_wp2_with fail
  go_loopw [5, 6] (fun s5 s6 wr => ∃ (i i1 : Nat) (sv : Value), sv = s5 ∧ Hid (i1 = i + 1) ∧ i1 ≤ n + 1 ∧ s6 = .int .i64 (i1 : Int) ∧ wr.ownsRow w.heap.size 22 1 sv i1 ((chTexts i i1).map Value.string) ∧ Kp [] w wr)
    (fun _ i _ => n + 1 - (intOf i).toNat)
  case atStart => exact ⟨0, 1, _, rfl, rfl, by omega, rfl, hown0, hk0⟩
  case round =>
    obtain ⟨i, i1, sv, rfl, hi1, hin, rfl, hown, hkp⟩ := hrel
    clear hown0 hk0
    obtain ⟨W0, hW0⟩ : ∃ W0, W0 = wr := ⟨_, rfl⟩
    subst hW0
    obtain ⟨g, cap, rfl, hstr, hg⟩ : ∃ g cap, sv = .slice (some ⟨g, 0, none⟩) i1 cap ∧ Strs W0 g 0 (chTexts i i1) ∧ g < W0.heap.size := by
      have h2 := hown
      obtain ⟨_, ⟨_, h3⟩ | ⟨g, cap, cur, rfl, _, hgg, _⟩⟩ := h2
      · have := hi1.out; omega
      · exact ⟨g, cap, rfl, (strs_own hown).1, (Array.getElem?_eq_some_iff.1 hgg).1⟩
    have hbase : w.heap.size ≤ W0.heap.size := hkp.size
    clear hown
    by_cases hlt : i1 < n + 1
    · have hown1 : (W0.alloc (.cells #[.string ⟨#[49]⟩] 22 (0, 0))).ownsRow W0.heap.size 22 1 (.slice (some ⟨W0.heap.size, 0, none⟩) 1 1) 1 ((chTexts i1 1).map Value.string) := by
        rw [chTexts_one]
        exact own_one W0 _ _
      have d3 : decide (i1 ≤ n) = true := decide_eq_true (by omega)
      have d3' : decide ((i1 : Int) ≤ (n : Int)) = true := decide_eq_true (by omega)
      have hk1 : Kp [] W0 (W0.alloc (.cells #[.string ⟨#[49]⟩] 22 (0, 0))) := (Kp.refl _ _).alloc _
      go_wp2_with fail
      go_loopw [7, 8] (fun s7 s8 wi => ∃ (j j1 : Nat) (nv : Value), nv = s7 ∧ Hid (j1 = j + 1) ∧ j1 ≤ i1 ∧ s8 = .int .i64 (j1 : Int) ∧ wi.ownsRow W0.heap.size 22 1 nv j1 ((chTexts i1 j1).map Value.string) ∧ Kp [] W0 wi)
        (fun _ j _ => i1 - (intOf j).toNat)
      case atStart => exact ⟨0, 1, _, rfl, rfl, by have := hi1.out; omega, rfl, hown1, hk1⟩
      case round =>
        obtain ⟨j, j1, nv, rfl, hj1, hjn, rfl, hown, hki⟩ := hrel
        clear hown1 hk1
        have hsz := hki.size
        by_cases hjl : j1 < i1
        · have hst := hstr.kp hg hki (by simp)
          have c1 := hst j (by rw [chTexts_len]; have := hj1.out; omega)
          have c2 := hst j1 (by rw [chTexts_len]; omega)
          rw [chTexts_get, Nat.zero_add] at c1 c2
          have q := Lib.hid (fun W => q1.out i j W (by have := hi1.out; omega))
          have hw : wrap64 ((j1 : Int) - 1) = (j : Int) := by have := hj1.out; unfold wrap64; omega
          have hw2 : IntKind.i64.wrap ((j1 : Int) - 1) = (j : Int) := by have := hj1.out; rw [show (j1 : Int) - 1 = (j : Int) by omega]; exact IntWalk.i64_in _ (by omega)
          have b1 : (0 : Int) ≤ (j : Int) := by omega
          have b2 : (j : Int) < (i1 : Int) := by have := hj1.out; omega
          have b3 : (0 : Int) ≤ (j1 : Int) := by omega
          have b4 : (j1 : Int) < (i1 : Int) := by omega
          rw [← hj1.out, ← hi1.out] at q
          generalize hr : S (ch i1 j1 : Int) = r at *
          generalize S (ch i j : Int) = s1 at *
          generalize S (ch i j1 : Int) = s2 at *
          have Hr := Lib.hid hr
          clear hr
          have hne : nv.ownBlock ≠ some g := fun h => by have := (hown.lt g h).1; omega
          go_wp2_with fail
          go_region_held3 (fun w' => w'.cell? ⟨g, j, none⟩ = some (.string s1) ∧ w'.cell? ⟨g, j1, none⟩ = some (.string s2))
            (first
              | go_keep
              | (go_split_ands
                 refine ⟨?_, ?_⟩
                 · (rw [World.cell?_of_block (k1.block g (Nat.lt_of_lt_of_le hg hsz) (by simp))]; assumption)
                 · (rw [World.cell?_of_block (k1.block g (Nat.lt_of_lt_of_le hg hsz) (by simp))]; assumption))
              | (go_split_ands
                 refine ⟨?_, ?_⟩
                 · (rw [hgrow.cell_far _ (by have := k1.size; simp at this ⊢; omega) (Ne.symm hne)]; assumption)
                 · (rw [hgrow.cell_far _ (by have := k1.size; simp at this ⊢; omega) (Ne.symm hne)]; assumption)))
            (first
              | (go_at_call 41; refine (q.out _).mono ?_; rintro e w1 ⟨rfl, k1⟩)
              | (refine step_append_lies _ (by rfl) _ _ _ (by rfl) W0.heap.size 22 i0 _ 1 16 Try.underlying36 hi0 hz0 hz1 hz2 rfl (by omega) nv j1 _ (by rfl) ((World.ownsRow.kept (World.ownsRow.drew hown) (kp_grown k1) (by cases nv.ownBlock <;> simp)).alloc _)
                  ⟨w1.heap.size, 0, none⟩ 1 1 [.string r] (by rfl) (by rfl) (World.news_of_block (cs := #[.string r]) (t := 22) (fr := (0, 0)) (heap_alloc_new w1 _)) (by simp [Value.oneCell'])
                  (by omega) (by unfold maxLen; omega) (by omega) (by have := k1.size; simp at this ⊢; omega) (w1.heap.size + 1) (by simp) ?_; intro gg cap2 w2 hown2 hgrow hat hlt2))
          have hk3 : Kp [] W0 w2 := grown_kp ((hki.drew.trans k1).alloc _) hgrow (fun b hb => (hown.lt b hb).1)
          have hown3 : w2.ownsRow W0.heap.size 22 1 (.slice (some ⟨gg, 0, none⟩) (j1 + 1) cap2) (j1 + 1) ((chTexts i1 (j1 + 1)).map Value.string) := by
            rw [chTexts_succ, List.map_append, Hr.out]; exact hown2
          clear hown2 hgrow c1 c2 hst k1
          go_wp2_with fail
          go_roundw
          case rel =>
            exact ⟨j1, j1 + 1, _, rfl, rfl, by omega, by go_num, hown3, hk3⟩
          case measure => simp [intOf]; omega
        · obtain rfl : j1 = i1 := by omega
          have hv : Hid ((⟨#[49]⟩ : ByteArray) = S (ch j1 j1 : Int)) := by show _ = _; rw [ch_self]; exact S_one.symm
          clear hjl hjn
          go_wp2_with (first | (at_builtin; refine wpList_append_own _ rfl _ _ 36 rfl W0.heap.size 22 i0 (.string ⟨#[]⟩) 1 16 Try.underlying36 hi0 hz0 hz1 hz2 rfl (by decide) _ _ _ rfl (hown.alloc _) ⟨wr.heap.size, 0, none⟩ 1 1 [.string ⟨#[49]⟩] rfl rfl ?c1 ?c2 ?c3 ?c4 ?c5 ?_) | fail)
          case c1 => exact cell_one_new _ _ _
          case c2 => intro u hu; simp at hu; subst hu; rfl
          case c3 => unfold maxLen; omega
          case c4 => omega
          case c5 => simp; omega
          · intro sv' w2 hown2 hgrow _
            have hk3 : Kp [] W0 w2 := grown_kp (hki.alloc _) hgrow (fun b hb => (hown.lt b hb).1)
            have hown3 : w2.ownsRow w.heap.size 22 1 sv' (j1 + 1) ((chTexts j1 (j1 + 1)).map Value.string) := by
              rw [chTexts_succ, List.map_append, ← hv.out]; exact ownsRow_base hown2 hbase
            clear hown2 hgrow
            go_wp2_with fail
            go_roundw
            case rel =>
              exact ⟨j1, j1 + 1, sv', rfl, rfl, by omega, by go_num, hown3, hkp.trans hk3⟩
            case measure => simp [intOf]; omega
    · obtain rfl : i1 = n + 1 := by omega
      obtain rfl : i = n := by have := hi1.out; omega
      have c1 := hstr k (by rw [chTexts_len]; omega)
      rw [chTexts_get, Nat.zero_add] at c1
      have b1 : (0 : Int) ≤ (k : Int) := by omega
      have b2 : (k : Int) < ((i + 1 : Nat) : Int) := by omega
      clear q1 hstr
      go_wp2_with fail
      go_ret
      exact ⟨rfl, hkp⟩

set_option maxRecDepth 100000 in
set_option maxHeartbeats 1000000 in
theorem RBinomial_range (n k : Int) (w : World) (h : n < 0 ∨ (0 ≤ n ∧ 4096 < n)) :
    Calls Try.prog 34 #[.int .i64 n, .int .i64 k] w fun e w' => e = .returned (.tuple #[.string ⟨#[]⟩, .int .i64 2]) ∧ w = w' := by
  rcases h with h | ⟨h0, h⟩
  all_goals
    go_enter Try.func34, Try.ntmps34
    go_wp2
    go_ret2
    exact ⟨rfl, rfl⟩

set_option maxRecDepth 100000 in
set_option maxHeartbeats 1000000 in
theorem RBinomial_in (n k : Int) (s r : ByteArray) (c : Int) (w : World) (h0 : 0 ≤ n) (h : n ≤ 4096)
    (q1 : Hid (∀ W, Calls Try.prog 64 #[.int .i64 n, .int .i64 k] W fun e w' => e = .returned (.string s) ∧ Kp [] W w'))
    (q2 : Hid (∀ W, Calls Try.prog 40 #[.string s] W fun e w' => e = .returned (.tuple #[.string r, .int .i64 c]) ∧ W = w')) :
    Calls Try.prog 34 #[.int .i64 n, .int .i64 k] w fun e w' => e = .returned (.tuple #[.string r, .int .i64 c]) ∧ Kp [] w w' := by
  have h1 : ¬ n < 0 := by omega
  have h2 : ¬ 4096 < n := by omega
  go_enter Try.func34, Try.ntmps34
  go_wp2_with fail
  refine (q1.out _).mono ?_
  rintro e w1 ⟨rfl, k1⟩
  go_wp2_with fail
  refine (q2.out _).mono ?_
  rintro e w2 ⟨rfl, rfl⟩
  go_wp2
  go_ret2
  exact ⟨rfl, k1⟩

theorem RBinomial_none (n k : Int) (w : World) (h0 : 0 ≤ n) (h : n ≤ 4096) (hk : k < 0 ∨ (0 ≤ k ∧ n < k)) :
    Calls Try.prog 34 #[.int .i64 n, .int .i64 k] w fun e w' => e = .returned (.tuple #[.string ⟨#[48]⟩, .int .i64 0]) ∧ Kp [] w w' := by
  refine RBinomial_in n k ⟨#[48]⟩ ⟨#[48]⟩ 0 w h0 h (fun W => (Chosen_none n k W hk).mono (by rintro e w' ⟨he, rfl⟩; exact ⟨he, Kp.refl _ _⟩)) (fun W => ?_)
  have := kept_any 0 W (by rw [S_zero]; decide)
  have h0 : Ok 0 := by unfold Ok; rw [show (0 : Int).natAbs = 0 from rfl, Go.Lib.nDigits_small (by omega)]; omega
  rwa [show resB 0 = S 0 from if_pos h0, S_zero, show resE 0 = 0 from if_pos h0] at this
theorem RBinomial_ok (n k : Nat) (w : World) (hn : n ≤ 40) (hk : k ≤ n) :
    Calls Try.prog 34 #[.int .i64 (n : Int), .int .i64 (k : Int)] w fun e w' => e = .returned (.tuple #[.string (resB (ch n k : Int)), .int .i64 (resE (ch n k : Int))]) ∧ Kp [] w w' :=
  RBinomial_in n k (S (ch n k : Int)) _ _ w (by omega) (by omega) (fun W => Chosen_ok n k W hn hk) (fun W => kept_any (ch n k : Int) W (Nat.le_trans (abs_sz (ch_nd k hn)) (by decide)))
end Go.Proofs.Ytobfboemgelmoaa
