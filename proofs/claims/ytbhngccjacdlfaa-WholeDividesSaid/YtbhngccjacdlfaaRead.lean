/- Walk over (*number).read: a number out of its digits. -/
import Derived.Test.YtbhngccjacdlfaaCheck
import Derived.Test.YtbhngccjacdlfaaBytes
import Derived.Deep.RegionWith
import Derived.StillTailTactics
import Derived.IntWalk
namespace Go.Proofs.Ytbhngccjacdlfaa
open Go.RowKit

theorem word_still (s : ByteArray) (w : World) {x : Nat} (hd : s.data.toList.all isDig = true) (hs : s.size ≤ 9) (hx : valN s.data.toList = x) :
    Calls Try.prog 74 #[.string s] w fun e w' => e = .returned (.int .u32 (x : Int)) ∧ w' = w :=
  (word_any s w hd hs).mono fun _ _ ⟨h1, h2⟩ => ⟨by rw [h1, hx], h2.symm⟩
theorem trimPrefix_to (s d : ByteArray) (w : World) (hs : s.size ≤ 9223372036854775807) (h : Hid (magB s = d)) :
    Calls Try.prog 65 #[.string s, .string ⟨#[45]⟩] w fun e w' => e = .returned (.string d) ∧ w = w' := by
  rw [← h.out]; exact trimPrefix_any s w hs
theorem piece_ext {d : ByteArray} (hd : d.data.toList.all isDig = true) (k e : Nat) (he : e + 9 * k = d.size) (h0 : 0 < e) :
    (d.extract (e - 9) e).data.toList.all isDig = true ∧ (d.extract (e - 9) e).size ≤ 9 ∧ valN (d.extract (e - 9) e).data.toList = wd (valN d.data.toList) k := by
  have hlen : d.data.toList.length = d.size := (Lib.size_eq d).symm
  have hx : (d.extract (e - 9) e).data.toList = (d.data.toList.take e).drop (e - 9) := by rw [Lib.extract_data, List.drop_take]
  refine ⟨?_, ?_, ?_⟩
  · rw [hx]; exact all_drop (all_take hd _) _
  · rw [Lib.size_eq, hx, List.length_drop, List.length_take]; omega
  · have := piece hd k (by omega)
    rw [hlen, show d.size - 9 * k = e by omega] at this
    rw [hx, this]

set_option maxRecDepth 100000 in
set_option maxHeartbeats 4000000 in
theorem read_any (g : Nat) (s : ByteArray) (w : World) (hg : NumF w g (fun _ => 0) 0 false) (hs : s.size ≤ 2000) (hd : (mag s.data.toList).all isDig = true) :
    Calls Try.prog 51 #[.pointer (some ⟨g, 0, none⟩), .string s] w fun e w' => e = .returned (.tuple #[]) ∧ Num w' g (valN (mag s.data.toList)) (isNeg s.data.toList && decide (valN (mag s.data.toList) ≠ 0)) ∧ Kp [g] w w' := by
  have hle := magB_le s
  have hlt : Hid (decide ((magB s).size < s.size) = isNeg s.data.toList) := by
    show decide ((magB s).size < s.size) = _
    rw [size_mag, Lib.size_eq]
    cases hn : isNeg s.data.toList with
    | true => have := mag_of_neg hn; rw [this]; simp [mag]
    | false => rw [mag_of_nn hn]; simp
  rw [← magB_list] at hd ⊢
  obtain ⟨d, Hd⟩ : ∃ d, Hid (magB s = d) := ⟨_, rfl⟩
  rw [Hd.out] at hd hle hlt ⊢
  have hsg := hg.sgn
  have hfm := hg.free 230
  go_enter Try.func51, Try.ntmps51
  go_wp2_with fail
  refine (trimPrefix_to s d _ (by omega) Hd).mono ?_
  rintro e w' ⟨rfl, rfl⟩
  go_wp2
  have hg2 := hg.setM (decide (d.size < s.size))
  have hkp0 : Kp [g] w (w.setCell ⟨g, 230, none⟩ (.bool (decide (d.size < s.size)))) := (Kp.refl _ _).setCell (.inl (by simp)) _
  clear hsg hfm
  go_loopg [5] (d.size + 9) (fun gk s5 wr => ∃ (k : Nat) (i : Int), s5 = .int .i64 i ∧ i + 9 * (k : Int) = d.size ∧ (gk : Int) = i + 9 ∧ -9 < i ∧
      NumF wr g (mix (wd (valN d.data.toList)) (fun _ => 0) k) k (decide (d.size < s.size)) ∧ Kp [g] w wr)
  case atStart => exact ⟨0, _, rfl, by omega, by omega, by omega, by rw [mix_zero]; exact hg2, hkp0⟩
  case round =>
    obtain ⟨k, i, rfl, hi, hgk, hi9, hn, hkp⟩ := hrel
    have hcn := hn.cnt
    have hf1 := hn.free 229
    have hfk := hn.free k
    have hk229 : k < 229 ∨ i ≤ 0 := by omega
    by_cases hpos : 0 < i
    · obtain ⟨e, rfl⟩ : ∃ e : Nat, i = (e : Int) := ⟨i.toNat, by omega⟩
      have hk : (k : Int) < 229 := by omega
      obtain ⟨p1, p2, p3⟩ := piece_ext hd k e (by omega) (by omega)
      have hwk := hn.word (i := k) (by omega)
      have P3 := Lib.hid p3; clear p3
      have he : (e : Int) ≤ d.size := by omega
      have Hi := Lib.hid hi; clear hi
      have Hgk := Lib.hid hgk; clear hgk
      by_cases h9 : 9 < e
      · obtain ⟨e9, rfl⟩ : ∃ e9, e = e9 + 9 := ⟨e - 9, by omega⟩
        rw [show e9 + 9 - 9 = e9 by omega] at p1 p2 P3
        have h9' : (0 : Int) < (e9 : Int) := by omega
        rw [Int.natCast_add, show ((9 : Nat) : Int) = 9 from rfl] at he hpos hi9 ⊢
        have q5 : 0 < e9 := by omega
        have q2 : (0 : Int) ≤ (e9 : Int) + 9 := by omega
        have q3 : (e9 : Int) ≤ (e9 : Int) + 9 := by omega
        have q4 : ((e9 : Int) + 9).toNat = e9 + 9 := by omega
        have q1 : IntKind.i64.wrap (e9 : Int) = e9 := IntWalk.i64_in _ (by omega)
        go_wp2
        go_still_tail 15, (by kernel_rfl)
        refine wpStill_step (fun K hK => ?_)
        go_simp
        refine ⟨_, word_still _ _ p1 p2 P3.out, ?_⟩
        refine hK _ ?_
        clear hK K
        repeat still_step
        refine wpStill_nil ?_
        change wpList _ _ _ _ _ wr.drew
        go_wp2
        have Hgk := Hgk.out; have Hi := Hi.out
        go_roundg (e9 + 9)
        case measure => omega
        case rel =>
          refine ⟨k + 1, _, rfl, by omega, by omega, by omega, ?_, ((hkp.setCell (.inl (by simp)) _).setCell (.inl (by simp)) _).drew⟩
          rw [← mix_set]; exact ((hn.setW (by omega) _).setC' (by omega)).drew
      · rw [show e - 9 = 0 by omega] at p1 p2 P3
        have h9' : (e : Int) ≤ 9 := by omega
        clear h9
        have q6 : ¬ (0 : Int) < (e : Int) - 9 := by omega
        have q1 : IntKind.i64.wrap ((e : Int) - 9) = (e : Int) - 9 := IntWalk.i64_in _ (by omega)
        go_wp2
        go_still_tail 15, (by kernel_rfl)
        refine wpStill_step (fun K hK => ?_)
        go_simp
        rw [if_neg (show ¬ (9 : Int) < (e : Int) by omega)]
        go_simp
        refine hK _ ?_
        clear hK K
        repeat still_step
        refine wpStill_step (fun K hK => ?_)
        go_simp
        refine ⟨_, word_still _ _ p1 p2 P3.out, ?_⟩
        refine hK _ ?_
        clear hK K
        repeat still_step
        refine wpStill_nil ?_
        change wpList _ _ _ _ _ wr.drew
        go_wp2
        have Hgk := Hgk.out; have Hi := Hi.out
        go_roundg e
        case measure => omega
        case rel =>
          refine ⟨k + 1, _, rfl, by omega, by omega, by omega, ?_, ((hkp.setCell (.inl (by simp)) _).setCell (.inl (by simp)) _).drew⟩
          rw [← mix_set]; exact ((hn.setW (by omega) _).setC' (by omega)).drew
    · go_wp2_with fail
      have hlen : d.data.toList.length = d.size := (Lib.size_eq d).symm
      have hX : valN d.data.toList < B9 ^ k := dec_val_lt hd k (by omega)
      refine (trim_num g k (valN d.data.toList) _ _ _ hn (by omega) hX (fun i _ => ?_)).mono ?_
      · by_cases h2 : i < k
        · rw [mix_lt _ _ h2]
        · rw [mix_ge _ _ (by omega), wd_of_lt (Nat.lt_of_lt_of_le hX (pow_le (by omega)))]
      rintro e w' ⟨rfl, hnum, hkp'⟩
      rw [hlt.out] at hnum
      go_wp2
      go_end0
      exact ⟨rfl, hnum, hkp.trans hkp'⟩
end Go.Proofs.Ytbhngccjacdlfaa
