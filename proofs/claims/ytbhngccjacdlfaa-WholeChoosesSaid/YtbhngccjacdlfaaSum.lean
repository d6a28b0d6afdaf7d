/- Walks over sign, Sign, opposite, Neg and sum of package whole. -/
import Derived.Test.YtbhngccjacdlfaaInt
namespace Go.Proofs.Ytbhngccjacdlfaa
open Go.RowKit
open Go.Lib (nDigits itoa decDigits)

def sgn (z : Int) : Int := if z < 0 then -1 else if z = 0 then 0 else 1
theorem S_first (z : Int) : ∃ h : 0 < (S z).size, ((S z)[0] = 45 ↔ z < 0) ∧ ((S z)[0] = 48 ↔ z = 0) := by
  have hl := S_list z
  have hpos : 0 < (S z).size := by
    rw [Lib.size_eq, hl]
    unfold itoa; split
    · simp
    · exact List.length_pos_iff.2 (dec_ne_nil _)
  have h0 : (S z)[0] = (S z).data.toList[0]'(by simpa using hpos) := rfl
  refine ⟨hpos, ?_, ?_⟩
  · rw [h0]
    simp only [hl]
    by_cases hz : z < 0
    · simp [itoa, hz]
    · obtain ⟨c, t, hc, hne⟩ := dec_cons z.toNat
      simp [itoa, hz, hc, hne]
  · rw [h0]
    simp only [hl]
    by_cases hz : z < 0
    · simp [itoa, hz]; omega
    · obtain ⟨c, t, hc, hne⟩ := dec_cons z.toNat
      simp only [itoa, if_neg hz, hc, List.getElem_cons_zero]
      constructor
      · rintro rfl
        rcases Nat.eq_zero_or_pos z.toNat with h | h
        · omega
        · have := dec_head _ h; rw [hc] at this; simp at this
      · rintro rfl
        rw [show (0 : Int).toNat = 0 from rfl, dec_zero] at hc; simp at hc; exact hc.1.symm

set_option maxHeartbeats 1000000 in
theorem sign_any (z : Int) (w : World) :
    Calls Try.prog 47 #[.string (S z)] w fun e w' => e = .returned (.int .i64 (sgn z)) ∧ w = w' := by
  obtain ⟨hpos, h45, h48⟩ := S_first z
  generalize S z = s at *
  by_cases hz : z < 0
  · have hb : (s[0].toNat == 45) = true := by rw [h45.2 hz]; rfl
    have hb' : ((s[0].toNat : Int) == 45) = true := by rw [h45.2 hz]; rfl
    have hv : Hid (sgn z = -1) := if_pos hz
    clear h45 h48 hz
    go_enter Try.func47, Try.ntmps47
    go_wp2
    go_ret
    exact ⟨by rw [hv.out]; rfl, rfl⟩
  · have hne : s[0] ≠ 45 := fun e => hz (h45.1 e)
    have hne' : s[0].toNat ≠ 45 := fun e => hne (UInt8.toNat_inj.1 e)
    have hb' : ((s[0].toNat : Int) == 45) = false := beq_eq_false_iff_ne.2 (by omega)
    by_cases h0 : z = 0
    · have hc' : ((s[0].toNat : Int) == 48) = true := by rw [h48.2 h0]; rfl
      have hv : Hid (sgn z = 0) := by show (if _ then _ else _) = _; rw [if_neg hz, if_pos h0]
      clear h45 h48 hz hne hne' h0
      go_enter Try.func47, Try.ntmps47
      go_wp2
      go_ret
      exact ⟨by rw [hv.out]; rfl, rfl⟩
    · have hne2 : s[0] ≠ 48 := fun e => h0 (h48.1 e)
      have hne2' : s[0].toNat ≠ 48 := fun e => hne2 (UInt8.toNat_inj.1 e)
      have hc' : ((s[0].toNat : Int) == 48) = false := beq_eq_false_iff_ne.2 (by omega)
      have hv : Hid (sgn z = 1) := by show (if _ then _ else _) = _; rw [if_neg hz, if_neg h0]
      clear h45 h48 hz hne hne' hne2 hne2' h0
      go_enter Try.func47, Try.ntmps47
      go_wp2
      go_ret
      exact ⟨by rw [hv.out]; rfl, rfl⟩

theorem S_tail {z : Int} (hz : z < 0) : (S z).extract 1 (S z).size = S (-z) := by
  apply eq_S_of_list
  rw [Lib.extract_data, List.take_of_length_le (by rw [List.length_drop, Lib.size_eq]; omega), S_list]
  unfold itoa
  rw [if_pos hz, if_neg (by omega)]
  show decDigits z.natAbs = _
  congr 1; omega
theorem S_minus {z : Int} (hz : 0 < z) : (⟨#[45]⟩ : ByteArray) ++ S z = S (-z) := by
  apply eq_S_of_list
  rw [ByteArray.data_append, Array.toList_append, S_list]
  unfold itoa
  rw [if_neg (by omega), if_pos (by omega), show (-z).natAbs = z.toNat by omega]
  rfl

set_option maxHeartbeats 1000000 in
theorem opposite_any (z : Int) (w : World) (hsz : (S z).size ≤ 1000000) :
    Calls Try.prog 43 #[.string (S z)] w fun e w' => e = .returned (.string (S (-z))) ∧ w = w' := by
  obtain ⟨hpos, _, _⟩ := S_first z
  have hss := sign_any z
  by_cases hz : z < 0
  · have hv := Lib.hid (S_tail hz)
    have hg : sgn z = -1 := if_pos hz
    rw [hg] at hss
    have H := Lib.hid hss; clear hss hg hz
    generalize S z = s at *
    go_enter Try.func43, Try.ntmps43
    go_wp2_with fail
    refine (H.out _).mono ?_
    rintro e w' ⟨rfl, rfl⟩
    go_wp2
    go_ret
    exact ⟨by rw [← hv.out]; rfl, rfl⟩
  · by_cases h0 : z = 0
    · have hg : sgn z = 0 := by show (if _ then _ else _) = _; rw [if_neg hz, if_pos h0]
      rw [hg] at hss
      have hv : Hid (S (-z) = S z) := by subst h0; rfl
      have H := Lib.hid hss; clear hss hg hz h0
      rw [hv.out]
      generalize S z = s at *
      go_enter Try.func43, Try.ntmps43
      go_wp2_with fail
      refine (H.out _).mono ?_
      rintro e w' ⟨rfl, rfl⟩
      go_wp2
      go_ret
      exact ⟨rfl, rfl⟩
    · have hg : sgn z = 1 := by show (if _ then _ else _) = _; rw [if_neg hz, if_neg h0]
      rw [hg] at hss
      have hv := Lib.hid (S_minus (z := z) (by omega))
      have H := Lib.hid hss; clear hss hg hz h0
      generalize S z = s at *
      go_enter Try.func43, Try.ntmps43
      go_wp2_with fail
      refine (H.out _).mono ?_
      rintro e w' ⟨rfl, rfl⟩
      go_wp2
      go_ret
      exact ⟨by rw [← hv.out]; rfl, rfl⟩

theorem sum_bound {zs : List Int} {M : Nat} (h : ∀ z ∈ zs, z.natAbs < M) : zs.sum.natAbs ≤ zs.length * M := by
  induction zs with
  | nil => simp
  | cons a t ih =>
    have h1 := ih fun z hz => h z (List.mem_cons_of_mem _ hz)
    have h2 := h a (List.mem_cons_self ..)
    rw [List.sum_cons, List.length_cons, Nat.add_mul]
    have := Int.natAbs_add_le a t.sum
    omega
theorem Strs.kp {w w' : World} {g o : Nat} {ss : List ByteArray} {L : List Nat} (h : Strs w g o ss) (hg : g < w.heap.size) (hk : Kp L w w') (hL : g ∉ L) : Strs w' g o ss := fun i hi => by
  rw [← h i hi]; exact World.cell?_of_block (w := w) (hk.block g hg hL)
theorem chkL_map {zs : List Int} (h : ∀ z ∈ zs, Ok z) : chkL (zs.map S) = 0 := by
  induction zs with
  | nil => rfl
  | cons a t ih =>
    show (if chk (S a).data.toList = 0 then _ else _) = _
    rw [S_list, chk_ok (h a (List.mem_cons_self ..)), if_pos rfl]
    exact ih fun z hz => h z (List.mem_cons_of_mem _ hz)

set_option maxRecDepth 100000 in
set_option maxHeartbeats 2000000 in
theorem sum_ok (g o c : Nat) (zs : List Int) (w : World) (hs : Strs w g o (zs.map S)) (hg : g < w.heap.size) (hz : ∀ z ∈ zs, Ok z) (hl : zs.length ≤ 4096) :
    Calls Try.prog 38 #[.slice (some ⟨g, o, none⟩) zs.length c] w fun e w' => e = .returned (.tuple #[.string (resB zs.sum), .int .i64 (resE zs.sum)]) ∧ Kp [] w w' := by
  have hck := checkAll_any g o c (zs.map S) w hs (fun s hs => by
    obtain ⟨z, hz1, rfl⟩ := List.mem_map.1 hs
    exact Nat.le_trans (hz z hz1).size (by decide)) (by simpa using by omega)
  rw [chkL_map hz, List.length_map] at hck
  have HC := Lib.hid hck; clear hck
  go_enter Try.func38, Try.ntmps38
  go_wp2_with fail
  refine HC.out.mono ?_
  rintro e w' ⟨rfl, rfl⟩
  go_wp2
  have hk0 : Kp [] w (w.alloc (.cells Try.zeroCells66 66)) := (Kp.refl _ _).alloc _
  have hn0 := NumZ.made w
  go_loopg [16] zs.length (fun gk s16 wr => ∃ k : Nat, s16 = .int .i64 k ∧ k + gk = zs.length ∧ NumZ wr w.heap.size (zs.take k).sum ∧ Kp [] w wr)
  case atStart => exact ⟨0, rfl, by omega, by simpa using hn0, hk0⟩
  case round =>
    obtain ⟨k, rfl, hk, hn, hkp⟩ := hrel
    have hl1 : (zs.length : Int) ≤ 4096 := by omega
    by_cases hlt : k < zs.length
    · have hstr := hs.kp hg hkp (by simp)
      have hcell := hstr k (by simpa using hlt)
      have hok := hz _ (List.getElem_mem hlt)
      have hsum : Hid ((zs.take (k + 1)).sum = (zs.take k).sum + zs[k]) := by
        show _ = _
        rw [List.take_succ_eq_append_getElem hlt, List.sum_append]; simp
      have hb1 : (zs.take k).sum.natAbs < B9 ^ 228 := by
        have h1 := sum_bound (zs := zs.take k) (M := B9 ^ 114) fun z hz1 => (hz z (List.mem_of_mem_take hz1)).lt
        have h2 : (zs.take k).length ≤ 4096 := by rw [List.length_take]; omega
        have h3 : (zs.take k).length * B9 ^ 114 ≤ 4096 * B9 ^ 114 := Nat.mul_le_mul_right _ h2
        have h4 : 4096 * B9 ^ 114 < B9 * B9 ^ 114 := (Nat.mul_lt_mul_right (B9p_pos 114)).2 (by decide)
        have h5 : B9 * B9 ^ 114 ≤ B9 ^ 228 := by rw [← Nat.pow_succ']; exact pow_le (by omega)
        omega
      have hb2 : (zs[k]).natAbs < B9 ^ 228 := Nat.lt_of_lt_of_le hok.lt (pow_le (by omega))
      rw [List.getElem_map] at hcell
      have hlt' : (k : Int) < (zs.length : Int) := by omega
      have hz1 : 0 ≤ (k : Int) := by omega
      generalize zs[k] = z at *
      have Hk := Lib.hid hk; clear hk
      have hwr := hkp.size
      go_wp2_with fail
      refine (readZ wr.heap.size z _ (NumF.made wr) hok).mono ?_
      rintro e w2 ⟨rfl, hn2, hk2⟩
      have hlt2 : w.heap.size < wr.heap.size := hn.lt
      have hn3 : NumZ w2 w.heap.size (zs.take k).sum := (hn.alloc _).kp hk2 (by simp; omega)
      go_wp2_with fail
      refine (add_any w.heap.size wr.heap.size (zs.take k).sum z _ hn3 hn2 (by omega) hb1 hb2).mono ?_
      rintro e w3 ⟨rfl, hn4, hk4⟩
      go_wp2
      have hk := Hk.out
      go_roundg (gk - 1)
      case measure => omega
      case rel =>
        refine ⟨k + 1, by go_num, by omega, ?_, ?_⟩
        · rw [hsum.out]; exact hn4
        · exact ((hkp.alloc _).step hk2 (by simp; omega)).step hk4 (by simp)
    · obtain rfl : k = zs.length := by omega
      rw [List.take_length] at hn
      go_wp2_with fail
      refine (textZ w.heap.size zs.sum _ hn).mono ?_
      rintro e w2 ⟨rfl, hk2⟩
      go_wp2
      go_ret2
      exact ⟨rfl, hkp.trans hk2⟩
end Go.Proofs.Ytbhngccjacdlfaa
