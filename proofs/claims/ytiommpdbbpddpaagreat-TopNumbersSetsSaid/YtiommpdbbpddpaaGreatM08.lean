/- Texts Sum, Top, Top2, One: each says in its own first comment what it proves. -/
import Derived.Test.YtiommpdbbpddpaaGreatM07
import Derived.Test.YtiommpdbbpddpaaGreatM04
import Derived.Test.YtiommpdbbpddpaaGreatM05
import Derived.Laws.CopyRow
import Derived.Laws.CopyOwn
/- Walks over sign, Sign, opposite, Neg and sum of package whole. -/
namespace Go.Proofs.YtiommpdbbpddpaaGreat
open Go.RowKit
open Go.Lib (nDigits itoa decDigits)

def sgn (z : Int) : Int := if z < 0 then -1 else if z = 0 then 0 else 1
theorem S_first (z : Int) : ∃ h : 0 < (S z).size, ((S z)[0] = 45 ↔ z < 0) ∧ ((S z)[0] = 48 ↔ z = 0) := by
  have hl := S_list z
  have hpos : 0 < (S z).size := by
    rw [Lib.size_eq, hl]
    unfold itoa; split
    · simp
    · exact List.length_pos_iff.2 (dec_ne_nil _)
  have h0 : (S z)[0] = (S z).data.toList[0]'(by simpa using hpos) := rfl
  refine ⟨hpos, ?_, ?_⟩
  · rw [h0]
    simp only [hl]
    by_cases hz : z < 0
    · simp [itoa, hz]
    · obtain ⟨c, t, hc, hne⟩ := dec_cons z.toNat
      simp [itoa, hz, hc, hne]
  · rw [h0]
    simp only [hl]
    by_cases hz : z < 0
    · simp [itoa, hz]; omega
    · obtain ⟨c, t, hc, hne⟩ := dec_cons z.toNat
      simp only [itoa, if_neg hz, hc, List.getElem_cons_zero]
      constructor
      · rintro rfl
        rcases Nat.eq_zero_or_pos z.toNat with h | h
        · omega
        · have := dec_head _ h; rw [hc] at this; simp at this
      · rintro rfl
        rw [show (0 : Int).toNat = 0 from rfl, dec_zero] at hc; simp at hc; exact hc.1.symm

set_option maxHeartbeats 1000000 in
theorem sign_any (z : Int) (w : World) :
    Calls Tryz.prog 134 #[.string (S z)] w fun e w' => e = .returned (.int .i64 (sgn z)) ∧ w = w' := by
  obtain ⟨hpos, h45, h48⟩ := S_first z
  generalize S z = s at *
  by_cases hz : z < 0
  · have hb : (s[0].toNat == 45) = true := by rw [h45.2 hz]; rfl
    have hb' : ((s[0].toNat : Int) == 45) = true := by rw [h45.2 hz]; rfl
    have hv : Hid (sgn z = -1) := if_pos hz
    clear h45 h48 hz
    go_enter Tryz.func134, Tryz.ntmps134
    go_wp2
    go_ret
    exact ⟨by rw [hv.out]; rfl, rfl⟩
  · have hne : s[0] ≠ 45 := fun e => hz (h45.1 e)
    have hne' : s[0].toNat ≠ 45 := fun e => hne (UInt8.toNat_inj.1 e)
    have hb' : ((s[0].toNat : Int) == 45) = false := beq_eq_false_iff_ne.2 (by omega)
    by_cases h0 : z = 0
    · have hc' : ((s[0].toNat : Int) == 48) = true := by rw [h48.2 h0]; rfl
      have hv : Hid (sgn z = 0) := by show (if _ then _ else _) = _; rw [if_neg hz, if_pos h0]
      clear h45 h48 hz hne hne' h0
      go_enter Tryz.func134, Tryz.ntmps134
      go_wp2
      go_ret
      exact ⟨by rw [hv.out]; rfl, rfl⟩
    · have hne2 : s[0] ≠ 48 := fun e => h0 (h48.1 e)
      have hne2' : s[0].toNat ≠ 48 := fun e => hne2 (UInt8.toNat_inj.1 e)
      have hc' : ((s[0].toNat : Int) == 48) = false := beq_eq_false_iff_ne.2 (by omega)
      have hv : Hid (sgn z = 1) := by show (if _ then _ else _) = _; rw [if_neg hz, if_neg h0]
      clear h45 h48 hz hne hne' hne2 hne2' h0
      go_enter Tryz.func134, Tryz.ntmps134
      go_wp2
      go_ret
      exact ⟨by rw [hv.out]; rfl, rfl⟩

theorem S_tail {z : Int} (hz : z < 0) : (S z).extract 1 (S z).size = S (-z) := by
  apply eq_S_of_list
  rw [Lib.extract_data, List.take_of_length_le (by rw [List.length_drop, Lib.size_eq]; omega), S_list]
  unfold itoa
  rw [if_pos hz, if_neg (by omega)]
  show decDigits z.natAbs = _
  congr 1; omega
theorem S_minus {z : Int} (hz : 0 < z) : (⟨#[45]⟩ : ByteArray) ++ S z = S (-z) := by
  apply eq_S_of_list
  rw [ByteArray.data_append, Array.toList_append, S_list]
  unfold itoa
  rw [if_neg (by omega), if_pos (by omega), show (-z).natAbs = z.toNat by omega]
  rfl

set_option maxHeartbeats 1000000 in
theorem opposite_any (z : Int) (w : World) (hsz : (S z).size ≤ 1000000) :
    Calls Tryz.prog 115 #[.string (S z)] w fun e w' => e = .returned (.string (S (-z))) ∧ w = w' := by
  obtain ⟨hpos, _, _⟩ := S_first z
  have hss := sign_any z
  by_cases hz : z < 0
  · have hv := Lib.hid (S_tail hz)
    have hg : sgn z = -1 := if_pos hz
    rw [hg] at hss
    have H := Lib.hid hss; clear hss hg hz
    generalize S z = s at *
    go_enter Tryz.func115, Tryz.ntmps115
    go_wp2_with fail
    refine (H.out _).mono ?_
    rintro e w' ⟨rfl, rfl⟩
    go_wp2
    go_ret
    exact ⟨by rw [← hv.out]; rfl, rfl⟩
  · by_cases h0 : z = 0
    · have hg : sgn z = 0 := by show (if _ then _ else _) = _; rw [if_neg hz, if_pos h0]
      rw [hg] at hss
      have hv : Hid (S (-z) = S z) := by subst h0; rfl
      have H := Lib.hid hss; clear hss hg hz h0
      rw [hv.out]
      generalize S z = s at *
      go_enter Tryz.func115, Tryz.ntmps115
      go_wp2_with fail
      refine (H.out _).mono ?_
      rintro e w' ⟨rfl, rfl⟩
      go_wp2
      go_ret
      exact ⟨rfl, rfl⟩
    · have hg : sgn z = 1 := by show (if _ then _ else _) = _; rw [if_neg hz, if_neg h0]
      rw [hg] at hss
      have hv := Lib.hid (S_minus (z := z) (by omega))
      have H := Lib.hid hss; clear hss hg hz h0
      generalize S z = s at *
      go_enter Tryz.func115, Tryz.ntmps115
      go_wp2_with fail
      refine (H.out _).mono ?_
      rintro e w' ⟨rfl, rfl⟩
      go_wp2
      go_ret
      exact ⟨by rw [← hv.out]; rfl, rfl⟩

theorem sum_bound {zs : List Int} {M : Nat} (h : ∀ z ∈ zs, z.natAbs < M) : zs.sum.natAbs ≤ zs.length * M := by
  induction zs with
  | nil => simp
  | cons a t ih =>
    have h1 := ih fun z hz => h z (List.mem_cons_of_mem _ hz)
    have h2 := h a (List.mem_cons_self ..)
    rw [List.sum_cons, List.length_cons, Nat.add_mul]
    have := Int.natAbs_add_le a t.sum
    omega
theorem Strs.kp {w w' : World} {g o : Nat} {ss : List ByteArray} {L : List Nat} (h : Strs w g o ss) (hg : g < w.heap.size) (hk : Kp L w w') (hL : g ∉ L) : Strs w' g o ss := fun i hi => by
  rw [← h i hi]; exact World.cell?_of_block (w := w) (hk.block g hg hL)
theorem chkL_map {zs : List Int} (h : ∀ z ∈ zs, Ok z) : chkL (zs.map S) = 0 := by
  induction zs with
  | nil => rfl
  | cons a t ih =>
    show (if chk (S a).data.toList = 0 then _ else _) = _
    rw [S_list, chk_ok (h a (List.mem_cons_self ..)), if_pos rfl]
    exact ih fun z hz => h z (List.mem_cons_of_mem _ hz)

set_option maxRecDepth 100000 in
set_option maxHeartbeats 2000000 in
theorem sum_ok (g o c : Nat) (zs : List Int) (w : World) (hs : Strs w g o (zs.map S)) (hg : g < w.heap.size) (hz : ∀ z ∈ zs, Ok z) (hl : zs.length ≤ 4096) :
    Calls Tryz.prog 97 #[.slice (some ⟨g, o, none⟩) zs.length c] w fun e w' => e = .returned (.tuple #[.string (resB zs.sum), .int .i64 (resE zs.sum)]) ∧ Kp [] w w' := by
  have hck := checkAll_any g o c (zs.map S) w hs (fun s hs => by
    obtain ⟨z, hz1, rfl⟩ := List.mem_map.1 hs
    exact Nat.le_trans (hz z hz1).size (by decide)) (by simpa using by omega)
  rw [chkL_map hz, List.length_map] at hck
  have HC := Lib.hid hck; clear hck
  go_enter Tryz.func97, Tryz.ntmps97
  go_wp2_with fail
  refine HC.out.mono ?_
  rintro e w' ⟨rfl, rfl⟩
  go_wp2
  have hk0 : Kp [] w (w.alloc (.cells Tryz.zeroCells148 148)) := (Kp.refl _ _).alloc _
  have hn0 := NumZ.made w
  go_loopg [16] zs.length (fun gk s16 wr => ∃ k : Nat, s16 = .int .i64 k ∧ k + gk = zs.length ∧ NumZ wr w.heap.size (zs.take k).sum ∧ Kp [] w wr)
  case atStart => exact ⟨0, rfl, by omega, by simpa using hn0, hk0⟩
  case round =>
    obtain ⟨k, rfl, hk, hn, hkp⟩ := hrel
    have hl1 : (zs.length : Int) ≤ 4096 := by omega
    by_cases hlt : k < zs.length
    · have hstr := hs.kp hg hkp (by simp)
      have hcell := hstr k (by simpa using hlt)
      have hok := hz _ (List.getElem_mem hlt)
      have hsum : Hid ((zs.take (k + 1)).sum = (zs.take k).sum + zs[k]) := by
        show _ = _
        rw [List.take_succ_eq_append_getElem hlt, List.sum_append]; simp
      have hb1 : (zs.take k).sum.natAbs < B9 ^ 228 := by
        have h1 := sum_bound (zs := zs.take k) (M := B9 ^ 114) fun z hz1 => (hz z (List.mem_of_mem_take hz1)).lt
        have h2 : (zs.take k).length ≤ 4096 := by rw [List.length_take]; omega
        have h3 : (zs.take k).length * B9 ^ 114 ≤ 4096 * B9 ^ 114 := Nat.mul_le_mul_right _ h2
        have h4 : 4096 * B9 ^ 114 < B9 * B9 ^ 114 := (Nat.mul_lt_mul_right (B9p_pos 114)).2 (by decide)
        have h5 : B9 * B9 ^ 114 ≤ B9 ^ 228 := by rw [← Nat.pow_succ']; exact pow_le (by omega)
        omega
      have hb2 : (zs[k]).natAbs < B9 ^ 228 := Nat.lt_of_lt_of_le hok.lt (pow_le (by omega))
      rw [List.getElem_map] at hcell
      have hlt' : (k : Int) < (zs.length : Int) := by omega
      have hz1 : 0 ≤ (k : Int) := by omega
      generalize zs[k] = z at *
      have Hk := Lib.hid hk; clear hk
      have hwr := hkp.size
      go_wp2_with fail
      refine (readZ wr.heap.size z _ (NumF.made wr) hok).mono ?_
      rintro e w2 ⟨rfl, hn2, hk2⟩
      have hlt2 : w.heap.size < wr.heap.size := hn.lt
      have hn3 : NumZ w2 w.heap.size (zs.take k).sum := (hn.alloc _).kp hk2 (by simp; omega)
      go_wp2_with fail
      refine (add_any w.heap.size wr.heap.size (zs.take k).sum z _ hn3 hn2 (by omega) hb1 hb2).mono ?_
      rintro e w3 ⟨rfl, hn4, hk4⟩
      go_wp2
      have hk := Hk.out
      go_roundg (gk - 1)
      case measure => omega
      case rel =>
        refine ⟨k + 1, by go_num, by omega, ?_, ?_⟩
        · rw [hsum.out]; exact hn4
        · exact ((hkp.alloc _).step hk2 (by simp; omega)).step hk4 (by simp)
    · obtain rfl : k = zs.length := by omega
      rw [List.take_length] at hn
      go_wp2_with fail
      refine (textZ w.heap.size zs.sum _ hn).mono ?_
      rintro e w2 ⟨rfl, hk2⟩
      go_wp2
      go_ret2
      exact ⟨rfl, hkp.trans hk2⟩
end Go.Proofs.YtiommpdbbpddpaaGreat

/- Walks over Sign, Neg, Add, Sub and Mul of package whole, for all texts. -/
namespace Go.Proofs.YtiommpdbbpddpaaGreat
open Go.RowKit
open Go.Lib (nDigits itoa decDigits)

def valS (s : ByteArray) : Int := val s.data.toList
theorem valS_S (z : Int) : valS (S z) = z := val_itoa z
/-- the result of an operation with two texts -/
def binB (f : Int → Int → Int) (a b : ByteArray) : ByteArray := if chkL [a, b] = 0 then resB (f (valS a) (valS b)) else ⟨#[]⟩
def binE (f : Int → Int → Int) (a b : ByteArray) : Int := if chkL [a, b] = 0 then resE (f (valS a) (valS b)) else chkL [a, b]
def unB (f : Int → Int) (a : ByteArray) : ByteArray := if chk a.data.toList = 0 then S (f (valS a)) else ⟨#[]⟩
def signI (a : ByteArray) : Int := if chk a.data.toList = 0 then sgn (valS a) else 0

theorem chkL2 {a b : ByteArray} (h : chkL [a, b] = 0) : ∃ x y, a = S x ∧ b = S y ∧ Ok x ∧ Ok y := by
  unfold chkL at h
  by_cases ha : chk a.data.toList = 0
  · rw [if_pos ha] at h
    unfold chkL at h
    by_cases hb : chk b.data.toList = 0
    · obtain ⟨x, hx, hx'⟩ := of_chk_zero ha
      obtain ⟨y, hy, hy'⟩ := of_chk_zero hb
      exact ⟨x, y, hx, hy, hx', hy'⟩
    · rw [if_neg hb] at h; exact absurd h hb
  · rw [if_neg ha] at h; exact absurd h ha
theorem binB_S {f : Int → Int → Int} {x y : Int} (h : chkL [S x, S y] = 0) : binB f (S x) (S y) = resB (f x y) := by unfold binB; rw [if_pos h, valS_S, valS_S]
theorem binE_S {f : Int → Int → Int} {x y : Int} (h : chkL [S x, S y] = 0) : binE f (S x) (S y) = resE (f x y) := by unfold binE; rw [if_pos h, valS_S, valS_S]
theorem strs2 (a b : ByteArray) (w : World) : Strs (w.alloc (.cells #[.string a, .string b] 55)) w.heap.size 0 [a, b] := by
  intro i hi
  have h2 : i < 2 := hi
  have : i = 0 ∨ i = 1 := by omega
  rcases this with rfl | rfl
  · unfold World.cell?; rw [heap_alloc_new w]; rfl
  · unfold World.cell?; rw [heap_alloc_new w]; rfl
theorem Ok.neg {z : Int} (h : Ok z) : Ok (-z) := by unfold Ok at *; rwa [Int.natAbs_neg]

/-- the check of two texts in a new slice -/
theorem check2 (a b : ByteArray) (w : World) (ha : a.size ≤ 9223372036854775807) (hb : b.size ≤ 9223372036854775807) :
    Calls Tryz.prog 114 #[.slice (some ⟨w.heap.size, 0, none⟩) 2 2] (w.alloc (.cells #[.string a, .string b] 55)) fun e w' => e = .returned (.int .i64 (chkL [a, b])) ∧ w.alloc (.cells #[.string a, .string b] 55) = w' :=
  checkAll_any w.heap.size 0 2 [a, b] _ (strs2 a b w) (fun s hs => by
    rcases List.mem_cons.1 hs with rfl | hs
    · exact ha
    · rcases List.mem_cons.1 hs with rfl | hs
      · exact hb
      · cases hs) (by simp)

set_option maxHeartbeats 1000000 in
theorem Sign_any (a : ByteArray) (w : World) (ha : a.size ≤ 9223372036854775807) :
    Calls Tryz.prog 123 #[.string a] w fun e w' => e = .returned (.tuple #[.int .i64 (signI a), .int .i64 (chk a.data.toList)]) ∧ w = w' := by
  have hc := check_any a
  by_cases h : chk a.data.toList = 0
  · obtain ⟨z, rfl, hz⟩ := of_chk_zero h
    have hv : Hid (signI (S z) = sgn z) := by show (if _ then _ else _) = _; rw [if_pos h, valS_S]
    rw [h] at hc ⊢
    have H := Lib.hid hc; clear hc h
    have hs := Lib.hid (sign_any z)
    generalize S z = s at *
    go_enter Tryz.func123, Tryz.ntmps123
    go_wp2_with fail
    refine (H.out _ ha).mono ?_
    rintro e w' ⟨rfl, rfl⟩
    go_wp2_with fail
    refine (hs.out _).mono ?_
    rintro e w' ⟨rfl, rfl⟩
    go_wp2
    go_ret2
    exact ⟨by rw [hv.out]; rfl, rfl⟩
  · have hv : Hid (signI a = 0) := by show (if _ then _ else _) = _; rw [if_neg h]
    have hb : (chk a.data.toList != 0) = true := bne_iff_ne.2 h
    have H := Lib.hid hc; clear hc h
    generalize chk a.data.toList = c at *
    go_enter Tryz.func123, Tryz.ntmps123
    go_wp2_with fail
    refine (H.out _ ha).mono ?_
    rintro e w' ⟨rfl, rfl⟩
    go_wp2
    go_ret2
    exact ⟨by rw [hv.out]; rfl, rfl⟩

set_option maxHeartbeats 1000000 in
theorem Neg_any (a : ByteArray) (w : World) (ha : a.size ≤ 9223372036854775807) :
    Calls Tryz.prog 124 #[.string a] w fun e w' => e = .returned (.tuple #[.string (unB (- ·) a), .int .i64 (chk a.data.toList)]) ∧ w = w' := by
  have hc := check_any a
  by_cases h : chk a.data.toList = 0
  · obtain ⟨z, rfl, hz⟩ := of_chk_zero h
    have hv : Hid (unB (- ·) (S z) = S (-z)) := by show (if _ then _ else _) = _; rw [if_pos h, valS_S]
    rw [h] at hc ⊢
    have H := Lib.hid hc; clear hc h
    have hs := Lib.hid (fun w => opposite_any z w (Nat.le_trans hz.size (by decide)))
    go_enter Tryz.func124, Tryz.ntmps124
    go_wp2_with fail
    refine (H.out _ ha).mono ?_
    rintro e w' ⟨rfl, rfl⟩
    go_wp2_with fail
    refine (hs.out _).mono ?_
    rintro e w' ⟨rfl, rfl⟩
    go_wp2
    go_ret2
    exact ⟨by rw [hv.out]; rfl, rfl⟩
  · have hv : Hid (unB (- ·) a = ⟨#[]⟩) := by show (if _ then _ else _) = _; rw [if_neg h]
    have hb : (chk a.data.toList != 0) = true := bne_iff_ne.2 h
    have H := Lib.hid hc; clear hc h
    generalize chk a.data.toList = c at *
    go_enter Tryz.func124, Tryz.ntmps124
    go_wp2_with fail
    refine (H.out _ ha).mono ?_
    rintro e w' ⟨rfl, rfl⟩
    go_wp2
    go_ret2
    exact ⟨by rw [hv.out]; rfl, rfl⟩

set_option maxHeartbeats 1000000 in
theorem sum_bad (g o c : Nat) (ss : List ByteArray) (w : World) (hs : Strs w g o ss) (hz : ∀ s ∈ ss, s.size ≤ 9223372036854775807) (hl : ss.length ≤ 1000000) (hne : chkL ss ≠ 0) :
    Calls Tryz.prog 97 #[.slice (some ⟨g, o, none⟩) ss.length c] w fun e w' => e = .returned (.tuple #[.string ⟨#[]⟩, .int .i64 (chkL ss)]) ∧ w = w' := by
  have hb : (chkL ss != 0) = true := bne_iff_ne.2 hne
  have H := Lib.hid (checkAll_any g o c ss w hs hz hl)
  clear hne
  generalize chkL ss = k at *
  go_enter Tryz.func97, Tryz.ntmps97
  go_wp2_with fail
  refine H.out.mono ?_
  rintro e w' ⟨rfl, rfl⟩
  go_wp2
  go_ret2
  exact ⟨rfl, rfl⟩

theorem sum2 (a b : ByteArray) (w : World) (ha : a.size ≤ 9223372036854775807) (hb : b.size ≤ 9223372036854775807) :
    Calls Tryz.prog 97 #[.slice (some ⟨w.heap.size, 0, none⟩) 2 2] (w.alloc (.cells #[.string a, .string b] 55)) fun e w' => e = .returned (.tuple #[.string (binB (· + ·) a b), .int .i64 (binE (· + ·) a b)]) ∧ Kp [] w w' := by
  by_cases h : chkL [a, b] = 0
  · obtain ⟨x, y, rfl, rfl, hx, hy⟩ := chkL2 h
    rw [binB_S h, binE_S h]
    have := sum_ok w.heap.size 0 2 [x, y] (w.alloc (.cells #[.string (S x), .string (S y)] 55)) (strs2 _ _ w) (by simp) (fun z hz => by
      rcases List.mem_cons.1 hz with rfl | hz
      · exact hx
      · rcases List.mem_cons.1 hz with rfl | hz
        · exact hy
        · cases hz) (by simp)
    refine this.mono ?_
    rintro e w' ⟨he, hk⟩
    have e1 : [x, y].sum = x + y := by simp
    rw [e1] at he
    exact ⟨he, ((Kp.refl _ _).alloc _).trans hk⟩
  · have := sum_bad w.heap.size 0 2 [a, b] (w.alloc (.cells #[.string a, .string b] 55)) (strs2 a b w) (fun s hs => by
      rcases List.mem_cons.1 hs with rfl | hs
      · exact ha
      · rcases List.mem_cons.1 hs with rfl | hs
        · exact hb
        · cases hs) (by simp) h
    refine this.mono ?_
    rintro e w' ⟨he, rfl⟩
    refine ⟨?_, (Kp.refl _ _).alloc _⟩
    rw [he]; unfold binB binE; rw [if_neg h, if_neg h]

set_option maxHeartbeats 1000000 in
theorem Add_any (a b : ByteArray) (w : World) (ha : a.size ≤ 9223372036854775807) (hb : b.size ≤ 9223372036854775807) :
    Calls Tryz.prog 76 #[.string a, .string b] w fun e w' => e = .returned (.tuple #[.string (binB (· + ·) a b), .int .i64 (binE (· + ·) a b)]) ∧ Kp [] w w' := by
  go_enter Tryz.func76, Tryz.ntmps76
  go_wp2_with fail
  refine (sum2 a b w ha hb).mono ?_
  rintro e w' ⟨rfl, hk⟩
  go_wp2
  go_ret2
  exact ⟨rfl, hk⟩

set_option maxHeartbeats 1000000 in
theorem Sub_any (a b : ByteArray) (w : World) (ha : a.size ≤ 9223372036854775807) (hb : b.size ≤ 9223372036854775807) :
    Calls Tryz.prog 88 #[.string a, .string b] w fun e w' => e = .returned (.tuple #[.string (binB (· - ·) a b), .int .i64 (binE (· - ·) a b)]) ∧ Kp [] w w' := by
  have hc := check2 a b w ha hb
  by_cases h : chkL [a, b] = 0
  · obtain ⟨x, y, rfl, rfl, hx, hy⟩ := chkL2 h
    rw [binB_S h, binE_S h]
    rw [h] at hc
    have H := Lib.hid hc; clear hc h
    have hx2 : (S x).size ≤ 9223372036854775807 := ha
    go_enter Tryz.func88, Tryz.ntmps88
    go_wp2_with fail
    refine H.out.mono ?_
    rintro e w' ⟨rfl, rfl⟩
    go_wp2_with fail
    refine (opposite_any y _ (Nat.le_trans hy.size (by decide))).mono ?_
    rintro e w' ⟨rfl, rfl⟩
    go_wp2_with fail
    have hs2 := sum2 (S x) (S (-y)) (w.alloc (.cells #[.string (S x), .string (S y)] 55)) ha (Nat.le_trans hy.neg.size (by decide))
    rw [World.size_alloc] at hs2
    refine hs2.mono ?_
    rintro e w' ⟨rfl, hk⟩
    have hz : chkL [S x, S (-y)] = 0 := chkL_map (zs := [x, -y]) (fun z hz => by
      rcases List.mem_cons.1 hz with rfl | hz
      · exact hx
      · rcases List.mem_cons.1 hz with rfl | hz
        · exact hy.neg
        · cases hz)
    rw [binB_S hz, binE_S hz]
    go_wp2
    go_ret2
    exact ⟨rfl, ((Kp.refl _ _).alloc _).trans hk⟩
  · have hv : Hid (binB (· - ·) a b = ⟨#[]⟩) := if_neg h
    have hv2 : Hid (binE (· - ·) a b = chkL [a, b]) := if_neg h
    have hbb : (chkL [a, b] != 0) = true := bne_iff_ne.2 h
    have H := Lib.hid hc; clear hc h
    generalize chkL [a, b] = k at *
    go_enter Tryz.func88, Tryz.ntmps88
    go_wp2_with fail
    refine H.out.mono ?_
    rintro e w' ⟨rfl, rfl⟩
    go_wp2
    go_ret2
    exact ⟨by rw [hv.out, hv2.out]; rfl, (Kp.refl _ _).alloc _⟩
end Go.Proofs.YtiommpdbbpddpaaGreat

/- Walk over whole.Mul, for all texts. -/
namespace Go.Proofs.YtiommpdbbpddpaaGreat
open Go.RowKit
open Go.Lib (nDigits itoa decDigits)

theorem mul_sign (x y : Int) : ((decide (x < 0) != decide (y < 0)) && decide (x.natAbs * y.natAbs ≠ 0)) = decide (x * y < 0) := by
  rw [Bool.eq_iff_iff]
  simp only [Bool.and_eq_true, bne_iff_ne, ne_eq, decide_eq_true_eq, decide_eq_decide, Nat.mul_eq_zero, Int.natAbs_eq_zero, not_or]
  constructor
  · rintro ⟨h1, h2, h3⟩
    rcases Int.lt_or_lt_of_ne h2 with hx | hx
    · exact Int.mul_neg_of_neg_of_pos hx (by omega)
    · exact Int.mul_neg_of_pos_of_neg hx (by omega)
  · intro h
    refine ⟨fun e => ?_, ?_, ?_⟩
    · by_cases hx : x < 0
      · have := e.1 hx
        have := Int.mul_pos_of_neg_of_neg hx this; omega
      · have hy : ¬ y < 0 := fun hy => hx (e.2 hy)
        have := Int.mul_nonneg (Int.not_lt.1 hx) (Int.not_lt.1 hy); omega
    · rintro rfl; simp at h
    · rintro rfl; simp at h
theorem mulZ (g a b : Nat) (x y : Int) (w : World) (hg : NumF w g (fun _ => 0) 0 false) (hA : NumZ w a x) (hB : NumZ w b y) (hga : g ≠ a) (hgb : g ≠ b) (hx : x.natAbs < B9 ^ 114) (hy : y.natAbs < B9 ^ 114) :
    Calls Tryz.prog 121 #[.pointer (some ⟨g, 0, none⟩), .pointer (some ⟨a, 0, none⟩), .pointer (some ⟨b, 0, none⟩)] w fun e w' => e = .returned (.tuple #[]) ∧ NumZ w' g (x * y) ∧ Kp [g] w w' := by
  refine (multiply_any g a b x.natAbs y.natAbs _ _ w hg hA hB hga hgb hx hy).mono ?_
  rintro e w' ⟨he, hn, hk⟩
  rw [mul_sign] at hn
  refine ⟨he, ?_, hk⟩
  show Num _ _ _ _
  rw [Int.natAbs_mul]; exact hn

set_option maxRecDepth 100000 in
set_option maxHeartbeats 1000000 in
theorem Mul_any (a b : ByteArray) (w : World) (ha : a.size ≤ 9223372036854775807) (hb : b.size ≤ 9223372036854775807) :
    Calls Tryz.prog 92 #[.string a, .string b] w fun e w' => e = .returned (.tuple #[.string (binB (· * ·) a b), .int .i64 (binE (· * ·) a b)]) ∧ Kp [] w w' := by
  have hc := check2 a b w ha hb
  by_cases h : chkL [a, b] = 0
  · obtain ⟨x, y, rfl, rfl, hx, hy⟩ := chkL2 h
    rw [binB_S h, binE_S h]
    rw [h] at hc
    have H := Lib.hid hc; clear hc h
    have k1 : Kp [] w (w.alloc (.cells #[.string (S x), .string (S y)] 55)) := (Kp.refl _ _).alloc _
    go_enter Tryz.func92, Tryz.ntmps92
    go_wp2_with fail
    refine H.out.mono ?_
    rintro e w' ⟨rfl, rfl⟩
    go_wp2_with fail
    have n1 := NumF.made (w.alloc (.cells #[.string (S x), .string (S y)] 55))
    have n2 := NumF.made ((w.alloc (.cells #[.string (S x), .string (S y)] 55)).alloc (.cells Tryz.zeroCells148 148))
    have n3 := NumF.made (((w.alloc (.cells #[.string (S x), .string (S y)] 55)).alloc (.cells Tryz.zeroCells148 148)).alloc (.cells Tryz.zeroCells148 148))
    simp only [World.size_alloc] at n1 n2 n3
    have k2 := ((k1.alloc (.cells Tryz.zeroCells148 148)).alloc (.cells Tryz.zeroCells148 148)).alloc (.cells Tryz.zeroCells148 148)
    refine (readZ (w.heap.size + 1) x _ ((n1.alloc _).alloc _) hx).mono ?_
    rintro e w1 ⟨rfl, hn1, hk1⟩
    have hn2 := (n2.alloc _).kp hk1 (by simp <;> omega)
    have hn3 := n3.kp hk1 (by simp <;> omega)
    go_wp2_with fail
    refine (readZ (w.heap.size + 1 + 1) y _ hn2 hy).mono ?_
    rintro e w2 ⟨rfl, hm2, hk2⟩
    have hm1 := hn1.kp hk2 (by simp <;> omega)
    have hm3 := hn3.kp hk2 (by simp <;> omega)
    go_wp2_with fail
    refine (mulZ (w.heap.size + 1 + 1 + 1) (w.heap.size + 1) (w.heap.size + 1 + 1) x y _ hm3 hm1 hm2 (by omega) (by omega) hx.lt hy.lt).mono ?_
    rintro e w3 ⟨rfl, hp, hk3⟩
    go_wp2_with fail
    refine (textZ _ _ _ hp).mono ?_
    rintro e w4 ⟨rfl, hk4⟩
    go_wp2
    go_ret2
    exact ⟨rfl, (((k2.step hk1 (by simp <;> omega)).step hk2 (by simp <;> omega)).step hk3 (by simp <;> omega)).trans hk4⟩
  · have hv : Hid (binB (· * ·) a b = ⟨#[]⟩) := if_neg h
    have hv2 : Hid (binE (· * ·) a b = chkL [a, b]) := if_neg h
    have hbb : (chkL [a, b] != 0) = true := bne_iff_ne.2 h
    have H := Lib.hid hc; clear hc h
    generalize chkL [a, b] = k at *
    go_enter Tryz.func92, Tryz.ntmps92
    go_wp2_with fail
    refine H.out.mono ?_
    rintro e w' ⟨rfl, rfl⟩
    go_wp2
    go_ret2
    exact ⟨by rw [hv.out, hv2.out]; rfl, (Kp.refl _ _).alloc _⟩
end Go.Proofs.YtiommpdbbpddpaaGreat

/- A new number 1, as a composite literal makes it. -/
namespace Go.Proofs.YtiommpdbbpddpaaGreat
open Go.RowKit

def oneWords : List Value := .int .u32 1 :: List.replicate 228 (.int .u32 0)
def oneList : List Value := oneWords ++ [.int .i64 1, .bool false]
def oneArr : Array Value := oneWords.toArray
def oneAll : Array Value := oneList.toArray
theorem build_words (w : World) : (Instr.build 146 #[(0, .int .u32 1)]).run Tryz.prog w = .ok (.agg oneArr) w := by kernel_rfl
theorem build_one (w : World) : (Instr.build 148 #[(0, .agg oneArr), (1, .int .i64 1)]).run Tryz.prog w = .ok (.agg oneAll) w := by kernel_rfl
theorem oneList_len : oneList.length = 231 := by unfold oneList oneWords; rw [List.length_append, List.length_cons, List.length_replicate]; rfl
theorem oneWords_len : oneWords.length = 229 := by unfold oneWords; rw [List.length_cons, List.length_replicate]
theorem oneList_one : ∀ v ∈ oneList, v.oneCell' = true := by
  intro v hv
  unfold oneList oneWords at hv
  rcases List.mem_append.1 hv with hv | hv
  · rcases List.mem_cons.1 hv with rfl | hv
    · rfl
    · rw [List.eq_of_mem_replicate hv]; rfl
  · rcases List.mem_cons.1 hv with rfl | hv
    · rfl
    · rcases List.mem_cons.1 hv with rfl | hv
      · rfl
      · cases hv
theorem wd_one (i : Nat) : wd 1 i = if i = 0 then 1 else 0 := by
  by_cases h : i = 0
  · subst h; rfl
  · rw [if_neg h, wd_of_lt]
    exact Nat.lt_of_lt_of_le (show 1 < B9 ^ 1 by decide) (pow_le (by omega))
theorem oneList_word {i : Nat} (hi : i < 229) : oneList[i]? = some (.int .u32 (wd 1 i : Int)) := by
  unfold oneList
  rw [List.getElem?_append_left (by unfold oneWords; rw [List.length_cons, List.length_replicate]; exact hi)]
  unfold oneWords
  rw [wd_one]
  cases i with
  | zero => rfl
  | succ j => rw [List.getElem?_cons_succ, List.getElem?_replicate, if_pos (by omega)]; rfl
theorem oneList_cnt : oneList[229]? = some (.int .i64 1) := by
  unfold oneList; rw [List.getElem?_append_right (by rw [oneWords_len]; omega), oneWords_len]; rfl
theorem oneList_sgn : oneList[230]? = some (.bool false) := by
  unfold oneList; rw [List.getElem?_append_right (by rw [oneWords_len]; omega), oneWords_len]; rfl
theorem store_list (w : World) (Z : Array Value) (T : TypeId) (L : List Value) (hz : Z.size = 231) (hl : L.length = 231) (h1 : ∀ v ∈ L, v.oneCell' = true)
    (hw : ∀ i, i < 229 → L[i]? = some (.int .u32 (wd 1 i : Int))) (hc : L[229]? = some (.int .i64 1)) (hs : L[230]? = some (.bool false)) :
    ∃ w2, (storeCells ⟨w.heap.size, 0, none⟩ L).run Tryz.prog (w.alloc (.cells Z T)) = .ok () w2 ∧ NumF w2 w.heap.size (wd 1) 1 false ∧ Kp [] w w2 := by
  have h := run_storeCells_at Tryz.prog w.heap.size 0 T L 0 Z (w.alloc (.cells Z T)) (heap_alloc_new w _) (by omega) h1
  have e : Z.toList.take (0 + 0) ++ L ++ Z.toList.drop (0 + 0 + L.length) = L := by
    rw [List.drop_of_length_le (by rw [Array.length_toList]; omega)]; simp
  rw [e] at h
  refine ⟨_, h, ⟨_, _, setRow_heap _ _ _ _ _ _ (heap_alloc_new w _), ?_, fun i hi => ?_, ?_, ?_⟩, ?_⟩
  · rw [List.size_toArray]; exact hl
  · rw [List.getElem?_toArray]; exact hw i hi
  · rw [List.getElem?_toArray]; exact hc
  · rw [List.getElem?_toArray]; exact hs
  · exact ⟨rfl, rfl, rfl, by simp [World.setRow], fun k hk _ => (setRow_other _ _ _ _ (by omega)).trans (Below.heap_alloc w _ k hk), Nat.le_refl _⟩
theorem nw_one : nw 1 = 1 := by rw [nw_pos (by omega), show 1 / B9 = 0 from rfl, nw_zero]
/-- a new number 1 -/
theorem store_one (w : World) : ∃ w2, (storeCells ⟨w.heap.size, 0, none⟩ oneAll.toList).run Tryz.prog (w.alloc (.cells Tryz.zeroCells148 148)) = .ok () w2 ∧ Num w2 w.heap.size 1 false ∧ Kp [] w w2 := by
  obtain ⟨w2, h1, h2, h3⟩ := store_list w Tryz.zeroCells148 148 oneList (by rw [zeroCells_eq, List.size_toArray, zeroList_len]) oneList_len oneList_one (fun _ hi => oneList_word hi) oneList_cnt oneList_sgn
  exact ⟨w2, h1, ⟨by rw [nw_one]; exact h2, Nat.lt_of_lt_of_le (show 1 < B9 ^ 1 by decide) (pow_le (by omega))⟩, h3⟩

theorem wpList_build1 {P : Program} {w : World} {ops : Array Oper} {rest : List Oper} {o : Oper} {a : Act} {Q : Exit → Act → World → Prop} (hgd : o.guard = none) (t : TypeId) (x0 : Operand)
    (ho : o.op = .build t #[(0, x0)]) (v0 : Value) (h0 : a.eval x0 = v0) (cells : Array Value) (hrun : ∀ w, (Instr.build t #[(0, v0)]).run P w = .ok (.agg cells) w)
    (h : wpList P ops Q rest (a.put o.dst (.agg cells)) w) : wpList P ops Q (o :: rest) a w := by
  refine wpList_plain hgd fun K hK => ?_
  unfold Oper.wp
  have e : (execOp a.eval o).run P w = .ok (.value (.agg cells)) w := by
    have h1 := hrun w
    simp only [execOp, ho, Sem.run_bind, List.map_toArray, List.map_cons, List.map_nil, h0, h1, Result.andThen, Sem.run_pure]
  rw [e]
  exact hK _ _ h
theorem wpList_build2 {P : Program} {w : World} {ops : Array Oper} {rest : List Oper} {o : Oper} {a : Act} {Q : Exit → Act → World → Prop} (hgd : o.guard = none) (t : TypeId) (x0 x1 : Operand)
    (ho : o.op = .build t #[(0, x0), (1, x1)]) (v0 v1 : Value) (h0 : a.eval x0 = v0) (h1 : a.eval x1 = v1) (cells : Array Value) (hrun : ∀ w, (Instr.build t #[(0, v0), (1, v1)]).run P w = .ok (.agg cells) w)
    (h : wpList P ops Q rest (a.put o.dst (.agg cells)) w) : wpList P ops Q (o :: rest) a w := by
  refine wpList_plain hgd fun K hK => ?_
  unfold Oper.wp
  have e : (execOp a.eval o).run P w = .ok (.value (.agg cells)) w := by
    have h1' := hrun w
    simp only [execOp, ho, Sem.run_bind, List.map_toArray, List.map_cons, List.map_nil, h0, h1, h1', Result.andThen, Sem.run_pure]
  rw [e]
  exact hK _ _ h
end Go.Proofs.YtiommpdbbpddpaaGreat
