/- Texts ROf, RPaper: each says in its own first comment what it proves. -/
import Derived.Test.YtiommpdbbpddpaaGreatM16
import Derived.Test.YtiommpdbbpddpaaGreatM05
import Derived.Test.YtiommpdbbpddpaaGreatM07
import Derived.Lib.LazyBuf
import Derived.Deep.RegionWith
/- The reference's Of: the text of an int. -/
namespace Go.Proofs.YtiommpdbbpddpaaGreat
open Go.RowKit
open Go.Lib (nDigits itoa decDigits)

/-- a string of one byte -/
theorem conv_one (d : TypeId) (hd : Tryz.prog.underlying d = some .string) (x : Nat) (w : World) :
    (convert 110 d (.slice (some ⟨w.heap.size, 0, none⟩) 1 1)).run Tryz.prog (w.alloc (.cells #[.int .u8 (x : Int)] 5)) = .ok (.string ⟨#[UInt8.ofNat x]⟩) (w.alloc (.cells #[.int .u8 (x : Int)] 5)) := by
  have hb : Byt (w.alloc (.cells #[.int .u8 (x : Int)] 5)) w.heap.size 1 (fun _ => x) := by
    refine ⟨_, _, heap_alloc_new w _, rfl, fun i hi => ?_⟩
    obtain rfl : i = 0 := by omega
    rfl
  have := conv_bytes d hd hb 0 1 1 (by omega)
  rw [this]
  rfl

theorem dec_snoc {u : Nat} (h : 9 < u) (t : List UInt8) : decDigits (u / 10) ++ (UInt8.ofNat (48 + u % 10) :: t) = decDigits u ++ t := by
  rw [dec_big (u := u) (by omega)]; simp
theorem cat_one (c : UInt8) (t : ByteArray) : ((⟨#[c]⟩ : ByteArray) ++ t).data.toList = c :: t.data.toList := by simp

set_option maxRecDepth 100000 in
set_option maxHeartbeats 1000000 in
theorem of_zero (w : World) :
    Calls Tryz.prog 55 #[.int .i64 0] w fun e w' => e = .returned (.string (S 0)) ∧ Kp [] w w' := by
  have hcv := fun W => conv_one 9 Tryz.underlying9 48 W
  rw [show ((48 : Nat) : Int) = 48 from rfl, show UInt8.ofNat 48 = 48 from rfl] at hcv
  rw [S_zero]
  go_enter Tryz.func55, Tryz.ntmps55
  go_wp2
  go_loopg [0, 3] 1 (fun _ s0 s3 wr => s0 = .int .i64 0 ∧ s3 = .string ⟨#[]⟩ ∧ w = wr)
  case atStart => exact ⟨rfl, rfl, rfl⟩
  case round =>
    obtain ⟨rfl, rfl, rfl⟩ := hrel
    go_wp2
    go_ret
    exact ⟨rfl, (Kp.refl _ _).alloc _⟩
set_option maxRecDepth 100000 in
set_option maxHeartbeats 2000000 in
theorem of_pos (n : Nat) (w : World) (h0 : n ≠ 0) (hn : n < 9223372036854775808) :
    Calls Tryz.prog 55 #[.int .i64 (n : Int)] w fun e w' => e = .returned (.string (S (n : Int))) ∧ Kp [] w w' := by
  have hb : ((n : Int) == -(n : Int)) = false := by simp; omega
  have hlt : ¬ (n : Int) < 0 := by omega
  clear h0
  have hn19 : nDigits n ≤ 19 := (nd_le_iff (by omega)).2 (Nat.lt_trans hn (by decide))
  have H19 := Lib.hid hn19; clear hn19
  go_enter Tryz.func55, Tryz.ntmps55
  go_wp2
  go_loopg [0, 3] n (fun gk s0 s3 wr => ∃ t : ByteArray, s0 = .int .i64 (gk : Int) ∧ s3 = .string t ∧ gk ≤ n ∧ t.size ≤ 40 ∧ Hid (decDigits gk ++ t.data.toList = decDigits n) ∧ Kp [] w wr)
  case atStart => exact ⟨⟨#[]⟩, rfl, rfl, Nat.le_refl _, by decide, by show _ ++ [] = _; simp, Kp.refl _ _⟩
  case round =>
    obtain ⟨t, rfl, rfl, hg, ht, hd, hk⟩ := hrel
    by_cases h9 : 9 < gk
    · have h9' : (9 : Int) < (gk : Int) := by omega
      have hcv := fun W => conv_one 9 Tryz.underlying9 (48 + gk % 10) W
      rw [show ((48 + gk % 10 : Nat) : Int) = 48 + (gk : Int) % 10 by omega] at hcv
      have hd2 : Hid (decDigits (gk / 10) ++ ((⟨#[UInt8.ofNat (48 + gk % 10)]⟩ : ByteArray) ++ t).data.toList = decDigits n) := by
        show _ = _
        rw [cat_one, dec_snoc h9]; exact hd.out
      have hsz : Hid (((⟨#[UInt8.ofNat (48 + gk % 10)]⟩ : ByteArray) ++ t).size ≤ 40) := by
        show _ ≤ _
        have h1 := congrArg List.length hd2.out
        rw [List.length_append, dec_len n] at h1
        have h2 := H19.out
        rw [Lib.size_eq]; omega
      obtain ⟨c, hc⟩ : ∃ c, UInt8.ofNat (48 + gk % 10) = c := ⟨_, rfl⟩
      rw [hc] at hcv hd2 hsz
      clear h9 hd hc
      go_wp2
      go_roundg (gk / 10)
      case measure => omega
      case rel => exact ⟨_, val_i (by omega), rfl, by omega, hsz.out, hd2, hk.alloc _⟩
    · have h9' : ¬ (9 : Int) < (gk : Int) := by omega
      have hcv := fun W => conv_one 9 Tryz.underlying9 (48 + gk) W
      rw [show ((48 + gk : Nat) : Int) = 48 + (gk : Int) by omega] at hcv
      have hd2 : Hid (S (n : Int) = (⟨#[UInt8.ofNat (48 + gk)]⟩ : ByteArray) ++ t) := by
        show _ = _
        symm
        apply eq_S_of_list
        rw [cat_one, itoa_nn, ← hd.out, dec_small (by omega)]; rfl
      obtain ⟨c, hc⟩ : ∃ c, UInt8.ofNat (48 + gk) = c := ⟨_, rfl⟩
      rw [hc] at hcv hd2
      clear hd h9 hc
      go_wp2
      go_ret
      exact ⟨by rw [hd2.out]; rfl, hk.alloc _⟩

theorem of_nn (n : Nat) (w : World) (hn : n < 9223372036854775808) :
    Calls Tryz.prog 55 #[.int .i64 (n : Int)] w fun e w' => e = .returned (.string (S (n : Int))) ∧ Kp [] w w' := by
  by_cases h : n = 0
  · subst h; exact of_zero w
  · exact of_pos n w h hn
set_option maxRecDepth 100000 in
set_option maxHeartbeats 1000000 in
theorem of_any (z : Int) (w : World) (h1 : -9223372036854775808 ≤ z) (h2 : z < 9223372036854775808) :
    Calls Tryz.prog 55 #[.int .i64 z] w fun e w' => e = .returned (.string (S z)) ∧ Kp [] w w' := by
  by_cases hz : 0 ≤ z
  · obtain ⟨n, rfl⟩ := Int.eq_ofNat_of_zero_le hz
    exact of_nn n w (by omega)
  · by_cases hm : z = -9223372036854775808
    · have hv : Hid (S z = ⟨#[45, 57, 50, 50, 51, 51, 55, 50, 48, 51, 54, 56, 53, 52, 55, 55, 53, 56, 48, 56]⟩) := by
        show _ = _
        rw [hm]
        unfold S; rw [show itoa (-9223372036854775808) = [45, 57, 50, 50, 51, 51, 55, 50, 48, 51, 54, 56, 53, 52, 55, 55, 53, 56, 48, 56] by simp [itoa, decDigits]]
      have hw : wrap64 (-z) = z := by unfold wrap64; omega
      have hz0 : (z == 0) = false := by rw [hm]; decide
      rw [hv.out]
      clear hv h1 h2 hz hm
      go_enter Tryz.func55, Tryz.ntmps55
      go_wp2
      go_ret
      exact ⟨rfl, Kp.refl _ _⟩
    obtain ⟨n, hn⟩ := Int.eq_ofNat_of_zero_le (show 0 ≤ -z by omega)
    have q1 := Lib.hid (fun W => of_nn n W (by omega))
    have hsz : (S (n : Int)).size ≤ 100000 := by
      have h3 := S_size (n : Int)
      have h4 : nDigits (n : Int).natAbs ≤ 19 := (nd_le_iff (by omega)).2 (Nat.lt_trans (show (n : Int).natAbs < 9223372036854775808 by omega) (by decide))
      omega
    have q2 := Lib.hid (fun W => turned_any (n : Int) W hsz)
    rw [show -(n : Int) = z by omega] at q2
    have hb : (z == -z) = false := by simp; omega
    have hlt : z < 0 := by omega
    generalize S (n : Int) = s at *
    generalize S z = r at *
    rw [← hn] at q1
    clear hn hz hsz
    go_enter Tryz.func55, Tryz.ntmps55
    go_wp2_with fail
    refine (q1.out _).mono ?_
    rintro e w1 ⟨rfl, k1⟩
    go_wp2_with fail
    refine (q2.out _).mono ?_
    rintro e w2 ⟨rfl, rfl⟩
    go_wp2
    go_ret
    exact ⟨rfl, k1⟩
end Go.Proofs.YtiommpdbbpddpaaGreat

/- The reference's column, wide and paper. -/
namespace Go.Proofs.YtiommpdbbpddpaaGreat
open Go.RowKit
open Go.Lib (nDigits itoa decDigits)

theorem ret_bi {a b c d : Int} (h1 : a = c) (h2 : b = d) : Ending.returned (.tuple #[.int .u8 a, .int .i64 b]) = Ending.returned (.tuple #[.int .u8 c, .int .i64 d]) := by rw [h1, h2]

set_option maxRecDepth 100000 in
set_option maxHeartbeats 1000000 in
theorem column_add (p q c : Nat) (w : World) (hp : 48 ≤ p) (hp' : p ≤ 57) (hq : 48 ≤ q) (hq' : q ≤ 57) (hc : c ≤ 1) :
    Calls Tryz.prog 128 #[.int .u8 (p : Int), .int .u8 (q : Int), .int .i64 (c : Int), .bool true] w fun e w' => e = .returned (.tuple #[.int .u8 ((48 + (p - 48 + (q - 48) + c) % 10 : Nat) : Int), .int .i64 (((p - 48 + (q - 48) + c) / 10 : Nat) : Int)]) ∧ w = w' := by
  obtain ⟨x, rfl⟩ : ∃ x, p = 48 + x := ⟨p - 48, by omega⟩
  obtain ⟨y, rfl⟩ : ∃ y, q = 48 + y := ⟨q - 48, by omega⟩
  have hx : x ≤ 9 := by omega
  have hy : y ≤ 9 := by omega
  rw [show 48 + x - 48 = x by omega, show 48 + y - 48 = y by omega]
  clear hp hp' hq hq'
  by_cases h : 9 < x + y + c
  · have e1 : Hid ((x + y + c) % 10 = x + y + c - 10) := by show _ = _; omega
    have e2 : Hid ((x + y + c) / 10 = 1) := by show _ = _; omega
    go_enter Tryz.func128, Tryz.ntmps128
    go_wp2
    go_ret2
    exact ⟨ret_bi (by have := e1.out; omega) (by have := e2.out; omega), rfl⟩
  · have e1 : Hid ((x + y + c) % 10 = x + y + c) := by show _ = _; omega
    have e2 : Hid ((x + y + c) / 10 = 0) := by show _ = _; omega
    go_enter Tryz.func128, Tryz.ntmps128
    go_wp2
    go_ret2
    exact ⟨ret_bi (by have := e1.out; omega) (by have := e2.out; omega), rfl⟩

/-- the borrow behind a column -/
def bor (p q c : Nat) : Nat := if p - 48 < q - 48 + c then 1 else 0
set_option maxRecDepth 100000 in
set_option maxHeartbeats 1000000 in
theorem column_sub (p q c : Nat) (w : World) (hp : 48 ≤ p) (hp' : p ≤ 57) (hq : 48 ≤ q) (hq' : q ≤ 57) (hc : c ≤ 1) :
    Calls Tryz.prog 128 #[.int .u8 (p : Int), .int .u8 (q : Int), .int .i64 (c : Int), .bool false] w fun e w' => e = .returned (.tuple #[.int .u8 ((48 + (p - 48 + 10 - (q - 48) - c) % 10 : Nat) : Int), .int .i64 ((bor p q c : Nat) : Int)]) ∧ w = w' := by
  obtain ⟨x, rfl⟩ : ∃ x, p = 48 + x := ⟨p - 48, by omega⟩
  obtain ⟨y, rfl⟩ : ∃ y, q = 48 + y := ⟨q - 48, by omega⟩
  have hx : x ≤ 9 := by omega
  have hy : y ≤ 9 := by omega
  rw [show 48 + x - 48 = x by omega, show 48 + y - 48 = y by omega]
  have hbo : bor (48 + x) (48 + y) c = if x < y + c then 1 else 0 := by unfold bor; rw [show 48 + x - 48 = x by omega, show 48 + y - 48 = y by omega]
  rw [hbo]
  clear hbo hp hp' hq hq'
  by_cases h : x < y + c
  · have e1 : Hid ((x + 10 - y - c) % 10 = x + 10 - y - c) := by show _ = _; omega
    have e2 : Hid ((if x < y + c then 1 else 0) = 1) := if_pos h
    go_enter Tryz.func128, Tryz.ntmps128
    go_wp2
    go_ret2
    exact ⟨ret_bi (by have := e1.out; omega) (by first | rfl | (rw [e2.out]; rfl)), rfl⟩
  · have e1 : Hid ((x + 10 - y - c) % 10 = x - y - c) := by show _ = _; omega
    have e2 : Hid ((if x < y + c then 1 else 0) = 0) := if_neg h
    go_enter Tryz.func128, Tryz.ntmps128
    go_wp2
    go_ret2
    exact ⟨ret_bi (by have := e1.out; omega) (by first | rfl | (rw [e2.out]; rfl)), rfl⟩

/-- digits with zeros in front -/
def wideB (u n : Nat) : ByteArray := strOf (dgt u n) 0 n
theorem wideB_size (u n : Nat) : (wideB u n).size = n := by unfold wideB strOf; show Array.size _ = _; simp
theorem wideB_at (u n i : Nat) (h : i < n) : ((wideB u n)[i]'(by rw [wideB_size]; exact h)).toNat = dgt u n i := by
  have : (wideB u n)[i]'(by rw [wideB_size]; exact h) = UInt8.ofNat (dgt u n i) := by
    unfold wideB strOf
    show (Array.getInternal _ _ _) = _
    simp
  rw [this]
  unfold dgt
  exact ofNat_dig _ (Nat.mod_lt _ (by decide))

theorem byt_setCells (h n : Nat) : ∀ (l : List UInt8) (o : Nat) (w : World) (f : Nat → Nat), Byt w h n f → o + l.length ≤ n →
    Byt (w.setCells h o (l.map fun x => Value.int .u8 (x.toNat : Int))) h n (fun i => if o ≤ i ∧ i < o + l.length then (l.getD (i - o) 0).toNat else f i) ∧ Kp [h] w (w.setCells h o (l.map fun x => Value.int .u8 (x.toNat : Int)))
  | [], o, w, f, hb, _ => ⟨hb.congr fun i _ => by rw [if_neg (by simp)], Kp.refl _ _⟩
  | c :: l, o, w, f, hb, ho => by
    rw [List.length_cons] at ho
    have h1 := hb.set_ (i := o) (x := c.toNat) (y := (c.toNat : Int)) (by omega) rfl
    obtain ⟨h2, h3⟩ := byt_setCells h n l (o + 1) _ _ h1 (by omega)
    refine ⟨h2.congr fun i _ => ?_, ((Kp.refl [h] w).setCell (p := ⟨h, o, none⟩) (.inl (by simp)) (.int .u8 (c.toNat : Int))).trans h3⟩
    unfold upd
    by_cases e1 : i = o
    · subst e1; rw [if_neg (by omega), if_pos rfl, if_pos (by simp)]; simp
    · by_cases e2 : o + 1 ≤ i ∧ i < o + 1 + l.length
      · rw [if_pos e2, if_pos (by simp; omega), show i - o = (i - (o + 1)) + 1 by omega, List.getD_cons_succ]
      · rw [if_neg e2, if_neg e1, if_neg (by simp; omega)]
theorem size_u8 : ∀ w : World, (Go.sizeOf 5).run Tryz.prog w = .ok 1 w := fun _ => by kernel_rfl
theorem dec_getD {u i : Nat} (h : i < nDigits u) : ((decDigits u).getD i 0).toNat = 48 + u / 10 ^ (nDigits u - 1 - i) % 10 := by
  rw [Go.Lib.decDigits_eq]
  rw [List.getD_eq_getElem?_getD, List.getElem?_map, List.getElem?_range h]
  simp [Go.Lib.dg]
  omega

set_option maxRecDepth 100000 in
set_option maxHeartbeats 2000000 in
theorem wide_any (u n : Nat) (w : World) (hn : nDigits u ≤ n) (hn' : n ≤ 100000) :
    Calls Tryz.prog 127 #[.string (S (u : Int)), .int .i64 (n : Int)] w fun e w' => e = .returned (.string (wideB u n)) ∧ Kp [] w w' := by
  have hmk : ∀ W : World, (Instr.makeSlice 110 (.int .i64 (n : Int)) (.int .i64 (n : Int))).run Tryz.prog W = .ok (.slice (some ⟨W.heap.size, 0, none⟩) n n) (W.alloc (.cells (madeCells #[.int .u8 0] n) 5)) := fun W => make_bytes n (by omega) W
  have hby0 : Byt (w.alloc (.cells (madeCells #[.int .u8 0] n) 5)) w.heap.size n (fun _ => 0) := Byt.made w n
  have hkp0 : Kp [] w (w.alloc (.cells (madeCells #[.int .u8 0] n) 5)) := (Kp.refl _ _).alloc _
  obtain ⟨hl1, hl2⟩ := S_nn (z := (u : Int)) (by omega)
  rw [Int.natAbs_natCast] at hl1 hl2
  have hl1' : (S (u : Int)).data.toList = decDigits u := by rw [S_list, itoa_nn]
  obtain ⟨d, hd⟩ : ∃ d, d = nDigits u := ⟨_, rfl⟩
  obtain ⟨o, ho⟩ : ∃ o, n = o + d := ⟨n - nDigits u, by omega⟩
  rw [← hd, Nat.add_zero] at hl2
  obtain ⟨s, hs⟩ : ∃ s, S (u : Int) = s := ⟨_, rfl⟩
  rw [hs] at hl1' hl2 ⊢
  have hd0 : 0 < d := by rw [hd]; exact Go.Lib.nDigits_pos u
  have Hd := Lib.hid hd
  have HL := Lib.hid hl1'
  have hod : (n : Int) - (d : Int) = (o : Int) := by omega
  have hon : o + d = n := ho.symm
  have hsz : (s.size : Int) = (d : Int) := by omega
  clear hs hl1 hl1' hd hn ho
  go_enter Tryz.func127, Tryz.ntmps127
  go_wp2
  clear hmk
  go_loopw [6] (fun s6 wr => ∃ i : Nat, i ≤ n ∧ s6 = .int .i64 i ∧ Byt wr w.heap.size n (mix (fun _ => 48) (fun _ => 0) i) ∧ Kp [] w wr)
    (fun i _ => n - (intOf i).toNat)
  case atStart => exact ⟨0, Nat.zero_le _, rfl, by rw [mix_zero]; exact hby0, hkp0⟩
  case round =>
    obtain ⟨i, hi, rfl, hby, hkp⟩ := hrel
    by_cases hlt : i < n
    · have hbi := hby.byte hlt
      have hfi := hby.free i
      go_wp2
      go_roundw
      case rel => exact ⟨i + 1, by omega, by go_num, by rw [← mix_set (fun _ => 48)]; exact hby.set_ hlt rfl, hkp.setCell (.inr (Nat.le_refl _)) _⟩
      case measure => simp [intOf]; omega
    · obtain rfl : i = n := by omega
      have hcp : ∀ ty, (Builtin.copy_ #[110, 9] ty #[.slice (some ⟨w.heap.size, o, none⟩) (i - o) (i - o), .string s]).run Tryz.prog wr = .ok (goInt d) (wr.setCells w.heap.size o (s.data.toList.map fun x => Value.int .u8 (x.toNat : Int))) := fun ty => by
        have := run_copy_string (P := Tryz.prog) wr 110 9 ty 5 w.heap.size o (i - o) (i - o) s Tryz.underlying110 size_u8 (by omega)
          (fun j hj => by rw [hby.byte (show o + j < i by omega)]; rfl) (fun j hj => hby.free _)
        rwa [hl2] at this
      obtain ⟨hb2, hk2⟩ := byt_setCells w.heap.size i s.data.toList o wr _ hby (by rw [← Lib.size_eq]; omega)
      generalize wr.setCells w.heap.size o (s.data.toList.map fun x => Value.int .u8 (x.toNat : Int)) = w2 at *
      have hcv := conv_bytes 9 Tryz.underlying9 hb2 0 i i (by omega)
      have hres : Hid (strOf (fun j => if o ≤ j ∧ j < o + s.data.toList.length then (s.data.toList.getD (j - o) 0).toNat else mix (fun _ => 48) (fun _ => 0) i j) 0 i = wideB u i) := by
        show _ = _
        unfold wideB strOf
        congr 2
        refine List.map_congr_left fun j hj => ?_
        have hj' : j < i := by simpa using hj
        rw [Nat.zero_add]
        congr 1
        rw [← Lib.size_eq]
        show (if o ≤ j ∧ j < o + s.size then (s.data.toList.getD (j - o) 0).toNat else mix (fun _ => 48) (fun _ => 0) i j) = _
        by_cases h1 : o ≤ j
        · rw [if_pos ⟨h1, by omega⟩, HL.out, dec_getD (by rw [← Hd.out]; omega), ← Hd.out]
          unfold dgt
          rw [show d - 1 - (j - o) = i - 1 - j by omega]
        · rw [if_neg (by omega), mix_lt _ _ hj', dgt_zero (by rw [← Hd.out]; omega)]
      rw [hres.out] at hcv
      clear hby hb2
      go_wp2
      go_ret
      exact ⟨rfl, hkp.step hk2 (by simp)⟩
end Go.Proofs.YtiommpdbbpddpaaGreat
