/- Texts Check, Bytes, Read: each says in its own first comment what it proves. -/
import Derived.Test.YtiommpdbbpddpaaGreatM03
import Derived.Test.YtiommpdbbpddpaaGreatM02
import Derived.Laws.MakeOwn
import Derived.Laws.BytesString
import Derived.Deep.RegionWith
import Derived.StillTailTactics
import Derived.IntWalk
/- Walks over whole.Check: which texts are canonical integers, and which are too long. -/
namespace Go.Proofs.YtiommpdbbpddpaaGreat
open Go.RowKit

/-- the error of a text that is read as an integer -/
def chk (l : List UInt8) : Int := if canon l then (if (mag l).length ≤ 1024 then 0 else 11) else 3

theorem canon_mag_nil {l : List UInt8} (h : mag l = []) : canon l = false := by unfold canon canonM; rw [h]; rfl
theorem canon_bad {l : List UInt8} (h : (mag l).all isDig = false) : canon l = false := by unfold canon canonM; rw [h]; simp
theorem canon_head {l t : List UInt8} {c : UInt8} (ha : (mag l).all isDig = true) (h : mag l = c :: t) (hc : (c == 48) = false) : canon l = true := by
  unfold canon canonM; rw [ha, h]; simp at hc; simp [hc]
theorem canon_zero {l t : List UInt8} (ha : (mag l).all isDig = true) (h : mag l = 48 :: t) : canon l = (l == [48]) := by
  cases hn : isNeg l with
  | true =>
    have := mag_of_neg hn
    have e : (l == [48]) = false := by rw [this]; simp
    rw [e]; unfold canon canonM; rw [hn, h]
    cases t with
    | nil => simp
    | cons a b => simp
  | false =>
    have := mag_of_nn hn
    rw [h] at this; subst this
    unfold canon canonM; rw [hn, ha, h]
    cases t with
    | nil => simp
    | cons a b => simp
theorem size_mag (s : ByteArray) : (magB s).size = (mag s.data.toList).length := by rw [Lib.size_eq, magB_list]
theorem magB_le (s : ByteArray) : (magB s).size ≤ s.size := by
  rw [size_mag, Lib.size_eq]
  cases s.data.toList with
  | nil => simp [mag]
  | cons c t => simp only [mag]; split <;> simp
theorem all_of_none {l : List UInt8} (h : ∀ k (hk : k < l.length), isDig l[k] = true) : l.all isDig = true := by
  rw [List.all_eq_true]; intro x hx
  obtain ⟨k, hk, rfl⟩ := List.getElem_of_mem hx
  exact h k hk

set_option maxRecDepth 100000 in
set_option maxHeartbeats 2000000 in
theorem check_any (s : ByteArray) (w : World) (hs : s.size ≤ 9223372036854775807) :
    Calls Tryz.prog 90 #[.string s] w fun e w' => e = .returned (.int .i64 (chk s.data.toList)) ∧ w = w' := by
  have hle := magB_le s
  go_enter Tryz.func90, Tryz.ntmps90
  go_wp2_with fail
  refine (trimPrefix_any s _ hs).mono ?_
  rintro e w' ⟨rfl, rfl⟩
  have hl := Lib.hid (magB_list s)
  generalize magB s = d at *
  go_wp2
  go_loop [9] (fun i => ∃ k : Nat, k ≤ d.size ∧ i = .int .i64 k ∧ (∀ j (hj : j < k) (hd : j < d.size), isDig d[j] = true)) (fun i => d.size - (intOf i).toNat)
  case atStart => exact ⟨0, Nat.zero_le _, rfl, fun j hj => by omega⟩
  case round =>
    obtain ⟨k, hk, rfl, hq⟩ := hrel
    have hq' := Lib.hid hq; clear hq
    by_cases hlt : k < d.size
    · cases hb : isDig d[k] with
      | true =>
        have hb1 := (isDig_iff _).1 hb
        have H := Lib.hid hb; clear hb
        obtain ⟨h1, h2⟩ := hb1
        go_wp2
        go_round
        case rel => exact ⟨k + 1, by omega, by go_num, fun j hj hd => by
          by_cases e : j = k
          · subst e; exact H.out
          · exact hq'.out j (by omega) hd⟩
        case measure => simp [intOf]; omega
      | false =>
        have hb1 : ¬ (48 ≤ d[k].toNat ∧ d[k].toNat ≤ 57) := fun h => by rw [(isDig_iff _).2 h] at hb; cases hb
        have hv : Hid (chk s.data.toList = 3) := by
          show chk _ = 3
          unfold chk
          rw [canon_bad, if_neg (by simp)]
          rw [← hl.out]
          cases ha : d.data.toList.all isDig with
          | false => rfl
          | true =>
            have := (isDig_iff _).2 (dig_at ha hlt)
            rw [this] at hb; cases hb
        clear hb
        by_cases h48 : d[k].toNat < 48
        · clear hb1
          go_wp2
          go_ret
          exact ⟨by rw [hv.out]; rfl, rfl⟩
        · have h57 : 57 < d[k].toNat := by omega
          clear hb1
          go_wp2
          go_ret
          exact ⟨by rw [hv.out]; rfl, rfl⟩
    · obtain rfl : k = d.size := by omega
      have ha : d.data.toList.all isDig = true := all_of_none fun k hk => hq'.out k (by simpa using hk) (by simpa using hk)
      clear hq'
      cases hd : d.data.toList with
      | nil =>
        have hv : Hid (chk s.data.toList = 3) := by
          show chk _ = 3
          unfold chk; rw [canon_mag_nil (by rw [← hl.out, hd]), if_neg (by simp)]
        have he : d.toList.isEmpty = true := by rw [Lib.toList_data, hd]; rfl
        clear ha hd
        go_wp2
        go_ret
        exact ⟨by rw [hv.out]; rfl, rfl⟩
      | cons c t =>
        have hpos : 0 < d.size := by rw [Lib.size_eq, hd]; simp
        have hc : d[0] = c := by
          have : d[0] = d.data.toList[0]'(by simpa using hpos) := rfl
          rw [this]; simp [hd]
        have he : d.toList.isEmpty = false := by rw [Lib.toList_data, hd]; rfl
        have ha' : (mag s.data.toList).all isDig = true := by rw [← hl.out]; exact ha
        have hm' : mag s.data.toList = c :: t := by rw [← hl.out]; exact hd
        have hsz : (mag s.data.toList).length = d.size := by rw [Lib.size_eq, hl.out]
        have hcn : (d[0].toNat : Int) = (c.toNat : Int) := by rw [hc]
        cases h48 : (c == 48) with
        | false =>
          have hb : ((d[0].toNat : Int) == 48) = false := by
            rw [hcn]; refine beq_eq_false_iff_ne.2 fun e => ?_
            have e' : c.toNat = 48 := by omega
            have : c = 48 := UInt8.toNat_inj.1 e'
            rw [this] at h48; simp at h48
          have hcan := canon_head ha' hm' h48
          by_cases h1024 : d.size ≤ 1024
          · have hv : Hid (chk s.data.toList = 0) := by
              show chk _ = 0
              unfold chk; rw [hcan, hsz, if_pos rfl, if_pos h1024]
            have hg : decide (1024 < (d.size : Int)) = false := decide_eq_false (by omega)
            clear ha hd ha' hm' hsz hcn h48 hcan hc
            go_wp2
            go_ret
            exact ⟨by rw [hv.out]; rfl, rfl⟩
          · have hv : Hid (chk s.data.toList = 11) := by
              show chk _ = 11
              unfold chk; rw [hcan, hsz, if_pos rfl, if_neg h1024]
            have hg : decide (1024 < (d.size : Int)) = true := decide_eq_true (by omega)
            clear ha hd ha' hm' hsz hcn h48 hcan hc
            go_wp2
            go_ret
            exact ⟨by rw [hv.out]; rfl, rfl⟩
        | true =>
          obtain rfl : c = 48 := by simpa using h48
          have hb : ((d[0].toNat : Int) == 48) = true := by rw [hcn]; rfl
          have hcan := canon_zero ha' hm'
          have hss : (s.toList == [48]) = (s.data.toList == [48]) := by rw [Lib.toList_data]
          cases h0 : (s.data.toList == [48]) with
          | true =>
            have hs0 : (s.toList == [48]) = true := by rw [hss, h0]
            have h1024 : d.size ≤ 1024 := by
              have e : s.data.toList = [48] := by simpa using h0
              rw [← hsz, e]; decide
            have hv : Hid (chk s.data.toList = 0) := by
              show chk _ = 0
              unfold chk; rw [hcan, h0, hsz, if_pos rfl, if_pos h1024]
            have hg : decide (1024 < (d.size : Int)) = false := decide_eq_false (by omega)
            clear ha hd ha' hm' hsz hcn h48 hcan hc hss h0
            go_wp2
            go_ret
            exact ⟨by rw [hv.out]; rfl, rfl⟩
          | false =>
            have hs0 : (s.toList == [48]) = false := by rw [hss, h0]
            have hv : Hid (chk s.data.toList = 3) := by
              show chk _ = 3
              unfold chk; rw [hcan, h0, if_neg (by simp)]
            clear ha hd ha' hm' hsz hcn h48 hcan hc hss h0
            go_wp2
            go_ret
            exact ⟨by rw [hv.out]; rfl, rfl⟩
end Go.Proofs.YtiommpdbbpddpaaGreat

/- Bytes that a call makes, fills and turns into a string; a new long number. -/
namespace Go.Proofs.YtiommpdbbpddpaaGreat
open Go.RowKit

/-- block h holds n bytes f -/
def Byt (w : World) (h n : Nat) (f : Nat → Nat) : Prop :=
  ∃ cs T, w.heap[h]? = some (.cells cs T (0, 0)) ∧ cs.size = n ∧ ∀ i, i < n → cs[i]? = some (.int .u8 (f i : Int))

section
variable {w w' : World} {h n i : Nat} {f : Nat → Nat}
theorem Byt.lt (hb : Byt w h n f) : h < w.heap.size := by
  obtain ⟨cs, T, hb, _⟩ := hb
  rcases Nat.lt_or_ge h w.heap.size with hlt | hge
  · exact hlt
  · rw [Array.getElem?_eq_none hge] at hb; cases hb
theorem Byt.byte (hb : Byt w h n f) (hi : i < n) : w.cell? ⟨h, i, none⟩ = some (.int .u8 (f i : Int)) := by
  obtain ⟨cs, T, hb, hs, hw⟩ := hb
  simp [World.cell?, hb, hw i hi]
theorem Byt.free (hb : Byt w h n f) (i : Nat) : w.frozen? ⟨h, i, none⟩ = false := by
  obtain ⟨cs, T, hb, _⟩ := hb
  simp [World.frozen?, hb]
theorem Byt.same (hb : Byt w h n f) (e : w'.heap[h]? = w.heap[h]?) : Byt w' h n f := by
  obtain ⟨cs, T, h1, h2⟩ := hb
  exact ⟨cs, T, e.trans h1, h2⟩
theorem Byt.kp {S : List Nat} (hb : Byt w h n f) (hk : Kp S w w') (hg : h ∉ S) : Byt w' h n f := hb.same (hk.block h hb.lt hg)
theorem Byt.far (hb : Byt w h n f) {p : Addr} (hp : h ≠ p.block) (u : Value) : Byt (w.setCell p u) h n f := hb.same (Below.heap_setCell w p u h hp)
theorem Byt.alloc (hb : Byt w h n f) (o : Obj) : Byt (w.alloc o) h n f := hb.same (Below.heap_alloc w o h hb.lt)
theorem Byt.drew (hb : Byt w h n f) : Byt w.drew h n f := hb
theorem Byt.drewN (hb : Byt w h n f) (k : Nat) : Byt (w.drewN k) h n f := hb
theorem Byt.congr {f' : Nat → Nat} (hb : Byt w h n f) (e : ∀ i, i < n → f i = f' i) : Byt w h n f' := by
  obtain ⟨cs, T, h1, h2, h3⟩ := hb
  exact ⟨cs, T, h1, h2, fun i hi => by rw [h3 i hi, e i hi]⟩
theorem Byt.set_ (hb : Byt w h n f) (hi : i < n) {x : Nat} {y : Int} (e : y = (x : Int)) : Byt (w.setCell ⟨h, i, none⟩ (.int .u8 y)) h n (upd f i x) := by
  obtain ⟨cs, T, h1, h2, h3⟩ := hb
  subst e
  refine ⟨cs.setIfInBounds i (.int .u8 (x : Int)), T, by simp [World.setCell, Array.getElem?_modify, h1], by simpa using h2, fun j hj => ?_⟩
  unfold upd
  rw [Array.getElem?_setIfInBounds]
  by_cases e : i = j
  · subst e; simp; omega
  · rw [if_neg e, if_neg (fun h => e h.symm)]; exact h3 j hj
end

theorem byte_info : (Tryz.prog.info? 5).map (fun i => (i.zero, i.size, i.bytes)) = some (some (.int .u8 0), 1, 1) := by kernel_rfl
theorem make_bytes (n : Nat) (hn : n ≤ 281474976710656) (w : World) :
    (Instr.makeSlice 110 (.int .i64 (n : Int)) (.int .i64 (n : Int))).run Tryz.prog w = .ok (.slice (some ⟨w.heap.size, 0, none⟩) n n) (w.alloc (.cells (madeCells #[.int .u8 0] n) 5)) := by
  have hi := byte_info
  cases hq : Tryz.prog.info? 5 with
  | none => rw [hq] at hi; cases hi
  | some i =>
    rw [hq] at hi
    simp only [Option.map_some, Option.some.injEq, Prod.mk.injEq] at hi
    have hr := run_make (P := Tryz.prog) w 110 5 i (.int .u8 0) Tryz.underlying110 hq hi.1 .i64 .i64 n n (by omega) (by omega) (by rw [hi.2.2]; omega) (by omega)
    rw [hi.2.1, show (Value.int .u8 0).cells = #[Value.int .u8 0] from rfl] at hr
    simpa using hr
theorem Byt.made (w : World) (n : Nat) : Byt (w.alloc (.cells (madeCells #[.int .u8 0] n) 5)) w.heap.size n (fun _ => 0) := by
  refine ⟨_, _, heap_alloc_new w _, size_madeCells _ _, fun i hi => ?_⟩
  simp [madeCells, hi, Nat.mod_one]

/-- the string that bytes make -/
def strOf (f : Nat → Nat) (a m : Nat) : ByteArray := ⟨((List.range m).map fun i => UInt8.ofNat (f (a + i))).toArray⟩
theorem foldl_push (l : List Int) : ∀ s : ByteArray, l.foldl (fun r n => r.push (UInt8.ofNat n.toNat)) s = ⟨(s.data.toList ++ l.map fun n => UInt8.ofNat n.toNat).toArray⟩ := by
  induction l with
  | nil => intro s; simp
  | cons a l ih => intro s; rw [List.foldl_cons, ih]; simp [ByteArray.push]
theorem conv_bytes (d : TypeId) (hd : Tryz.prog.underlying d = some .string) {w : World} {h n : Nat} {f : Nat → Nat} (hb : Byt w h n f) (a m c : Nat) (ham : a + m ≤ n) :
    (convert 110 d (.slice (some ⟨h, a, none⟩) m c)).run Tryz.prog w = .ok (.string (strOf f a m)) w := by
  rw [run_convert_bytes_string w 110 d 5 _ m c Tryz.underlying110 Tryz.underlying5 hd]
  have hl := run_loadCells_list (P := Tryz.prog) (w := w) ⟨h, a, none⟩ (((List.range m).map fun i => (f (a + i) : Int)).map (Value.int .u8)) (fun j v hj => by
    simp only [List.map_map, List.getElem?_map] at hj
    by_cases hjm : j < m
    · rw [List.getElem?_range hjm] at hj; simp at hj; subst hj
      have e : (⟨h, a, none⟩ : Addr).add j = ⟨h, a + j, none⟩ := by unfold Addr.add; split <;> simp_all
      rw [e]; exact hb.byte (by omega)
    · rw [List.getElem?_eq_none (by simpa using hjm)] at hj; cases hj)
  simp only [List.length_map, List.length_range] at hl
  rw [run_bytesToString w ⟨h, a, none⟩ m c ((List.range m).map fun i => (f (a + i) : Int)) hl, foldl_push]
  have e : (ByteArray.empty.data.toList ++ ((List.range m).map fun i => (f (a + i) : Int)).map fun n => UInt8.ofNat n.toNat) = (List.range m).map fun i => UInt8.ofNat (f (a + i)) := by
    rw [List.map_map]; rfl
  rw [e]; rfl

/-- a new long number is 0 -/
def zeroList : List Value := List.replicate 229 (Value.int .u32 0) ++ [Value.int .i64 0, Value.bool false]
theorem zeroCells_eq : Tryz.zeroCells148 = zeroList.toArray := by kernel_rfl
theorem zeroList_len : zeroList.length = 231 := by unfold zeroList; rw [List.length_append, List.length_replicate]; rfl
theorem zeroList_word {i : Nat} (hi : i < 229) : zeroList[i]? = some (.int .u32 0) := by
  unfold zeroList; rw [List.getElem?_append_left (by rw [List.length_replicate]; exact hi), List.getElem?_replicate, if_pos hi]
theorem zeroList_cnt : zeroList[229]? = some (.int .i64 0) := by
  unfold zeroList; rw [List.getElem?_append_right (by rw [List.length_replicate]; omega), List.length_replicate]; rfl
theorem zeroList_sgn : zeroList[230]? = some (.bool false) := by
  unfold zeroList; rw [List.getElem?_append_right (by rw [List.length_replicate]; omega), List.length_replicate]; rfl
theorem NumF.made (w : World) : NumF (w.alloc (.cells Tryz.zeroCells148 148)) w.heap.size (fun _ => 0) 0 false := by
  have e := zeroCells_eq
  generalize Tryz.zeroCells148 = Z at *
  subst e
  exact ⟨_, _, heap_alloc_new w _, by rw [List.size_toArray]; exact zeroList_len, fun i hi => by rw [List.getElem?_toArray]; exact zeroList_word hi, by rw [List.getElem?_toArray]; exact zeroList_cnt, by rw [List.getElem?_toArray]; exact zeroList_sgn⟩
end Go.Proofs.YtiommpdbbpddpaaGreat

/- Walk over (*number).read: a number out of its digits. -/
namespace Go.Proofs.YtiommpdbbpddpaaGreat
open Go.RowKit

theorem word_still (s : ByteArray) (w : World) {x : Nat} (hd : s.data.toList.all isDig = true) (hs : s.size ≤ 9) (hx : valN s.data.toList = x) :
    Calls Tryz.prog 142 #[.string s] w fun e w' => e = .returned (.int .u32 (x : Int)) ∧ w' = w :=
  (word_any s w hd hs).mono fun _ _ ⟨h1, h2⟩ => ⟨by rw [h1, hx], h2.symm⟩
theorem trimPrefix_to (s d : ByteArray) (w : World) (hs : s.size ≤ 9223372036854775807) (h : Hid (magB s = d)) :
    Calls Tryz.prog 117 #[.string s, .string ⟨#[45]⟩] w fun e w' => e = .returned (.string d) ∧ w = w' := by
  rw [← h.out]; exact trimPrefix_any s w hs
theorem piece_ext {d : ByteArray} (hd : d.data.toList.all isDig = true) (k e : Nat) (he : e + 9 * k = d.size) (h0 : 0 < e) :
    (d.extract (e - 9) e).data.toList.all isDig = true ∧ (d.extract (e - 9) e).size ≤ 9 ∧ valN (d.extract (e - 9) e).data.toList = wd (valN d.data.toList) k := by
  have hlen : d.data.toList.length = d.size := (Lib.size_eq d).symm
  have hx : (d.extract (e - 9) e).data.toList = (d.data.toList.take e).drop (e - 9) := by rw [Lib.extract_data, List.drop_take]
  refine ⟨?_, ?_, ?_⟩
  · rw [hx]; exact all_drop (all_take hd _) _
  · rw [Lib.size_eq, hx, List.length_drop, List.length_take]; omega
  · have := piece hd k (by omega)
    rw [hlen, show d.size - 9 * k = e by omega] at this
    rw [hx, this]

set_option maxRecDepth 100000 in
set_option maxHeartbeats 4000000 in
theorem read_any (g : Nat) (s : ByteArray) (w : World) (hg : NumF w g (fun _ => 0) 0 false) (hs : s.size ≤ 2000) (hd : (mag s.data.toList).all isDig = true) :
    Calls Tryz.prog 120 #[.pointer (some ⟨g, 0, none⟩), .string s] w fun e w' => e = .returned (.tuple #[]) ∧ Num w' g (valN (mag s.data.toList)) (isNeg s.data.toList && decide (valN (mag s.data.toList) ≠ 0)) ∧ Kp [g] w w' := by
  have hle := magB_le s
  have hlt : Hid (decide ((magB s).size < s.size) = isNeg s.data.toList) := by
    show decide ((magB s).size < s.size) = _
    rw [size_mag, Lib.size_eq]
    cases hn : isNeg s.data.toList with
    | true => have := mag_of_neg hn; rw [this]; simp [mag]
    | false => rw [mag_of_nn hn]; simp
  rw [← magB_list] at hd ⊢
  obtain ⟨d, Hd⟩ : ∃ d, Hid (magB s = d) := ⟨_, rfl⟩
  rw [Hd.out] at hd hle hlt ⊢
  have hsg := hg.sgn
  have hfm := hg.free 230
  go_enter Tryz.func120, Tryz.ntmps120
  go_wp2_with fail
  refine (trimPrefix_to s d _ (by omega) Hd).mono ?_
  rintro e w' ⟨rfl, rfl⟩
  go_wp2
  have hg2 := hg.setM (decide (d.size < s.size))
  have hkp0 : Kp [g] w (w.setCell ⟨g, 230, none⟩ (.bool (decide (d.size < s.size)))) := (Kp.refl _ _).setCell (.inl (by simp)) _
  clear hsg hfm
  go_loopg [5] (d.size + 9) (fun gk s5 wr => ∃ (k : Nat) (i : Int), s5 = .int .i64 i ∧ i + 9 * (k : Int) = d.size ∧ (gk : Int) = i + 9 ∧ -9 < i ∧
      NumF wr g (mix (wd (valN d.data.toList)) (fun _ => 0) k) k (decide (d.size < s.size)) ∧ Kp [g] w wr)
  case atStart => exact ⟨0, _, rfl, by omega, by omega, by omega, by rw [mix_zero]; exact hg2, hkp0⟩
  case round =>
    obtain ⟨k, i, rfl, hi, hgk, hi9, hn, hkp⟩ := hrel
    have hcn := hn.cnt
    have hf1 := hn.free 229
    have hfk := hn.free k
    have hk229 : k < 229 ∨ i ≤ 0 := by omega
    by_cases hpos : 0 < i
    · obtain ⟨e, rfl⟩ : ∃ e : Nat, i = (e : Int) := ⟨i.toNat, by omega⟩
      have hk : (k : Int) < 229 := by omega
      obtain ⟨p1, p2, p3⟩ := piece_ext hd k e (by omega) (by omega)
      have hwk := hn.word (i := k) (by omega)
      have P3 := Lib.hid p3; clear p3
      have he : (e : Int) ≤ d.size := by omega
      have Hi := Lib.hid hi; clear hi
      have Hgk := Lib.hid hgk; clear hgk
      by_cases h9 : 9 < e
      · obtain ⟨e9, rfl⟩ : ∃ e9, e = e9 + 9 := ⟨e - 9, by omega⟩
        rw [show e9 + 9 - 9 = e9 by omega] at p1 p2 P3
        have h9' : (0 : Int) < (e9 : Int) := by omega
        rw [Int.natCast_add, show ((9 : Nat) : Int) = 9 from rfl] at he hpos hi9 ⊢
        have q5 : 0 < e9 := by omega
        have q2 : (0 : Int) ≤ (e9 : Int) + 9 := by omega
        have q3 : (e9 : Int) ≤ (e9 : Int) + 9 := by omega
        have q4 : ((e9 : Int) + 9).toNat = e9 + 9 := by omega
        have q1 : IntKind.i64.wrap (e9 : Int) = e9 := IntWalk.i64_in _ (by omega)
        go_wp2
        go_still_tail 15, (by kernel_rfl)
        refine wpStill_step (fun K hK => ?_)
        go_simp
        refine ⟨_, word_still _ _ p1 p2 P3.out, ?_⟩
        refine hK _ ?_
        clear hK K
        repeat still_step
        refine wpStill_nil ?_
        change wpList _ _ _ _ _ wr.drew
        go_wp2
        have Hgk := Hgk.out; have Hi := Hi.out
        go_roundg (e9 + 9)
        case measure => omega
        case rel =>
          refine ⟨k + 1, _, rfl, by omega, by omega, by omega, ?_, ((hkp.setCell (.inl (by simp)) _).setCell (.inl (by simp)) _).drew⟩
          rw [← mix_set]; exact ((hn.setW (by omega) _).setC' (by omega)).drew
      · rw [show e - 9 = 0 by omega] at p1 p2 P3
        have h9' : (e : Int) ≤ 9 := by omega
        clear h9
        have q6 : ¬ (0 : Int) < (e : Int) - 9 := by omega
        have q1 : IntKind.i64.wrap ((e : Int) - 9) = (e : Int) - 9 := IntWalk.i64_in _ (by omega)
        go_wp2
        go_still_tail 15, (by kernel_rfl)
        refine wpStill_step (fun K hK => ?_)
        go_simp
        rw [if_neg (show ¬ (9 : Int) < (e : Int) by omega)]
        go_simp
        refine hK _ ?_
        clear hK K
        repeat still_step
        refine wpStill_step (fun K hK => ?_)
        go_simp
        refine ⟨_, word_still _ _ p1 p2 P3.out, ?_⟩
        refine hK _ ?_
        clear hK K
        repeat still_step
        refine wpStill_nil ?_
        change wpList _ _ _ _ _ wr.drew
        go_wp2
        have Hgk := Hgk.out; have Hi := Hi.out
        go_roundg e
        case measure => omega
        case rel =>
          refine ⟨k + 1, _, rfl, by omega, by omega, by omega, ?_, ((hkp.setCell (.inl (by simp)) _).setCell (.inl (by simp)) _).drew⟩
          rw [← mix_set]; exact ((hn.setW (by omega) _).setC' (by omega)).drew
    · go_wp2_with fail
      have hlen : d.data.toList.length = d.size := (Lib.size_eq d).symm
      have hX : valN d.data.toList < B9 ^ k := dec_val_lt hd k (by omega)
      refine (trim_num g k (valN d.data.toList) _ _ _ hn (by omega) hX (fun i _ => ?_)).mono ?_
      · by_cases h2 : i < k
        · rw [mix_lt _ _ h2]
        · rw [mix_ge _ _ (by omega), wd_of_lt (Nat.lt_of_lt_of_le hX (pow_le (by omega)))]
      rintro e w' ⟨rfl, hnum, hkp'⟩
      rw [hlt.out] at hnum
      go_wp2
      go_end0
      exact ⟨rfl, hnum, hkp.trans hkp'⟩
end Go.Proofs.YtiommpdbbpddpaaGreat
