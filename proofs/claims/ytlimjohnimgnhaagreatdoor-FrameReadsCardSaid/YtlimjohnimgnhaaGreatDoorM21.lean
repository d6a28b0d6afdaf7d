/- Texts Up6: each says in its own first comment what it proves. -/
import Derived.Test.YtlimjohnimgnhaaGreatDoorM37
import Derived.Test.YtlimjohnimgnhaaGreatDoorM22
import Derived.Test.YtlimjohnimgnhaaGreatDoorM35
import Derived.Test.YtlimjohnimgnhaaGreatDoorShelf
import Derived.CallsIn
/- Frames: Datums. -/
namespace Go.Proofs.YtlimjohnimgnhaaGreatDoor
open Go.RowKit

/-- a slice of texts -/
def SlS (w : World) (v : Value) (ss : List (List UInt8)) : Prop := Sl [] 1 w v (ss.map fun x => [encStr x])
theorem SlS.kb {w w' : World} {v : Value} {ss : List (List UInt8)} (h : SlS w v ss) (k : Kb w w') : SlS w' v ss := Sl.kb h k
theorem SlS.alloc {w : World} {v : Value} {ss : List (List UInt8)} (h : SlS w v ss) (o : Obj) : SlS (w.alloc o) v ss := h.kb ((Kb.refl _).alloc o)
theorem SlS.drew {w : World} {v : Value} {ss : List (List UInt8)} (h : SlS w v ss) : SlS w.drew v ss := h.kb (show Kb w w.drew from (Kb.refl _).drew)
theorem SlS.nil (w : World) : SlS w (.slice none 0 0) [] := ⟨none, 0, rfl, fun h => absurd h (by simp)⟩
theorem flat_str (ss : List (List UInt8)) : (ss.map fun x => [encStr x]).flatten = ss.map encStr := by
  induction ss with
  | nil => rfl
  | cons s ss ih => rw [List.map_cons, List.flatten_cons, ih]; rfl
theorem own_slS {base l : Nat} {w : World} {v : Value} {ss : List (List UInt8)} (h : w.ownsRow base 9 1 v l (ss.map encStr)) (hl : l = ss.length) : SlU base 1 w v (ss.map fun x => [encStr x]) := by
  rw [← flat_str] at h
  exact own_slU h (by simpa using hl) (fun r hr => by obtain ⟨x, _, rfl⟩ := List.mem_map.1 hr; rfl)
theorem nmL_pre {fs : List FrT} {i : Nat} {f : FrT} (h : fs[i]? = some f) : (nmL (fs.take i)).length + f.ds.length ≤ (nmL fs).length := by
  have h1 := nmL_take h
  have h2 : nmL fs = nmL (fs.take (i + 1)) ++ nmL (fs.drop (i + 1)) := by
    unfold nmL; rw [← List.flatMap_append, List.take_append_drop]
  have h3 := congrArg List.length h1
  have h4 := congrArg List.length h2
  rw [List.length_append] at h3 h4
  have h5 : (nmD f.ds).length = f.ds.length := by unfold nmD; simp
  omega
theorem nmD_len (ds : List DatT) (j : Nat) : (nmD (ds.take j)).length ≤ ds.length := by unfold nmD; simp; omega
set_option maxRecDepth 100000 in
theorem fDatA {w0 : World} (n : ByteArray) (k a x y z lo hi : Int) (fp : Option Addr) (fl fc : Nat) (e : Int) (he : (e != 0) = true) (q1 : Cf w0 19 #[.agg #[.string n, .int .i64 k, .int .i64 a, .int .i64 x, .int .i64 y, .int .i64 z, .int .i64 lo, .int .i64 hi, .slice fp fl fc]] (.int .i64 e)) (w : World) (gl : Gf w0 w) : Calls Tryz.prog 17 #[.agg #[.string n, .int .i64 k, .int .i64 a, .int .i64 x, .int .i64 y, .int .i64 z, .int .i64 lo, .int .i64 hi, .slice fp fl fc]] w fun r W' => r = .returned (.tuple #[.slice none 0 0, .int .i64 e]) ∧ Kb w W' := by
  have i1 := Is.made w #[.string n, .int .i64 k, .int .i64 a, .int .i64 x, .int .i64 y, .int .i64 z, .int .i64 lo, .int .i64 hi, .slice fp fl fc] 28
  have k0 := (Kb.refl w).alloc (.cells #[.string n, .int .i64 k, .int .i64 a, .int .i64 x, .int .i64 y, .int .i64 z, .int .i64 lo, .int .i64 hi, .slice fp fl fc] 28 (0, 0))
  have g0 := i1.c (i := 0) rfl
  have g1 := i1.c (i := 1) rfl
  have g2 := i1.c (i := 2) rfl
  have g3 := i1.c (i := 3) rfl
  have g4 := i1.c (i := 4) rfl
  have g5 := i1.c (i := 5) rfl
  have g6 := i1.c (i := 6) rfl
  have g7 := i1.c (i := 7) rfl
  have g8 := i1.c (i := 8) rfl
  go_enter Tryz.func17, Tryz.ntmps17
  go_wp2_with fail
  refine (q1.out _ (gl.kb k0)).mono ?_
  rintro r w1 ⟨rfl, k1⟩
  replace i1 := i1.kb k1
  replace k0 := k0.trans k1
  clear g0 g1 g2 g3 g4 g5 g6 g7 g8
  clear q1
  go_wp2
  go_ret2
  exact ⟨rfl, k0⟩
theorem kb_up {a w x : World} {b : Nat} (k : Kb a w) (g : w.grownBy x (some b)) (hb : a.heap.size ≤ b) : Kb a x := kb_some k g hb
set_option maxRecDepth 100000 in
theorem sorted_end {base mb nn : Nat} {wr : World} {L : List (List UInt8)} (ho : wr.ownsMap Tryz.prog 9 (plainElem (H := Unit) Tryz.prog 4) mb nn (setN L)) (hL : L.length ≤ 100000) (hb : base ≤ wr.heap.size) : Calls Tryz.prog 54 #[.func (.func 98) #[] #[.pointer (some ⟨wr.heap.size, 0, none⟩)]] (wr.alloc (.cells #[.map (some mb)] 89)) fun r W' => (∃ v, r = .returned v ∧ SlU base 1 W' v ((srt L).map fun x => [encStr x])) ∧ Kb (wr.alloc (.cells #[.map (some mb)] 89)) W' := by
  have hz := setN_size L
  refine ((callsIn_wide (n := 5)).1 (Tryz.slices_Sorted_keys_54_55 mb nn (setN L) _ wr ho (by unfold maxLen; omega) (by omega))).mono ?_
  rintro r W' ⟨v, ss, rfl, hp, hrow, _, hbl⟩
  have hs := ss_srt ho law_str Tryz.underlying9 hp
  have hlen : ss.length = (srt L).length := by rw [← hs]; exact (List.length_mergeSort ss).symm
  refine ⟨⟨v, rfl, ?_⟩, hbl⟩
  have h2 : W'.ownsRow (wr.alloc (.cells #[.map (some mb)] 89)).heap.size 9 1 v ss.length ((srt L).map encStr) := by rw [← hs]; exact hrow
  exact (own_slS h2 hlen).mono (by simp; omega)
set_option maxRecDepth 100000 in
set_option maxHeartbeats 8000000 in
theorem fDatD {w0 : World} (n : ByteArray) (k a x y z lo hi : Int) (b off fl fc : Nat) (fs : List FrT) (hf0 : FrP w0 (.slice (some ⟨b, off, none⟩) fl fc) fs) (hz0 : ∀ f ∈ fs, ∀ d ∈ f.ds, d.1.size ≤ 1000000) (hN : (nmL fs).length ≤ 1000) (hF : fl ≤ 1000) (q1 : Cf w0 19 #[.agg #[.string n, .int .i64 k, .int .i64 a, .int .i64 x, .int .i64 y, .int .i64 z, .int .i64 lo, .int .i64 hi, .slice (some ⟨b, off, none⟩) fl fc]] (.int .i64 0)) (w : World) (gl : Gf w0 w) : Calls Tryz.prog 17 #[.agg #[.string n, .int .i64 k, .int .i64 a, .int .i64 x, .int .i64 y, .int .i64 z, .int .i64 lo, .int .i64 hi, .slice (some ⟨b, off, none⟩) fl fc]] w fun r W' => (∃ v, r = .returned (.tuple #[v, .int .i64 0]) ∧ SlU w.heap.size 1 W' v ((srt (nmL fs)).map fun x => [encStr x])) ∧ Kb w W' := by
  have HF := Lib.hid hf0
  have HZ := Lib.hid hz0
  have HL := Lib.hid hf0.len
  have HG := Lib.hid gl
  have HN := Lib.hid hN
  clear hf0 hz0 hN
  have i1 := Is.made w #[.string n, .int .i64 k, .int .i64 a, .int .i64 x, .int .i64 y, .int .i64 z, .int .i64 lo, .int .i64 hi, .slice (some ⟨b, off, none⟩) fl fc] 28
  have k0 := (Kb.refl w).alloc (.cells #[.string n, .int .i64 k, .int .i64 a, .int .i64 x, .int .i64 y, .int .i64 z, .int .i64 lo, .int .i64 hi, .slice (some ⟨b, off, none⟩) fl fc] 28 (0, 0))
  have g0 := i1.c (i := 0) rfl
  have g1 := i1.c (i := 1) rfl
  have g2 := i1.c (i := 2) rfl
  have g3 := i1.c (i := 3) rfl
  have g4 := i1.c (i := 4) rfl
  have g5 := i1.c (i := 5) rfl
  have g6 := i1.c (i := 6) rfl
  have g7 := i1.c (i := 7) rfl
  have g8 := i1.c (i := 8) rfl
  go_enter Tryz.func17, Tryz.ntmps17
  go_wp2_with fail
  refine (q1.out _ (gl.kb k0)).mono ?_
  rintro r w1 ⟨rfl, k1⟩
  replace i1 := i1.kb k1
  replace k0 := k0.trans k1
  clear g0 g1 g2 g3 g4 g5 g6 g7 g8
  clear q1 gl
  have c8 := i1.c (i := 8) rfl
  have ho := World.ownsMap_made w1 Tryz.prog 9 (plainElem (H := Unit) Tryz.prog 4)
  have c8' := cell_al c8 (.map #[] 0)
  replace i1 := i1.alloc (.map #[] 0)
  have k2 := k0.alloc (.map #[] 0)
  have hmb := k0.size
  have h1b := i1.lt
  go_wp2_with (first | (refine wpList_makeMap_own _ rfl _ rfl ?_) | fail)
  clear c8 c8'
  have ho2 : (w1.alloc (.map #[] 0)).ownsMap Tryz.prog 9 (plainElem (H := Unit) Tryz.prog 4) w1.heap.size 0 (setN (nmL (fs.take 0))) := ho
  clear ho
  have hne1 : w.heap.size ≠ w1.heap.size := by simp at h1b; have := k1.size; simp at this; omega
  clear h1b
  generalize hM : w1.heap.size = mb at *
  generalize w1.alloc (.map #[] 0) = w2 at *
  clear hM k0 k1
  go_loopg [19] fl (fun gk s19 wr => ∃ i : Nat, s19 = .int .i64 i ∧ i + gk = fl ∧ (∃ nn, nn ≤ (nmL (fs.take i)).length ∧ wr.ownsMap Tryz.prog 9 (plainElem (H := Unit) Tryz.prog 4) mb nn (setN (nmL (fs.take i)))) ∧ Is wr w.heap.size #[.string n, .int .i64 k, .int .i64 a, .int .i64 x, .int .i64 y, .int .i64 z, .int .i64 lo, .int .i64 hi, .slice (some ⟨b, off, none⟩) fl fc] 28 ∧ Kb w wr)
  case atStart => exact ⟨0, rfl, by omega, ⟨0, Nat.zero_le _, ho2⟩, i1, k2⟩
  case round =>
    clear i1 ho2 k2
    obtain ⟨i, rfl, hi, ⟨nn, hnn, ho⟩, i1, kk⟩ := hrel
    have hi0 : (0 : Int) ≤ (i : Int) := by omega
    by_cases hlt : i < fl
    · have hil : (i : Int) < (fl : Int) := by omega
      obtain ⟨f, hfi⟩ : ∃ f, fs[i]? = some f := ⟨_, List.getElem?_eq_getElem (by have := HL.out; omega)⟩
      obtain ⟨q, m, e, hcells, hds, _⟩ := HF.out.get hfi
      obtain ⟨y0, y1, y2, y3, y4⟩ := hcells wr (HG.out.kb kk).at0
      have HFI := Lib.hid hfi
      have HD := Lib.hid hds
      have HM := Lib.hid hds.len
      have HZF := Lib.hid (HZ.out f (List.mem_of_getElem? hfi))
      have HP := Lib.hid (nmL_pre hfi)
      have hmB : m ≤ 1000 := by have h1 := HP.out; have h2 := HN.out; have h3 := HM.out; omega
      have Hi := Lib.hid hi
      clear hcells hds hfi hi
      have d3 := (Is.made wr #[.int .i64 f.k, .bool f.d, .int .i64 f.t, .int .i64 f.m, .slice q m e] 31).c (i := 4) rfl
      have j1 := i1.alloc (.cells #[.int .i64 f.k, .bool f.d, .int .i64 f.t, .int .i64 f.m, .slice q m e] 31 (0, 0))
      have jo := ho.alloc (.cells #[.int .i64 f.k, .bool f.d, .int .i64 f.t, .int .i64 f.m, .slice q m e] 31 (0, 0))
      have jk := kk.alloc (.cells #[.int .i64 f.k, .bool f.d, .int .i64 f.t, .int .i64 f.m, .slice q m e] 31 (0, 0))
      have jo2 : (wr.alloc (.cells #[.int .i64 f.k, .bool f.d, .int .i64 f.t, .int .i64 f.m, .slice q m e] 31 (0, 0))).ownsMap Tryz.prog 9 (plainElem (H := Unit) Tryz.prog 4) mb nn (setN (nmL (fs.take i) ++ nmD (f.ds.take 0))) := by
        rw [show nmD (f.ds.take 0) = [] from rfl, List.append_nil]; exact jo
      clear ho jo i1 kk
      go_wp2
      clear y0 y1 y2 y3 y4 d3
      rename_i gi _ _
      generalize wr.alloc (.cells #[.int .i64 f.k, .bool f.d, .int .i64 f.t, .int .i64 f.m, .slice q m e] 31 (0, 0)) = w3 at *
      go_loopg [26] m (fun gk s26 wr => ∃ j : Nat, s26 = .int .i64 j ∧ j + gk = m ∧ (∃ nn, nn ≤ (nmL (fs.take i)).length + j ∧ wr.ownsMap Tryz.prog 9 (plainElem (H := Unit) Tryz.prog 4) mb nn (setN (nmL (fs.take i) ++ nmD (f.ds.take j)))) ∧ Is wr w.heap.size #[.string n, .int .i64 k, .int .i64 a, .int .i64 x, .int .i64 y, .int .i64 z, .int .i64 lo, .int .i64 hi, .slice (some ⟨b, off, none⟩) fl fc] 28 ∧ Kb w wr)
      case atStart => exact ⟨0, rfl, by omega, ⟨nn, by omega, jo2⟩, j1, jk⟩
      case round =>
        clear j1 jo2 jk
        obtain ⟨j, rfl, hj, ⟨n2, hn2, ho⟩, j1, jk⟩ := hrel
        have hj0 : (0 : Int) ≤ (j : Int) := by omega
        by_cases hjm : j < m
        · have hjl : (j : Int) < (m : Int) := by omega
          obtain ⟨⟨s, c⟩, hdj⟩ : ∃ d, f.ds[j]? = some d := ⟨_, List.getElem?_eq_getElem (by have := HM.out; omega)⟩
          obtain ⟨b2, off2, rfl, hat⟩ := HD.out.at (by omega)
          obtain ⟨z0, z1⟩ := hat j _ hdj
          have hsz := HZF.out _ (List.mem_of_getElem? hdj)
          dsimp only at z0 z1 hsz
          replace z0 := (HG.out.kb jk).at0.cell z0
          replace z1 := (HG.out.kb jk).at0.cell z1
          have hT := nmD_take hdj
          dsimp only at hT
          have Hj := Lib.hid hj
          have HT := Lib.hid hT
          clear hdj hat hj hT
          have e3 := (Is.made wr #[.string s, .int .i64 c] 76).c (i := 0) rfl
          have l1 := j1.alloc (.cells #[.string s, .int .i64 c] 76 (0, 0))
          have lo_ := ho.alloc (.cells #[.string s, .int .i64 c] 76 (0, 0))
          have lk := jk.alloc (.cells #[.string s, .int .i64 c] 76 (0, 0))
          have hmx : n2 < maxLen := by have h1 := HP.out; have h2 := HN.out; have h3 := HM.out; unfold maxLen; omega
          clear ho j1 jk
          go_wp2_with (first | (refine wpList_mapUpdate_own _ rfl _ _ _ 89 rfl 9 4 law_str Tryz.underlying89 _ mb n2 _ rfl lo_ hmx (.string s) (.bool true) (.string s.data.toList) rfl rfl (Go.WideMaps.keyOf_string_mk Tryz.underlying9 (by unfold maxLen; omega)) (.lit (.bool true)) [] (plainElem_bool Tryz.underlying4 true) ?_) | fail)
          intro w4 ho4 hg4
          have l2 := l1.grown hg4 (by intro e; injection e with e; omega)
          have lk2 := kb_up lk hg4 hmb
          clear lo_ l1 lk hg4 e3 z0 z1
          rw [← setN_snoc, List.append_assoc, ← HT.out] at ho4
          go_wp2
          have hj := Hj.out
          go_roundg (gk - 1)
          case measure => omega
          case rel => exact ⟨j + 1, by go_num, by omega, ⟨n2 + 1, by omega, ho4⟩, l2, lk2⟩
        · obtain rfl : j = m := by omega
          have hW : nmL (fs.take i) ++ nmD (f.ds.take j) = nmL (fs.take (i + 1)) := by
            have hW0 : f.ds.take j = f.ds := List.take_of_length_le (by have := HM.out; omega)
            rw [nmL_take HFI.out, hW0]
          rw [hW] at ho
          have hlen : n2 ≤ (nmL (fs.take (i + 1))).length := by
            have := congrArg List.length (nmL_take HFI.out)
            rw [List.length_append] at this
            have h5 : (nmD f.ds).length = f.ds.length := by unfold nmD; simp
            have h6 := HM.out
            omega
          clear hW hj
          go_wp2
          have hi := Hi.out
          go_roundg (fl - i - 1)
          case measure => omega
          case rel => exact ⟨i + 1, by go_num, by omega, ⟨n2, hlen, ho⟩, j1, jk⟩
    · obtain rfl : i = fl := by omega
      rw [List.take_of_length_le (by have := HL.out; omega)] at ho
      have hend := Lib.hid (sorted_end (base := w.heap.size) ho (by have := HN.out; omega) kk.size)
      clear hi hnn ho i1
      go_wp2_with fail
      refine ((callsIn_wide (n := 5)).1 (Tryz.maps_Keys_55 (some mb) wr)).mono ?_
      rintro r w5 ⟨rfl, rfl⟩
      go_wp2_with fail
      refine hend.out.mono ?_
      rintro r w6 ⟨⟨v, rfl, hv⟩, k6⟩
      go_wp2
      go_ret2
      exact ⟨⟨v, rfl, hv⟩, (kk.alloc _).trans k6⟩
end Go.Proofs.YtlimjohnimgnhaaGreatDoor
