/- Texts Qg5, Qg6: each says in its own first comment what it proves. -/
import Derived.Test.YtlimjohnimgnhaaGreatDoorM28
import Derived.Test.YtlimjohnimgnhaaGreatDoorM43
/- Features: lists of frames in memory; the reference's Few. -/
namespace Go.Proofs.YtlimjohnimgnhaaGreatDoor
open Go.RowKit

abbrev DatT : Type := ByteArray × Int
structure FrT where
  k : Int
  d : Bool
  t : Int
  m : Int
  ds : List DatT
def datRow : DatT → List Value | (s, m) => [.string s, .int .i64 m]
def DatS (w : World) (v : Value) (ds : List DatT) : Prop := Sl [] 2 w v (ds.map datRow)
def frRow (f : FrT) (v : Value) : List Value := [.int .i64 f.k, .bool f.d, .int .i64 f.t, .int .i64 f.m, v]
def FrS (w : World) (v : Value) (fs : List FrT) : Prop := ∃ vs : List Value, vs.length = fs.length ∧ Sl [] 5 w v (List.zipWith frRow fs vs) ∧ ∀ i f, fs[i]? = some f → DatS w (vs.getD i undef) f.ds
theorem DatS.kx {w w' : World} {v : Value} {ds : List DatT} (h : DatS w v ds) (k : Kx [] w w') : DatS w' v ds := Sl.kx h k
theorem FrS.kx {w w' : World} {v : Value} {fs : List FrT} (h : FrS w v fs) (k : Kx [] w w') (_ : True := trivial) : FrS w' v fs := by
  obtain ⟨vs, h1, h2, h3⟩ := h
  exact ⟨vs, h1, h2.kx k, fun i f hf => (h3 i f hf).kx k⟩
theorem FrS.kb {w w' : World} {v : Value} {fs : List FrT} (h : FrS w v fs) (k : Kb w w') : FrS w' v fs := h.kx k.kx
theorem FrS.alloc {w : World} {v : Value} {fs : List FrT} (h : FrS w v fs) (o : Obj) : FrS (w.alloc o) v fs := h.kb ((Kb.refl _).alloc o)
theorem FrS.drew {w : World} {v : Value} {fs : List FrT} (h : FrS w v fs) : FrS w.drew v fs := h.kb (show Kb w w.drew from (Kb.refl _).drew)
/-- what lies where -/
theorem FrS.len {w : World} {p : Option Addr} {l c : Nat} {fs : List FrT} (h : FrS w (.slice p l c) fs) : l = fs.length := by
  obtain ⟨vs, h1, ⟨q, cap, h2, _⟩, _⟩ := h
  injection h2 with _ e _
  rw [e]
  simp [h1]
theorem FrS.at {w : World} {p : Option Addr} {l c : Nat} {fs : List FrT} (h : FrS w (.slice p l c) fs) (hp : 0 < l) : ∃ b off, p = some ⟨b, off, none⟩ ∧ ∀ i f, fs[i]? = some f →
    ∃ q m e, w.cell? ⟨b, off + i * 5, none⟩ = some (.int .i64 f.k) ∧ w.cell? ⟨b, off + i * 5 + 1, none⟩ = some (.bool f.d) ∧ w.cell? ⟨b, off + i * 5 + 2, none⟩ = some (.int .i64 f.t) ∧ w.cell? ⟨b, off + i * 5 + 3, none⟩ = some (.int .i64 f.m) ∧ w.cell? ⟨b, off + i * 5 + 4, none⟩ = some (.slice q m e) ∧ DatS w (.slice q m e) f.ds := by
  have hl := h.len
  obtain ⟨vs, h1, ⟨q, cap, h2, h3⟩, h4⟩ := h
  injection h2 with e1 _ _
  subst e1
  obtain ⟨b, off, g1, _, _, g4⟩ := h3 (by simp [h1]; omega)
  refine ⟨b, off, g1, fun i f hf => ?_⟩
  have hi : i < fs.length := (List.getElem?_eq_some_iff.1 hf).1
  have hv := h4 i f hf
  have hv2 := hv
  obtain ⟨q, e, hq, _⟩ := hv2
  have hz : (List.zipWith frRow fs vs).getD i [] = frRow f (vs.getD i undef) := by
    have hvi : i < vs.length := by omega
    rw [List.getD_eq_getElem?_getD, List.getElem?_zipWith, hf, List.getElem?_eq_getElem hvi, List.getD_eq_getElem?_getD, List.getElem?_eq_getElem hvi]
    rfl
  have c := fun j hj => g4 i (by simp [h1]; omega) j hj
  rw [hz] at c
  rw [hq] at hv c
  exact ⟨q, _, e, c 0 (by omega), c 1 (by omega), c 2 (by omega), c 3 (by omega), c 4 (by omega), hv⟩
theorem DatS.len {w : World} {p : Option Addr} {l c : Nat} {ds : List DatT} (h : DatS w (.slice p l c) ds) : l = ds.length := by
  obtain ⟨q, cap, h2, _⟩ := h
  injection h2 with _ e _
  rw [e]
  simp
theorem DatS.at {w : World} {p : Option Addr} {l c : Nat} {ds : List DatT} (h : DatS w (.slice p l c) ds) (hp : 0 < l) : ∃ b off, p = some ⟨b, off, none⟩ ∧ ∀ i d, ds[i]? = some d → w.cell? ⟨b, off + i * 2, none⟩ = some (.string d.1) ∧ w.cell? ⟨b, off + i * 2 + 1, none⟩ = some (.int .i64 d.2) := by
  have hl := h.len
  obtain ⟨q, cap, h2, h3⟩ := h
  injection h2 with e1 _ _
  subst e1
  obtain ⟨b, off, g1, _, _, g4⟩ := h3 (by simp; omega)
  refine ⟨b, off, g1, fun i d hd => ?_⟩
  have hi : i < ds.length := (List.getElem?_eq_some_iff.1 hd).1
  have hz : (ds.map datRow).getD i [] = datRow d := by
    rw [List.getD_eq_getElem?_getD, List.getElem?_map, hd]; rfl
  have c := fun j hj => g4 i (by simp; omega) j hj
  rw [hz] at c
  exact ⟨c 0 (by omega), c 1 (by omega)⟩
/-- few frames with few datums, and short names -/
def fewN (s : ByteArray) : Bool := decide (s.size ≤ 100)
def fewD (ds : List DatT) : Bool := ds.all fun d => fewN d.1
def fewF (f : FrT) : Bool := decide (f.ds.length ≤ 6) && fewD f.ds
def fewB (s : ByteArray) (fs : List FrT) : Bool := fewN s && decide (fs.length ≤ 12) && fs.all fewF
theorem all_drop {α : Type} {p : α → Bool} {l : List α} {i : Nat} {x : α} (h : l[i]? = some x) : (l.drop i).all p = (p x && (l.drop (i + 1)).all p) := by
  obtain ⟨hi, rfl⟩ := List.getElem?_eq_some_iff.1 h
  rw [List.drop_eq_getElem_cons hi, List.all_cons]
set_option maxRecDepth 100000 in
set_option maxHeartbeats 4000000 in
theorem rFew (n : ByteArray) (k a x y z lo hi : Int) (fp : Option Addr) (fl fc : Nat) (fs : List FrT) (w : World) (hfr : FrS w (.slice fp fl fc) fs) : Calls Tryz.prog 10 #[.agg #[.string n, .int .i64 k, .int .i64 a, .int .i64 x, .int .i64 y, .int .i64 z, .int .i64 lo, .int .i64 hi, .slice fp fl fc]] w fun r W' => r = .returned (.bool (fewB n fs)) ∧ Kb w W' := by
  have kx := (Kb.refl w).alloc (.cells #[.string n, .int .i64 k, .int .i64 a, .int .i64 x, .int .i64 y, .int .i64 z, .int .i64 lo, .int .i64 hi, .slice fp fl fc] 28 (0, 0))
  have b0 := Is.made w #[.string n, .int .i64 k, .int .i64 a, .int .i64 x, .int .i64 y, .int .i64 z, .int .i64 lo, .int .i64 hi, .slice fp fl fc] 28
  have hf := hfr.alloc (.cells #[.string n, .int .i64 k, .int .i64 a, .int .i64 x, .int .i64 y, .int .i64 z, .int .i64 lo, .int .i64 hi, .slice fp fl fc] 28 (0, 0))
  have hlen := hfr.len
  clear hfr
  have c0 := b0.c (i := 0) rfl
  have c8 := b0.c (i := 8) rfl
  clear b0
  by_cases h1 : 100 < (n.size : Int)
  · have hE : Hid (fewB n fs = false) := by unfold fewB fewN; rw [decide_eq_false (by omega)]; rfl
    clear hf hlen
    go_enter Tryz.func10, Tryz.ntmps10
    go_wp2
    go_ret
    exact ⟨by rw [hE.out]; rfl, kx⟩
  · by_cases h2 : 12 < (fl : Int)
    · have hE : Hid (fewB n fs = false) := by unfold fewB; rw [decide_eq_false (show ¬ fs.length ≤ 12 by omega), Bool.and_false, Bool.false_and]; exact Lib.hid rfl
      clear hf hlen
      go_enter Tryz.func10, Tryz.ntmps10
      go_wp2
      go_ret
      exact ⟨by rw [hE.out]; rfl, kx⟩
    · have H0 : Hid (fewB n fs = (fs.drop 0).all fewF) := by
        show fewB n fs = _
        unfold fewB fewN
        rw [decide_eq_true (by omega), decide_eq_true (show fs.length ≤ 12 by omega)]; rfl
      have HF := Lib.hid hf
      have HL := Lib.hid hlen
      have HE : Hid ((fs.drop fl).all fewF = true) := by show _ = _; rw [List.drop_of_length_le (by omega)]; rfl
      clear hf hlen
      generalize hW : w.alloc (.cells #[.string n, .int .i64 k, .int .i64 a, .int .i64 x, .int .i64 y, .int .i64 z, .int .i64 lo, .int .i64 hi, .slice fp fl fc] 28 (0, 0)) = W at *
      go_enter Tryz.func10, Tryz.ntmps10
      go_wp2
      clear hW
      go_loopg [3] fl (fun gk s3 wr => ∃ i : Nat, s3 = .int .i64 i ∧ i + gk = fl ∧ Hid (fewB n fs = (fs.drop i).all fewF) ∧ W = wr)
      case atStart => exact ⟨0, rfl, by omega, H0, rfl⟩
      case round =>
        obtain ⟨i, rfl, hi, hE, rfl⟩ := hrel
        have hi0 : (0 : Int) ≤ (i : Int) := by omega
        by_cases hlt : i < fl
        · obtain ⟨b, off, rfl, hat⟩ := HF.out.at (by omega)
          have hli := HL.out
          obtain ⟨f, hfi⟩ : ∃ f, fs[i]? = some f := ⟨_, List.getElem?_eq_getElem (by omega)⟩
          obtain ⟨q, m, e, _, _, _, _, x4, hd⟩ := hat i f hfi
          have hD := all_drop (p := fewF) hfi
          have hm := hd.len
          have HD := Lib.hid hd
          have Hi := Lib.hid hi
          have Hli := Lib.hid hli
          have Hm := Lib.hid hm
          clear hat hfi hd hli
          by_cases h6 : 6 < (m : Int)
          · have hE2 : Hid (fewB n fs = false) := hE.out.trans (hD.trans (by unfold fewF; rw [decide_eq_false (show ¬ f.ds.length ≤ 6 by omega)]; rfl))
            clear hD hE hi hm
            go_wp2
            go_ret
            exact ⟨by rw [hE2.out]; rfl, kx⟩
          · have hE2 : Hid (fewB n fs = ((f.ds.drop 0).all (fun d => fewN d.1) && (fs.drop (i + 1)).all fewF)) := hE.out.trans (hD.trans (by unfold fewF fewD; rw [decide_eq_true (show f.ds.length ≤ 6 by omega)]; rfl))
            have HE3 : Hid ((f.ds.drop m).all (fun d => fewN d.1) = true) := by show _ = _; rw [List.drop_of_length_le (by omega)]; rfl
            clear hD hE hi hm
            go_wp2
            rename_i gi _ _
            go_loopg [4] m (fun gk s4 wr => ∃ j : Nat, s4 = .int .i64 j ∧ j + gk = m ∧ Hid (fewB n fs = ((f.ds.drop j).all (fun d => fewN d.1) && (fs.drop (i + 1)).all fewF)) ∧ W = wr)
            case atStart => exact ⟨0, rfl, by omega, hE2, rfl⟩
            case round =>
              obtain ⟨j, rfl, hj, hE4, rfl⟩ := hrel
              have hj0 : (0 : Int) ≤ (j : Int) := by omega
              by_cases hjl : j < m
              · obtain ⟨b2, off2, rfl, hat2⟩ := HD.out.at (by omega)
                have hmj := Hm.out
                obtain ⟨d, hdj⟩ : ∃ d, f.ds[j]? = some d := ⟨_, List.getElem?_eq_getElem (by omega)⟩
                obtain ⟨y0, _⟩ := hat2 j d hdj
                have hD2 := all_drop (p := fun d => fewN d.1) hdj
                obtain ⟨nm, mm⟩ := d
                have Hj := Lib.hid hj
                clear hat2 hdj hmj
                by_cases h7 : 100 < (nm.size : Int)
                · have hE5 : Hid (fewB n fs = false) := hE4.out.trans (by rw [hD2]; simp only [fewN]; rw [decide_eq_false (show ¬ nm.size ≤ 100 by omega)]; rfl)
                  clear hD2 hE4 hj
                  go_wp2
                  go_ret
                  exact ⟨by rw [hE5.out]; rfl, kx⟩
                · have hE5 : Hid (fewB n fs = ((f.ds.drop (j + 1)).all (fun d => fewN d.1) && (fs.drop (i + 1)).all fewF)) := hE4.out.trans (by rw [hD2]; simp only [fewN]; rw [decide_eq_true (show nm.size ≤ 100 by omega)]; rfl)
                  clear hD2 hE4 hj
                  go_wp2
                  have hj := Hj.out
                  go_roundg (gk - 1)
                  case measure => omega
                  case rel => exact ⟨j + 1, by go_num, by omega, hE5, rfl⟩
              · obtain rfl : j = m := by omega
                have hE5 : Hid (fewB n fs = (fs.drop (i + 1)).all fewF) := hE4.out.trans (by rw [HE3.out]; rfl)
                clear hE4 HE3 hj
                go_wp2
                have hi := Hi.out
                go_roundg (fl - i - 1)
                case measure => omega
                case rel => exact ⟨i + 1, by go_num, by omega, hE5, rfl⟩
        · obtain rfl : i = fl := by omega
          have hE2 : Hid (fewB n fs = true) := hE.out.trans HE.out
          clear hi hE HE
          go_wp2
          go_ret
          exact ⟨by rw [hE2.out]; rfl, kx⟩
end Go.Proofs.YtlimjohnimgnhaaGreatDoor

/- Features: closed contracts of the program: Check, Inner, Maximum, Least, bounded. -/
namespace Go.Proofs.YtlimjohnimgnhaaGreatDoor
open Go.RowKit

theorem fcheckAxis (c : Int) : Ca 81 #[.int .i64 c] (.int .i64 (axE c)) := by
  have q := fcheckAxis_any c
  have e : (if c < 0 then (Value.int .i64 1) else (if 3 ≤ c then (.int .i64 1) else (.int .i64 0))) = .int .i64 (axE c) := by
    unfold axE fE
    by_cases h1 : c < 0
    · simp [h1]
    · by_cases h2 : 3 ≤ c <;> simp [h1, h2]
  rw [e] at q; exact q
theorem fcheckPlace (x y z : Int) : Ca 83 #[.agg #[.int .i64 x, .int .i64 y, .int .i64 z]] (.int .i64 (plE x y z)) := by
  have q := fcheckPlace_any x y z
  have hx : ∀ u : Int, inR u = (!(decide (u < -100000)) && !(decide (100000 < u))) := fun u => by
    unfold inR
    by_cases h1 : u < -100000 <;> by_cases h2 : 100000 < u <;> simp [h1, h2] <;> omega
  have e : (if x < (-100000) then (Value.int .i64 2) else (if 100000 < x then (.int .i64 2) else (if y < (-100000) then (.int .i64 2) else (if 100000 < y then (.int .i64 2) else (if z < (-100000) then (.int .i64 2) else (if 100000 < z then (.int .i64 2) else (.int .i64 0))))))) = .int .i64 (plE x y z) := by
    unfold plE fE
    rw [hx, hx, hx]
    by_cases h1 : x < -100000
    · simp [h1]
    by_cases h2 : 100000 < x
    · simp [h1, h2]
    by_cases h3 : y < -100000
    · simp [h1, h2, h3]
    by_cases h4 : 100000 < y
    · simp [h1, h2, h3, h4]
    by_cases h5 : z < -100000
    · simp [h1, h2, h3, h4, h5]
    by_cases h6 : 100000 < z <;> simp [h1, h2, h3, h4, h5, h6]
  rw [e] at q; exact q
theorem fcheckSize (n : ByteArray) (k a x y z lo hi : Int) (fp : Option Addr) (fl fc : Nat) : Ca 85 #[.agg #[.string n, .int .i64 k, .int .i64 a, .int .i64 x, .int .i64 y, .int .i64 z, .int .i64 lo, .int .i64 hi, .slice fp fl fc]] (.int .i64 (szE k lo hi)) := by
  have q := fcheckSize_any n k a x y z lo hi fp fl fc _ (dCheck lo hi)
  have e : (if (k == 0) = true then (if (lo == 0) = true then (if (hi == 0) = true then (Value.int .i64 0) else (.int .i64 3)) else (.int .i64 3)) else (.int .i64 (firstE [firstE [lmE lo hi], fE (decide (lo < 1)) 2]))) = .int .i64 (szE k lo hi) := by
    unfold szE
    by_cases h0 : k = 0
    · by_cases h1 : lo = 0
      · rcases Bool.eq_false_or_eq_true (hi == 0) with h2 | h2 <;> simp [h0, h1, h2] <;> decide
      · have h1' : (lo == 0) = false := by simpa using h1
        simp [h0, h1']; decide
    · simp [h0]
  rw [e] at q; exact q
theorem fCheck (n : ByteArray) (k a x y z lo hi : Int) (fp : Option Addr) (fl fc : Nat) (hn : n.size ≤ 1000000) : Ca 41 #[.agg #[.string n, .int .i64 k, .int .i64 a, .int .i64 x, .int .i64 y, .int .i64 z, .int .i64 lo, .int .i64 hi, .slice fp fl fc]] (.int .i64 (ftE n k a x y z lo hi)) :=
  fCheck_any n k a x y z lo hi fp fl fc _ _ _ _ (fcheckSize n k a x y z lo hi fp fl fc) (dName n hn) (fcheckAxis a) (fcheckPlace x y z)


theorem ft_k {n : ByteArray} {k a x y z lo hi : Int} (h : ftE n k a x y z lo hi = 0) : 0 ≤ k ∧ k < 5 := by
  unfold ftE at h
  by_cases e1 : nmE n = 0
  · rw [e1, firstE_one, fst_0] at h
    by_cases h1 : k < 0
    · rw [decide_eq_true h1, Bool.true_or, fE_t, fst_e (by decide)] at h; cases h
    · by_cases h2 : 5 ≤ k
      · rw [decide_eq_true h2, Bool.or_true, fE_t, fst_e (by decide)] at h; cases h
      · omega
  · rw [firstE_one, fst_e e1] at h; exact absurd h e1
theorem b_ne {e : Int} (h : (e != 0) = false) : e = 0 := by simpa using h
theorem five {k : Int} (h : 0 ≤ k ∧ k < 5) : k = 0 ∨ k = 1 ∨ k = 2 ∨ k = 3 ∨ k = 4 := by omega
theorem fInner (n : ByteArray) (k a x y z lo hi : Int) (fp : Option Addr) (fl fc : Nat) (hn : n.size ≤ 1000000) : Cg 32 #[.agg #[.string n, .int .i64 k, .int .i64 a, .int .i64 x, .int .i64 y, .int .i64 z, .int .i64 lo, .int .i64 hi, .slice fp fl fc]] (.tuple #[.bool (if (ftE n k a x y z lo hi) = 0 then holB k else false), .int .i64 (ftE n k a x y z lo hi)]) := by
  have q := fInner_any n k a x y z lo hi fp fl fc _ (fCheck n k a x y z lo hi fp fl fc hn) (fun h => ft_k (b_ne h))
  generalize he : (ftE n k a x y z lo hi) = e at q ⊢
  by_cases h : e = 0
  · subst h
    rw [if_neg (by decide)] at q
    rw [if_pos rfl]
    rcases five (ft_k he) with rfl | rfl | rfl | rfl | rfl <;> exact q
  · rw [if_pos (ne_b h)] at q
    rw [if_neg h]; exact q

theorem fMaximum (n : ByteArray) (k a x y z lo hi : Int) (fp : Option Addr) (fl fc : Nat) (hn : n.size ≤ 1000000) : Cg 101 #[.agg #[.string n, .int .i64 k, .int .i64 a, .int .i64 x, .int .i64 y, .int .i64 z, .int .i64 lo, .int .i64 hi, .slice fp fl fc]] (.tuple #[.int .i64 (zI (szdE (ftE n k a x y z lo hi) k) (if holB k = true then lo else hi)), .int .i64 (szdE (ftE n k a x y z lo hi) k)]) := by
  have q := fsizeT_any n k a x y z lo hi fp fl fc _ (fCheck n k a x y z lo hi fp fl fc hn) (fun h => ft_k (b_ne h))
  have key : ∃ u v, Cg 128 #[.agg #[.string n, .int .i64 k, .int .i64 a, .int .i64 x, .int .i64 y, .int .i64 z, .int .i64 lo, .int .i64 hi, .slice fp fl fc], .bool true] (.tuple #[.int .i64 u, .int .i64 v]) ∧ u = zI (szdE (ftE n k a x y z lo hi) k) (if holB k = true then lo else hi) ∧ v = szdE (ftE n k a x y z lo hi) k := by
    generalize he : (ftE n k a x y z lo hi) = e at q ⊢
    by_cases h : e = 0
    · subst h
      rw [if_neg (by decide)] at q
      rcases five (ft_k he) with rfl | rfl | rfl | rfl | rfl <;> exact ⟨_, _, q, rfl, rfl⟩
    · rw [if_pos (ne_b h)] at q
      unfold szdE
      rw [if_neg h, zI_e h]
      exact ⟨_, _, q, rfl, rfl⟩
  obtain ⟨u, v, h1, rfl, rfl⟩ := key
  exact fMaximum_any n k a x y z lo hi fp fl fc _ _ h1
theorem fLeast (n : ByteArray) (k a x y z lo hi : Int) (fp : Option Addr) (fl fc : Nat) (hn : n.size ≤ 1000000) : Cg 100 #[.agg #[.string n, .int .i64 k, .int .i64 a, .int .i64 x, .int .i64 y, .int .i64 z, .int .i64 lo, .int .i64 hi, .slice fp fl fc]] (.tuple #[.int .i64 (zI (szdE (ftE n k a x y z lo hi) k) (if holB k = true then hi else lo)), .int .i64 (szdE (ftE n k a x y z lo hi) k)]) := by
  have q := fsizeF_any n k a x y z lo hi fp fl fc _ (fCheck n k a x y z lo hi fp fl fc hn) (fun h => ft_k (b_ne h))
  have key : ∃ u v, Cg 128 #[.agg #[.string n, .int .i64 k, .int .i64 a, .int .i64 x, .int .i64 y, .int .i64 z, .int .i64 lo, .int .i64 hi, .slice fp fl fc], .bool false] (.tuple #[.int .i64 u, .int .i64 v]) ∧ u = zI (szdE (ftE n k a x y z lo hi) k) (if holB k = true then hi else lo) ∧ v = szdE (ftE n k a x y z lo hi) k := by
    generalize he : (ftE n k a x y z lo hi) = e at q ⊢
    by_cases h : e = 0
    · subst h
      rw [if_neg (by decide)] at q
      rcases five (ft_k he) with rfl | rfl | rfl | rfl | rfl <;> exact ⟨_, _, q, rfl, rfl⟩
    · rw [if_pos (ne_b h)] at q
      unfold szdE
      rw [if_neg h, zI_e h]
      exact ⟨_, _, q, rfl, rfl⟩
  obtain ⟨u, v, h1, rfl, rfl⟩ := key
  exact fLeast_any n k a x y z lo hi fp fl fc _ _ h1













end Go.Proofs.YtlimjohnimgnhaaGreatDoor
