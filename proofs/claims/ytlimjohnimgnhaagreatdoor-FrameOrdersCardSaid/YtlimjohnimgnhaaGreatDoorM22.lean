/- Texts Qg5: each says in its own first comment what it proves. -/
import Derived.Test.YtlimjohnimgnhaaGreatDoorM07
/- Features: lists of frames in memory; the reference's Few. -/
namespace Go.Proofs.YtlimjohnimgnhaaGreatDoor
open Go.RowKit

abbrev DatT : Type := ByteArray × Int
structure FrT where
  k : Int
  d : Bool
  t : Int
  m : Int
  ds : List DatT
def datRow : DatT → List Value | (s, m) => [.string s, .int .i64 m]
def DatS (w : World) (v : Value) (ds : List DatT) : Prop := Sl [] 2 w v (ds.map datRow)
def frRow (f : FrT) (v : Value) : List Value := [.int .i64 f.k, .bool f.d, .int .i64 f.t, .int .i64 f.m, v]
def FrS (w : World) (v : Value) (fs : List FrT) : Prop := ∃ vs : List Value, vs.length = fs.length ∧ Sl [] 5 w v (List.zipWith frRow fs vs) ∧ ∀ i f, fs[i]? = some f → DatS w (vs.getD i undef) f.ds
theorem DatS.kx {w w' : World} {v : Value} {ds : List DatT} (h : DatS w v ds) (k : Kx [] w w') : DatS w' v ds := Sl.kx h k
theorem FrS.kx {w w' : World} {v : Value} {fs : List FrT} (h : FrS w v fs) (k : Kx [] w w') (_ : True := trivial) : FrS w' v fs := by
  obtain ⟨vs, h1, h2, h3⟩ := h
  exact ⟨vs, h1, h2.kx k, fun i f hf => (h3 i f hf).kx k⟩
theorem FrS.kb {w w' : World} {v : Value} {fs : List FrT} (h : FrS w v fs) (k : Kb w w') : FrS w' v fs := h.kx k.kx
theorem FrS.alloc {w : World} {v : Value} {fs : List FrT} (h : FrS w v fs) (o : Obj) : FrS (w.alloc o) v fs := h.kb ((Kb.refl _).alloc o)
theorem FrS.drew {w : World} {v : Value} {fs : List FrT} (h : FrS w v fs) : FrS w.drew v fs := h.kb (show Kb w w.drew from (Kb.refl _).drew)
/-- what lies where -/
theorem FrS.len {w : World} {p : Option Addr} {l c : Nat} {fs : List FrT} (h : FrS w (.slice p l c) fs) : l = fs.length := by
  obtain ⟨vs, h1, ⟨q, cap, h2, _⟩, _⟩ := h
  injection h2 with _ e _
  rw [e]
  simp [h1]
theorem FrS.at {w : World} {p : Option Addr} {l c : Nat} {fs : List FrT} (h : FrS w (.slice p l c) fs) (hp : 0 < l) : ∃ b off, p = some ⟨b, off, none⟩ ∧ ∀ i f, fs[i]? = some f →
    ∃ q m e, w.cell? ⟨b, off + i * 5, none⟩ = some (.int .i64 f.k) ∧ w.cell? ⟨b, off + i * 5 + 1, none⟩ = some (.bool f.d) ∧ w.cell? ⟨b, off + i * 5 + 2, none⟩ = some (.int .i64 f.t) ∧ w.cell? ⟨b, off + i * 5 + 3, none⟩ = some (.int .i64 f.m) ∧ w.cell? ⟨b, off + i * 5 + 4, none⟩ = some (.slice q m e) ∧ DatS w (.slice q m e) f.ds := by
  have hl := h.len
  obtain ⟨vs, h1, ⟨q, cap, h2, h3⟩, h4⟩ := h
  injection h2 with e1 _ _
  subst e1
  obtain ⟨b, off, g1, _, _, g4⟩ := h3 (by simp [h1]; omega)
  refine ⟨b, off, g1, fun i f hf => ?_⟩
  have hi : i < fs.length := (List.getElem?_eq_some_iff.1 hf).1
  have hv := h4 i f hf
  have hv2 := hv
  obtain ⟨q, e, hq, _⟩ := hv2
  have hz : (List.zipWith frRow fs vs).getD i [] = frRow f (vs.getD i undef) := by
    have hvi : i < vs.length := by omega
    rw [List.getD_eq_getElem?_getD, List.getElem?_zipWith, hf, List.getElem?_eq_getElem hvi, List.getD_eq_getElem?_getD, List.getElem?_eq_getElem hvi]
    rfl
  have c := fun j hj => g4 i (by simp [h1]; omega) j hj
  rw [hz] at c
  rw [hq] at hv c
  exact ⟨q, _, e, c 0 (by omega), c 1 (by omega), c 2 (by omega), c 3 (by omega), c 4 (by omega), hv⟩
theorem DatS.len {w : World} {p : Option Addr} {l c : Nat} {ds : List DatT} (h : DatS w (.slice p l c) ds) : l = ds.length := by
  obtain ⟨q, cap, h2, _⟩ := h
  injection h2 with _ e _
  rw [e]
  simp
theorem DatS.at {w : World} {p : Option Addr} {l c : Nat} {ds : List DatT} (h : DatS w (.slice p l c) ds) (hp : 0 < l) : ∃ b off, p = some ⟨b, off, none⟩ ∧ ∀ i d, ds[i]? = some d → w.cell? ⟨b, off + i * 2, none⟩ = some (.string d.1) ∧ w.cell? ⟨b, off + i * 2 + 1, none⟩ = some (.int .i64 d.2) := by
  have hl := h.len
  obtain ⟨q, cap, h2, h3⟩ := h
  injection h2 with e1 _ _
  subst e1
  obtain ⟨b, off, g1, _, _, g4⟩ := h3 (by simp; omega)
  refine ⟨b, off, g1, fun i d hd => ?_⟩
  have hi : i < ds.length := (List.getElem?_eq_some_iff.1 hd).1
  have hz : (ds.map datRow).getD i [] = datRow d := by
    rw [List.getD_eq_getElem?_getD, List.getElem?_map, hd]; rfl
  have c := fun j hj => g4 i (by simp; omega) j hj
  rw [hz] at c
  exact ⟨c 0 (by omega), c 1 (by omega)⟩
/-- few frames with few datums, and short names -/
def fewN (s : ByteArray) : Bool := decide (s.size ≤ 100)
def fewD (ds : List DatT) : Bool := ds.all fun d => fewN d.1
def fewF (f : FrT) : Bool := decide (f.ds.length ≤ 6) && fewD f.ds
def fewB (s : ByteArray) (fs : List FrT) : Bool := fewN s && decide (fs.length ≤ 12) && fs.all fewF
theorem all_drop {α : Type} {p : α → Bool} {l : List α} {i : Nat} {x : α} (h : l[i]? = some x) : (l.drop i).all p = (p x && (l.drop (i + 1)).all p) := by
  obtain ⟨hi, rfl⟩ := List.getElem?_eq_some_iff.1 h
  rw [List.drop_eq_getElem_cons hi, List.all_cons]
set_option maxRecDepth 100000 in
set_option maxHeartbeats 4000000 in
theorem rFew (n : ByteArray) (k a x y z lo hi : Int) (fp : Option Addr) (fl fc : Nat) (fs : List FrT) (w : World) (hfr : FrS w (.slice fp fl fc) fs) : Calls Tryz.prog 10 #[.agg #[.string n, .int .i64 k, .int .i64 a, .int .i64 x, .int .i64 y, .int .i64 z, .int .i64 lo, .int .i64 hi, .slice fp fl fc]] w fun r W' => r = .returned (.bool (fewB n fs)) ∧ Kb w W' := by
  have kx := (Kb.refl w).alloc (.cells #[.string n, .int .i64 k, .int .i64 a, .int .i64 x, .int .i64 y, .int .i64 z, .int .i64 lo, .int .i64 hi, .slice fp fl fc] 28 (0, 0))
  have b0 := Is.made w #[.string n, .int .i64 k, .int .i64 a, .int .i64 x, .int .i64 y, .int .i64 z, .int .i64 lo, .int .i64 hi, .slice fp fl fc] 28
  have hf := hfr.alloc (.cells #[.string n, .int .i64 k, .int .i64 a, .int .i64 x, .int .i64 y, .int .i64 z, .int .i64 lo, .int .i64 hi, .slice fp fl fc] 28 (0, 0))
  have hlen := hfr.len
  clear hfr
  have c0 := b0.c (i := 0) rfl
  have c8 := b0.c (i := 8) rfl
  clear b0
  by_cases h1 : 100 < (n.size : Int)
  · have hE : Hid (fewB n fs = false) := by unfold fewB fewN; rw [decide_eq_false (by omega)]; rfl
    clear hf hlen
    go_enter Tryz.func10, Tryz.ntmps10
    go_wp2
    go_ret
    exact ⟨by rw [hE.out]; rfl, kx⟩
  · by_cases h2 : 12 < (fl : Int)
    · have hE : Hid (fewB n fs = false) := by unfold fewB; rw [decide_eq_false (show ¬ fs.length ≤ 12 by omega), Bool.and_false, Bool.false_and]; exact Lib.hid rfl
      clear hf hlen
      go_enter Tryz.func10, Tryz.ntmps10
      go_wp2
      go_ret
      exact ⟨by rw [hE.out]; rfl, kx⟩
    · have H0 : Hid (fewB n fs = (fs.drop 0).all fewF) := by
        show fewB n fs = _
        unfold fewB fewN
        rw [decide_eq_true (by omega), decide_eq_true (show fs.length ≤ 12 by omega)]; rfl
      have HF := Lib.hid hf
      have HL := Lib.hid hlen
      have HE : Hid ((fs.drop fl).all fewF = true) := by show _ = _; rw [List.drop_of_length_le (by omega)]; rfl
      clear hf hlen
      generalize hW : w.alloc (.cells #[.string n, .int .i64 k, .int .i64 a, .int .i64 x, .int .i64 y, .int .i64 z, .int .i64 lo, .int .i64 hi, .slice fp fl fc] 28 (0, 0)) = W at *
      go_enter Tryz.func10, Tryz.ntmps10
      go_wp2
      clear hW
      go_loopg [3] fl (fun gk s3 wr => ∃ i : Nat, s3 = .int .i64 i ∧ i + gk = fl ∧ Hid (fewB n fs = (fs.drop i).all fewF) ∧ W = wr)
      case atStart => exact ⟨0, rfl, by omega, H0, rfl⟩
      case round =>
        obtain ⟨i, rfl, hi, hE, rfl⟩ := hrel
        have hi0 : (0 : Int) ≤ (i : Int) := by omega
        by_cases hlt : i < fl
        · obtain ⟨b, off, rfl, hat⟩ := HF.out.at (by omega)
          have hli := HL.out
          obtain ⟨f, hfi⟩ : ∃ f, fs[i]? = some f := ⟨_, List.getElem?_eq_getElem (by omega)⟩
          obtain ⟨q, m, e, _, _, _, _, x4, hd⟩ := hat i f hfi
          have hD := all_drop (p := fewF) hfi
          have hm := hd.len
          have HD := Lib.hid hd
          have Hi := Lib.hid hi
          have Hli := Lib.hid hli
          have Hm := Lib.hid hm
          clear hat hfi hd hli
          by_cases h6 : 6 < (m : Int)
          · have hE2 : Hid (fewB n fs = false) := hE.out.trans (hD.trans (by unfold fewF; rw [decide_eq_false (show ¬ f.ds.length ≤ 6 by omega)]; rfl))
            clear hD hE hi hm
            go_wp2
            go_ret
            exact ⟨by rw [hE2.out]; rfl, kx⟩
          · have hE2 : Hid (fewB n fs = ((f.ds.drop 0).all (fun d => fewN d.1) && (fs.drop (i + 1)).all fewF)) := hE.out.trans (hD.trans (by unfold fewF fewD; rw [decide_eq_true (show f.ds.length ≤ 6 by omega)]; rfl))
            have HE3 : Hid ((f.ds.drop m).all (fun d => fewN d.1) = true) := by show _ = _; rw [List.drop_of_length_le (by omega)]; rfl
            clear hD hE hi hm
            go_wp2
            rename_i gi _ _
            go_loopg [4] m (fun gk s4 wr => ∃ j : Nat, s4 = .int .i64 j ∧ j + gk = m ∧ Hid (fewB n fs = ((f.ds.drop j).all (fun d => fewN d.1) && (fs.drop (i + 1)).all fewF)) ∧ W = wr)
            case atStart => exact ⟨0, rfl, by omega, hE2, rfl⟩
            case round =>
              obtain ⟨j, rfl, hj, hE4, rfl⟩ := hrel
              have hj0 : (0 : Int) ≤ (j : Int) := by omega
              by_cases hjl : j < m
              · obtain ⟨b2, off2, rfl, hat2⟩ := HD.out.at (by omega)
                have hmj := Hm.out
                obtain ⟨d, hdj⟩ : ∃ d, f.ds[j]? = some d := ⟨_, List.getElem?_eq_getElem (by omega)⟩
                obtain ⟨y0, _⟩ := hat2 j d hdj
                have hD2 := all_drop (p := fun d => fewN d.1) hdj
                obtain ⟨nm, mm⟩ := d
                have Hj := Lib.hid hj
                clear hat2 hdj hmj
                by_cases h7 : 100 < (nm.size : Int)
                · have hE5 : Hid (fewB n fs = false) := hE4.out.trans (by rw [hD2]; simp only [fewN]; rw [decide_eq_false (show ¬ nm.size ≤ 100 by omega)]; rfl)
                  clear hD2 hE4 hj
                  go_wp2
                  go_ret
                  exact ⟨by rw [hE5.out]; rfl, kx⟩
                · have hE5 : Hid (fewB n fs = ((f.ds.drop (j + 1)).all (fun d => fewN d.1) && (fs.drop (i + 1)).all fewF)) := hE4.out.trans (by rw [hD2]; simp only [fewN]; rw [decide_eq_true (show nm.size ≤ 100 by omega)]; rfl)
                  clear hD2 hE4 hj
                  go_wp2
                  have hj := Hj.out
                  go_roundg (gk - 1)
                  case measure => omega
                  case rel => exact ⟨j + 1, by go_num, by omega, hE5, rfl⟩
              · obtain rfl : j = m := by omega
                have hE5 : Hid (fewB n fs = (fs.drop (i + 1)).all fewF) := hE4.out.trans (by rw [HE3.out]; rfl)
                clear hE4 HE3 hj
                go_wp2
                have hi := Hi.out
                go_roundg (fl - i - 1)
                case measure => omega
                case rel => exact ⟨i + 1, by go_num, by omega, hE5, rfl⟩
        · obtain rfl : i = fl := by omega
          have hE2 : Hid (fewB n fs = true) := hE.out.trans HE.out
          clear hi hE HE
          go_wp2
          go_ret
          exact ⟨by rw [hE2.out]; rfl, kx⟩
end Go.Proofs.YtlimjohnimgnhaaGreatDoor
