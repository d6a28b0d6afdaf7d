/- Texts Up2, Ugc, Up2b, Qj1, OpenK: each says in its own first comment what it proves. -/
import Derived.Test.YtlimjohnimgnhaaGreatDoorM41
import Derived.Test.YtlimjohnimgnhaaGreatDoorM49
import Derived.Test.YtlimjohnimgnhaaGreatDoorM37
import Derived.Test.YtlimjohnimgnhaaGreatDoorM29
import Derived.Test.YtlimjohnimgnhaaGreatDoorRows
import Derived.ProofKit
import Derived.ChangeMaps5
import Derived.Carry
import Derived.Test.YtlimjohnimgnhaaGreatDoorM03
/- Frames: lists of frames: their errors, their names, their place in memory. -/
namespace Go.Proofs.YtlimjohnimgnhaaGreatDoor
open Go.RowKit

/-- frames whose datums have room lie there -/
def FrP (w : World) (v : Value) (fs : List FrT) : Prop := ∃ vs : List Value, vs.length = fs.length ∧ Sl [] 5 w v (List.zipWith frRow fs vs) ∧ (∀ i f, fs[i]? = some f → DatS w (vs.getD i undef) f.ds) ∧ ∀ i, i < fs.length → ∃ p l c, vs.getD i undef = .slice p l c ∧ l ≤ c
theorem FrP.frs {w : World} {v : Value} {fs : List FrT} (h : FrP w v fs) : FrS w v fs := by
  obtain ⟨vs, h1, h2, h3, _⟩ := h
  exact ⟨vs, h1, h2, h3⟩
theorem FrP.kx {w w' : World} {v : Value} {fs : List FrT} (h : FrP w v fs) (k : Kx [] w w') (_ : True := trivial) : FrP w' v fs := by
  obtain ⟨vs, h1, h2, h3, h4⟩ := h
  exact ⟨vs, h1, h2.kx k, fun i f hf => (h3 i f hf).kx k, h4⟩
theorem FrP.kb {w w' : World} {v : Value} {fs : List FrT} (h : FrP w v fs) (k : Kb w w') : FrP w' v fs := h.kx k.kx
theorem FrP.alloc {w : World} {v : Value} {fs : List FrT} (h : FrP w v fs) (o : Obj) : FrP (w.alloc o) v fs := h.kb ((Kb.refl _).alloc o)
theorem FrP.drew {w : World} {v : Value} {fs : List FrT} (h : FrP w v fs) : FrP w.drew v fs := h.kb (show Kb w w.drew from (Kb.refl _).drew)
theorem FrP.len {w : World} {p : Option Addr} {l c : Nat} {fs : List FrT} (h : FrP w (.slice p l c) fs) : l = fs.length := h.frs.len
theorem FrP.at {w : World} {p : Option Addr} {l c : Nat} {fs : List FrT} (h : FrP w (.slice p l c) fs) (hp : 0 < l) : ∃ b off, p = some ⟨b, off, none⟩ ∧ ∀ i f, fs[i]? = some f →
    ∃ q m e, (∀ w', Kb w w' → w'.cell? ⟨b, off + i * 5, none⟩ = some (.int .i64 f.k) ∧ w'.cell? ⟨b, off + i * 5 + 1, none⟩ = some (.bool f.d) ∧ w'.cell? ⟨b, off + i * 5 + 2, none⟩ = some (.int .i64 f.t) ∧ w'.cell? ⟨b, off + i * 5 + 3, none⟩ = some (.int .i64 f.m) ∧ w'.cell? ⟨b, off + i * 5 + 4, none⟩ = some (.slice q m e)) ∧ DatS w (.slice q m e) f.ds ∧ m ≤ e := by
  have hl := h.len
  obtain ⟨vs, h1, ⟨q, cap, h2, h3⟩, h4, h5⟩ := h
  injection h2 with e1 _ _
  subst e1
  obtain ⟨b, off, g1, _, _, g4⟩ := h3 (by simp [h1]; omega)
  refine ⟨b, off, g1, fun i f hf => ?_⟩
  have hi : i < fs.length := (List.getElem?_eq_some_iff.1 hf).1
  have hv := h4 i f hf
  obtain ⟨q, m, e, hq, hme⟩ := h5 i hi
  have hz : (List.zipWith frRow fs vs).getD i [] = frRow f (vs.getD i undef) := by
    have hvi : i < vs.length := by omega
    rw [List.getD_eq_getElem?_getD, List.getElem?_zipWith, hf, List.getElem?_eq_getElem hvi, List.getD_eq_getElem?_getD, List.getElem?_eq_getElem hvi]
    rfl
  have c := fun j hj => g4 i (by simp [h1]; omega) j hj
  rw [hz] at c
  rw [hq] at hv c
  exact ⟨q, m, e, fun w' k => ⟨k.cell (c 0 (by omega)), k.cell (c 1 (by omega)), k.cell (c 2 (by omega)), k.cell (c 3 (by omega)), k.cell (c 4 (by omega))⟩, hv, hme⟩
/-- a kind is among those of frames -/
def knB (fs : List FrT) (k : Int) : Bool := fs.any fun g => g.k == k
def fcF (n : ByteArray) (k a x y z lo hi : Int) (f : FrT) : Int := fcE n k a x y z lo hi f.k f.d f.t f.m f.ds
/-- the error of frames behind others -/
def fsF (n : ByteArray) (k a x y z lo hi : Int) : List FrT → List FrT → Int
  | _, [] => 0
  | b, f :: l => if fcF n k a x y z lo hi f = 0 then (if knB b f.k = true then 7 else fsF n k a x y z lo hi (b ++ [f]) l) else fcF n k a x y z lo hi f
theorem fsF_drop {n : ByteArray} {k a x y z lo hi : Int} {l : List FrT} {i : Nat} {f : FrT} (h : l[i]? = some f) : fsF n k a x y z lo hi (l.take i) (l.drop i) = if fcF n k a x y z lo hi f = 0 then (if knB (l.take i) f.k = true then 7 else fsF n k a x y z lo hi (l.take (i + 1)) (l.drop (i + 1))) else fcF n k a x y z lo hi f := by
  obtain ⟨hi', rfl⟩ := List.getElem?_eq_some_iff.1 h
  rw [List.drop_eq_getElem_cons hi', fsF, List.take_append_getElem hi']
/-- the error of a feature's frames -/
def alE (n : ByteArray) (k a x y z lo hi : Int) (fs : List FrT) : Int := if ftE n k a x y z lo hi = 0 then (if 8 < fs.length then 5 else fsF n k a x y z lo hi [] fs) else ftE n k a x y z lo hi
/-- the names of datums -/
def nmD (ds : List DatT) : List (List UInt8) := ds.map fun d => d.1.data.toList
def nmL (fs : List FrT) : List (List UInt8) := fs.flatMap fun f => nmD f.ds
theorem nmL_take {fs : List FrT} {i : Nat} {f : FrT} (h : fs[i]? = some f) : nmL (fs.take (i + 1)) = nmL (fs.take i) ++ nmD f.ds := by
  obtain ⟨hi, rfl⟩ := List.getElem?_eq_some_iff.1 h
  rw [← List.take_append_getElem hi]
  unfold nmL
  rw [List.flatMap_append]
  simp
theorem nmD_take {ds : List DatT} {i : Nat} {d : DatT} (h : ds[i]? = some d) : nmD (ds.take (i + 1)) = nmD (ds.take i) ++ [d.1.data.toList] := by
  obtain ⟨hi, rfl⟩ := List.getElem?_eq_some_iff.1 h
  rw [← List.take_append_getElem hi]
  unfold nmD
  rw [List.map_append]
  rfl
end Go.Proofs.YtlimjohnimgnhaaGreatDoor

/- Frames: the values of the examples. -/
namespace Go.Proofs.YtlimjohnimgnhaaGreatDoor
open Go.RowKit

theorem fc_c0 : fcE ⟨#[72]⟩ 1 2 5000 0 0 1000 1011 1 false 30 0 [] = 14 := by rw [fcE_eq]; decide
theorem fc_c1 : fcE ⟨#[72]⟩ 1 2 5000 0 0 1000 1011 1 true 30 0 [] = 14 := by rw [fcE_eq]; decide
theorem fc_c2 : fcE ⟨#[72]⟩ 1 2 5000 0 0 1000 1011 8 false 0 0 [] = 10 := by rw [fcE_eq]; decide
theorem fc_c3 : fcE ⟨#[72]⟩ 1 2 5000 0 0 1000 1011 8 false 0 1 [(⟨#[65]⟩, 0)] = 0 := by rw [fcE_eq]; decide
theorem fc_c4 : fcE ⟨#[72]⟩ 1 2 5000 0 0 1000 1011 3 false 20 0 [] = 13 := by rw [fcE_eq]; decide
theorem fc_c5 : fcE ⟨#[72]⟩ 1 2 5000 0 0 1000 1011 7 false 20 0 [(⟨#[65]⟩, 0), (⟨#[66]⟩, 0)] = 5 := by rw [fcE_eq]; decide
theorem fc_h : fcE ⟨#[72]⟩ 1 2 5000 0 0 1000 1011 8 true 50 1 [(⟨#[65]⟩, 0), (⟨#[66]⟩, 1)] = 0 := by rw [fcE_eq]; decide
theorem fc_p : fcE ⟨#[72]⟩ 2 2 5000 0 0 1000 1011 8 true 50 1 [(⟨#[65]⟩, 0), (⟨#[66]⟩, 1)] = 0 := by rw [fcE_eq]; decide
theorem fc_q0 : fcE ⟨#[80]⟩ 0 0 0 0 0 0 0 1 false 30 0 [] = 0 := by rw [fcE_eq]; decide
theorem fc_q1 : fcE ⟨#[80]⟩ 0 0 0 0 0 0 0 1 true 30 0 [] = 3 := by rw [fcE_eq]; decide
theorem fv_h : vV ⟨#[72]⟩ 1 2 5000 0 0 1000 1011 8 true 50 1 [(⟨#[65]⟩, 0), (⟨#[66]⟩, 1)] = (950, 0) := by unfold vV; rw [fc_h]; unfold vtV wrap64; decide
theorem fb_h : bV ⟨#[72]⟩ 1 2 5000 0 0 1000 1011 8 true 50 1 [(⟨#[65]⟩, 0), (⟨#[66]⟩, 1)] 1004 = (4, 0) := by unfold bV; rw [fc_h]; unfold btV wrap64; decide
theorem fv_p : vV ⟨#[72]⟩ 2 2 5000 0 0 1000 1011 8 true 50 1 [(⟨#[65]⟩, 0), (⟨#[66]⟩, 1)] = (1061, 0) := by unfold vV; rw [fc_p]; unfold vtV wrap64; decide
theorem fb_p : bV ⟨#[72]⟩ 2 2 5000 0 0 1000 1011 8 true 50 1 [(⟨#[65]⟩, 0), (⟨#[66]⟩, 1)] 1004 = (7, 0) := by unfold bV; rw [fc_p]; unfold btV wrap64; decide
end Go.Proofs.YtlimjohnimgnhaaGreatDoor

/- Frames: a frame of a list in memory. -/
namespace Go.Proofs.YtlimjohnimgnhaaGreatDoor
open Go.RowKit

theorem FrP.get {w : World} {b off fl fc : Nat} {fs : List FrT} (h : FrP w (.slice (some ⟨b, off, none⟩) fl fc) fs) {i : Nat} {f : FrT} (hf : fs[i]? = some f) : ∃ q m e, (∀ w', Kb w w' → w'.cell? ⟨b, off + i * 5, none⟩ = some (.int .i64 f.k) ∧ w'.cell? ⟨b, off + i * 5 + 1, none⟩ = some (.bool f.d) ∧ w'.cell? ⟨b, off + i * 5 + 2, none⟩ = some (.int .i64 f.t) ∧ w'.cell? ⟨b, off + i * 5 + 3, none⟩ = some (.int .i64 f.m) ∧ w'.cell? ⟨b, off + i * 5 + 4, none⟩ = some (.slice q m e)) ∧ DatS w (.slice q m e) f.ds ∧ m ≤ e := by
  obtain ⟨b', off', eb, hat⟩ := h.at (by have := h.len; have := (List.getElem?_eq_some_iff.1 hf).1; omega)
  obtain ⟨rfl, rfl⟩ : b = b' ∧ off = off' := by
    injection eb with eb; injection eb with e1 e2; exact ⟨e1, e2⟩
  exact hat i f hf
end Go.Proofs.YtlimjohnimgnhaaGreatDoor

/- Features: equal datums. -/
namespace Go.Proofs.YtlimjohnimgnhaaGreatDoor
open Go.RowKit

theorem DatS.kb {w w' : World} {v : Value} {ds : List DatT} (h : DatS w v ds) (k : Kb w w') : DatS w' v ds := h.kx k.kx
theorem DatS.alloc {w : World} {v : Value} {ds : List DatT} (h : DatS w v ds) (o : Obj) : DatS (w.alloc o) v ds := h.kb ((Kb.refl _).alloc o)
theorem DatS.drew {w : World} {v : Value} {ds : List DatT} (h : DatS w v ds) : DatS w.drew v ds := h.kb (show Kb w w.drew from (Kb.refl _).drew)

























































































































































































































































































































end Go.Proofs.YtlimjohnimgnhaaGreatDoor

/- Structs and arrays of numbers, texts and booleans, opened: their cells are of these kinds. -/
namespace Go.Proofs.YtlimjohnimgnhaaGreatDoor
open Go.ChangeShapes Go.WideShapes Go.ChangeAt Go.RowKit

structure inI (z : Int) : Prop where
  lo : -9223372036854775808 ≤ z
  hi : z ≤ 9223372036854775807
structure inW (z : Int) : Prop where
  lo : 0 ≤ z
  hi : z ≤ 65535
structure inB (z : Int) : Prop where
  lo : 0 ≤ z
  hi : z ≤ 255
structure szM (s : ByteArray) : Prop where
  le : s.size ≤ 9223372036854775807
inductive Kd where
  | i64 | u16 | u8 | str | bool
end Go.Proofs.YtlimjohnimgnhaaGreatDoor
