/- Texts Up2, Un2, Ugc, Up2b, OpenK, Qj1: each says in its own first comment what it proves. -/
import Derived.Test.YtlimjohnimgnhaaGreatDoorM10
import Derived.Test.YtlimjohnimgnhaaGreatDoorM44
import Derived.Test.YtlimjohnimgnhaaGreatDoorRows
import Derived.ProofKit
import Derived.ChangeMaps5
import Derived.Carry
import Derived.Test.YtlimjohnimgnhaaGreatDoorM06
import Derived.Test.YtlimjohnimgnhaaGreatDoorM22
import Derived.Test.YtlimjohnimgnhaaGreatDoorM07
/- Frames: lists of frames: their errors, their names, their place in memory. -/
namespace Go.Proofs.YtlimjohnimgnhaaGreatDoor
open Go.RowKit

/-- frames whose datums have room lie there -/
def FrP (w : World) (v : Value) (fs : List FrT) : Prop := ∃ vs : List Value, vs.length = fs.length ∧ Sl [] 5 w v (List.zipWith frRow fs vs) ∧ (∀ i f, fs[i]? = some f → DatS w (vs.getD i undef) f.ds) ∧ ∀ i, i < fs.length → ∃ p l c, vs.getD i undef = .slice p l c ∧ l ≤ c
theorem FrP.frs {w : World} {v : Value} {fs : List FrT} (h : FrP w v fs) : FrS w v fs := by
  obtain ⟨vs, h1, h2, h3, _⟩ := h
  exact ⟨vs, h1, h2, h3⟩
theorem FrP.kx {w w' : World} {v : Value} {fs : List FrT} (h : FrP w v fs) (k : Kx [] w w') (_ : True := trivial) : FrP w' v fs := by
  obtain ⟨vs, h1, h2, h3, h4⟩ := h
  exact ⟨vs, h1, h2.kx k, fun i f hf => (h3 i f hf).kx k, h4⟩
theorem FrP.kb {w w' : World} {v : Value} {fs : List FrT} (h : FrP w v fs) (k : Kb w w') : FrP w' v fs := h.kx k.kx
theorem FrP.alloc {w : World} {v : Value} {fs : List FrT} (h : FrP w v fs) (o : Obj) : FrP (w.alloc o) v fs := h.kb ((Kb.refl _).alloc o)
theorem FrP.drew {w : World} {v : Value} {fs : List FrT} (h : FrP w v fs) : FrP w.drew v fs := h.kb (show Kb w w.drew from (Kb.refl _).drew)
theorem FrP.len {w : World} {p : Option Addr} {l c : Nat} {fs : List FrT} (h : FrP w (.slice p l c) fs) : l = fs.length := h.frs.len
theorem FrP.at {w : World} {p : Option Addr} {l c : Nat} {fs : List FrT} (h : FrP w (.slice p l c) fs) (hp : 0 < l) : ∃ b off, p = some ⟨b, off, none⟩ ∧ ∀ i f, fs[i]? = some f →
    ∃ q m e, (∀ w', Kb w w' → w'.cell? ⟨b, off + i * 5, none⟩ = some (.int .i64 f.k) ∧ w'.cell? ⟨b, off + i * 5 + 1, none⟩ = some (.bool f.d) ∧ w'.cell? ⟨b, off + i * 5 + 2, none⟩ = some (.int .i64 f.t) ∧ w'.cell? ⟨b, off + i * 5 + 3, none⟩ = some (.int .i64 f.m) ∧ w'.cell? ⟨b, off + i * 5 + 4, none⟩ = some (.slice q m e)) ∧ DatS w (.slice q m e) f.ds ∧ m ≤ e := by
  have hl := h.len
  obtain ⟨vs, h1, ⟨q, cap, h2, h3⟩, h4, h5⟩ := h
  injection h2 with e1 _ _
  subst e1
  obtain ⟨b, off, g1, _, _, g4⟩ := h3 (by simp [h1]; omega)
  refine ⟨b, off, g1, fun i f hf => ?_⟩
  have hi : i < fs.length := (List.getElem?_eq_some_iff.1 hf).1
  have hv := h4 i f hf
  obtain ⟨q, m, e, hq, hme⟩ := h5 i hi
  have hz : (List.zipWith frRow fs vs).getD i [] = frRow f (vs.getD i undef) := by
    have hvi : i < vs.length := by omega
    rw [List.getD_eq_getElem?_getD, List.getElem?_zipWith, hf, List.getElem?_eq_getElem hvi, List.getD_eq_getElem?_getD, List.getElem?_eq_getElem hvi]
    rfl
  have c := fun j hj => g4 i (by simp [h1]; omega) j hj
  rw [hz] at c
  rw [hq] at hv c
  exact ⟨q, m, e, fun w' k => ⟨k.cell (c 0 (by omega)), k.cell (c 1 (by omega)), k.cell (c 2 (by omega)), k.cell (c 3 (by omega)), k.cell (c 4 (by omega))⟩, hv, hme⟩
/-- a kind is among those of frames -/
def knB (fs : List FrT) (k : Int) : Bool := fs.any fun g => g.k == k
def fcF (n : ByteArray) (k a x y z lo hi : Int) (f : FrT) : Int := fcE n k a x y z lo hi f.k f.d f.t f.m f.ds
/-- the error of frames behind others -/
def fsF (n : ByteArray) (k a x y z lo hi : Int) : List FrT → List FrT → Int
  | _, [] => 0
  | b, f :: l => if fcF n k a x y z lo hi f = 0 then (if knB b f.k = true then 7 else fsF n k a x y z lo hi (b ++ [f]) l) else fcF n k a x y z lo hi f
theorem fsF_drop {n : ByteArray} {k a x y z lo hi : Int} {l : List FrT} {i : Nat} {f : FrT} (h : l[i]? = some f) : fsF n k a x y z lo hi (l.take i) (l.drop i) = if fcF n k a x y z lo hi f = 0 then (if knB (l.take i) f.k = true then 7 else fsF n k a x y z lo hi (l.take (i + 1)) (l.drop (i + 1))) else fcF n k a x y z lo hi f := by
  obtain ⟨hi', rfl⟩ := List.getElem?_eq_some_iff.1 h
  rw [List.drop_eq_getElem_cons hi', fsF, List.take_append_getElem hi']
/-- the error of a feature's frames -/
def alE (n : ByteArray) (k a x y z lo hi : Int) (fs : List FrT) : Int := if ftE n k a x y z lo hi = 0 then (if 8 < fs.length then 5 else fsF n k a x y z lo hi [] fs) else ftE n k a x y z lo hi
theorem fsF_zero {n : ByteArray} {k a x y z lo hi : Int} : ∀ (l b : List FrT), fsF n k a x y z lo hi b l = 0 ↔ (∀ f ∈ l, fcF n k a x y z lo hi f = 0) ∧ (l.Pairwise fun f g => f.k ≠ g.k) ∧ ∀ f ∈ l, ∀ g ∈ b, g.k ≠ f.k
  | [], b => by simp [fsF]
  | f :: l, b => by
    rw [fsF]
    by_cases h1 : fcF n k a x y z lo hi f = 0
    · rw [if_pos h1]
      by_cases h2 : knB b f.k = true
      · rw [if_pos h2]
        refine ⟨fun h => absurd h (by decide), fun ⟨_, _, h3⟩ => ?_⟩
        unfold knB at h2
        rw [List.any_eq_true] at h2
        obtain ⟨g, hg, he⟩ := h2
        exact absurd (by simpa using he) (h3 f (by simp) g hg)
      · rw [if_neg h2, fsF_zero l (b ++ [f])]
        have h4 : ∀ g ∈ b, g.k ≠ f.k := fun g hg he => h2 (by unfold knB; rw [List.any_eq_true]; exact ⟨g, hg, by simpa using he⟩)
        constructor
        · rintro ⟨p1, p2, p3⟩
          refine ⟨fun g hg => ?_, List.pairwise_cons.2 ⟨fun g hg => p3 g hg f (by simp), p2⟩, fun g hg u hu => ?_⟩
          · rcases List.mem_cons.1 hg with rfl | hg
            · exact h1
            · exact p1 g hg
          · rcases List.mem_cons.1 hg with rfl | hg
            · exact h4 u hu
            · exact p3 g hg u (by simp [hu])
        · rintro ⟨p1, p2, p3⟩
          obtain ⟨q1, q2⟩ := List.pairwise_cons.1 p2
          refine ⟨fun g hg => p1 g (by simp [hg]), q2, fun g hg u hu => ?_⟩
          rcases List.mem_append.1 hu with hu | hu
          · exact p3 g (by simp [hg]) u hu
          · obtain rfl : u = f := by simpa using hu
            exact q1 g hg
    · rw [if_neg h1]
      exact ⟨fun h => absurd h h1, fun ⟨p1, _, _⟩ => absurd (p1 f (by simp)) h1⟩
/-- the names of datums -/
def nmD (ds : List DatT) : List (List UInt8) := ds.map fun d => d.1.data.toList
def nmL (fs : List FrT) : List (List UInt8) := fs.flatMap fun f => nmD f.ds
theorem nmL_take {fs : List FrT} {i : Nat} {f : FrT} (h : fs[i]? = some f) : nmL (fs.take (i + 1)) = nmL (fs.take i) ++ nmD f.ds := by
  obtain ⟨hi, rfl⟩ := List.getElem?_eq_some_iff.1 h
  rw [← List.take_append_getElem hi]
  unfold nmL
  rw [List.flatMap_append]
  simp
theorem nmD_take {ds : List DatT} {i : Nat} {d : DatT} (h : ds[i]? = some d) : nmD (ds.take (i + 1)) = nmD (ds.take i) ++ [d.1.data.toList] := by
  obtain ⟨hi, rfl⟩ := List.getElem?_eq_some_iff.1 h
  rw [← List.take_append_getElem hi]
  unfold nmD
  rw [List.map_append]
  rfl
end Go.Proofs.YtlimjohnimgnhaaGreatDoor

/- Frames: the reference: whether a kind of features is among letters. -/
namespace Go.Proofs.YtlimjohnimgnhaaGreatDoor
open Go.RowKit

/-- the letter of a kind -/
def phV (k : Int) : UInt8 := if k = 0 then 80 else if k = 1 then 72 else if k = 2 then 73 else if k = 3 then 83 else 66
def hsB (l : ByteArray) (k : Int) : Bool := l.data.toList.any fun c => c == phV k
theorem drop_at {l : List UInt8} {i : Nat} {c : UInt8} (h : l[i]? = some c) (k : Int) : ((l.drop i).any fun c => c == phV k) = ((c == phV k) || (l.drop (i + 1)).any fun c => c == phV k) := by
  obtain ⟨hi, rfl⟩ := List.getElem?_eq_some_iff.1 h
  rw [List.drop_eq_getElem_cons hi, List.any_cons]
abbrev phT : ByteArray := ⟨#[80, 72, 73, 83, 66]⟩
set_option maxRecDepth 100000 in
set_option maxHeartbeats 8000000 in
theorem rhas1 (l : ByteArray) (q : Nat) (hq : q < 5) (ph : UInt8) (hp : phT[q]'(show q < 5 from hq) = ph) (hph : phV (q : Int) = ph) (hl : l.size ≤ 100) (w : World) : Calls Tryz.prog 92 #[.string l, .int .i64 (q : Int)] w fun r W' => r = .returned (.bool (hsB l (q : Int))) ∧ Kb w W' := by
  have h0 : Hid (hsB l (q : Int) = (l.data.toList.drop 0).any fun c => c == phV (q : Int)) := rfl
  have hlen : l.data.toList.length = l.size := by rw [Array.length_toList]; rfl
  have k0 : (0 : Int) ≤ (q : Int) := by omega
  have k5 : (q : Int) < 5 := by omega
  have HP := Lib.hid hph
  clear hph
  go_enter Tryz.func92, Tryz.ntmps92
  go_wp2
  go_loopg [5] l.size (fun gk s5 wr => ∃ i : Nat, s5 = .int .i64 i ∧ i + gk = l.size ∧ Hid (hsB l (q : Int) = (l.data.toList.drop i).any fun c => c == phV (q : Int)) ∧ Kb w wr)
  case atStart => exact ⟨0, rfl, by omega, h0, Kb.refl _⟩
  case round =>
    obtain ⟨i, rfl, hi, hE, kk⟩ := hrel
    have hi0 : (0 : Int) ≤ (i : Int) := by omega
    by_cases hlt : i < l.size
    · have hil : (i : Int) < (l.size : Int) := by omega
      obtain ⟨c, hci⟩ : ∃ c, l[i]'hlt = c := ⟨_, rfl⟩
      have hc : l.data.toList[i]? = some c := by
        rw [Array.getElem?_toList, Array.getElem?_eq_getElem (show i < l.data.size from hlt)]
        exact congrArg some hci
      have hd := drop_at hc (q : Int)
      rw [HP.out] at hd
      have Hi := Lib.hid hi
      clear hi hc
      rcases Bool.eq_false_or_eq_true ((c.toNat : Int) == (ph.toNat : Int)) with hb | hb
      · have hcp : c = ph := by
          have : c.toNat = ph.toNat := by have := eq_of_beq hb; omega
          exact UInt8.toNat_inj.1 this
        have hEnd : Hid (hsB l (q : Int) = true) := by
          show _ = _
          rw [hE.out, HP.out, hd, hcp, beq_self_eq_true, Bool.true_or]
        clear hd hE hcp
        go_wp2
        go_region
        go_wp2
        go_ret
        exact ⟨by rw [hEnd.out]; rfl, kk.drew⟩
      · have hcp : (c == ph) = false := by
          rw [beq_eq_false_iff_ne] at hb ⊢
          intro e; exact hb (by rw [e])
        have hE2 : Hid (hsB l (q : Int) = (l.data.toList.drop (i + 1)).any fun c => c == phV (q : Int)) := by
          show _ = _
          rw [hE.out, HP.out, hd, hcp, Bool.false_or]
        clear hd hE hcp
        go_wp2
        go_region
        go_wp2
        have hi := Hi.out
        go_roundg (gk - 1)
        case measure => omega
        case rel => exact ⟨i + 1, by go_num, by omega, hE2, kk.drew⟩
    · obtain rfl : i = l.size := by omega
      have hEnd : Hid (hsB l (q : Int) = false) := by
        show _ = _
        rw [hE.out, List.drop_of_length_le (by omega)]; rfl
      clear hi hE
      go_wp2
      go_ret
      exact ⟨by rw [hEnd.out]; rfl, kk⟩
theorem rhas (l : ByteArray) (k : Int) (hk : 0 ≤ k ∧ k < 5) (hl : l.size ≤ 100) : Ca 92 #[.string l, .int .i64 k] (.bool (hsB l k)) := Lib.hid fun w => by
  rcases five hk with rfl | rfl | rfl | rfl | rfl
  · exact rhas1 l 0 (by decide) 80 rfl rfl hl w
  · exact rhas1 l 1 (by decide) 72 rfl rfl hl w
  · exact rhas1 l 2 (by decide) 73 rfl rfl hl w
  · exact rhas1 l 3 (by decide) 83 rfl rfl hl w
  · exact rhas1 l 4 (by decide) 66 rfl rfl hl w
end Go.Proofs.YtlimjohnimgnhaaGreatDoor

/- Frames: the values of the examples. -/
namespace Go.Proofs.YtlimjohnimgnhaaGreatDoor
open Go.RowKit

theorem fc_c0 : fcE ⟨#[72]⟩ 1 2 5000 0 0 1000 1011 1 false 30 0 [] = 14 := by rw [fcE_eq]; decide
theorem fc_c1 : fcE ⟨#[72]⟩ 1 2 5000 0 0 1000 1011 1 true 30 0 [] = 14 := by rw [fcE_eq]; decide
theorem fc_c2 : fcE ⟨#[72]⟩ 1 2 5000 0 0 1000 1011 8 false 0 0 [] = 10 := by rw [fcE_eq]; decide
theorem fc_c3 : fcE ⟨#[72]⟩ 1 2 5000 0 0 1000 1011 8 false 0 1 [(⟨#[65]⟩, 0)] = 0 := by rw [fcE_eq]; decide
theorem fc_c4 : fcE ⟨#[72]⟩ 1 2 5000 0 0 1000 1011 3 false 20 0 [] = 13 := by rw [fcE_eq]; decide
theorem fc_c5 : fcE ⟨#[72]⟩ 1 2 5000 0 0 1000 1011 7 false 20 0 [(⟨#[65]⟩, 0), (⟨#[66]⟩, 0)] = 5 := by rw [fcE_eq]; decide
theorem fc_h : fcE ⟨#[72]⟩ 1 2 5000 0 0 1000 1011 8 true 50 1 [(⟨#[65]⟩, 0), (⟨#[66]⟩, 1)] = 0 := by rw [fcE_eq]; decide
theorem fc_p : fcE ⟨#[72]⟩ 2 2 5000 0 0 1000 1011 8 true 50 1 [(⟨#[65]⟩, 0), (⟨#[66]⟩, 1)] = 0 := by rw [fcE_eq]; decide
theorem fc_q0 : fcE ⟨#[80]⟩ 0 0 0 0 0 0 0 1 false 30 0 [] = 0 := by rw [fcE_eq]; decide
theorem fc_q1 : fcE ⟨#[80]⟩ 0 0 0 0 0 0 0 1 true 30 0 [] = 3 := by rw [fcE_eq]; decide
theorem fv_h : vV ⟨#[72]⟩ 1 2 5000 0 0 1000 1011 8 true 50 1 [(⟨#[65]⟩, 0), (⟨#[66]⟩, 1)] = (950, 0) := by unfold vV; rw [fc_h]; unfold vtV wrap64; decide
theorem fb_h : bV ⟨#[72]⟩ 1 2 5000 0 0 1000 1011 8 true 50 1 [(⟨#[65]⟩, 0), (⟨#[66]⟩, 1)] 1004 = (4, 0) := by unfold bV; rw [fc_h]; unfold btV wrap64; decide
theorem fv_p : vV ⟨#[72]⟩ 2 2 5000 0 0 1000 1011 8 true 50 1 [(⟨#[65]⟩, 0), (⟨#[66]⟩, 1)] = (1061, 0) := by unfold vV; rw [fc_p]; unfold vtV wrap64; decide
theorem fb_p : bV ⟨#[72]⟩ 2 2 5000 0 0 1000 1011 8 true 50 1 [(⟨#[65]⟩, 0), (⟨#[66]⟩, 1)] 1004 = (7, 0) := by unfold bV; rw [fc_p]; unfold btV wrap64; decide
end Go.Proofs.YtlimjohnimgnhaaGreatDoor

/- Frames: a frame of a list in memory. -/
namespace Go.Proofs.YtlimjohnimgnhaaGreatDoor
open Go.RowKit

theorem FrP.get {w : World} {b off fl fc : Nat} {fs : List FrT} (h : FrP w (.slice (some ⟨b, off, none⟩) fl fc) fs) {i : Nat} {f : FrT} (hf : fs[i]? = some f) : ∃ q m e, (∀ w', Kb w w' → w'.cell? ⟨b, off + i * 5, none⟩ = some (.int .i64 f.k) ∧ w'.cell? ⟨b, off + i * 5 + 1, none⟩ = some (.bool f.d) ∧ w'.cell? ⟨b, off + i * 5 + 2, none⟩ = some (.int .i64 f.t) ∧ w'.cell? ⟨b, off + i * 5 + 3, none⟩ = some (.int .i64 f.m) ∧ w'.cell? ⟨b, off + i * 5 + 4, none⟩ = some (.slice q m e)) ∧ DatS w (.slice q m e) f.ds ∧ m ≤ e := by
  obtain ⟨b', off', eb, hat⟩ := h.at (by have := h.len; have := (List.getElem?_eq_some_iff.1 hf).1; omega)
  obtain ⟨rfl, rfl⟩ : b = b' ∧ off = off' := by
    injection eb with eb; injection eb with e1 e2; exact ⟨e1, e2⟩
  exact hat i f hf
end Go.Proofs.YtlimjohnimgnhaaGreatDoor

/- Structs and arrays of numbers, texts and booleans, opened: their cells are of these kinds. -/
namespace Go.Proofs.YtlimjohnimgnhaaGreatDoor
open Go.ChangeShapes Go.WideShapes Go.ChangeAt Go.RowKit

structure inI (z : Int) : Prop where
  lo : -9223372036854775808 ≤ z
  hi : z ≤ 9223372036854775807
structure inW (z : Int) : Prop where
  lo : 0 ≤ z
  hi : z ≤ 65535
structure inB (z : Int) : Prop where
  lo : 0 ≤ z
  hi : z ≤ 255
structure szM (s : ByteArray) : Prop where
  le : s.size ≤ 9223372036854775807
inductive Kd where
  | i64 | u16 | u8 | str | bool
end Go.Proofs.YtlimjohnimgnhaaGreatDoor

/- Features: equal datums. -/
namespace Go.Proofs.YtlimjohnimgnhaaGreatDoor
open Go.RowKit

theorem DatS.kb {w w' : World} {v : Value} {ds : List DatT} (h : DatS w v ds) (k : Kb w w') : DatS w' v ds := h.kx k.kx
theorem DatS.alloc {w : World} {v : Value} {ds : List DatT} (h : DatS w v ds) (o : Obj) : DatS (w.alloc o) v ds := h.kb ((Kb.refl _).alloc o)
theorem DatS.drew {w : World} {v : Value} {ds : List DatT} (h : DatS w v ds) : DatS w.drew v ds := h.kb (show Kb w w.drew from (Kb.refl _).drew)

























































































































































































































































































































end Go.Proofs.YtlimjohnimgnhaaGreatDoor
