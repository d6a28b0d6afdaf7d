/- Texts Un5, Up2, Up2b, Un7: each says in its own first comment what it proves. -/
import Derived.Test.YtlimjohnimgnhaaGreatDoorM30
import Derived.Test.YtlimjohnimgnhaaGreatDoorM22
import Derived.Test.YtlimjohnimgnhaaGreatDoorM38
import Derived.Test.YtlimjohnimgnhaaGreatDoorM45
import Derived.Lib.MinMax
import Derived.Test.YtlimjohnimgnhaaGreatDoorM28
import Derived.Lib.SliceRun
import Derived.Test.YtlimjohnimgnhaaGreatDoorM41
import Derived.Test.YtlimjohnimgnhaaGreatDoorM47
import Derived.Test.YtlimjohnimgnhaaGreatDoorM43
/- Frames: the law FrameChecks. -/
namespace Go.Proofs.YtlimjohnimgnhaaGreatDoor
open Go.RowKit

theorem bits_letters : ∀ f : Nat, f < 9 → ∀ k : Nat, k < 5 → (bits .and .i64 (kF f) (setV (k : Int)) == 0) = !(hsB (rF f) (k : Int)) ∧ (bits .and .i64 (kD f) (setV (k : Int)) == 0) = !(hsB (rD f) (k : Int)) ∧ (bits .and .i64 (kM f) (setV (k : Int)) == 0) = !(mmB (k : Int) (f : Int)) ∧ kL f = rL f ∧ kT f = rM f := by decide
theorem few_n2 {n : ByteArray} {fs : List FrT} (h : fewB n fs = true) : n.size ≤ 1000000 := by
  unfold fewB fewN at h
  simp only [Bool.and_eq_true, decide_eq_true_eq] at h
  omega
theorem firstE_app (l : List Int) (g : Int) : firstE (l ++ [g]) = if firstE l = 0 then g else firstE l := by
  induction l with
  | nil =>
    show firstE [g] = if (0 : Int) = 0 then g else 0
    rw [if_pos rfl]
    unfold firstE
    split
    · rename_i h; rw [h]; rfl
    · rfl
  | cons e l ih =>
    show firstE (e :: (l ++ [g])) = _
    rw [firstE, firstE, ih]
    by_cases h : e = 0
    · simp [h]
    · simp [h]
theorem tog_perm (n : ByteArray) (k : Int) (hk : 0 ≤ k ∧ k < 5) (f : Nat) (hf : f < 9) (fd : Bool) (ft fm : Int) (ds : List DatT) : tgE n k f fd ft fm ds = if permE k f fd ft fm ds.length = 0 then fE (dnB ds n) 7 else permE k f fd ft fm ds.length := by
  obtain ⟨q, rfl⟩ : ∃ q : Nat, k = (q : Int) := ⟨k.toNat, by omega⟩
  obtain ⟨h1, h2, h3, h4, h5⟩ := bits_letters f hf q (by omega)
  unfold tgE permE
  rw [h1, h2, h3, h4, h5]
  exact firstE_app [_, _, _, _, _, _] _
theorem fpE_dl {fk ft fm : Int} {ds : List DatT} (h : fpE fk ft fm ds = 0) : ds.length ≤ 3 := by
  rcases Nat.lt_or_ge 3 ds.length with hc | hc
  case inr => exact hc
  have h3 : (3 : Int) < (ds.length : Int) := by omega
  unfold fpE at h
  rw [decide_eq_true h3] at h
  simp only [firstE, fE] at h
  repeat' split at h
  all_goals first | omega | simp_all
theorem rfrCheck {w0 : World} (n : ByteArray) (k a x y z lo hi : Int) (fp : Option Addr) (fl fc : Nat) (fk : Int) (fd : Bool) (ft fm : Int) (dp : Option Addr) (dl dc : Nat) (ds : List DatT) (hnz : n.size ≤ 1000000) (hd : DatS w0 (.slice dp dl dc) ds) (hz : ∀ d ∈ ds, d.1.size ≤ 1000000) : Cf w0 14 #[.agg #[.string n, .int .i64 k, .int .i64 a, .int .i64 x, .int .i64 y, .int .i64 z, .int .i64 lo, .int .i64 hi, .slice fp fl fc], .agg #[.int .i64 fk, .bool fd, .int .i64 ft, .int .i64 fm, .slice dp dl dc]] (.int .i64 (fcE n k a x y z lo hi fk fd ft fm ds)) := Lib.hid fun w gl => by
  have q1 := rfCheck n k a x y z lo hi (.slice fp fl fc) hnz
  have q2 := rfPlain fk fd ft fm dp dl dc ds hd hz
  have hl := hd.len
  unfold fcE
  generalize he : ftE n k a x y z lo hi = ea at *
  by_cases e1 : ea = 0
  · have f1 : firstE [ea] = 0 := by rw [e1]; rfl
    generalize hp : fpE fk ft fm ds = eb at *
    by_cases e2 : eb = 0
    · have f2 : firstE [eb] = 0 := by rw [e2]; rfl
      have hk := ft_k (he.trans e1)
      have hf := fpE_k (hp.trans e2)
      have q3 := rperm n k a x y z lo hi fp fl fc fk fd ft fm dp dl dc hf hk
      rw [tog_perm n k hk fk.toNat (by omega) fd ft fm ds, ← hl]
      rw [f1, f2]
      have e0 : ∀ t : Int, firstE [0, 0, t] = t := fun t => by
        show firstE [t] = t
        unfold firstE
        split
        · rename_i h; rw [h]; rfl
        · rfl
      rw [e0]
      generalize permE k fk.toNat fd ft fm dl = ec at *
      by_cases e3 : ec = 0
      · rw [if_pos e3]
        by_cases h0 : dl = 0
        · subst h0
          obtain rfl : ds = [] := List.length_eq_zero_iff.1 hl.symm
          exact rCheckE_1 w0 n k a x y z lo hi fp fl fc fk fd ft fm dp dc ea eb ec q1 q2 q3 (by rw [e1]; rfl) (by rw [e2]; rfl) (by rw [e3]; rfl) w gl
        · obtain ⟨b, off, rfl, _⟩ := hd.at (by omega)
          exact rCheckD_1 w0 n k a x y z lo hi fp fl fc fk fd ft fm b off dl dc ea eb ec q1 q2 q3 (by rw [e1]; rfl) (by rw [e2]; rfl) (by rw [e3]; rfl) ds hd (by have := fpE_dl (hp.trans e2); omega) w gl
      · rw [if_neg e3]
        exact rCheckC_1 w0 n k a x y z lo hi fp fl fc fk fd ft fm dp dl dc ea eb ec q1 q2 q3 (by rw [e1]; rfl) (by rw [e2]; rfl) (by simpa using e3) w gl
    · have f2 : firstE [eb] = eb := by rw [firstE, if_neg e2]
      rw [f1, f2, show ∀ t : Int, firstE [0, eb, t] = eb from fun t => by show firstE [eb, t] = eb; rw [firstE, if_neg e2]]
      exact rCheckB_1 w0 n k a x y z lo hi fp fl fc fk fd ft fm dp dl dc ea eb q1 q2 (by rw [e1]; rfl) (by simpa using e2) w gl
  · have f1 : firstE [ea] = ea := by rw [firstE, if_neg e1]
    rw [f1, show ∀ s t : Int, firstE [ea, s, t] = ea from fun s t => by rw [firstE, if_neg e1]]
    exact rCheckA_1 w0 n k a x y z lo hi fp fl fc fk fd ft fm dp dl dc ea q1 (by simpa using e1) w gl
theorem one_frs {w : World} {b : Nat} {k : Int} {d : Bool} {t m : Int} {dp : Option Addr} {dl dc : Nat} {ds : List DatT} (h : Is w b #[.int .i64 k, .bool d, .int .i64 t, .int .i64 m, .slice dp dl dc] 31) (hd : DatS w (.slice dp dl dc) ds) : FrS w (.slice (some ⟨b, 0, none⟩) 1 1) [⟨k, d, t, m, ds⟩] :=
  ⟨[.slice dp dl dc], rfl, sl_is (rows := [[.int .i64 k, .bool d, .int .i64 t, .int .i64 m, .slice dp dl dc]]) h (by simp) rfl (rows_ok rfl rfl), fun i f hf => by
    have hi := (List.getElem?_eq_some_iff.1 hf).1
    obtain rfl : i = 0 := by simpa using hi
    obtain rfl : (⟨k, d, t, m, ds⟩ : FrT) = f := by simpa using hf
    exact hd⟩
/-- a frame is few -/
def fewX (fk : Int) (fd : Bool) (ft fm : Int) (ds : List DatT) : Bool := fewB ⟨#[]⟩ [⟨fk, fd, ft, fm, ds⟩]
theorem fewX_len {fk : Int} {fd : Bool} {ft fm : Int} {ds : List DatT} (h : fewX fk fd ft fm ds = true) : ds.length ≤ 6 ∧ ∀ d ∈ ds, d.1.size ≤ 1000000 := by
  unfold fewX fewB at h
  simp only [List.all_cons, List.all_nil, Bool.and_true, Bool.and_eq_true] at h
  have h2 := h.2
  unfold fewF fewD at h2
  simp only [Bool.and_eq_true, decide_eq_true_eq, List.all_eq_true] at h2
  exact ⟨h2.1, fun d hd => by have := h2.2 d hd; unfold fewN at this; have := of_decide_eq_true this; omega⟩
theorem fawakeC {w0 : World} : Cf w0 12 #[] (.bool true) := Lib.hid fun w gl => fawake_1 w0 w gl
theorem cFew {w0 : World} (n : ByteArray) (k a x y z lo hi : Int) (fp : Option Addr) (fl fc : Nat) (fs : List FrT) (hfr : FrS w0 (.slice fp fl fc) fs) : Cf w0 10 #[.agg #[.string n, .int .i64 k, .int .i64 a, .int .i64 x, .int .i64 y, .int .i64 z, .int .i64 lo, .int .i64 hi, .slice fp fl fc]] (.bool (fewB n fs)) := Lib.hid fun W g => rFew n k a x y z lo hi fp fl fc fs W (hfr.kb g.at0)
set_option maxRecDepth 100000 in
set_option maxHeartbeats 4000000 in
theorem rFewX_1 (w0 : World) (fk : Int) (fd : Bool) (ft : Int) (fm : Int) (dp : Option Addr) (dl : Nat) (dc : Nat) (ds : List DatT)     (hd : DatS w0 (.slice dp dl dc) ds) (w : World) (gl : Gf w0 w)  : Calls Tryz.prog 11 #[.agg #[.int .i64 fk, .bool fd, .int .i64 ft, .int .i64 fm, .slice dp dl dc]] w fun r W' => r = .returned (.bool (fewX fk fd ft fm ds)) ∧ Kb w W' := by
  have kx := Kb.refl w
  have gl0 := Lib.hid gl
  have j1 := (Is.made w #[.int .i64 fk, .bool fd, .int .i64 ft, .int .i64 fm, .slice dp dl dc] 31)
  have f2 := j1.c (i := 0) rfl
  have f3 := j1.c (i := 1) rfl
  have f4 := j1.c (i := 2) rfl
  have f5 := j1.c (i := 3) rfl
  have f6 := j1.c (i := 4) rfl
  go_enter Tryz.func11, Tryz.ntmps11
  go_wp2_with fail
  clear f2 f3 f4 f5 f6
  have b1 := Is.made w #[.int .i64 fk, .bool fd, .int .i64 ft, .int .i64 fm, .slice dp dl dc] 31
  replace b1 := (b1.alloc (.cells #[.int .i64 fk, .bool fd, .int .i64 ft, .int .i64 fm, .slice dp dl dc] 31 (0, 0)))
  have b2 := Is.made (w.alloc (.cells #[.int .i64 fk, .bool fd, .int .i64 ft, .int .i64 fm, .slice dp dl dc] 31 (0, 0))) #[.int .i64 fk, .bool fd, .int .i64 ft, .int .i64 fm, .slice dp dl dc] 31
  simp only [World.size_alloc] at b2
  replace kx := (kx.alloc (.cells #[.int .i64 fk, .bool fd, .int .i64 ft, .int .i64 fm, .slice dp dl dc] 31 (0, 0))).alloc (.cells #[.int .i64 fk, .bool fd, .int .i64 ft, .int .i64 fm, .slice dp dl dc] 31 (0, 0))
  clear j1
  replace gl := gl0.out.kb kx
  (with_reducible refine (rFew ⟨#[]⟩ 0 0 0 0 0 0 0 _ 1 1 [⟨fk, fd, ft, fm, ds⟩] _ (one_frs b2 (hd.kx (gl.at0.kx)))).mono ?_)
  rintro r w1 ⟨rfl, k1⟩
  replace gl := gl.kb k1
  replace b1 := b1.kb k1
  replace b2 := b2.kb k1
  replace kx := kx.trans k1
  have s1 := k1.size
  simp only [World.size_alloc] at s1
  clear k1
  go_wp2
  go_ret
  exact ⟨rfl, kx⟩
theorem cFewX {w0 : World} (fk : Int) (fd : Bool) (ft fm : Int) (dp : Option Addr) (dl dc : Nat) (ds : List DatT) (hd : DatS w0 (.slice dp dl dc) ds) : Cf w0 11 #[.agg #[.int .i64 fk, .bool fd, .int .i64 ft, .int .i64 fm, .slice dp dl dc]] (.bool (fewX fk fd ft fm ds)) := Lib.hid fun w gl => rFewX_1 w0 fk fd ft fm dp dl dc ds hd w gl
end Go.Proofs.YtlimjohnimgnhaaGreatDoor

/- Frames: lists of frames: their errors, their names, their place in memory. -/
namespace Go.Proofs.YtlimjohnimgnhaaGreatDoor
open Go.RowKit

/-- frames whose datums have room lie there -/
def FrP (w : World) (v : Value) (fs : List FrT) : Prop := ∃ vs : List Value, vs.length = fs.length ∧ Sl [] 5 w v (List.zipWith frRow fs vs) ∧ (∀ i f, fs[i]? = some f → DatS w (vs.getD i undef) f.ds) ∧ ∀ i, i < fs.length → ∃ p l c, vs.getD i undef = .slice p l c ∧ l ≤ c
theorem FrP.frs {w : World} {v : Value} {fs : List FrT} (h : FrP w v fs) : FrS w v fs := by
  obtain ⟨vs, h1, h2, h3, _⟩ := h
  exact ⟨vs, h1, h2, h3⟩
theorem FrP.kx {w w' : World} {v : Value} {fs : List FrT} (h : FrP w v fs) (k : Kx [] w w') (_ : True := trivial) : FrP w' v fs := by
  obtain ⟨vs, h1, h2, h3, h4⟩ := h
  exact ⟨vs, h1, h2.kx k, fun i f hf => (h3 i f hf).kx k, h4⟩
theorem FrP.kb {w w' : World} {v : Value} {fs : List FrT} (h : FrP w v fs) (k : Kb w w') : FrP w' v fs := h.kx k.kx
theorem FrP.alloc {w : World} {v : Value} {fs : List FrT} (h : FrP w v fs) (o : Obj) : FrP (w.alloc o) v fs := h.kb ((Kb.refl _).alloc o)
theorem FrP.drew {w : World} {v : Value} {fs : List FrT} (h : FrP w v fs) : FrP w.drew v fs := h.kb (show Kb w w.drew from (Kb.refl _).drew)
theorem FrP.len {w : World} {p : Option Addr} {l c : Nat} {fs : List FrT} (h : FrP w (.slice p l c) fs) : l = fs.length := h.frs.len
theorem FrP.at {w : World} {p : Option Addr} {l c : Nat} {fs : List FrT} (h : FrP w (.slice p l c) fs) (hp : 0 < l) : ∃ b off, p = some ⟨b, off, none⟩ ∧ ∀ i f, fs[i]? = some f →
    ∃ q m e, (∀ w', Kb w w' → w'.cell? ⟨b, off + i * 5, none⟩ = some (.int .i64 f.k) ∧ w'.cell? ⟨b, off + i * 5 + 1, none⟩ = some (.bool f.d) ∧ w'.cell? ⟨b, off + i * 5 + 2, none⟩ = some (.int .i64 f.t) ∧ w'.cell? ⟨b, off + i * 5 + 3, none⟩ = some (.int .i64 f.m) ∧ w'.cell? ⟨b, off + i * 5 + 4, none⟩ = some (.slice q m e)) ∧ DatS w (.slice q m e) f.ds ∧ m ≤ e := by
  have hl := h.len
  obtain ⟨vs, h1, ⟨q, cap, h2, h3⟩, h4, h5⟩ := h
  injection h2 with e1 _ _
  subst e1
  obtain ⟨b, off, g1, _, _, g4⟩ := h3 (by simp [h1]; omega)
  refine ⟨b, off, g1, fun i f hf => ?_⟩
  have hi : i < fs.length := (List.getElem?_eq_some_iff.1 hf).1
  have hv := h4 i f hf
  obtain ⟨q, m, e, hq, hme⟩ := h5 i hi
  have hz : (List.zipWith frRow fs vs).getD i [] = frRow f (vs.getD i undef) := by
    have hvi : i < vs.length := by omega
    rw [List.getD_eq_getElem?_getD, List.getElem?_zipWith, hf, List.getElem?_eq_getElem hvi, List.getD_eq_getElem?_getD, List.getElem?_eq_getElem hvi]
    rfl
  have c := fun j hj => g4 i (by simp [h1]; omega) j hj
  rw [hz] at c
  rw [hq] at hv c
  exact ⟨q, m, e, fun w' k => ⟨k.cell (c 0 (by omega)), k.cell (c 1 (by omega)), k.cell (c 2 (by omega)), k.cell (c 3 (by omega)), k.cell (c 4 (by omega))⟩, hv, hme⟩
/-- a kind is among those of frames -/
def knB (fs : List FrT) (k : Int) : Bool := fs.any fun g => g.k == k
def fcF (n : ByteArray) (k a x y z lo hi : Int) (f : FrT) : Int := fcE n k a x y z lo hi f.k f.d f.t f.m f.ds
/-- the error of frames behind others -/
def fsF (n : ByteArray) (k a x y z lo hi : Int) : List FrT → List FrT → Int
  | _, [] => 0
  | b, f :: l => if fcF n k a x y z lo hi f = 0 then (if knB b f.k = true then 7 else fsF n k a x y z lo hi (b ++ [f]) l) else fcF n k a x y z lo hi f
theorem fsF_drop {n : ByteArray} {k a x y z lo hi : Int} {l : List FrT} {i : Nat} {f : FrT} (h : l[i]? = some f) : fsF n k a x y z lo hi (l.take i) (l.drop i) = if fcF n k a x y z lo hi f = 0 then (if knB (l.take i) f.k = true then 7 else fsF n k a x y z lo hi (l.take (i + 1)) (l.drop (i + 1))) else fcF n k a x y z lo hi f := by
  obtain ⟨hi', rfl⟩ := List.getElem?_eq_some_iff.1 h
  rw [List.drop_eq_getElem_cons hi', fsF, List.take_append_getElem hi']
/-- the error of a feature's frames -/
def alE (n : ByteArray) (k a x y z lo hi : Int) (fs : List FrT) : Int := if ftE n k a x y z lo hi = 0 then (if 8 < fs.length then 5 else fsF n k a x y z lo hi [] fs) else ftE n k a x y z lo hi
theorem fsF_zero {n : ByteArray} {k a x y z lo hi : Int} : ∀ (l b : List FrT), fsF n k a x y z lo hi b l = 0 ↔ (∀ f ∈ l, fcF n k a x y z lo hi f = 0) ∧ (l.Pairwise fun f g => f.k ≠ g.k) ∧ ∀ f ∈ l, ∀ g ∈ b, g.k ≠ f.k
  | [], b => by simp [fsF]
  | f :: l, b => by
    rw [fsF]
    by_cases h1 : fcF n k a x y z lo hi f = 0
    · rw [if_pos h1]
      by_cases h2 : knB b f.k = true
      · rw [if_pos h2]
        refine ⟨fun h => absurd h (by decide), fun ⟨_, _, h3⟩ => ?_⟩
        unfold knB at h2
        rw [List.any_eq_true] at h2
        obtain ⟨g, hg, he⟩ := h2
        exact absurd (by simpa using he) (h3 f (by simp) g hg)
      · rw [if_neg h2, fsF_zero l (b ++ [f])]
        have h4 : ∀ g ∈ b, g.k ≠ f.k := fun g hg he => h2 (by unfold knB; rw [List.any_eq_true]; exact ⟨g, hg, by simpa using he⟩)
        constructor
        · rintro ⟨p1, p2, p3⟩
          refine ⟨fun g hg => ?_, List.pairwise_cons.2 ⟨fun g hg => p3 g hg f (by simp), p2⟩, fun g hg u hu => ?_⟩
          · rcases List.mem_cons.1 hg with rfl | hg
            · exact h1
            · exact p1 g hg
          · rcases List.mem_cons.1 hg with rfl | hg
            · exact h4 u hu
            · exact p3 g hg u (by simp [hu])
        · rintro ⟨p1, p2, p3⟩
          obtain ⟨q1, q2⟩ := List.pairwise_cons.1 p2
          refine ⟨fun g hg => p1 g (by simp [hg]), q2, fun g hg u hu => ?_⟩
          rcases List.mem_append.1 hu with hu | hu
          · exact p3 g (by simp [hg]) u hu
          · obtain rfl : u = f := by simpa using hu
            exact q1 g hg
    · rw [if_neg h1]
      exact ⟨fun h => absurd h h1, fun ⟨p1, _, _⟩ => absurd (p1 f (by simp)) h1⟩
/-- the names of datums -/
def nmD (ds : List DatT) : List (List UInt8) := ds.map fun d => d.1.data.toList
def nmL (fs : List FrT) : List (List UInt8) := fs.flatMap fun f => nmD f.ds
theorem nmL_take {fs : List FrT} {i : Nat} {f : FrT} (h : fs[i]? = some f) : nmL (fs.take (i + 1)) = nmL (fs.take i) ++ nmD f.ds := by
  obtain ⟨hi, rfl⟩ := List.getElem?_eq_some_iff.1 h
  rw [← List.take_append_getElem hi]
  unfold nmL
  rw [List.flatMap_append]
  simp
theorem nmD_take {ds : List DatT} {i : Nat} {d : DatT} (h : ds[i]? = some d) : nmD (ds.take (i + 1)) = nmD (ds.take i) ++ [d.1.data.toList] := by
  obtain ⟨hi, rfl⟩ := List.getElem?_eq_some_iff.1 h
  rw [← List.take_append_getElem hi]
  unfold nmD
  rw [List.map_append]
  rfl
end Go.Proofs.YtlimjohnimgnhaaGreatDoor

/- Frames: a frame of a list in memory. -/
namespace Go.Proofs.YtlimjohnimgnhaaGreatDoor
open Go.RowKit

theorem FrP.get {w : World} {b off fl fc : Nat} {fs : List FrT} (h : FrP w (.slice (some ⟨b, off, none⟩) fl fc) fs) {i : Nat} {f : FrT} (hf : fs[i]? = some f) : ∃ q m e, (∀ w', Kb w w' → w'.cell? ⟨b, off + i * 5, none⟩ = some (.int .i64 f.k) ∧ w'.cell? ⟨b, off + i * 5 + 1, none⟩ = some (.bool f.d) ∧ w'.cell? ⟨b, off + i * 5 + 2, none⟩ = some (.int .i64 f.t) ∧ w'.cell? ⟨b, off + i * 5 + 3, none⟩ = some (.int .i64 f.m) ∧ w'.cell? ⟨b, off + i * 5 + 4, none⟩ = some (.slice q m e)) ∧ DatS w (.slice q m e) f.ds ∧ m ≤ e := by
  obtain ⟨b', off', eb, hat⟩ := h.at (by have := h.len; have := (List.getElem?_eq_some_iff.1 hf).1; omega)
  obtain ⟨rfl, rfl⟩ : b = b' ∧ off = off' := by
    injection eb with eb; injection eb with e1 e2; exact ⟨e1, e2⟩
  exact hat i f hf
end Go.Proofs.YtlimjohnimgnhaaGreatDoor

/- Frames: the law FrameConditions. -/
namespace Go.Proofs.YtlimjohnimgnhaaGreatDoor
open Go.RowKit

theorem fpE_m {k t m : Int} {ds : List DatT} (h : fpE k t m ds = 0) : (m = 0 ∨ m = 1 ∨ m = 2) ∧ 0 ≤ t ∧ t ≤ 100000 := by
  have h1 := (fst_z h).2
  have h2 := (fst_z (fst_z h1).1).1
  have h3 := fE_z (by decide) (fst_z (fst_z h1).2).1
  unfold cmE at h2
  have h4 := fE_z (by decide) h2
  rw [Bool.or_eq_false_iff, decide_eq_false_iff_not, decide_eq_false_iff_not] at h3 h4
  omega
end Go.Proofs.YtlimjohnimgnhaaGreatDoor
