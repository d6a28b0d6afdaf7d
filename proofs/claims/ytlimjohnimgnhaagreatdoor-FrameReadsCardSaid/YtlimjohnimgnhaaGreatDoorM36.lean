/- Texts OpenFtc, Ur3: each says in its own first comment what it proves. -/
import Derived.Test.YtlimjohnimgnhaaGreatDoorM05
import Derived.Test.YtlimjohnimgnhaaGreatDoorM37
import Derived.Test.YtlimjohnimgnhaaGreatDoorM26
import Derived.Test.YtlimjohnimgnhaaGreatDoorM03
/- Features with their frames, and room for the frames' datums, opened. -/
namespace Go.Proofs.YtlimjohnimgnhaaGreatDoor
open Go.ChangeShapes Go.WideShapes Go.RowKit Go.Deep

section
variable {H : Type} {enc : TypeId × Value → H} {w : World} {base : Nat} {spare : Nat → Bool} {held : Bool} {fuel : Nat} {cs : List Value} {x : DataW H × List MemPlace}
theorem open_frs_cap (h : DataW.trod enc Tryz.prog w base spare held fuel 26 cs = some x) : ∃ (p : Option Addr) (c : Nat) (l : List FrT), cs = [.slice p l.length c] ∧ FrP w (.slice p l.length c) l := by
  have t1 := Tryz.underlying26
  have t2 := Tryz.underlying31
  have t3 := Tryz.underlying4
  have t4 := Tryz.underlying3
  have ce : Tryz.prog.cellsOf 31 = 5 := by kernel_rfl
  have c0 : Tryz.prog.cellsOf 4 = 1 := by kernel_rfl
  have c1 : Tryz.prog.cellsOf 3 = 1 := by kernel_rfl
  have c2 : Tryz.prog.cellsOf 29 = 1 := by kernel_rfl
  have od : ∀ {fuel : Nat} {cs : List Value} {x : DataW H × List MemPlace}, DataW.trod enc Tryz.prog w base spare held fuel 29 cs = some x → ∃ (p : Option Addr) (c : Nat) (l : List DatT), cs = [.slice p l.length c] ∧ DatS w (.slice p l.length c) l ∧ l.length ≤ c := fun h => open_dats_cap h
  generalize Tryz.prog = P at *
  rcases open_slice t1 h with ⟨rfl, _⟩ | ⟨a, len, cap, m, n, D, Pl, rfl, hb, hlx, hm, hmm, rfl, hx⟩
  · exact ⟨none, 0, [], rfl, [], rfl, ⟨none, 0, rfl, fun h => absurd h (by simp)⟩, fun i f h => by simp at h, fun i h => absurd h (by simp)⟩
  · have hlm : len ≤ m := by rw [hmm]; split <;> omega
    have each : ∀ i, i < m → ∃ z : FrT × Value, (∀ j, j < 5 → w.cell? (a.add (i * 5 + j)) = some ((frRow z.1 z.2).getD j undef)) ∧ DatS w z.2 z.1.ds ∧ ∃ p l c, z.2 = .slice p l c ∧ l ≤ c := by
      intro i hi
      obtain ⟨cs', h1, h2⟩ := hx i hi
      rw [ce] at h1
      obtain ⟨_, hlen, hcell⟩ := World.cells?_some h1
      obtain ⟨xs, k, hk, hxy, _, hxl, hf⟩ := DataW.trod_struct t2 h2
      match xs, hxl, cs', hlen with
      | [y0, y1, y2, y3, y4], _, [v0, v1, v2, v3, v4], _ =>
        have g0 := hf 0 _ rfl
        have g1 := hf 1 _ rfl
        have g2 := hf 2 _ rfl
        have g3 := hf 3 _ rfl
        have g4 := hf 4 _ rfl
        simp [c0, c1, c2] at g0 g1 g2 g3 g4
        obtain ⟨z0, e0, _⟩ := DataW.trod_int t4 g0
        obtain ⟨z1, e1, _⟩ := DataW.trod_bool t3 g1
        obtain ⟨z2, e2, _⟩ := DataW.trod_int t4 g2
        obtain ⟨z3, e3, _⟩ := DataW.trod_int t4 g3
        obtain ⟨q, c, ds, e4, hd, hcc⟩ := od g4
        simp at e0 e1 e2 e3 e4
        subst e0 e1 e2 e3 e4
        refine ⟨(⟨z0, z1, z2, z3, ds⟩, .slice q ds.length c), fun j hj => ?_, hd, _, _, _, rfl, hcc⟩
        have := hcell j (by simpa using hj)
        rw [add_add] at this
        rw [this]
        match j, hj with
        | 0, _ => rfl
        | 1, _ => rfl
        | 2, _ => rfl
        | 3, _ => rfl
        | 4, _ => rfl
    obtain ⟨Z, hZ⟩ := Go.Deep.choose_lt each
    obtain ⟨b, off, spot⟩ := a
    have hsp : 0 < len → spot = none ∧ b < w.heap.size := fun h => by
      have h1 := (hZ 0 (by omega)).1 0 (by omega)
      exact ⟨by simpa [Addr.add] using World.cell?_spot h1, World.block_lt_of_cell? w _ h1⟩
    refine ⟨some ⟨b, off, spot⟩, cap, (List.range len).map (fun i => (Z i).1), by simp, (List.range len).map (fun i => (Z i).2), by simp, ⟨some ⟨b, off, spot⟩, cap, by simp, fun h => ?_⟩, fun i f hf => ?_, fun i hi => ?_⟩
    · obtain ⟨h1, h2⟩ := hsp (by simp at h; omega)
      subst h1
      refine ⟨b, off, rfl, h2, by simp, fun i hi j hj => ?_⟩
      have hi' : i < len := by simp at hi; omega
      have h0 := (hZ i (by omega)).1 j hj
      rw [add_plain] at h0
      rw [Nat.add_assoc, h0]
      simp [List.getD_eq_getElem?_getD, hi']
    · have hi' : i < len := by
        have := (List.getElem?_eq_some_iff.1 hf).1
        simpa using this
      obtain rfl : (Z i).1 = f := by simpa [hi'] using hf
      have := (hZ i (by omega)).2.1
      simpa [List.getD_eq_getElem?_getD, hi'] using this
    · have hi' : i < len := by simpa using hi
      have := (hZ i (by omega)).2.2
      simpa [List.getD_eq_getElem?_getD, hi'] using this
set_option maxRecDepth 100000 in
theorem open_ftr_cap {v : Value} {b2 : Nat} (hv : Value.okWide Tryz.prog w .any b2 28 v) (h : DataW.trod enc Tryz.prog w base spare held fuel 28 v.cells.toList = some x) :
    ∃ (n : ByteArray) (k a y0 y1 y2 lo hi : Int) (p : Option Addr) (l c : Nat) (fs : List FrT), v = .agg #[.string n, .int .i64 k, .int .i64 a, .int .i64 y0, .int .i64 y1, .int .i64 y2, .int .i64 lo, .int .i64 hi, .slice p l c] ∧ FrP w (.slice p l c) fs := by
  unfold Value.okWide at hv
  rw [Tryz.underlying28] at hv
  obtain ⟨cs, rfl, hsz, _⟩ := hv
  have ce : Tryz.prog.cellsOf 28 = 9 := by kernel_rfl
  rw [ce] at hsz
  have t1 := Tryz.underlying28
  have t2 := Tryz.underlying23
  have t3 := Tryz.underlying25
  have t4 := Tryz.underlying3
  have t5 := Tryz.underlying9
  have c0 : Tryz.prog.cellsOf 9 = 1 := by kernel_rfl
  have c1 : Tryz.prog.cellsOf 3 = 1 := by kernel_rfl
  have c2 : Tryz.prog.cellsOf 23 = 3 := by kernel_rfl
  have c3 : Tryz.prog.cellsOf 25 = 2 := by kernel_rfl
  have c4 : Tryz.prog.cellsOf 26 = 1 := by kernel_rfl
  have od : ∀ {fuel : Nat} {cs : List Value} {x : DataW H × List MemPlace}, DataW.trod enc Tryz.prog w base spare held fuel 26 cs = some x → ∃ (p : Option Addr) (c : Nat) (l : List FrT), cs = [.slice p l.length c] ∧ FrP w (.slice p l.length c) l := fun h => open_frs_cap h
  generalize Tryz.prog = P at *
  obtain ⟨xs, k, hk, hxy, _, hxl, hf⟩ := DataW.trod_struct t1 h
  match xs, hxl, cs, hsz with
  | [x0, x1, x2, x3, x4, x5], _, ⟨[v0, v1, v2, v3, v4, v5, v6, v7, v8]⟩, _ =>
    have g0 := hf 0 _ rfl
    have g1 := hf 1 _ rfl
    have g2 := hf 2 _ rfl
    have g3 := hf 3 _ rfl
    have g4 := hf 4 _ rfl
    have g5 := hf 5 _ rfl
    simp [Value.cells, c0, c1, c2, c3, c4] at g0 g1 g2 g3 g4 g5
    obtain ⟨z0, e0, _, _⟩ := DataW.trod_string t5 g0
    obtain ⟨z1, e1, _⟩ := DataW.trod_int t4 g1
    obtain ⟨z2, e2, _⟩ := DataW.trod_int t4 g2
    obtain ⟨us, k3, _, _, _, hul, hg⟩ := DataW.trod_struct t2 g3
    obtain ⟨ts, k4, _, _, _, htl, hh⟩ := DataW.trod_struct t3 g4
    obtain ⟨p, c, fs, e8, hfs⟩ := od g5
    match us, hul, ts, htl with
    | [u0, u1, u2], _, [t0, t1], _ =>
      have q0 := hg 0 _ rfl
      have q1 := hg 1 _ rfl
      have q2 := hg 2 _ rfl
      have r0 := hh 0 _ rfl
      have r1 := hh 1 _ rfl
      simp [c1] at q0 q1 q2 r0 r1
      obtain ⟨z3, e3, _⟩ := DataW.trod_int t4 q0
      obtain ⟨z4, e4, _⟩ := DataW.trod_int t4 q1
      obtain ⟨z5, e5, _⟩ := DataW.trod_int t4 q2
      obtain ⟨z6, e6, _⟩ := DataW.trod_int t4 r0
      obtain ⟨z7, e7, _⟩ := DataW.trod_int t4 r1
      simp at e0 e1 e2 e3 e4 e5 e6 e7 e8
      subst e0 e1 e2 e3 e4 e5 e6 e7 e8
      exact ⟨z0, z1, z2, z3, z4, z5, z6, z7, p, _, c, fs, rfl, hfs⟩
end
end Go.Proofs.YtlimjohnimgnhaaGreatDoor

/- Frames: Same of the program and of the reference. -/
namespace Go.Proofs.YtlimjohnimgnhaaGreatDoor
open Go.RowKit

set_option maxRecDepth 100000 in
set_option maxHeartbeats 4000000 in
theorem fEqD (p : Option Addr) (l c : Nat) (ds : List DatT) (w : World) (hd : DatS w (.slice p l c) ds) (hl : l ≤ 1000) : Calls Tryz.prog 75 #[.slice p l c, .slice p l c] w fun r W' => r = .returned (.bool true) ∧ Kb w W' := by
  have HD := Lib.hid hd
  have HL := Lib.hid hd.len
  clear hd
  go_enter Tryz.func75, Tryz.ntmps75
  go_wp2
  go_loopg [13] l (fun gk s13 wr => ∃ i : Nat, s13 = .int .i64 i ∧ i + gk = l ∧ Kb w wr)
  case atStart => exact ⟨0, rfl, by omega, Kb.refl _⟩
  case round =>
    obtain ⟨i, rfl, hi, kk⟩ := hrel
    have hi0 : (0 : Int) ≤ (i : Int) := by omega
    by_cases hlt : i < l
    · have hil : (i : Int) < (l : Int) := by omega
      obtain ⟨b, off, rfl, hat⟩ := (HD.out.kb kk).at (by omega)
      obtain ⟨⟨s, m⟩, hdi⟩ : ∃ d, ds[i]? = some d := ⟨_, List.getElem?_eq_getElem (by have := HL.out; omega)⟩
      obtain ⟨y0, y1⟩ := hat i _ hdi
      dsimp only at y0 y1
      clear hat hdi
      go_wp2
      go_region
      go_wp2
      go_roundg (gk - 1)
      case measure => omega
      case rel => exact ⟨i + 1, by go_num, by omega, kk.drew⟩
    · obtain rfl : i = l := by omega
      clear hi
      go_wp2
      go_ret
      exact ⟨rfl, kk⟩
set_option maxRecDepth 100000 in
set_option maxHeartbeats 4000000 in
theorem fSameX (fk : Int) (fd : Bool) (ft fm : Int) (dp : Option Addr) (dl dc : Nat) (ds : List DatT) (w : World) (hd : DatS w (.slice dp dl dc) ds) (hl : dl ≤ 1000) : Calls Tryz.prog 31 #[.agg #[.int .i64 fk, .bool fd, .int .i64 ft, .int .i64 fm, .slice dp dl dc], .agg #[.int .i64 fk, .bool fd, .int .i64 ft, .int .i64 fm, .slice dp dl dc]] w fun r W' => r = .returned (.bool true) ∧ Kb w W' := by
  have k0 := ((Kb.refl w).alloc (.cells #[.int .i64 fk, .bool fd, .int .i64 ft, .int .i64 fm, .slice dp dl dc] 31 (0, 0))).alloc (.cells #[.int .i64 fk, .bool fd, .int .i64 ft, .int .i64 fm, .slice dp dl dc] 31 (0, 0))
  have i1 := (Is.made w #[.int .i64 fk, .bool fd, .int .i64 ft, .int .i64 fm, .slice dp dl dc] 31).alloc (.cells #[.int .i64 fk, .bool fd, .int .i64 ft, .int .i64 fm, .slice dp dl dc] 31 (0, 0))
  have i2 := Is.made (w.alloc (.cells #[.int .i64 fk, .bool fd, .int .i64 ft, .int .i64 fm, .slice dp dl dc] 31 (0, 0))) #[.int .i64 fk, .bool fd, .int .i64 ft, .int .i64 fm, .slice dp dl dc] 31
  simp only [World.size_alloc] at i2
  have g0 := i1.c (i := 0) rfl
  have g1 := i1.c (i := 1) rfl
  have g2 := i1.c (i := 2) rfl
  have g3 := i1.c (i := 3) rfl
  have g4 := i1.c (i := 4) rfl
  have h0 := i2.c (i := 0) rfl
  have h1 := i2.c (i := 1) rfl
  have h2 := i2.c (i := 2) rfl
  have h3 := i2.c (i := 3) rfl
  have h4 := i2.c (i := 4) rfl
  have hq := Lib.hid (fEqD dp dl dc ds _ (hd.kb k0) hl)
  clear hd i1 i2
  go_enter Tryz.func31, Tryz.ntmps31
  go_wp2_with fail
  refine hq.out.mono ?_
  rintro r w1 ⟨rfl, k1⟩
  clear g0 g1 g2 g3 g4 h0 h1 h2 h3 h4 hq
  go_wp2
  go_ret
  exact ⟨rfl, k0.trans k1⟩
set_option maxRecDepth 100000 in
set_option maxHeartbeats 4000000 in
theorem rSameX (fk : Int) (fd : Bool) (ft fm : Int) (dp : Option Addr) (dl dc : Nat) (fk2 : Int) (fd2 : Bool) (ft2 fm2 : Int) (dp2 : Option Addr) (dl2 dc2 : Nat) (ds ds2 : List DatT) (w : World) (hd : DatS w (.slice dp dl dc) ds) (hd2 : DatS w (.slice dp2 dl2 dc2) ds2) (hl : dl ≤ 1000) : Calls Tryz.prog 30 #[.agg #[.int .i64 fk, .bool fd, .int .i64 ft, .int .i64 fm, .slice dp dl dc], .agg #[.int .i64 fk2, .bool fd2, .int .i64 ft2, .int .i64 fm2, .slice dp2 dl2 dc2]] w fun r W' => r = .returned (.bool (frB ⟨fk, fd, ft, fm, ds⟩ ⟨fk2, fd2, ft2, fm2, ds2⟩)) ∧ Kb w W' := by
  have k0 := ((Kb.refl w).alloc (.cells #[.int .i64 fk, .bool fd, .int .i64 ft, .int .i64 fm, .slice dp dl dc] 31 (0, 0))).alloc (.cells #[.int .i64 fk2, .bool fd2, .int .i64 ft2, .int .i64 fm2, .slice dp2 dl2 dc2] 31 (0, 0))
  have i1 := (Is.made w #[.int .i64 fk, .bool fd, .int .i64 ft, .int .i64 fm, .slice dp dl dc] 31).alloc (.cells #[.int .i64 fk2, .bool fd2, .int .i64 ft2, .int .i64 fm2, .slice dp2 dl2 dc2] 31 (0, 0))
  have i2 := Is.made (w.alloc (.cells #[.int .i64 fk, .bool fd, .int .i64 ft, .int .i64 fm, .slice dp dl dc] 31 (0, 0))) #[.int .i64 fk2, .bool fd2, .int .i64 ft2, .int .i64 fm2, .slice dp2 dl2 dc2] 31
  simp only [World.size_alloc] at i2
  have g0 := i1.c (i := 0) rfl
  have g1 := i1.c (i := 1) rfl
  have g2 := i1.c (i := 2) rfl
  have g3 := i1.c (i := 3) rfl
  have g4 := i1.c (i := 4) rfl
  have h0 := i2.c (i := 0) rfl
  have h1 := i2.c (i := 1) rfl
  have h2 := i2.c (i := 2) rfl
  have h3 := i2.c (i := 3) rfl
  have h4 := i2.c (i := 4) rfl
  have a1 := (Is.made ((w.alloc (.cells #[.int .i64 fk, .bool fd, .int .i64 ft, .int .i64 fm, .slice dp dl dc] 31 (0, 0))).alloc (.cells #[.int .i64 fk2, .bool fd2, .int .i64 ft2, .int .i64 fm2, .slice dp2 dl2 dc2] 31 (0, 0))) #[.int .i64 fk, .bool fd, .int .i64 ft, .int .i64 fm, .slice dp dl dc] 31).alloc (.cells #[.int .i64 fk2, .bool fd2, .int .i64 ft2, .int .i64 fm2, .slice dp2 dl2 dc2] 31 (0, 0))
  have a2 := Is.made (((w.alloc (.cells #[.int .i64 fk, .bool fd, .int .i64 ft, .int .i64 fm, .slice dp dl dc] 31 (0, 0))).alloc (.cells #[.int .i64 fk2, .bool fd2, .int .i64 ft2, .int .i64 fm2, .slice dp2 dl2 dc2] 31 (0, 0))).alloc (.cells #[.int .i64 fk, .bool fd, .int .i64 ft, .int .i64 fm, .slice dp dl dc] 31 (0, 0))) #[.int .i64 fk2, .bool fd2, .int .i64 ft2, .int .i64 fm2, .slice dp2 dl2 dc2] 31
  simp only [World.size_alloc] at a1 a2
  have k2 := (k0.alloc (.cells #[.int .i64 fk, .bool fd, .int .i64 ft, .int .i64 fm, .slice dp dl dc] 31 (0, 0))).alloc (.cells #[.int .i64 fk2, .bool fd2, .int .i64 ft2, .int .i64 fm2, .slice dp2 dl2 dc2] 31 (0, 0))
  have j0 := (i2.alloc (.cells #[.int .i64 fk, .bool fd, .int .i64 ft, .int .i64 fm, .slice dp dl dc] 31 (0, 0))).c (i := 0) rfl
  have j1 := (i2.alloc (.cells #[.int .i64 fk, .bool fd, .int .i64 ft, .int .i64 fm, .slice dp dl dc] 31 (0, 0))).c (i := 1) rfl
  have j2 := (i2.alloc (.cells #[.int .i64 fk, .bool fd, .int .i64 ft, .int .i64 fm, .slice dp dl dc] 31 (0, 0))).c (i := 2) rfl
  have j3 := (i2.alloc (.cells #[.int .i64 fk, .bool fd, .int .i64 ft, .int .i64 fm, .slice dp dl dc] 31 (0, 0))).c (i := 3) rfl
  have j4 := (i2.alloc (.cells #[.int .i64 fk, .bool fd, .int .i64 ft, .int .i64 fm, .slice dp dl dc] 31 (0, 0))).c (i := 4) rfl
  have hm := hd.len
  have hq := Lib.hid (rSameFr (some ⟨w.heap.size + 1 + 1, 0, none⟩) (some ⟨w.heap.size + 1 + 1 + 1, 0, none⟩) 1 1 1 1 [⟨fk, fd, ft, fm, ds⟩] [⟨fk2, fd2, ft2, fm2, ds2⟩] _ (one_frs a1 (hd.kb k2)) (one_frs a2 (hd2.kb k2)) (by decide) (Lib.hid fun f hf => by
    rw [List.mem_singleton] at hf
    subst hf
    show ds.length ≤ 1000000
    omega))
  clear hd hd2 i1 i2 a1 a2 hm
  go_enter Tryz.func30, Tryz.ntmps30
  go_wp2_with fail
  refine hq.out.mono ?_
  rintro r w3 ⟨rfl, k3⟩
  clear g0 g1 g2 g3 g4 h0 h1 h2 h3 h4 j0 j1 j2 j3 j4 hq
  go_wp2
  go_ret
  exact ⟨by simp [eqL], k2.trans k3⟩
end Go.Proofs.YtlimjohnimgnhaaGreatDoor
