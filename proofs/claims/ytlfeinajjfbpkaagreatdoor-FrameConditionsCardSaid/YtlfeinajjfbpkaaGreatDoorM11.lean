/- Texts OpenFtr: each says in its own first comment what it proves. -/
import Derived.Test.YtlfeinajjfbpkaaGreatDoorM48
import Derived.Test.YtlfeinajjfbpkaaGreatDoorM37
import Derived.Deep.SlicePairs
import Derived.ChangeArms
/- Features with their frames and datums, opened. -/
namespace Go.Proofs.YtlfeinajjfbpkaaGreatDoor
open Go.ChangeShapes Go.WideShapes Go.RowKit Go.Deep

instance : Inhabited FrT := ⟨⟨0, false, 0, 0, []⟩⟩
instance : Inhabited (FrT × Value) := ⟨(default, undef)⟩
section
variable {H : Type} {enc : TypeId × Value → H} {w : World} {base : Nat} {spare : Nat → Bool} {held : Bool} {fuel : Nat} {cs : List Value} {x : DataW H × List MemPlace}
theorem open_dats (h : DataW.trod enc Tryz.prog w base spare held fuel 29 cs = some x) : ∃ (p : Option Addr) (c : Nat) (l : List DatT), cs = [.slice p l.length c] ∧ DatS w (.slice p l.length c) l := by
  have t1 := Tryz.underlying29
  have t2 := Tryz.underlying76
  have t3 := Tryz.underlying9
  have t4 := Tryz.underlying3
  have ce : Tryz.prog.cellsOf 76 = 2 := by kernel_rfl
  have c0 : Tryz.prog.cellsOf 9 = 1 := by kernel_rfl
  have c1 : Tryz.prog.cellsOf 3 = 1 := by kernel_rfl
  generalize Tryz.prog = P at *
  rcases open_slice t1 h with ⟨rfl, _⟩ | ⟨a, len, cap, m, n, D, Pl, rfl, hb, hlx, hm, hmm, rfl, hx⟩
  · exact ⟨none, 0, [], rfl, none, 0, rfl, fun h => absurd h (by simp)⟩
  · have hlm : len ≤ m := by rw [hmm]; split <;> omega
    have each : ∀ i, i < m → ∃ z : DatT, ∀ j, j < 2 → w.cell? (a.add (i * 2 + j)) = some ((datRow z).getD j undef) := by
      intro i hi
      obtain ⟨cs', h1, h2⟩ := hx i hi
      rw [ce] at h1
      obtain ⟨_, hlen, hcell⟩ := World.cells?_some h1
      obtain ⟨xs, k, hk, hxy, _, hxl, hf⟩ := DataW.trod_struct t2 h2
      match xs, hxl, cs', hlen with
      | [y0, y1], _, [v0, v1], _ =>
        have g0 := hf 0 _ rfl
        have g1 := hf 1 _ rfl
        simp [c0, c1] at g0 g1
        obtain ⟨z0, e0, _, _⟩ := DataW.trod_string t3 g0
        obtain ⟨z1, e1, _⟩ := DataW.trod_int t4 g1
        simp at e0 e1
        subst e0 e1
        refine ⟨(z0, z1), fun j hj => ?_⟩
        have := hcell j (by simpa using hj)
        rw [add_add] at this
        rw [this]
        match j, hj with
        | 0, _ => rfl
        | 1, _ => rfl
    obtain ⟨Z, hZ⟩ := Go.Deep.choose_lt each
    obtain ⟨b, off, spot⟩ := a
    have hsp : 0 < len → spot = none ∧ b < w.heap.size := fun h => by
      have h1 := hZ 0 (by omega) 0 (by omega)
      exact ⟨by simpa [Addr.add] using World.cell?_spot h1, World.block_lt_of_cell? w _ h1⟩
    refine ⟨some ⟨b, off, spot⟩, cap, (List.range len).map Z, by simp, some ⟨b, off, spot⟩, cap, by simp, fun h => ?_⟩
    obtain ⟨h1, h2⟩ := hsp (by simpa using h)
    subst h1
    refine ⟨b, off, rfl, h2, by simp, fun i hi j hj => ?_⟩
    have hi' : i < len := by simpa using hi
    have h0 := hZ i (by omega) j hj
    rw [add_plain] at h0
    rw [Nat.add_assoc, h0]
    simp [List.getD_eq_getElem?_getD, hi']
theorem open_frs (h : DataW.trod enc Tryz.prog w base spare held fuel 26 cs = some x) : ∃ (p : Option Addr) (c : Nat) (l : List FrT), cs = [.slice p l.length c] ∧ FrS w (.slice p l.length c) l := by
  have t1 := Tryz.underlying26
  have t2 := Tryz.underlying31
  have t3 := Tryz.underlying4
  have t4 := Tryz.underlying3
  have ce : Tryz.prog.cellsOf 31 = 5 := by kernel_rfl
  have c0 : Tryz.prog.cellsOf 4 = 1 := by kernel_rfl
  have c1 : Tryz.prog.cellsOf 3 = 1 := by kernel_rfl
  have c2 : Tryz.prog.cellsOf 29 = 1 := by kernel_rfl
  have od : ∀ {fuel : Nat} {cs : List Value} {x : DataW H × List MemPlace}, DataW.trod enc Tryz.prog w base spare held fuel 29 cs = some x → ∃ (p : Option Addr) (c : Nat) (l : List DatT), cs = [.slice p l.length c] ∧ DatS w (.slice p l.length c) l := fun h => open_dats h
  generalize Tryz.prog = P at *
  rcases open_slice t1 h with ⟨rfl, _⟩ | ⟨a, len, cap, m, n, D, Pl, rfl, hb, hlx, hm, hmm, rfl, hx⟩
  · exact ⟨none, 0, [], rfl, [], rfl, ⟨none, 0, rfl, fun h => absurd h (by simp)⟩, fun i f h => by simp at h⟩
  · have hlm : len ≤ m := by rw [hmm]; split <;> omega
    have each : ∀ i, i < m → ∃ z : FrT × Value, (∀ j, j < 5 → w.cell? (a.add (i * 5 + j)) = some ((frRow z.1 z.2).getD j undef)) ∧ DatS w z.2 z.1.ds := by
      intro i hi
      obtain ⟨cs', h1, h2⟩ := hx i hi
      rw [ce] at h1
      obtain ⟨_, hlen, hcell⟩ := World.cells?_some h1
      obtain ⟨xs, k, hk, hxy, _, hxl, hf⟩ := DataW.trod_struct t2 h2
      match xs, hxl, cs', hlen with
      | [y0, y1, y2, y3, y4], _, [v0, v1, v2, v3, v4], _ =>
        have g0 := hf 0 _ rfl
        have g1 := hf 1 _ rfl
        have g2 := hf 2 _ rfl
        have g3 := hf 3 _ rfl
        have g4 := hf 4 _ rfl
        simp [c0, c1, c2] at g0 g1 g2 g3 g4
        obtain ⟨z0, e0, _⟩ := DataW.trod_int t4 g0
        obtain ⟨z1, e1, _⟩ := DataW.trod_bool t3 g1
        obtain ⟨z2, e2, _⟩ := DataW.trod_int t4 g2
        obtain ⟨z3, e3, _⟩ := DataW.trod_int t4 g3
        obtain ⟨q, c, ds, e4, hd⟩ := od g4
        simp at e0 e1 e2 e3 e4
        subst e0 e1 e2 e3 e4
        refine ⟨(⟨z0, z1, z2, z3, ds⟩, .slice q ds.length c), fun j hj => ?_, hd⟩
        have := hcell j (by simpa using hj)
        rw [add_add] at this
        rw [this]
        match j, hj with
        | 0, _ => rfl
        | 1, _ => rfl
        | 2, _ => rfl
        | 3, _ => rfl
        | 4, _ => rfl
    obtain ⟨Z, hZ⟩ := Go.Deep.choose_lt each
    obtain ⟨b, off, spot⟩ := a
    have hsp : 0 < len → spot = none ∧ b < w.heap.size := fun h => by
      have h1 := (hZ 0 (by omega)).1 0 (by omega)
      exact ⟨by simpa [Addr.add] using World.cell?_spot h1, World.block_lt_of_cell? w _ h1⟩
    refine ⟨some ⟨b, off, spot⟩, cap, (List.range len).map (fun i => (Z i).1), by simp, (List.range len).map (fun i => (Z i).2), by simp, ⟨some ⟨b, off, spot⟩, cap, by simp, fun h => ?_⟩, fun i f hf => ?_⟩
    · obtain ⟨h1, h2⟩ := hsp (by simp at h; omega)
      subst h1
      refine ⟨b, off, rfl, h2, by simp, fun i hi j hj => ?_⟩
      have hi' : i < len := by simp at hi; omega
      have h0 := (hZ i (by omega)).1 j hj
      rw [add_plain] at h0
      rw [Nat.add_assoc, h0]
      simp [List.getD_eq_getElem?_getD, hi']
    · have hi' : i < len := by
        have := (List.getElem?_eq_some_iff.1 hf).1
        simpa using this
      obtain rfl : (Z i).1 = f := by simpa [hi'] using hf
      have := (hZ i (by omega)).2
      simpa [List.getD_eq_getElem?_getD, hi'] using this
set_option maxRecDepth 100000 in
theorem open_ftr {v : Value} {b2 : Nat} (hv : Value.okWide Tryz.prog w .any b2 28 v) (h : DataW.trod enc Tryz.prog w base spare held fuel 28 v.cells.toList = some x) :
    ∃ (n : ByteArray) (k a y0 y1 y2 lo hi : Int) (p : Option Addr) (l c : Nat) (fs : List FrT), v = .agg #[.string n, .int .i64 k, .int .i64 a, .int .i64 y0, .int .i64 y1, .int .i64 y2, .int .i64 lo, .int .i64 hi, .slice p l c] ∧ FrS w (.slice p l c) fs := by
  unfold Value.okWide at hv
  rw [Tryz.underlying28] at hv
  obtain ⟨cs, rfl, hsz, _⟩ := hv
  have ce : Tryz.prog.cellsOf 28 = 9 := by kernel_rfl
  rw [ce] at hsz
  have t1 := Tryz.underlying28
  have t2 := Tryz.underlying23
  have t3 := Tryz.underlying25
  have t4 := Tryz.underlying3
  have t5 := Tryz.underlying9
  have c0 : Tryz.prog.cellsOf 9 = 1 := by kernel_rfl
  have c1 : Tryz.prog.cellsOf 3 = 1 := by kernel_rfl
  have c2 : Tryz.prog.cellsOf 23 = 3 := by kernel_rfl
  have c3 : Tryz.prog.cellsOf 25 = 2 := by kernel_rfl
  have c4 : Tryz.prog.cellsOf 26 = 1 := by kernel_rfl
  have od : ∀ {fuel : Nat} {cs : List Value} {x : DataW H × List MemPlace}, DataW.trod enc Tryz.prog w base spare held fuel 26 cs = some x → ∃ (p : Option Addr) (c : Nat) (l : List FrT), cs = [.slice p l.length c] ∧ FrS w (.slice p l.length c) l := fun h => open_frs h
  generalize Tryz.prog = P at *
  obtain ⟨xs, k, hk, hxy, _, hxl, hf⟩ := DataW.trod_struct t1 h
  match xs, hxl, cs, hsz with
  | [x0, x1, x2, x3, x4, x5], _, ⟨[v0, v1, v2, v3, v4, v5, v6, v7, v8]⟩, _ =>
    have g0 := hf 0 _ rfl
    have g1 := hf 1 _ rfl
    have g2 := hf 2 _ rfl
    have g3 := hf 3 _ rfl
    have g4 := hf 4 _ rfl
    have g5 := hf 5 _ rfl
    simp [Value.cells, c0, c1, c2, c3, c4] at g0 g1 g2 g3 g4 g5
    obtain ⟨z0, e0, _, _⟩ := DataW.trod_string t5 g0
    obtain ⟨z1, e1, _⟩ := DataW.trod_int t4 g1
    obtain ⟨z2, e2, _⟩ := DataW.trod_int t4 g2
    obtain ⟨us, k3, _, _, _, hul, hg⟩ := DataW.trod_struct t2 g3
    obtain ⟨ts, k4, _, _, _, htl, hh⟩ := DataW.trod_struct t3 g4
    obtain ⟨p, c, fs, e8, hfs⟩ := od g5
    match us, hul, ts, htl with
    | [u0, u1, u2], _, [t0, t1], _ =>
      have q0 := hg 0 _ rfl
      have q1 := hg 1 _ rfl
      have q2 := hg 2 _ rfl
      have r0 := hh 0 _ rfl
      have r1 := hh 1 _ rfl
      simp [c1] at q0 q1 q2 r0 r1
      obtain ⟨z3, e3, _⟩ := DataW.trod_int t4 q0
      obtain ⟨z4, e4, _⟩ := DataW.trod_int t4 q1
      obtain ⟨z5, e5, _⟩ := DataW.trod_int t4 q2
      obtain ⟨z6, e6, _⟩ := DataW.trod_int t4 r0
      obtain ⟨z7, e7, _⟩ := DataW.trod_int t4 r1
      simp at e0 e1 e2 e3 e4 e5 e6 e7 e8
      subst e0 e1 e2 e3 e4 e5 e6 e7 e8
      exact ⟨z0, z1, z2, z3, z4, z5, z6, z7, p, _, c, fs, rfl, hfs⟩
end
end Go.Proofs.YtlfeinajjfbpkaaGreatDoor
