/- Texts OpenFtc, Up8b: each says in its own first comment what it proves. -/
import Derived.Test.YtlimjohnimgnhaaGreatDoorM40
import Derived.Test.YtlimjohnimgnhaaGreatDoorM49
import Derived.Test.YtlimjohnimgnhaaGreatDoorM50
/- Features with their frames, and room for the frames' datums, opened. -/
namespace Go.Proofs.YtlimjohnimgnhaaGreatDoor
open Go.ChangeShapes Go.WideShapes Go.RowKit Go.Deep

section
variable {H : Type} {enc : TypeId × Value → H} {w : World} {base : Nat} {spare : Nat → Bool} {held : Bool} {fuel : Nat} {cs : List Value} {x : DataW H × List MemPlace}
theorem open_frs_cap (h : DataW.trod enc Tryz.prog w base spare held fuel 26 cs = some x) : ∃ (p : Option Addr) (c : Nat) (l : List FrT), cs = [.slice p l.length c] ∧ FrP w (.slice p l.length c) l := by
  have t1 := Tryz.underlying26
  have t2 := Tryz.underlying31
  have t3 := Tryz.underlying4
  have t4 := Tryz.underlying3
  have ce : Tryz.prog.cellsOf 31 = 5 := by kernel_rfl
  have c0 : Tryz.prog.cellsOf 4 = 1 := by kernel_rfl
  have c1 : Tryz.prog.cellsOf 3 = 1 := by kernel_rfl
  have c2 : Tryz.prog.cellsOf 29 = 1 := by kernel_rfl
  have od : ∀ {fuel : Nat} {cs : List Value} {x : DataW H × List MemPlace}, DataW.trod enc Tryz.prog w base spare held fuel 29 cs = some x → ∃ (p : Option Addr) (c : Nat) (l : List DatT), cs = [.slice p l.length c] ∧ DatS w (.slice p l.length c) l ∧ l.length ≤ c := fun h => open_dats_cap h
  generalize Tryz.prog = P at *
  rcases open_slice t1 h with ⟨rfl, _⟩ | ⟨a, len, cap, m, n, D, Pl, rfl, hb, hlx, hm, hmm, rfl, hx⟩
  · exact ⟨none, 0, [], rfl, [], rfl, ⟨none, 0, rfl, fun h => absurd h (by simp)⟩, fun i f h => by simp at h, fun i h => absurd h (by simp)⟩
  · have hlm : len ≤ m := by rw [hmm]; split <;> omega
    have each : ∀ i, i < m → ∃ z : FrT × Value, (∀ j, j < 5 → w.cell? (a.add (i * 5 + j)) = some ((frRow z.1 z.2).getD j undef)) ∧ DatS w z.2 z.1.ds ∧ ∃ p l c, z.2 = .slice p l c ∧ l ≤ c := by
      intro i hi
      obtain ⟨cs', h1, h2⟩ := hx i hi
      rw [ce] at h1
      obtain ⟨_, hlen, hcell⟩ := World.cells?_some h1
      obtain ⟨xs, k, hk, hxy, _, hxl, hf⟩ := DataW.trod_struct t2 h2
      match xs, hxl, cs', hlen with
      | [y0, y1, y2, y3, y4], _, [v0, v1, v2, v3, v4], _ =>
        have g0 := hf 0 _ rfl
        have g1 := hf 1 _ rfl
        have g2 := hf 2 _ rfl
        have g3 := hf 3 _ rfl
        have g4 := hf 4 _ rfl
        simp [c0, c1, c2] at g0 g1 g2 g3 g4
        obtain ⟨z0, e0, _⟩ := DataW.trod_int t4 g0
        obtain ⟨z1, e1, _⟩ := DataW.trod_bool t3 g1
        obtain ⟨z2, e2, _⟩ := DataW.trod_int t4 g2
        obtain ⟨z3, e3, _⟩ := DataW.trod_int t4 g3
        obtain ⟨q, c, ds, e4, hd, hcc⟩ := od g4
        simp at e0 e1 e2 e3 e4
        subst e0 e1 e2 e3 e4
        refine ⟨(⟨z0, z1, z2, z3, ds⟩, .slice q ds.length c), fun j hj => ?_, hd, _, _, _, rfl, hcc⟩
        have := hcell j (by simpa using hj)
        rw [add_add] at this
        rw [this]
        match j, hj with
        | 0, _ => rfl
        | 1, _ => rfl
        | 2, _ => rfl
        | 3, _ => rfl
        | 4, _ => rfl
    obtain ⟨Z, hZ⟩ := Go.Deep.choose_lt each
    obtain ⟨b, off, spot⟩ := a
    have hsp : 0 < len → spot = none ∧ b < w.heap.size := fun h => by
      have h1 := (hZ 0 (by omega)).1 0 (by omega)
      exact ⟨by simpa [Addr.add] using World.cell?_spot h1, World.block_lt_of_cell? w _ h1⟩
    refine ⟨some ⟨b, off, spot⟩, cap, (List.range len).map (fun i => (Z i).1), by simp, (List.range len).map (fun i => (Z i).2), by simp, ⟨some ⟨b, off, spot⟩, cap, by simp, fun h => ?_⟩, fun i f hf => ?_, fun i hi => ?_⟩
    · obtain ⟨h1, h2⟩ := hsp (by simp at h; omega)
      subst h1
      refine ⟨b, off, rfl, h2, by simp, fun i hi j hj => ?_⟩
      have hi' : i < len := by simp at hi; omega
      have h0 := (hZ i (by omega)).1 j hj
      rw [add_plain] at h0
      rw [Nat.add_assoc, h0]
      simp [List.getD_eq_getElem?_getD, hi']
    · have hi' : i < len := by
        have := (List.getElem?_eq_some_iff.1 hf).1
        simpa using this
      obtain rfl : (Z i).1 = f := by simpa [hi'] using hf
      have := (hZ i (by omega)).2.1
      simpa [List.getD_eq_getElem?_getD, hi'] using this
    · have hi' : i < len := by simpa using hi
      have := (hZ i (by omega)).2.2
      simpa [List.getD_eq_getElem?_getD, hi'] using this
set_option maxRecDepth 100000 in
theorem open_ftr_cap {v : Value} {b2 : Nat} (hv : Value.okWide Tryz.prog w .any b2 28 v) (h : DataW.trod enc Tryz.prog w base spare held fuel 28 v.cells.toList = some x) :
    ∃ (n : ByteArray) (k a y0 y1 y2 lo hi : Int) (p : Option Addr) (l c : Nat) (fs : List FrT), v = .agg #[.string n, .int .i64 k, .int .i64 a, .int .i64 y0, .int .i64 y1, .int .i64 y2, .int .i64 lo, .int .i64 hi, .slice p l c] ∧ FrP w (.slice p l c) fs := by
  unfold Value.okWide at hv
  rw [Tryz.underlying28] at hv
  obtain ⟨cs, rfl, hsz, _⟩ := hv
  have ce : Tryz.prog.cellsOf 28 = 9 := by kernel_rfl
  rw [ce] at hsz
  have t1 := Tryz.underlying28
  have t2 := Tryz.underlying23
  have t3 := Tryz.underlying25
  have t4 := Tryz.underlying3
  have t5 := Tryz.underlying9
  have c0 : Tryz.prog.cellsOf 9 = 1 := by kernel_rfl
  have c1 : Tryz.prog.cellsOf 3 = 1 := by kernel_rfl
  have c2 : Tryz.prog.cellsOf 23 = 3 := by kernel_rfl
  have c3 : Tryz.prog.cellsOf 25 = 2 := by kernel_rfl
  have c4 : Tryz.prog.cellsOf 26 = 1 := by kernel_rfl
  have od : ∀ {fuel : Nat} {cs : List Value} {x : DataW H × List MemPlace}, DataW.trod enc Tryz.prog w base spare held fuel 26 cs = some x → ∃ (p : Option Addr) (c : Nat) (l : List FrT), cs = [.slice p l.length c] ∧ FrP w (.slice p l.length c) l := fun h => open_frs_cap h
  generalize Tryz.prog = P at *
  obtain ⟨xs, k, hk, hxy, _, hxl, hf⟩ := DataW.trod_struct t1 h
  match xs, hxl, cs, hsz with
  | [x0, x1, x2, x3, x4, x5], _, ⟨[v0, v1, v2, v3, v4, v5, v6, v7, v8]⟩, _ =>
    have g0 := hf 0 _ rfl
    have g1 := hf 1 _ rfl
    have g2 := hf 2 _ rfl
    have g3 := hf 3 _ rfl
    have g4 := hf 4 _ rfl
    have g5 := hf 5 _ rfl
    simp [Value.cells, c0, c1, c2, c3, c4] at g0 g1 g2 g3 g4 g5
    obtain ⟨z0, e0, _, _⟩ := DataW.trod_string t5 g0
    obtain ⟨z1, e1, _⟩ := DataW.trod_int t4 g1
    obtain ⟨z2, e2, _⟩ := DataW.trod_int t4 g2
    obtain ⟨us, k3, _, _, _, hul, hg⟩ := DataW.trod_struct t2 g3
    obtain ⟨ts, k4, _, _, _, htl, hh⟩ := DataW.trod_struct t3 g4
    obtain ⟨p, c, fs, e8, hfs⟩ := od g5
    match us, hul, ts, htl with
    | [u0, u1, u2], _, [t0, t1], _ =>
      have q0 := hg 0 _ rfl
      have q1 := hg 1 _ rfl
      have q2 := hg 2 _ rfl
      have r0 := hh 0 _ rfl
      have r1 := hh 1 _ rfl
      simp [c1] at q0 q1 q2 r0 r1
      obtain ⟨z3, e3, _⟩ := DataW.trod_int t4 q0
      obtain ⟨z4, e4, _⟩ := DataW.trod_int t4 q1
      obtain ⟨z5, e5, _⟩ := DataW.trod_int t4 q2
      obtain ⟨z6, e6, _⟩ := DataW.trod_int t4 r0
      obtain ⟨z7, e7, _⟩ := DataW.trod_int t4 r1
      simp at e0 e1 e2 e3 e4 e5 e6 e7 e8
      subst e0 e1 e2 e3 e4 e5 e6 e7 e8
      exact ⟨z0, z1, z2, z3, z4, z5, z6, z7, p, _, c, fs, rfl, hfs⟩
end
end Go.Proofs.YtlimjohnimgnhaaGreatDoor

/- Frames: the reference: Named. -/
namespace Go.Proofs.YtlimjohnimgnhaaGreatDoor
open Go.RowKit

set_option maxRecDepth 100000 in
set_option maxHeartbeats 8000000 in
theorem rNamed1 {w0 : World} (n : ByteArray) (k a x y z lo hi : Int) (b off fl fc : Nat) (fs : List FrT) (hf0 : FrP w0 (.slice (some ⟨b, off, none⟩) fl fc) fs) (hN : (nmL fs).length ≤ 1000) (hF : fl ≤ 1000) (w : World) (gl : Kb w0 w) : Calls Tryz.prog 56 #[.agg #[.string n, .int .i64 k, .int .i64 a, .int .i64 x, .int .i64 y, .int .i64 z, .int .i64 lo, .int .i64 hi, .slice (some ⟨b, off, none⟩) fl fc]] w fun r W' => (∃ v, r = .returned v ∧ SlU w.heap.size 1 W' v ((srt (nmL fs)).map fun x => [encStr x])) ∧ Kb w W' := by
  have HF := Lib.hid hf0
  have HL := Lib.hid hf0.len
  have HG := Lib.hid gl
  have HN := Lib.hid hN
  clear hf0 hN gl
  have i1 := Is.made w #[.string n, .int .i64 k, .int .i64 a, .int .i64 x, .int .i64 y, .int .i64 z, .int .i64 lo, .int .i64 hi, .slice (some ⟨b, off, none⟩) fl fc] 28
  have k0 := (Kb.refl w).alloc (.cells #[.string n, .int .i64 k, .int .i64 a, .int .i64 x, .int .i64 y, .int .i64 z, .int .i64 lo, .int .i64 hi, .slice (some ⟨b, off, none⟩) fl fc] 28 (0, 0))
  have c8 := i1.c (i := 8) rfl
  have hs0 : SlU w.heap.size 1 (w.alloc (.cells #[.string n, .int .i64 k, .int .i64 a, .int .i64 x, .int .i64 y, .int .i64 z, .int .i64 lo, .int .i64 hi, .slice (some ⟨b, off, none⟩) fl fc] 28 (0, 0))) (.slice none 0 0) ((srt (nmL (fs.take 0))).map fun x => [encStr x]) := by
    have hz : srt (nmL (fs.take 0)) = [] := rfl
    rw [hz]
    exact ⟨none, 0, rfl, fun h => absurd h (by simp)⟩
  go_enter Tryz.func56, Tryz.ntmps56
  go_wp2
  clear c8
  go_loopg [4, 3] fl (fun gk s4 s3 wr => ∃ (i : Nat) (v : Value), s4 = .int .i64 i ∧ v = s3 ∧ i + gk = fl ∧ SlU w.heap.size 1 wr v ((srt (nmL (fs.take i))).map fun x => [encStr x]) ∧ Is wr w.heap.size #[.string n, .int .i64 k, .int .i64 a, .int .i64 x, .int .i64 y, .int .i64 z, .int .i64 lo, .int .i64 hi, .slice (some ⟨b, off, none⟩) fl fc] 28 ∧ Kb w wr)
  case atStart => exact ⟨0, _, rfl, rfl, by omega, hs0, i1, k0⟩
  case round =>
    clear i1 k0 hs0
    obtain ⟨i, v, rfl, rfl, hi, hs, i1, kk⟩ := hrel
    have hi0 : (0 : Int) ≤ (i : Int) := by omega
    have c8 := i1.c (i := 8) rfl
    by_cases hlt : i < fl
    · have hil : (i : Int) < (fl : Int) := by omega
      obtain ⟨f, hfi⟩ : ∃ f, fs[i]? = some f := ⟨_, List.getElem?_eq_getElem (by have := HL.out; omega)⟩
      obtain ⟨q, m, e, hcells, hds, _⟩ := HF.out.get hfi
      have HC := Lib.hid hcells
      have HFI := Lib.hid hfi
      have HD := Lib.hid hds
      have HM := Lib.hid hds.len
      have HP := Lib.hid (nmL_pre hfi)
      have hmB : m ≤ 1000 := by have h1 := HP.out; have h2 := HN.out; have h3 := HM.out; omega
      have Hi := Lib.hid hi
      have hs2 : SlU w.heap.size 1 wr v ((srt (nmL (fs.take i) ++ nmD (f.ds.take 0))).map fun x => [encStr x]) := by
        rw [show nmD (f.ds.take 0) = [] from rfl, List.append_nil]; exact hs
      clear hcells hds hfi hi hs
      go_wp2
      rename_i gi _ _ _
      clear c8
      go_loopg [5, 3] m (fun gk s5 s3 wr => ∃ (j : Nat) (v : Value), s5 = .int .i64 j ∧ v = s3 ∧ j + gk = m ∧ SlU w.heap.size 1 wr v ((srt (nmL (fs.take i) ++ nmD (f.ds.take j))).map fun x => [encStr x]) ∧ Is wr w.heap.size #[.string n, .int .i64 k, .int .i64 a, .int .i64 x, .int .i64 y, .int .i64 z, .int .i64 lo, .int .i64 hi, .slice (some ⟨b, off, none⟩) fl fc] 28 ∧ Kb w wr)
      case atStart => exact ⟨0, _, rfl, rfl, by omega, hs2, i1, kk⟩
      case round =>
        clear i1 hs2 kk
        obtain ⟨j, v, rfl, rfl, hj, hs, i1, jk⟩ := hrel
        have hj0 : (0 : Int) ≤ (j : Int) := by omega
        have c8 := i1.c (i := 8) rfl
        obtain ⟨_, _, _, _, y4⟩ := HC.out _ (HG.out.trans jk)
        by_cases hjm : j < m
        · have hjl : (j : Int) < (m : Int) := by omega
          obtain ⟨⟨s, c⟩, hdj⟩ : ∃ d, f.ds[j]? = some d := ⟨_, List.getElem?_eq_getElem (by have := HM.out; omega)⟩
          obtain ⟨b2, off2, rfl, hat⟩ := HD.out.at (by omega)
          obtain ⟨z0, z1⟩ := hat j _ hdj
          dsimp only at z0 z1
          replace z0 := (HG.out.trans jk).cell z0
          have hT := nmD_take hdj
          dsimp only at hT
          have Hj := Lib.hid hj
          have HT := Lib.hid hT
          have hlen : (srt (nmL (fs.take i) ++ nmD (f.ds.take j))).length ≤ 1000 := by
            have h1 := srt_len (nmL (fs.take i) ++ nmD (f.ds.take j))
            have h2 := nmD_len f.ds j
            have h3 := HP.out
            have h4 := HN.out
            rw [List.length_append] at h1
            omega
          obtain ⟨p, ll, cap, rfl, hll⟩ := hs.shape
          have hq := Lib.hid (rPut _ s wr hs.sl (by rw [hll, List.length_map]; exact hlen) (srt_asc _))
          clear hdj hat hj hT z1 hlen hs hll
          go_wp2_with fail
          refine hq.out.mono ?_
          rintro r w4 ⟨⟨v4, rfl, hv4⟩, k4⟩
          replace i1 := i1.kb k4
          have hv5 : SlU w.heap.size 1 w4 v4 ((srt (nmL (fs.take i) ++ nmD (f.ds.take (j + 1)))).map fun x => [encStr x]) := by
            rw [HT.out, ← List.append_assoc, srt_snoc]
            exact hv4.mono jk.size
          have jk2 := jk.trans k4
          clear hv4 k4 c8 y4 z0 hq
          go_wp2
          have hj := Hj.out
          go_roundg (gk - 1)
          case measure => omega
          case rel => exact ⟨j + 1, v4, by go_num, rfl, by omega, hv5, i1, jk2⟩
        · obtain rfl : j = m := by omega
          have hW : nmL (fs.take i) ++ nmD (f.ds.take j) = nmL (fs.take (i + 1)) := by
            have hW0 : f.ds.take j = f.ds := List.take_of_length_le (by have := HM.out; omega)
            rw [nmL_take HFI.out, hW0]
          rw [hW] at hs
          clear hW hj
          go_wp2
          have hi := Hi.out
          go_roundg (fl - i - 1)
          case measure => omega
          case rel => exact ⟨i + 1, v, by go_num, rfl, by omega, hs, i1, jk⟩
    · obtain rfl : i = fl := by omega
      rw [List.take_of_length_le (by have := HL.out; omega)] at hs
      clear hi i1
      go_wp2
      go_ret
      exact ⟨⟨v, rfl, hs⟩, kk⟩
end Go.Proofs.YtlimjohnimgnhaaGreatDoor
