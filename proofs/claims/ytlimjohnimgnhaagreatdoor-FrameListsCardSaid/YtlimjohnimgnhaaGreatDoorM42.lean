/- Texts Up8, OpenFtr: each says in its own first comment what it proves. -/
import Derived.Test.YtlimjohnimgnhaaGreatDoorM09
import Derived.Test.YtlimjohnimgnhaaGreatDoorM10
import Derived.Test.YtlimjohnimgnhaaGreatDoorM47
import Derived.Test.YtlimjohnimgnhaaGreatDoorM37
import Derived.Deep.SlicePairs
import Derived.ChangeArms
/- Frames: the reference: Named, its kit. -/
namespace Go.Proofs.YtlimjohnimgnhaaGreatDoor
open Go.RowKit

theorem insS_len (s : List UInt8) (l : List (List UInt8)) : (insS s l).length ≤ l.length + 1 := by
  induction l with
  | nil => simp [insS]
  | cons x l ih =>
    rw [insS]
    split
    · split <;> simp
    · simp only [List.length_cons]; omega
theorem fold_len (L : List (List UInt8)) : ∀ a : List (List UInt8), (L.foldl (fun a s => insS s a) a).length ≤ a.length + L.length := by
  induction L with
  | nil => intro a; exact Nat.le_refl _
  | cons s L ih =>
    intro a
    have h1 := ih (insS s a)
    have h2 := insS_len s a
    rw [List.foldl_cons, List.length_cons]
    omega
theorem srt_len (L : List (List UInt8)) : (srt L).length ≤ L.length := by
  have := fold_len L []
  unfold srt
  simpa using this
set_option maxRecDepth 100000 in
theorem rPut0 (p : Option Addr) (c : Nat) (s : ByteArray) (w : World) : Calls Tryz.prog 99 #[.slice p 0 c, .string s] w fun r W' => (∃ v, r = .returned v ∧ SlU w.heap.size 1 W' v (([s.data.toList] : List (List UInt8)).map fun x => [encStr x])) ∧ Kb w W' := by
  obtain ⟨i0, hi0, hz0, hz1, hz2⟩ := info_parts rPut_info
  have hown := World.ownsRow_nil w w.heap.size 9 1
  go_enter Tryz.func99, Tryz.ntmps99
  go_wp2_with fail
  refine wp_loop_rounds 1 ?_
  rw [rounds_succ]
  go_wp2_with (first | (at_builtin; refine wpList_append_own _ rfl _ _ 41 rfl w.heap.size 9 i0 (.string ⟨#[]⟩) 1 16 Tryz.underlying41 hi0 hz0 hz1 hz2 rfl (by decide) _ _ _ rfl (hown.alloc _) ⟨w.heap.size, 0, none⟩ 1 1 [.string s] rfl rfl ?c1 ?c2 ?c3 ?c4 ?c5 ?_) | fail)
  case c1 => exact World.news_of_block (World.alloc_heap_new _ _)
  case c2 => simp [Value.oneCell']
  case c3 => unfold maxLen; omega
  case c4 => omega
  case c5 => simp
  intro v' w2 hown2 hgrow _
  have kx2 := Kb.grown ((Kb.refl w).alloc _) hgrow (owns_far hown)
  clear hgrow hown
  go_wp2
  go_ret
  refine ⟨⟨_, rfl, own_slS (ss := [s.data.toList]) ?_ rfl⟩, kx2⟩
  rw [show ([s.data.toList] : List (List UInt8)).map encStr = [.string s] by rw [str_enc]; rfl]
  exact hown2
theorem rPut {p : Option Addr} {l c : Nat} (ss : List (List UInt8)) (s : ByteArray) (w : World) (hs : SlS w (.slice p l c) ss) (hn : l ≤ 1000) (ha : Asc ss) : Calls Tryz.prog 99 #[.slice p l c, .string s] w fun r W' => (∃ v, r = .returned v ∧ SlU w.heap.size 1 W' v ((insS s.data.toList ss).map fun x => [encStr x])) ∧ Kb w W' := by
  have hl := hs.len
  by_cases h0 : l = 0
  · subst h0
    obtain rfl : ss = [] := List.length_eq_zero_iff.1 hl.symm
    exact rPut0 p c s w
  · have hs' := hs
    obtain ⟨q, cap, e, h2⟩ := hs'
    injection e with e1 e2 e3
    obtain ⟨b, off, e4, _⟩ := h2 (by simp; omega)
    subst e1
    have q := rPut1 b off l c ss s w (by rw [← e4]; exact hs) hn
    rw [putR_eq _ _ _ ha, List.nil_append, ← e4] at q
    exact q
theorem SlU.shape {n k : Nat} {w : World} {v : Value} {rows : List (List Value)} (h : SlU n k w v rows) : ∃ p l c, v = .slice p l c ∧ l = rows.length := by
  obtain ⟨p, c, e, _⟩ := h
  exact ⟨p, _, c, e, rfl⟩
set_option maxRecDepth 100000 in
theorem rNamed0 (n : ByteArray) (k a x y z lo hi : Int) (fp : Option Addr) (fc : Nat) (w : World) : Calls Tryz.prog 56 #[.agg #[.string n, .int .i64 k, .int .i64 a, .int .i64 x, .int .i64 y, .int .i64 z, .int .i64 lo, .int .i64 hi, .slice fp 0 fc]] w fun r W' => r = .returned (.slice none 0 0) ∧ Kb w W' := by
  have c8 := (Is.made w #[.string n, .int .i64 k, .int .i64 a, .int .i64 x, .int .i64 y, .int .i64 z, .int .i64 lo, .int .i64 hi, .slice fp 0 fc] 28).c (i := 8) rfl
  have k0 := (Kb.refl w).alloc (.cells #[.string n, .int .i64 k, .int .i64 a, .int .i64 x, .int .i64 y, .int .i64 z, .int .i64 lo, .int .i64 hi, .slice fp 0 fc] 28 (0, 0))
  go_enter Tryz.func56, Tryz.ntmps56
  go_wp2_with fail
  refine wp_loop_rounds 1 ?_
  rw [rounds_succ]
  go_wp2
  go_ret
  exact ⟨rfl, k0⟩
end Go.Proofs.YtlimjohnimgnhaaGreatDoor

/- Features with their frames and datums, opened. -/
namespace Go.Proofs.YtlimjohnimgnhaaGreatDoor
open Go.ChangeShapes Go.WideShapes Go.RowKit Go.Deep

instance : Inhabited FrT := ⟨⟨0, false, 0, 0, []⟩⟩
instance : Inhabited (FrT × Value) := ⟨(default, undef)⟩
section
variable {H : Type} {enc : TypeId × Value → H} {w : World} {base : Nat} {spare : Nat → Bool} {held : Bool} {fuel : Nat} {cs : List Value} {x : DataW H × List MemPlace}
theorem open_dats (h : DataW.trod enc Tryz.prog w base spare held fuel 29 cs = some x) : ∃ (p : Option Addr) (c : Nat) (l : List DatT), cs = [.slice p l.length c] ∧ DatS w (.slice p l.length c) l := by
  have t1 := Tryz.underlying29
  have t2 := Tryz.underlying76
  have t3 := Tryz.underlying9
  have t4 := Tryz.underlying3
  have ce : Tryz.prog.cellsOf 76 = 2 := by kernel_rfl
  have c0 : Tryz.prog.cellsOf 9 = 1 := by kernel_rfl
  have c1 : Tryz.prog.cellsOf 3 = 1 := by kernel_rfl
  generalize Tryz.prog = P at *
  rcases open_slice t1 h with ⟨rfl, _⟩ | ⟨a, len, cap, m, n, D, Pl, rfl, hb, hlx, hm, hmm, rfl, hx⟩
  · exact ⟨none, 0, [], rfl, none, 0, rfl, fun h => absurd h (by simp)⟩
  · have hlm : len ≤ m := by rw [hmm]; split <;> omega
    have each : ∀ i, i < m → ∃ z : DatT, ∀ j, j < 2 → w.cell? (a.add (i * 2 + j)) = some ((datRow z).getD j undef) := by
      intro i hi
      obtain ⟨cs', h1, h2⟩ := hx i hi
      rw [ce] at h1
      obtain ⟨_, hlen, hcell⟩ := World.cells?_some h1
      obtain ⟨xs, k, hk, hxy, _, hxl, hf⟩ := DataW.trod_struct t2 h2
      match xs, hxl, cs', hlen with
      | [y0, y1], _, [v0, v1], _ =>
        have g0 := hf 0 _ rfl
        have g1 := hf 1 _ rfl
        simp [c0, c1] at g0 g1
        obtain ⟨z0, e0, _, _⟩ := DataW.trod_string t3 g0
        obtain ⟨z1, e1, _⟩ := DataW.trod_int t4 g1
        simp at e0 e1
        subst e0 e1
        refine ⟨(z0, z1), fun j hj => ?_⟩
        have := hcell j (by simpa using hj)
        rw [add_add] at this
        rw [this]
        match j, hj with
        | 0, _ => rfl
        | 1, _ => rfl
    obtain ⟨Z, hZ⟩ := Go.Deep.choose_lt each
    obtain ⟨b, off, spot⟩ := a
    have hsp : 0 < len → spot = none ∧ b < w.heap.size := fun h => by
      have h1 := hZ 0 (by omega) 0 (by omega)
      exact ⟨by simpa [Addr.add] using World.cell?_spot h1, World.block_lt_of_cell? w _ h1⟩
    refine ⟨some ⟨b, off, spot⟩, cap, (List.range len).map Z, by simp, some ⟨b, off, spot⟩, cap, by simp, fun h => ?_⟩
    obtain ⟨h1, h2⟩ := hsp (by simpa using h)
    subst h1
    refine ⟨b, off, rfl, h2, by simp, fun i hi j hj => ?_⟩
    have hi' : i < len := by simpa using hi
    have h0 := hZ i (by omega) j hj
    rw [add_plain] at h0
    rw [Nat.add_assoc, h0]
    simp [List.getD_eq_getElem?_getD, hi']
end
end Go.Proofs.YtlimjohnimgnhaaGreatDoor
