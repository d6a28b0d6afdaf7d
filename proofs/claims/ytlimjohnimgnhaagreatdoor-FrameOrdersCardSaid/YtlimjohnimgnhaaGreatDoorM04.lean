/- Texts Uv: each says in its own first comment what it proves. -/
import Derived.Test.YtlimjohnimgnhaaGreatDoorM09
import Derived.Lib.OthersKept
import Derived.Shelf.Strings.BuilderK
import Derived.Deep.AppendLies
/- Frames: a strings.Builder that a call has made: copyCheck, WriteByte, WriteString over this program (the shelf's own do not fit it: a branch of copyCheck is refused by the loader). -/
namespace Go.Proofs.YtlimjohnimgnhaaGreatDoor
open Go.RowKit

/-- block b is a builder above B that holds these bytes -/
def Bw (B b : Nat) (l : List UInt8) (w : World) : Prop := Lib.IsBuilderF 101 5 B b (Lib.byteCells l) w
/-- what lies below B is as it was, and so is each block that is neither b nor a row of bytes -/
def Bk (B b : Nat) (a w : World) : Prop := Below B a w ∧ Lib.OthersKept 5 (some b) a w
section
variable {B b : Nat} {a w w' : World}
theorem Bk.refl (B b : Nat) (w : World) : Bk B b w w := ⟨Below.refl _ _, Lib.OthersKept.refl _ _ _⟩
theorem Bk.trans (h : Bk B b a w) (k : Bk B b w w') : Bk B b a w' := ⟨Below.trans h.1 k.1, h.2.trans k.2⟩
theorem Bk.is {c : Nat} {cs : Array Value} {T : TypeId} (h : Bk B b a w) (is : Is a c cs T) (hc : c ≠ b) (hT : T ≠ 5) : Is w c cs T :=
  h.2 c _ is (fun e => hc (by simpa using e)) (fun c' f' e => hT (by injection e))
theorem Bk.kb {u : World} (h : Bk B b a w) (k : Kb u a) (hB : u.heap.size ≤ B) : Kb u w := Below.trans k (Below.mono h.1 hB)
theorem Bk.alloc (h : Bk B b a w) (o : Obj) (hB : B ≤ w.heap.size) : Bk B b a (w.alloc o) := ⟨Below.alloc h.1 hB o, h.2.alloc o⟩
end
theorem info_byte : (Tryz.prog.info? 5).map (fun i => (i.zero, i.size, i.bytes)) = some (some (.int .u8 0), 1, 1) := by kernel_rfl
theorem bld_ne_byte : (101 : TypeId) ≠ 5 := by decide
theorem byteCells_app (l : List UInt8) (s : ByteArray) : Lib.byteCells (l ++ s.data.toList) = Lib.byteCells l ++ Lib.strCells s := by
  simp [Lib.byteCells, Lib.strCells]
theorem byteCells_snoc (l : List UInt8) : Lib.byteCells (l ++ [32]) = Lib.byteCells l ++ [.int .u8 32] := by
  simp [Lib.byteCells]
theorem bld_size : (Tryz.prog.info? 101).map (·.size) = some 2 := by kernel_rfl
theorem bld_lies : liesAt Tryz.prog Tryz.prog.depth 101 (2 / Tryz.prog.cellsOf 101) 0 101 1 = true := by kernel_rfl
set_option maxRecDepth 100000 in
set_option maxHeartbeats 4000000 in
theorem bCheck (B b : Nat) (bs : List Value) (w : World) (h : Lib.IsBuilderF 101 5 B b bs w) : Calls Tryz.prog 107 #[.pointer (some ⟨b, 0, none⟩)] w fun r W' => r = .returned (.tuple #[]) ∧ Lib.BuilderAtF 101 5 B b (.pointer (some ⟨b, 0, none⟩)) bs W' ∧ Bk B b w W' := by
  obtain ⟨j, hj, hjs⟩ := Option.map_eq_some_iff.1 bld_size
  rcases h with h | h
  · have c0 := h.cell0
    have f0 := h.frozen0
    have sh := h.shape
    have H := Lib.hid h
    clear h
    go_enter Tryz.func107, Tryz.ntmps107
    go_wp2
    rw [Lib.run_to_unsafe w ⟨b, 0, none⟩ Tryz.underlying98 Tryz.underlying170 hj (by rw [hjs]; decide) sh (Nat.zero_lt_succ 1)]
    simp only [Result.andThen]
    rw [Oper.upon_value]
    go_wp2
    rw [run_callFunc_extern Tryz.func132 (by kernel_rfl) (by kernel_rfl) (by kernel_rfl) (e := Extern.AbiNoEscape.same) (by kernel_rfl)]
    rw [Lib.run_noEscape]
    simp only [Result.andThen]
    rw [Oper.upon_value]
    go_wp2
    rw [Lib.run_from_unsafe w ⟨b, 0, none⟩ Tryz.underlying170 Tryz.underlying98 hj sh bld_lies]
    simp only [Result.andThen]
    rw [Oper.upon_value]
    go_wp2
    go_end0
    exact ⟨rfl, H.out.used _, (Below.refl B w).setCell (p := ⟨b, 0, none⟩) H.out.1 _, (Lib.OthersKept.refl _ _ w).setCell ⟨b, 0, none⟩ rfl _⟩
  · have c0 := h.cell0
    have H := Lib.hid h
    clear h
    go_enter Tryz.func107, Tryz.ntmps107
    go_wp2
    rw [Lib.run_neq_ptr_same w _ Tryz.underlying98 hj]
    go_wp2
    go_end0
    exact ⟨rfl, H.out, Bk.refl B b w⟩
/-- what an append to a builder's row leaves -/
theorem bw_put {B b n : Nat} {a w1 w2 : World} {v v' : Value} {bs bs' : List Value} (hk : Bk B b a w1) (hB : B ≤ b) (hbk : w1.heap[b]? = some (.cells #[.pointer (some ⟨b, 0, none⟩), v] 101 (0, 0))) (hown : w1.ownsRowF B 5 1 v bs.length bs) (hne : v.ownBlock ≠ some b)
    (hg : w1.grownBy w2 v.ownBlock) (hown' : w2.ownsRowF B 5 1 v' n bs') (hn : n = bs'.length) (haw : B ≤ w1.heap.size) :
    w2.cell? ⟨b, 0, none⟩ = some (.pointer (some ⟨b, 0, none⟩)) ∧ w2.cell? ⟨b, 1, none⟩ = some v ∧ w2.frozen? ⟨b, 1, none⟩ = false ∧ Lib.BuilderAtF 101 5 B b (.pointer (some ⟨b, 0, none⟩)) bs' (w2.setCell ⟨b, 1, none⟩ v') ∧ Bk B b a (w2.setCell ⟨b, 1, none⟩ v') := by
  have hlt : b < w1.heap.size := (Array.getElem?_eq_some_iff.1 hbk).1
  have hb2 : w2.heap[b]? = some (.cells #[.pointer (some ⟨b, 0, none⟩), v] 101 (0, 0)) := by
    rw [hg.block b hlt (fun e => hne e.symm)]; exact hbk
  refine ⟨by rw [Lib.cell_of_heap hb2]; rfl, by rw [Lib.cell_of_heap hb2]; rfl, Lib.frozen_of_heap hb2 1, ?_, ?_⟩
  · exact Lib.BuilderAtF.put hB hb2 (by rw [← hn]; exact hown') bld_ne_byte
  · exact ⟨(hk.1.grown hg haw (fun k h => (hown.lt k h).1)).setCell (p := ⟨b, 1, none⟩) hB _, (hk.2.grown hg (Lib.ownsRowF_kind hown)).setCell ⟨b, 1, none⟩ rfl _⟩
set_option maxRecDepth 100000 in
set_option maxHeartbeats 4000000 in
theorem bString (B b : Nat) (l : List UInt8) (s : ByteArray) (w : World) (h : Bw B b l w) (hlen : l.length + s.size ≤ 1000000000) (hBw : B ≤ w.heap.size) : Calls Tryz.prog 68 #[.pointer (some ⟨b, 0, none⟩), .string s] w fun r W' => (∃ v, r = .returned v) ∧ Bw B b (l ++ s.data.toList) W' ∧ Bk B b w W' := by
  obtain ⟨i0, hi, hz0, hz1, hz2⟩ := info_parts info_byte
  have hbl : (Lib.byteCells l).length = l.length := Lib.byteCells_length l
  have hq := Lib.hid (bCheck B b (Lib.byteCells l) w h)
  clear h
  go_enter Tryz.func68, Tryz.ntmps68
  go_wp2_with fail
  refine (hq.out).mono ?_
  rintro e w1 ⟨rfl, ⟨hB, v, hbk, hown, hne⟩, hk⟩
  have c1 : w1.cell? ⟨b, 1, none⟩ = some v := by rw [Lib.cell_of_heap hbk]; rfl
  have hsz := hk.1.size
  have HB := Lib.hid hbk
  have HN := Lib.hid hne
  clear hbk hne
  go_wp2_with (at_builtin; refine Lib.wpList_append_own_stringF _ rfl _ _ 99 9 rfl B 5 i0 Tryz.underlying99 Tryz.underlying9 hi hz0 hz1 hz2 _ _ _ rfl hown s rfl ?c3 ?c4 ?c5 ?_)
  case c3 => unfold maxLen; omega
  case c4 => omega
  case c5 => omega
  intro v' w2 hown' hgrow _
  obtain ⟨d0, d1, f1, hp, hk2⟩ := bw_put hk hB HB.out hown HN.out hgrow hown' (by simp [Lib.strCells_length, Lib.byteCells_length]) (by omega)
  obtain ⟨ao, n', cap, rfl⟩ : ∃ ao n' cap, v' = .slice ao n' cap := by
    rcases hown'.2 with ⟨hv, _⟩ | ⟨g, cap, cur, fz, hv, _⟩
    · exact ⟨_, _, _, hv⟩
    · exact ⟨_, _, _, hv⟩
  have HP := Lib.hid hp
  have HK := Lib.hid hk2
  clear hp hk2 hown' hgrow hown hk
  go_wp2
  go_ret2
  exact ⟨⟨_, rfl⟩, .inr (by rw [byteCells_app]; exact HP.out), HK.out⟩
set_option maxRecDepth 100000 in
set_option maxHeartbeats 4000000 in
theorem bByte (B b : Nat) (l : List UInt8) (w : World) (h : Bw B b l w) (hlen : l.length + 1 ≤ 1000000000) (hBw : B ≤ w.heap.size) : Calls Tryz.prog 67 #[.pointer (some ⟨b, 0, none⟩), .int .u8 32] w fun r W' => (∃ v, r = .returned v) ∧ Bw B b (l ++ [32]) W' ∧ Bk B b w W' := by
  obtain ⟨i0, hi, hz0, hz1, hz2⟩ := info_parts info_byte
  have hbl : (Lib.byteCells l).length = l.length := Lib.byteCells_length l
  have hq := Lib.hid (bCheck B b (Lib.byteCells l) w h)
  clear h
  go_enter Tryz.func67, Tryz.ntmps67
  go_wp2_with fail
  refine (hq.out).mono ?_
  rintro e w1 ⟨rfl, ⟨hB, v, hbk, hown, hne⟩, hk⟩
  have c1 : w1.cell? ⟨b, 1, none⟩ = some v := by rw [Lib.cell_of_heap hbk]; rfl
  have hsz := hk.1.size
  have hlt : b < w1.heap.size := (Array.getElem?_eq_some_iff.1 hbk).1
  have HB := Lib.hid hbk
  have HN := Lib.hid hne
  have HL := Lib.hid hlt
  clear hbk hne hlt
  go_wp2_with (at_builtin; refine wpList_append_ownF _ rfl _ _ 99 rfl B 5 i0 (.int .u8 0) 1 1 Tryz.underlying99 hi hz0 hz1 hz2 rfl (by decide) _ _ _ rfl (hown.alloc _) ⟨w1.heap.size, 0, none⟩ 1 1 [.int .u8 32] rfl rfl ?c1 ?c2 ?c3 ?c4 ?c5 ?_)
  case c1 => exact World.news_of_block (show (w1.heap.push _)[w1.heap.size]? = some (.cells #[.int .u8 32] 5 (0, 0)) by simp)
  case c2 => intro u hu; simp at hu; subst hu; rfl
  case c3 => unfold maxLen; omega
  case c4 => omega
  case c5 => simp; omega
  intro v' w2 hown' hgrow _
  obtain ⟨d0, d1, f1, hp, hk2⟩ := bw_put (hk.alloc (.cells #[.int .u8 32] 5 (0, 0)) (by omega)) hB ((Lib.alloc_old w1 _ b HL.out).trans HB.out) (hown.alloc _) HN.out hgrow hown' (by simp [Lib.byteCells_length]) (by simp; omega)
  obtain ⟨ao, n', cap, rfl⟩ : ∃ ao n' cap, v' = .slice ao n' cap := by
    rcases hown'.2 with ⟨hv, _⟩ | ⟨g, cap, cur, fz, hv, _⟩
    · exact ⟨_, _, _, hv⟩
    · exact ⟨_, _, _, hv⟩
  have HP := Lib.hid hp
  have HK := Lib.hid hk2
  clear hp hk2 hown' hgrow hown hk
  go_wp2
  go_ret
  exact ⟨⟨_, rfl⟩, .inr (by rw [byteCells_snoc]; exact HP.out), HK.out⟩
end Go.Proofs.YtlimjohnimgnhaaGreatDoor
