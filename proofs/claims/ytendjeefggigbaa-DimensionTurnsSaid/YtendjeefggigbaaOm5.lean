/- The law DimensionTurns: up to the loop. -/
import Derived.Test.YtendjeefggigbaaOm4
import Derived.Test.YtendjeefggigbaaOl6
import Derived.Deep.AppendLies
namespace Go.Proofs.Ytendjeefggigbaa
open Go.RowKit

theorem backw_stops (n : Nat) (hn : 1 ≤ n) (bs b off cap : Nat) (ds : List DimT) (N : Nat) (hN : N ≤ 1000) (f : Nat → IV) (w : World) (hf : ∀ j, j < N → (f j).1 = (((N - 1 - j : Nat) : Int), gD ds (N - 1 - j))) (hb : b < w.heap.size) (hbs : bs < w.heap.size)
    (hB : w.cell? ⟨bs, 0, none⟩ = some (.slice (some ⟨b, off, none⟩) N cap)) (hc : ∀ j, j < N → ∀ i, i < 5 → w.cell? ⟨b, off + j * 5 + i, none⟩ = some ((encDim (gD ds j)).getD i undef)) :
    SeqStopsK Fence.wide n Try.prog 58 #[.pointer (some ⟨bs, 0, none⟩)] encV (Ko [b, bs]) (fun ys => ys = upto f N) (fun pre => ∃ k, k ≤ N ∧ pre = upto f k) N w := fun l J Jx W hW hJ _ hY h0 =>
  backw_it n hn l bs b off cap ds N hN f J Jx W hJ hf hY ((hW.cell (p := ⟨bs, 0, none⟩) hbs).trans hB) (fun j hj i hi => (hW.cell (p := ⟨b, _, none⟩) hb).trans (hc j hj i hi)) h0
theorem dReverseD {d : DimT} (h : Nz d) (hv : vdD d = 0) : Ca 29 #[valDim d] (.tuple #[valDim (tn d), .int .i64 0]) := by
  obtain ⟨a1, a2, a3, a4, a5, a6⟩ := vdD_0 hv
  obtain ⟨c1, c2, c3⟩ := lmE_0 a6
  obtain ⟨f, t, a, l, h'⟩ := d
  have hv' : vdE f t a l h' = 0 := hv
  dsimp only at c1 c2 c3
  have := dReverse f t a l h' h.1 h.2
  rw [hv', zS_0, zS_0, zI_0, zI_0, zI_0, w64 (by omega) (by omega), w64 (by omega) (by omega)] at this
  exact this
theorem nz_tn {d : DimT} (h : Nz d) : Nz (tn d) := ⟨h.2, h.1⟩
theorem nz_pathG {ds : List DimT} (h : ∀ d ∈ ds, Nz d) : ∀ g k, Nz (pathG ds g k).1
  | 0, k => nz_st h k
  | g + 1, k => by
    unfold pathG
    split
    · exact nz_pathG h g (k + 1)
    · exact nz_dim0
theorem nz_path {ds : List DimT} (h : ∀ d ∈ ds, Nz d) : Nz (path ds).1 := by
  unfold path
  split
  · exact nz_pathG h _ _
  · exact nz_dim0
theorem turns_res (W : World) (c : Nat) (v : Bool) (tmps : Array Value) (h4 : tmps.getD 4 undef = .pointer (some ⟨c, 0, none⟩)) (i4 : Is W c #[.bool v] 4) : (results Try.f10 tmps).run Try.prog W = .ok (.bool v) W := by
  have c0 := i4.c (i := 0) rfl
  have h3 : (loadVar 4 ⟨c, 0, none⟩).run Try.prog W = .ok (.bool v) W := by
    simp [go_sem, c0]
  simp only [Array.getD_eq_getD_getElem?] at h4
  simp [results, Try.results10, h4, asAddr, h3]
theorem dim_info : (Try.prog.info? 49).map (fun i => (i.zero, i.size, i.bytes)) = some (some (.agg #[.string ⟨#[]⟩, .string ⟨#[]⟩, .int .i64 0, .int .i64 0, .int .i64 0]), 5, 56) := by kernel_rfl

attribute [local go_sem] Oper.semAt_some
def TurnsOk (w : World) (e : Ending) (W : World) : Prop := e = .returned (.bool true) ∧ Kb w W
set_option maxRecDepth 100000 in
set_option maxHeartbeats 4000000 in
theorem turns_few (sp : Option Addr) (N cap : Nat) (z : Int) (w : World) (qf : Hid (∀ V : World, Kb w V → Calls Try.prog 28 #[.slice sp N cap] V fun r W' => r = .returned (.bool false) ∧ Kb V W')) (qa : Ca 11 #[] (.bool true)) :
    Calls Try.prog 10 #[.slice sp N cap, .int .u8 z] w fun e W => TurnsOk w e W := by
  refine (callsIn_wide (n := 5)).1 ?_
  refine callsIn_of_wp_marks Try.func10 rfl trivial ?_ rfl
  simp only [Try.ntmps10, List.size_toArray, List.length_cons, List.length_nil, Nat.reduceAdd, Nat.reduceSub, Array.replicate_succ, Array.replicate_zero, List.push_toArray, List.append_toArray, List.nil_append, List.cons_append]
  refine wpIn_wide.2 ?_
  unfold Ca at *
  have kx := (Kb.refl w).alloc (.cells #[.bool false] 4 (0, 0))
  have i4 := Is.made w #[.bool false] 4
  go_wp2_with fail
  (with_reducible refine (qf.out _ kx).mono ?_)
  rintro r w1 ⟨rfl, k1⟩
  replace kx := kx.trans k1
  replace i4 := i4.kb k1
  go_wp2_with fail
  (with_reducible refine (qa.out _).mono ?_)
  rintro r w2 ⟨rfl, k2⟩
  replace kx := kx.trans k2
  replace i4 := i4.kb k2
  have c4 := i4.c (i := 0) rfl
  have f4 := i4.f 0
  have Z := Lib.hid (And.intro (i4.set 0 (.bool true)) (kx.setCell (p := ⟨w.heap.size, 0, none⟩) (Nat.le_refl _) (.bool true)))
  clear i4 kx k1 k2
  go_wp2
  exact ⟨_, turns_res _ _ _ _ rfl Z.out.1, rfl, Z.out.2⟩
end Go.Proofs.Ytendjeefggigbaa
