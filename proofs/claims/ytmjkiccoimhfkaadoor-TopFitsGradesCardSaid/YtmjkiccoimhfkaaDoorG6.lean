/- Package grades: letters. -/
import Derived.Test.YtmjkiccoimhfkaaDoorG5
import Derived.Laws.Tables
namespace Go.Proofs.YtmjkiccoimhfkaaDoor
open Go.RowKit

def LP (b : Nat) : Array (Nat × Value) := #[(0, .agg #[.int .i64 50, cloV 47 b]), (1, .agg #[.int .i64 31, cloV 47 b]), (2, .agg #[.int .i64 16, cloV 47 b]), (3, .agg #[.int .i64 6, cloV 47 b]), (4, .agg #[.int .i64 0, cloV 47 b]), (5, .agg #[.int .i64 0, cloV 48 b]), (6, .agg #[.int .i64 2, cloV 49 b]), (7, .agg #[.int .i64 9, cloV 49 b]), (8, .agg #[.int .i64 15, cloV 49 b]), (9, .agg #[.int .i64 22, cloV 49 b])]
theorem lp_run (b : Nat) (W : World) : (Instr.build 84 (LP b)).run Tryd.prog W = .ok (.agg (LT b)) W := by kernel_rfl
theorem wpList_buildLT {w : World} {ops : Array Oper} {rest : List Oper} {o : Oper} {a : Act} {Q : Exit → Act → World → Prop} (hgd : o.guard = none) (parts : List (Nat × Operand)) (ho : o.op = .build 84 parts.toArray) (b : Nat)
    (hp : parts.map (fun x => (x.1, a.eval x.2)) = (LP b).toList) (h : wpList Tryd.prog ops Q rest (a.put o.dst (.agg (LT b))) w) : wpList Tryd.prog ops Q (o :: rest) a w := by
  refine wpList_plain hgd fun K hK => ?_
  unfold Oper.wp
  have e : (execOp a.eval o).run Tryd.prog w = .ok (.value (.agg (LT b))) w := by
    have h1 := lp_run b w
    have h2 : (parts.toArray.map fun x => (x.1, a.eval x.2)) = LP b := by rw [List.map_toArray, hp, Array.toArray_toList]
    simp only [execOp, ho, h2, Sem.run_bind, h1, Result.andThen, Sem.run_pure]
  rw [e]
  exact hK _ _ h
theorem Is.row {w : World} {b : Nat} {cs : Array Value} {T : TypeId} (h : Is w b cs T) (c : Array Value) : Is (w.setRow b c) b c T := by
  unfold Is at *
  simp [World.setRow, Array.getElem?_modify, h]
theorem Is.rowFar {w : World} {b g : Nat} {cs : Array Value} {T : TypeId} (h : Is w b cs T) (hg : b ≠ g) (c : Array Value) : Is (w.setRow g c) b cs T := by
  unfold Is at *
  rw [setRow_other _ _ _ _ hg]
  exact h
theorem Kb.row {a w : World} {g : Nat} (h : Kb a w) (hg : a.heap.size ≤ g) (c : Array Value) : Kb a (w.setRow g c) :=
  ⟨h.os, h.tape, h.output, by have := h.size; simpa [World.setRow] using this, fun k hk => (setRow_other _ _ _ _ (by omega)).trans (Below.block h k hk)⟩
set_option maxRecDepth 100000 in
set_option maxHeartbeats 4000000 in
theorem gletters (t : Int) (w : World) :
    Calls Tryd.prog 39 #[.int .i64 t] w fun r w' => r = .returned (.agg (LT w.heap.size)) ∧ w'.cell? ⟨w.heap.size, 0, none⟩ = some (.int .i64 t) ∧ Kb w w' ∧ w.heap.size < w'.heap.size := by
  have kk := (Kb.refl w).alloc (.cells #[.int .i64 t] 3 (0, 0))
  have is0 := Is.made w #[.int .i64 t] 3
  go_enter Tryd.func39, Tryd.ntmps39
  go_wp2_with (first
    | (refine wpList_buildLT rfl [(0, .tmp 10), (1, .tmp 12), (2, .tmp 14), (3, .tmp 16), (4, .tmp 18), (5, .tmp 20), (6, .tmp 22), (7, .tmp 24), (8, .tmp 26), (9, .tmp 28)] rfl w.heap.size rfl ?_)
    | (refine wpList_store_row rfl 84 (.tmp 2) (.tmp 29) rfl (w.heap.size + 1) (LT w.heap.size) rfl rfl _ _ (heap_alloc2_new w _ _) (by kernel_rfl) (by rfl) (by kernel_rfl) ?_))
  refine ret_row Tryd.results39 rfl rfl (Is.row (heap_alloc2_new w _ _) _) Tryd.underlying84 rfl (by kernel_rfl) ?_
  exact ⟨rfl, (Is.rowFar (is0.alloc _) (Nat.ne_of_lt (Nat.lt_succ_self _)) _).c rfl, (kk.alloc _).row (Nat.le_succ _) _, by simp [World.setRow]; omega⟩
end Go.Proofs.YtmjkiccoimhfkaaDoor
