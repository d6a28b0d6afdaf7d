/- A new number 1, as a composite literal makes it. -/
import Derived.Test.YtbhngccjacdlfaaBytes
import Derived.Laws.CopyRow
import Derived.Laws.CopyOwn
namespace Go.Proofs.Ytbhngccjacdlfaa
open Go.RowKit

def oneWords : List Value := .int .u32 1 :: List.replicate 228 (.int .u32 0)
def oneList : List Value := oneWords ++ [.int .i64 1, .bool false]
def oneArr : Array Value := oneWords.toArray
def oneAll : Array Value := oneList.toArray
theorem build_words (w : World) : (Instr.build 64 #[(0, .int .u32 1)]).run Try.prog w = .ok (.agg oneArr) w := by kernel_rfl
theorem build_one (w : World) : (Instr.build 66 #[(0, .agg oneArr), (1, .int .i64 1)]).run Try.prog w = .ok (.agg oneAll) w := by kernel_rfl
theorem oneList_len : oneList.length = 231 := by unfold oneList oneWords; rw [List.length_append, List.length_cons, List.length_replicate]; rfl
theorem oneWords_len : oneWords.length = 229 := by unfold oneWords; rw [List.length_cons, List.length_replicate]
theorem oneList_one : ∀ v ∈ oneList, v.oneCell' = true := by
  intro v hv
  unfold oneList oneWords at hv
  rcases List.mem_append.1 hv with hv | hv
  · rcases List.mem_cons.1 hv with rfl | hv
    · rfl
    · rw [List.eq_of_mem_replicate hv]; rfl
  · rcases List.mem_cons.1 hv with rfl | hv
    · rfl
    · rcases List.mem_cons.1 hv with rfl | hv
      · rfl
      · cases hv
theorem wd_one (i : Nat) : wd 1 i = if i = 0 then 1 else 0 := by
  by_cases h : i = 0
  · subst h; rfl
  · rw [if_neg h, wd_of_lt]
    exact Nat.lt_of_lt_of_le (show 1 < B9 ^ 1 by decide) (pow_le (by omega))
theorem oneList_word {i : Nat} (hi : i < 229) : oneList[i]? = some (.int .u32 (wd 1 i : Int)) := by
  unfold oneList
  rw [List.getElem?_append_left (by unfold oneWords; rw [List.length_cons, List.length_replicate]; exact hi)]
  unfold oneWords
  rw [wd_one]
  cases i with
  | zero => rfl
  | succ j => rw [List.getElem?_cons_succ, List.getElem?_replicate, if_pos (by omega)]; rfl
theorem oneList_cnt : oneList[229]? = some (.int .i64 1) := by
  unfold oneList; rw [List.getElem?_append_right (by rw [oneWords_len]; omega), oneWords_len]; rfl
theorem oneList_sgn : oneList[230]? = some (.bool false) := by
  unfold oneList; rw [List.getElem?_append_right (by rw [oneWords_len]; omega), oneWords_len]; rfl
theorem store_list (w : World) (Z : Array Value) (T : TypeId) (L : List Value) (hz : Z.size = 231) (hl : L.length = 231) (h1 : ∀ v ∈ L, v.oneCell' = true)
    (hw : ∀ i, i < 229 → L[i]? = some (.int .u32 (wd 1 i : Int))) (hc : L[229]? = some (.int .i64 1)) (hs : L[230]? = some (.bool false)) :
    ∃ w2, (storeCells ⟨w.heap.size, 0, none⟩ L).run Try.prog (w.alloc (.cells Z T)) = .ok () w2 ∧ NumF w2 w.heap.size (wd 1) 1 false ∧ Kp [] w w2 := by
  have h := run_storeCells_at Try.prog w.heap.size 0 T L 0 Z (w.alloc (.cells Z T)) (heap_alloc_new w _) (by omega) h1
  have e : Z.toList.take (0 + 0) ++ L ++ Z.toList.drop (0 + 0 + L.length) = L := by
    rw [List.drop_of_length_le (by rw [Array.length_toList]; omega)]; simp
  rw [e] at h
  refine ⟨_, h, ⟨_, _, setRow_heap _ _ _ _ _ _ (heap_alloc_new w _), ?_, fun i hi => ?_, ?_, ?_⟩, ?_⟩
  · rw [List.size_toArray]; exact hl
  · rw [List.getElem?_toArray]; exact hw i hi
  · rw [List.getElem?_toArray]; exact hc
  · rw [List.getElem?_toArray]; exact hs
  · exact ⟨rfl, rfl, rfl, by simp [World.setRow], fun k hk _ => (setRow_other _ _ _ _ (by omega)).trans (Below.heap_alloc w _ k hk)⟩
theorem nw_one : nw 1 = 1 := by rw [nw_pos (by omega), show 1 / B9 = 0 from rfl, nw_zero]
/-- a new number 1 -/
theorem store_one (w : World) : ∃ w2, (storeCells ⟨w.heap.size, 0, none⟩ oneAll.toList).run Try.prog (w.alloc (.cells Try.zeroCells66 66)) = .ok () w2 ∧ Num w2 w.heap.size 1 false ∧ Kp [] w w2 := by
  obtain ⟨w2, h1, h2, h3⟩ := store_list w Try.zeroCells66 66 oneList (by rw [zeroCells_eq, List.size_toArray, zeroList_len]) oneList_len oneList_one (fun _ hi => oneList_word hi) oneList_cnt oneList_sgn
  exact ⟨w2, h1, ⟨by rw [nw_one]; exact h2, Nat.lt_of_lt_of_le (show 1 < B9 ^ 1 by decide) (pow_le (by omega))⟩, h3⟩

theorem wpList_build1 {P : Program} {w : World} {ops : Array Oper} {rest : List Oper} {o : Oper} {a : Act} {Q : Exit → Act → World → Prop} (hgd : o.guard = none) (t : TypeId) (x0 : Operand)
    (ho : o.op = .build t #[(0, x0)]) (v0 : Value) (h0 : a.eval x0 = v0) (cells : Array Value) (hrun : ∀ w, (Instr.build t #[(0, v0)]).run P w = .ok (.agg cells) w)
    (h : wpList P ops Q rest (a.put o.dst (.agg cells)) w) : wpList P ops Q (o :: rest) a w := by
  refine wpList_plain hgd fun K hK => ?_
  unfold Oper.wp
  have e : (execOp a.eval o).run P w = .ok (.value (.agg cells)) w := by
    have h1 := hrun w
    simp only [execOp, ho, Sem.run_bind, List.map_toArray, List.map_cons, List.map_nil, h0, h1, Result.andThen, Sem.run_pure]
  rw [e]
  exact hK _ _ h
theorem wpList_build2 {P : Program} {w : World} {ops : Array Oper} {rest : List Oper} {o : Oper} {a : Act} {Q : Exit → Act → World → Prop} (hgd : o.guard = none) (t : TypeId) (x0 x1 : Operand)
    (ho : o.op = .build t #[(0, x0), (1, x1)]) (v0 v1 : Value) (h0 : a.eval x0 = v0) (h1 : a.eval x1 = v1) (cells : Array Value) (hrun : ∀ w, (Instr.build t #[(0, v0), (1, v1)]).run P w = .ok (.agg cells) w)
    (h : wpList P ops Q rest (a.put o.dst (.agg cells)) w) : wpList P ops Q (o :: rest) a w := by
  refine wpList_plain hgd fun K hK => ?_
  unfold Oper.wp
  have e : (execOp a.eval o).run P w = .ok (.value (.agg cells)) w := by
    have h1' := hrun w
    simp only [execOp, ho, Sem.run_bind, List.map_toArray, List.map_cons, List.map_nil, h0, h1, h1', Result.andThen, Sem.run_pure]
  rw [e]
  exact hK _ _ h
end Go.Proofs.Ytbhngccjacdlfaa
