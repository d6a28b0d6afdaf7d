/- The law WholeTotals holds: for every list of texts the call returns true, and the list reads afterwards as it read before. No condition. -/
import Derived.Test.YtbhngccjacdlfaaRowKit
import Derived.Test.YtbhngccjacdlfaaTotals
import Derived.Deep.Strs
import Derived.Carry
namespace Go.Proofs.Ytbhngccjacdlfaa
open Go.ChangeShapes Go.WideShapes Go.ChangeAt Go.RowKit
open Go.ChangeMaps (open_string shut_string)

theorem Try.laidOut : laidOutB Try.prog = true := by kernel_rfl
theorem Try.cellsInt : Try.prog.cellsOf 22 = 1 := by kernel_rfl

set_option maxRecDepth 100000 in
theorem totals_lifted (os : Os) (started : os.Started) (H : Type) (enc : TypeId × Value → H) :
    ReturnsInHanded {} Try.checked os 4 .any (Rows.wholeTotalsSpec.pre6 enc Try.prog Try.f4 Rows.wholeTotalsRow.domain false) (Rows.wholeTotalsSpec.post enc Try.prog Try.f4 false true false false) := by
  refine returnsInHanded_of_change (C := Try.checked) Try.own started (by kernel_rfl) Try.func4
    (ChangeSpec.witness6 (enc := enc) (C := Try.checked) false ⟨#[], #[.slice none 0 0], []⟩ 8 (by kernel_rfl) (by kernel_rfl) (by kernel_rfl) (by kernel_rfl)) ?_
  intro W base args ds gs before hval0 hW hcnd _
  have hval : ∀ (j : Nat) t v, Try.f4.params[j]? = some t → args[j]? = some v → Value.okWide Try.prog W .any base t v := hval0
  have hW' := hW
  obtain ⟨p0, q, hA0, hV, rfl, _, _⟩ := hW
  have hA : DataW.TrodAll enc Try.prog W 0 (fun _ => true) true Try.f4.params.toList args.toList ds p0 := hA0
  rw [Try.params4] at hA hval
  obtain ⟨v0, d0, rfl, rfl, h0⟩ := trodAll_one hA
  obtain ⟨rfl, rfl⟩ := trodVars_none hV
  obtain ⟨a0, len, cap, rfl⟩ := okWide_slice Try.underlying36 (hval 0 36 v0 rfl rfl)
  have h0k := h0
  obtain ⟨fuel, hf⟩ := h0
  clear hA0 hval0
  simp only [List.append_nil] at hW'
  have hlt : ∀ x ∈ p0, x.block < W.heap.size := fun x hx => by simpa using hW'.lt x hx
  have hargs : ∀ (W' : World), Below W.heap.size W W' → DataW.Trod enc Try.prog W' 0 (fun b => decide (b < W.heap.size)) true 36 (.slice a0 len cap) d0 p0 :=
    fun W' hn => Below.trod Try.laidOut (by kernel_rfl) (of_decide_eq_true (by kernel_rfl)) h0k hn hlt
  have fin : Calls Try.prog 4 #[.slice a0 len cap] W (fun e w' => e = .returned (.bool true) ∧ Kp [] W w') →
      Calls Try.checked.prog 4 #[.slice a0 len cap] W fun e W' => ∃ v, e = Ending.returned v ∧ Rows.wholeTotalsSpec.post enc Try.checked.prog Try.f4 false true false false W #[.slice a0 len cap] v W' := by
    intro hc
    refine hc.mono fun e W' ⟨he, hk⟩ => ?_
    subst he
    exact ⟨_, rfl, _, _, _, [], p0, [], hW', trodAll_mk1 (shut_bool Try.underlying4 true), trodAll_mk1 (hargs _ hk.none), rfl, hk.none.frame _, fun h => by cases h⟩
  rcases Go.Deep.open_strs Try.underlying36 Try.underlying22 Try.cellsInt hf with ⟨hcs, hx⟩ | ⟨a, len', cap', m, Sx, hcs, _, hl, hm, hmm, hx, hcell⟩
  · simp [Value.cells] at hcs
    obtain ⟨rfl, rfl, rfl⟩ := hcs
    exact fin (Totals_none _ _ W)
  · simp [Value.cells] at hcs
    obtain ⟨rfl, rfl, rfl⟩ := hcs
    simp only [if_true] at hmm
    by_cases hl0 : len = 0
    · subst hl0; exact fin (Totals_none _ _ W)
    · by_cases h30 : 30 < len
      · exact fin (Totals_many _ len _ W h30 (by unfold maxLen at hm; omega))
      · obtain ⟨b, off, spot⟩ := a
        have hspot : spot = none := by simpa [Addr.add] using World.cell?_spot (hcell 0 (by omega)).1
        subst hspot
        have hbW : b < W.heap.size := World.block_lt_of_cell? W _ (hcell 0 (by omega)).1
        have hst : Strs W b off ((List.range len).map Sx) := by
          intro i hi
          have hi' : i < len := by simpa using hi
          have := (hcell i (by omega)).1
          rw [add_plain] at this
          rw [List.getElem_map, List.getElem_range]; exact this
        have hzz : ∀ s ∈ (List.range len).map Sx, s.size ≤ 9223372036854775807 := by
          intro s hs
          obtain ⟨i, hi, rfl⟩ := List.mem_map.1 hs
          have hi' : i < len := by simpa using hi
          have := (hcell i (by omega)).2
          unfold maxLen at this; omega
        have := Totals_few b off cap ((List.range len).map Sx) W hst hbW hzz (by simp; omega)
        rw [List.length_map, List.length_range] at this
        exact fin this

theorem totals_holds : Rows.WholeTotalsSaid :=
  OpenClaim.holds_of_wide 4 Try.f4 rfl rfl rfl rfl rfl rfl rfl ⟨rfl, rfl, rfl, rfl, rfl⟩ rfl rfl rfl rfl rfl (by kernel_rfl) Try.func4 (by kernel_rfl)
    (of_decide_eq_true (by kernel_rfl)) (by unfold Func.isWrapper; first | (rw [if_pos (by decide +kernel)]; kernel_rfl) | (rw [if_neg (by decide +kernel)]; exact ⟨rfl, rfl⟩))
    (fun os started H enc _ => totals_lifted os started H enc)
end Go.Proofs.Ytbhngccjacdlfaa
