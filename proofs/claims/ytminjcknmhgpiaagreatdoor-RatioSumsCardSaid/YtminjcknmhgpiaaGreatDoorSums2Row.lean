/- The tied card RatioSums holds: for every argument the call returns true, and the argument reads afterwards as it read before, where the listed tables of the library read as the program's own text lays them; the card ties that to the text. No other condition. -/
import Derived.Test.YtminjcknmhgpiaaGreatDoorM54
import Derived.Test.YtminjcknmhgpiaaGreatDoorM53
import Derived.Test.YtminjcknmhgpiaaGreatDoorTie
import Derived.Test.YtminjcknmhgpiaaGreatDoorCards
import Derived.SevenTiedAt
import Derived.Deep.Strs
import Derived.Carry
namespace Go.Proofs.YtminjcknmhgpiaaGreatDoor
open Go.ChangeShapes Go.WideShapes Go.ChangeAt Go.RowKit
open Go.ChangeMaps (open_string shut_string)

theorem ratioSums_laidOut : laidOutB Tryz.prog = true := by kernel_rfl
theorem ratioSums_cells : Tryz.prog.cellsOf 22 = 1 := by kernel_rfl
theorem ratioSums_met (os : Os) (args : Array Value) : laidMet Tryz.prog Rows.ratioSumsRow.laid ((laidWorld os).forCall (fun _ _ => 0) ⟨#[], args, []⟩).memory :=
  laidMet_of_run' 8 (by kernel_rfl) (by kernel_rfl)

set_option maxRecDepth 100000 in
theorem ratioSums_lifted (os : Os) (started : os.Started) (H : Type) (enc : TypeId × Value → H) :
    ReturnsInHanded {} Tryz.checked os 6 .any (fun w args => (Rows.ratioSumsSpec.pre enc Tryz.prog Tryz.f6 Rows.ratioSumsRow.domain false w args ∧ laidMet Tryz.prog Rows.ratioSumsRow.laid w) ∧ sizedMet enc Tryz.prog Tryz.f6 (OpenSpec.ofChange Rows.ratioSumsSpec) false w args)
      (Rows.ratioSumsSpec.post enc Tryz.prog Tryz.f6 false true false false) := by
  refine returnsInHanded_of_change_and (C := Tryz.checked) (X := fun w _ => laidMet Tryz.prog Rows.ratioSumsRow.laid w) (fun _ _ _ hh h => h.of_heap hh) Tryz.own started (by kernel_rfl) Tryz.func6
    (ChangeSpec.witness_at (enc := enc) (C := Tryz.checked) (os := os) (X := fun w _ => laidMet Tryz.prog Rows.ratioSumsRow.laid w) false (laidWorld os) #[.slice none 0 0] 8 rfl (by kernel_rfl) (by kernel_rfl) (by kernel_rfl) (by kernel_rfl) (by kernel_rfl) (ratioSums_met os _)) ?_
  intro W base args ds gs before hval0 hW _ _ hL _
  have hval : ∀ (j : Nat) t v, Tryz.f6.params[j]? = some t → args[j]? = some v → Value.okWide Tryz.prog W .any base t v := hval0
  have hW' := hW
  obtain ⟨p0, q, hA0, hV, rfl, _, _⟩ := hW
  have hA : DataW.TrodAll enc Tryz.prog W 0 (fun _ => true) true Tryz.f6.params.toList args.toList ds p0 := hA0
  rw [Tryz.params6] at hA hval
  obtain ⟨v0, d0, rfl, rfl, h0⟩ := trodAll_one hA
  obtain ⟨rfl, rfl⟩ := trodVars_none hV
  obtain ⟨a0, len, cap, rfl⟩ := okWide_slice Tryz.underlying57 (hval 0 57 v0 rfl rfl)
  have h0k := h0
  obtain ⟨fuel, hf⟩ := h0
  clear hA0 hval0
  simp only [List.append_nil] at hW'
  have lay : Tab W := tab_of_laid hL
  have hlt : ∀ x ∈ p0, x.block < W.heap.size := fun x hx => by simpa using hW'.lt x hx
  have hargs : ∀ (W' : World), Below W.heap.size W W' → DataW.Trod enc Tryz.prog W' 0 (fun b => decide (b < W.heap.size)) true 57 (.slice a0 len cap) d0 p0 :=
    fun W' hn => Below.trod ratioSums_laidOut (by kernel_rfl) (of_decide_eq_true (by kernel_rfl)) h0k hn hlt
  have fin : Calls Tryz.prog 6 #[.slice a0 len cap] W (fun e w' => e = .returned (.bool true) ∧ Kp [] W w') →
      Calls Tryz.checked.prog 6 #[.slice a0 len cap] W fun e W' => ∃ v, e = Ending.returned v ∧ Rows.ratioSumsSpec.post enc Tryz.checked.prog Tryz.f6 false true false false W #[.slice a0 len cap] v W' := by
    intro hc
    refine hc.mono fun e W' ⟨he, hk⟩ => ?_
    subst he
    exact ⟨_, rfl, _, _, _, [], p0, [], hW', trodAll_mk1 (shut_bool Tryz.underlying4 true), trodAll_mk1 (hargs _ hk.none), rfl, hk.none.frame _, fun h => by cases h⟩
  rcases Go.Deep.open_strs Tryz.underlying57 Tryz.underlying22 ratioSums_cells hf with ⟨hcs, hx⟩ | ⟨a, len', cap', m, Sx, hcs, _, hl, hm, hmm, hx, hcell⟩
  · simp [Value.cells] at hcs
    obtain ⟨rfl, rfl, rfl⟩ := hcs
    have hst : Strs W 0 0 ([] : List ByteArray) := fun i hi => absurd hi (by simp)
    have hp : 0 < ([] : List ByteArray).length → (none : Option Addr) = some ⟨0, 0, none⟩ ∧ 0 < W.heap.size := fun h => absurd h (by simp)
    have hzz : ∀ s ∈ ([] : List ByteArray), s.size ≤ 9223372036854775807 := by simp
    exact fin (Sums2_any 0 0 _ none [] W hst hp hzz (by simp) lay)
  · simp [Value.cells] at hcs
    obtain ⟨rfl, rfl, rfl⟩ := hcs
    simp only [if_true] at hmm
    have hlen : len ≤ 9223372036854775807 := by unfold maxLen at hm; omega
    have hzz : ∀ s ∈ (List.range len).map Sx, s.size ≤ 9223372036854775807 := by
      intro s hs
      obtain ⟨i, hi, rfl⟩ := List.mem_map.1 hs
      have hi' : i < len := by simpa using hi
      have := (hcell i (by omega)).2
      unfold maxLen at this; omega
    obtain ⟨b, off, spot⟩ := a
    have hst : Strs W b off ((List.range len).map Sx) := by
      intro i hi
      have hi' : i < len := by simpa using hi
      have h1 := (hcell i (by omega)).1
      have hspot : spot = none := by simpa [Addr.add] using World.cell?_spot (hcell 0 (by omega)).1
      subst hspot
      rw [add_plain] at h1
      rw [List.getElem_map, List.getElem_range]; exact h1
    have hp : 0 < ((List.range len).map Sx).length → some (⟨b, off, spot⟩ : Addr) = some ⟨b, off, none⟩ ∧ b < W.heap.size := fun h => by
      have h0 : 0 < len := by simpa using h
      have h1 := (hcell 0 (by omega)).1
      have hspot : spot = none := by simpa [Addr.add] using World.cell?_spot h1
      exact ⟨by rw [hspot], World.block_lt_of_cell? W _ h1⟩
    have := Sums2_any b off cap (some ⟨b, off, spot⟩) ((List.range len).map Sx) W hst hp hzz (by simpa using hlen) lay
    rw [List.length_map, List.length_range] at this
    exact fin this

theorem ratioSums_holds : Rows.RatioSumsSaid :=
  OpenClaim.holds_of_wide 6 Tryz.f6 rfl rfl rfl rfl rfl rfl rfl ⟨rfl, rfl, rfl, rfl, rfl⟩ rfl rfl rfl rfl rfl (by kernel_rfl) Tryz.func6 (by kernel_rfl)
    (of_decide_eq_true (by kernel_rfl)) (by unfold Func.isWrapper; first | (rw [if_pos (by decide +kernel)]; kernel_rfl) | (rw [if_neg (by decide +kernel)]; exact ⟨rfl, rfl⟩))
    (fun os started H enc _ => ratioSums_lifted os started H enc)

theorem ratioSums_card : Rows.RatioSumsCardSaid :=
  Claim7.holds_tied_plain_at .later [] [.data, .data, .data] true (true, "b1288d2f898150b0edb8e1fc01147201f0a86ccb68f0dd3b9621ceb4987d63be") false
    ratioSums_holds (fun _ h => by cases h) (by kernel_rfl) (fun _ h => by cases h) ratioSums_row_tie rfl ⟨rfl, rfl⟩ (by kernel_rfl) rfl
    (fun f fn hf hfn => by
      obtain rfl : f = 6 := Option.some.inj ((show Tryz.prog.funcNamed "metrolab/metrolablaw02.RatioSums" = some 6 by kernel_rfl).symm.trans hf) |>.symm
      obtain rfl : fn = Tryz.f6 := (Option.some.inj (Tryz.func6.symm.trans hfn)).symm
      exact ⟨by kernel_rfl, fun j t ht => by
        rw [Tryz.params6] at ht
        rcases j with _ | j
        · have h3 : t = 57 := by simpa using ht.symm
          subst h3; exact (show Tryz.prog.wantsStandIn 57 = false by kernel_rfl)
        · simp at ht⟩)
    (by kernel_rfl)
end Go.Proofs.YtminjcknmhgpiaaGreatDoor
