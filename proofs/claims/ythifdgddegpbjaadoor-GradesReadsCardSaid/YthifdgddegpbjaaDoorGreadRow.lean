/- The tied card GradesReads holds: for every argument the call returns true, and each argument reads afterwards as it read before, where the listed variables read as the program's own text lays them; the card ties that to the text. No other condition. -/
import Derived.Test.YthifdgddegpbjaaDoorGrowR
import Derived.Test.YthifdgddegpbjaaDoorGl4
import Derived.Test.YthifdgddegpbjaaDoorTie
import Derived.Test.YthifdgddegpbjaaDoorCards
import Derived.SevenTiedAt
import Derived.Carry
namespace Go.Proofs.YthifdgddegpbjaaDoor
open Go.ChangeShapes Go.WideShapes Go.ChangeAt Go.RowKit
open Go.ChangeMaps (open_string shut_string)

theorem gradesReads_laidOut : laidOutB Tryd.prog = true := by kernel_rfl
theorem gradesReads_met (os : Os) (args : Array Value) : laidMet Tryd.prog Rows.gradesReadsRow.laid ((laidWorld os).forCall (fun _ _ => 0) ⟨#[], args, []⟩).memory := laid_all os args
set_option maxRecDepth 100000 in
theorem gradesReads_lifted (os : Os) (started : os.Started) (H : Type) (enc : TypeId × Value → H) :
    ReturnsInHanded {} Tryd.checked os 3 .any (fun w args => (Rows.gradesReadsSpec.pre enc Tryd.prog Tryd.f3 Rows.gradesReadsRow.domain false w args ∧ laidMet Tryd.prog Rows.gradesReadsRow.laid w) ∧ sizedMet enc Tryd.prog Tryd.f3 (OpenSpec.ofChange Rows.gradesReadsSpec) false w args)
      (Rows.gradesReadsSpec.post enc Tryd.prog Tryd.f3 false true false false) := by
  refine handed_sh (C := Tryd.checked) (X := fun w _ => laidMet Tryd.prog Rows.gradesReadsRow.laid w) (fun _ _ _ hh h => h.of_heap hh) Tryd.own started (by kernel_rfl) Tryd.func3
    (ChangeSpec.witness_shaped (enc := enc) (C := Tryd.checked) (os := os) (X := fun w _ => laidMet Tryd.prog Rows.gradesReadsRow.laid w) false (laidWorld os) #[.agg #[.bool false, .int .i64 0, .int .i64 0], .string ⟨#[]⟩] 8 rfl (World.shaped_of_RefB (by kernel_rfl) (by kernel_rfl)) (by kernel_rfl) (by kernel_rfl) (by kernel_rfl) (gradesReads_met os _)) ?_
  intro W base args ds gs before hval0 hW hL hsh
  have hval : ∀ (j : Nat) t v, Tryd.f3.params[j]? = some t → args[j]? = some v → Value.okWide Tryd.prog W .any base t v := hval0
  have hW' := hW
  obtain ⟨p, q, hA0, hV, rfl, _, _⟩ := hW
  have hA : DataW.TrodAll enc Tryd.prog W 0 (fun _ => true) true Tryd.f3.params.toList args.toList ds p := hA0
  rw [Tryd.params3] at hA hval
  obtain ⟨v0, v1, d0, d1, p0, p1, rfl, rfl, rfl, h0, h1⟩ := trodAll_two hA
  obtain ⟨rfl, rfl⟩ := trodVars_none hV
  obtain ⟨h, k, g, b0, c0, rfl⟩ := open_cls (tb := 4) (ti := 3) Tryd.underlying23 (by kernel_rfl) (by kernel_rfl) Tryd.underlying4 Tryd.underlying3 (hval 0 23 v0 rfl rfl)
  obtain ⟨s, rfl, rfl, rfl, wx1⟩ := open_string Tryd.underlying9 (hval 1 9 v1 rfl rfl) h1
  clear hA0 hval0
  simp only [List.append_nil] at hW'
  have lay : GloR W := gloR_of_laid hL hsh
  have hlt : ∀ x ∈ p0, x.block < W.heap.size := fun x hx => by simpa using hW'.lt x (by simpa using hx)
  have a0 : ∀ (W' : World), Below W.heap.size W W' → DataW.Trod enc Tryd.prog W' 0 (fun b => decide (b < W.heap.size)) true 23 (.agg #[.bool h, .int .i64 k, .int .i64 g]) d0 p0 :=
    fun W' hn => Below.trod gradesReads_laidOut (by kernel_rfl) (of_decide_eq_true (by kernel_rfl)) h0 hn (fun x hx => hlt x (by simp [hx]))
  refine (reads_true h k g s W lay).mono fun e W' ⟨he, hk⟩ => ?_
  subst he
  exact ⟨_, rfl, _, _, _, [], _, [], hW', trodAll_mk1 (shut_bool Tryd.underlying4 true), trodAll_mk2 (a0 _ hk) (shut_string Tryd.underlying9 wx1), rfl, Below.frame hk _, fun h => by cases h⟩

theorem gradesReads_holds : Rows.GradesReadsSaid :=
  OpenClaim.holds_of_wide 3 Tryd.f3 rfl rfl rfl rfl rfl rfl rfl ⟨rfl, rfl, rfl, rfl, rfl⟩ rfl rfl rfl rfl rfl (by kernel_rfl) Tryd.func3 (by kernel_rfl)
    (of_decide_eq_true (by kernel_rfl)) (by unfold Func.isWrapper; first | (rw [if_pos (by decide +kernel)]; kernel_rfl) | (rw [if_neg (by decide +kernel)]; exact ⟨rfl, rfl⟩))
    (fun os started H enc _ => gradesReads_lifted os started H enc)

theorem gradesReads_card : Rows.GradesReadsCardSaid :=
  Claim7.holds_tied_plain_at .later [] [.data, .data, .data, .data, .sentinel, .sentinel, .data, .data, .data, .pinned, .pinned] true (true, "f060b9d9457f5e18dc34d65da8b5885946eecda2b2de2f3b418974f8dedcaa4a") true
    gradesReads_holds (fun _ h => by cases h) (by kernel_rfl) (fun _ h => by cases h) gradesReads_row_tie rfl ⟨rfl, rfl⟩ (by kernel_rfl) rfl
    (fun f fn hf hfn => by
      obtain rfl : f = 3 := Option.some.inj ((show Tryd.prog.funcNamed "metrolab/metrolablaw15.GradesReads" = some 3 by kernel_rfl).symm.trans hf) |>.symm
      obtain rfl : fn = Tryd.f3 := (Option.some.inj (Tryd.func3.symm.trans hfn)).symm
      exact ⟨by kernel_rfl, fun j t ht => by
        rw [Tryd.params3] at ht
        rcases j with _ | _ | j
        · have h3 : t = 23 := by simpa using ht.symm
          subst h3; exact (show Tryd.prog.wantsStandIn 23 = false by kernel_rfl)
        · have h3 : t = 9 := by simpa using ht.symm
          subst h3; exact (show Tryd.prog.wantsStandIn 9 = false by kernel_rfl)
        · simp at ht⟩)
    (by kernel_rfl)
end Go.Proofs.YthifdgddegpbjaaDoor
