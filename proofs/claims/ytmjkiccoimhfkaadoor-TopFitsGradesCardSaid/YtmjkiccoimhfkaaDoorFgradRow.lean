/- The tied card TopFitsGrades holds: for every argument the call returns true, and each argument reads afterwards as it read before, where the listed table reads as the program's own text lays it; the card ties that to the text. No other condition. -/
import Derived.Test.YtmjkiccoimhfkaaDoorFgrow
import Derived.Test.YtmjkiccoimhfkaaDoorOpenK
import Derived.Test.YtmjkiccoimhfkaaDoorFg7
import Derived.Test.YtmjkiccoimhfkaaDoorTie
import Derived.Test.YtmjkiccoimhfkaaDoorCards
import Derived.SevenTiedAt
import Derived.Carry
namespace Go.Proofs.YtmjkiccoimhfkaaDoor
open Go.ChangeShapes Go.WideShapes Go.ChangeAt Go.RowKit
open Go.ChangeMaps (open_string shut_string)

theorem topFitsGrades_own : ownKnob Tryd.prog.godebug = none := by kernel_rfl
theorem topFitsGrades_laidOut : laidOutB Tryd.prog = true := by kernel_rfl
theorem topFitsGrades_met (os : Os) (args : Array Value) : laidMet Tryd.prog Rows.topFitsGradesRow.laid ((laidWorld os).forCall (fun _ _ => 0) ⟨#[], args, []⟩).memory :=
  laidMet_of_run' 8 (by kernel_rfl) (by kernel_rfl)

set_option maxRecDepth 100000 in
theorem topFitsGrades_lifted (os : Os) (started : os.Started) (H : Type) (enc : TypeId × Value → H) :
    ReturnsInHanded {} Tryd.checked os 4 .any (fun w args => (Rows.topFitsGradesSpec.pre enc Tryd.prog Tryd.f4 Rows.topFitsGradesRow.domain false w args ∧ laidMet Tryd.prog Rows.topFitsGradesRow.laid w) ∧ sizedMet enc Tryd.prog Tryd.f4 (OpenSpec.ofChange Rows.topFitsGradesSpec) false w args)
      (Rows.topFitsGradesSpec.post enc Tryd.prog Tryd.f4 false true false false) := by
  refine returnsInHanded_of_change_and (C := Tryd.checked) (X := fun w _ => laidMet Tryd.prog Rows.topFitsGradesRow.laid w) (fun _ _ _ hh h => h.of_heap hh) topFitsGrades_own started (by kernel_rfl) Tryd.func4
    (ChangeSpec.witness_at (enc := enc) (C := Tryd.checked) (os := os) (X := fun w _ => laidMet Tryd.prog Rows.topFitsGradesRow.laid w) false (laidWorld os) #[.agg #[.int .i64 0, .int .i64 0, .int .i64 0, .int .i64 0]] 8 rfl (by kernel_rfl) (by kernel_rfl) (by kernel_rfl) (by kernel_rfl) (by kernel_rfl) (topFitsGrades_met os _)) ?_
  intro W base args ds gs before hval0 hW _ _ hL _
  have hval : ∀ (j : Nat) t v, Tryd.f4.params[j]? = some t → args[j]? = some v → Value.okWide Tryd.prog W .any base t v := hval0
  have hW' := hW
  obtain ⟨p, q, hA0, hV, rfl, _, _⟩ := hW
  have hA : DataW.TrodAll enc Tryd.prog W 0 (fun _ => true) true Tryd.f4.params.toList args.toList ds p := hA0
  rw [Tryd.params4] at hA hval
  obtain ⟨v0, d0, rfl, rfl, h0_⟩ := trodAll_one hA
  obtain ⟨rfl, rfl⟩ := trodVars_none hV
  have e0 := hval 0 23 v0 rfl rfl
  unfold Value.okWide at e0
  rw [Tryd.underlying23] at e0
  obtain ⟨z, k, gh, gs, b0_0, b0_1, b0_2, b0_3, rfl⟩ := open_i4 (open_kinds (by kernel_rfl) e0)
  clear e0
  clear hA0 hval0
  simp only [List.append_nil] at hW'
  have lay : Gl W := gl_of_laid hL
  have hlt : ∀ x ∈ p, x.block < W.heap.size := fun x hx => by simpa using hW'.lt x (by simpa using hx)
  have a0 : ∀ (W' : World), Below W.heap.size W W' → DataW.Trod enc Tryd.prog W' 0 (fun b => decide (b < W.heap.size)) true 23 (.agg #[.int .i64 z, .int .i64 k, .int .i64 gh, .int .i64 gs]) d0 p :=
    fun W' hn => Below.trod topFitsGrades_laidOut (by kernel_rfl) (of_decide_eq_true (by kernel_rfl)) h0_ hn (fun x hx => hlt x (by simp [hx]))
  refine (cGrades z k gh gs W lay).mono fun e W' ⟨he, hk⟩ => ?_
  subst he
  exact ⟨_, rfl, _, _, _, [], _, [], hW', trodAll_mk1 (shut_bool Tryd.underlying4 true), trodAll_mk1 (a0 _ hk), rfl, Below.frame hk _, fun h => by cases h⟩

theorem topFitsGrades_holds : Rows.TopFitsGradesSaid :=
  OpenClaim.holds_of_wide 4 Tryd.f4 rfl rfl rfl rfl rfl rfl rfl ⟨rfl, rfl, rfl, rfl, rfl⟩ rfl rfl rfl rfl rfl (by kernel_rfl) Tryd.func4 (by kernel_rfl)
    (of_decide_eq_true (by kernel_rfl)) (by unfold Func.isWrapper; first | (rw [if_pos (by decide +kernel)]; kernel_rfl) | (rw [if_neg (by decide +kernel)]; exact ⟨rfl, rfl⟩))
    (fun os started H enc _ => topFitsGrades_lifted os started H enc)

theorem topFitsGrades_card : Rows.TopFitsGradesCardSaid :=
  Claim7.holds_tied_plain_at .later [] [.data, .data, .data] true (true, "2b59b877e0c186d03a656c525a500defa916aa0778057b8dadabd83b5ea917cd") false
    topFitsGrades_holds (fun _ h => by cases h) (by kernel_rfl) (fun _ h => by cases h) topFitsGrades_row_tie rfl ⟨rfl, rfl⟩ (by kernel_rfl) rfl
    (fun f fn hf hfn => by
      obtain rfl : f = 4 := Option.some.inj ((show Tryd.prog.funcNamed "metrolab/metrolabtop.TopFitsGrades" = some 4 by kernel_rfl).symm.trans hf) |>.symm
      obtain rfl : fn = Tryd.f4 := (Option.some.inj (Tryd.func4.symm.trans hfn)).symm
      exact ⟨by kernel_rfl, fun j t ht => by
        rw [Tryd.params4] at ht
        rcases j with _ | j
        · have h3 : t = 23 := by simpa using ht.symm
          subst h3; exact (show Tryd.prog.wantsStandIn 23 = false by kernel_rfl)
        · simp at ht⟩)
    (by kernel_rfl)
end Go.Proofs.YtmjkiccoimhfkaaDoor
