/- The tied card FeatureChecks holds: for every argument the call returns true, and each argument reads afterwards as it read before, where the listed table reads as the program's own text lays it; the card ties that to the text. No other condition. -/
import Derived.Test.YtgclljgdoonnmaaDoorFrow
import Derived.Test.YtgclljgdoonnmaaDoorOpenFtr
import Derived.Test.YtgclljgdoonnmaaDoorQh2
import Derived.Test.YtgclljgdoonnmaaDoorTie
import Derived.Test.YtgclljgdoonnmaaDoorCards
import Derived.SevenTiedAt
import Derived.Carry
namespace Go.Proofs.YtgclljgdoonnmaaDoor
open Go.ChangeShapes Go.WideShapes Go.ChangeAt Go.RowKit
open Go.ChangeMaps (open_string shut_string)

theorem featureChecks_own : ownKnob Tryd.prog.godebug = none := by kernel_rfl
theorem featureChecks_laidOut : laidOutB Tryd.prog = true := by kernel_rfl
theorem featureChecks_met (os : Os) (args : Array Value) : laidMet Tryd.prog Rows.featureChecksRow.laid ((laidWorld os).forCall (fun _ _ => 0) ⟨#[], args, []⟩).memory :=
  laidMet_of_run' 8 (by kernel_rfl) (by kernel_rfl)

set_option maxRecDepth 100000 in
theorem featureChecks_lifted (os : Os) (started : os.Started) (H : Type) (enc : TypeId × Value → H) :
    ReturnsInHanded {} Tryd.checked os 3 .any (fun w args => (Rows.featureChecksSpec.pre enc Tryd.prog Tryd.f3 Rows.featureChecksRow.domain false w args ∧ laidMet Tryd.prog Rows.featureChecksRow.laid w) ∧ sizedMet enc Tryd.prog Tryd.f3 (OpenSpec.ofChange Rows.featureChecksSpec) false w args)
      (Rows.featureChecksSpec.post enc Tryd.prog Tryd.f3 false true false false) := by
  refine returnsInHanded_of_change_and (C := Tryd.checked) (X := fun w _ => laidMet Tryd.prog Rows.featureChecksRow.laid w) (fun _ _ _ hh h => h.of_heap hh) featureChecks_own started (by kernel_rfl) Tryd.func3
    (ChangeSpec.witness_at (enc := enc) (C := Tryd.checked) (os := os) (X := fun w _ => laidMet Tryd.prog Rows.featureChecksRow.laid w) false (laidWorld os) #[.agg #[.string ⟨#[]⟩, .int .i64 0, .int .i64 0, .int .i64 0, .int .i64 0, .int .i64 0, .int .i64 0, .int .i64 0, .slice none 0 0]] 8 rfl (by kernel_rfl) (by kernel_rfl) (by kernel_rfl) (by kernel_rfl) (by kernel_rfl) (featureChecks_met os _)) ?_
  intro W base args ds gs before hval0 hW _ _ hL _
  have hval : ∀ (j : Nat) t v, Tryd.f3.params[j]? = some t → args[j]? = some v → Value.okWide Tryd.prog W .any base t v := hval0
  have hW' := hW
  obtain ⟨p, q, hA0, hV, rfl, _, _⟩ := hW
  have hA : DataW.TrodAll enc Tryd.prog W 0 (fun _ => true) true Tryd.f3.params.toList args.toList ds p := hA0
  rw [Tryd.params3] at hA hval
  obtain ⟨v0, d0, rfl, rfl, h0_⟩ := trodAll_one hA
  obtain ⟨rfl, rfl⟩ := trodVars_none hV
  have h0k := h0_
  obtain ⟨fuel0, hf0⟩ := h0_
  obtain ⟨n, k, a, x, y, z, lo, hi, fp, fl, fc, fs, rfl, hfr0⟩ := open_ftr (hval 0 28 v0 rfl rfl) hf0
  clear hf0
  clear hA0 hval0
  simp only [List.append_nil] at hW'
  have lay : Gl W := gl_of_laid hL
  have hlt : ∀ x ∈ p, x.block < W.heap.size := fun x hx => by simpa using hW'.lt x (by simpa using hx)
  have a0 : ∀ (W' : World), Below W.heap.size W W' → DataW.Trod enc Tryd.prog W' 0 (fun b => decide (b < W.heap.size)) true 28 (.agg #[.string n, .int .i64 k, .int .i64 a, .int .i64 x, .int .i64 y, .int .i64 z, .int .i64 lo, .int .i64 hi, .slice fp fl fc]) d0 p :=
    fun W' hn => Below.trod featureChecks_laidOut (by kernel_rfl) (of_decide_eq_true (by kernel_rfl)) h0k hn (fun x hx => hlt x (by simp [hx]))
  refine (cChecks n k a x y z lo hi fp fl fc fs W lay hfr0).mono fun e W' ⟨he, hk⟩ => ?_
  subst he
  exact ⟨_, rfl, _, _, _, [], _, [], hW', trodAll_mk1 (shut_bool Tryd.underlying4 true), trodAll_mk1 (a0 _ hk), rfl, Below.frame hk _, fun h => by cases h⟩

theorem featureChecks_holds : Rows.FeatureChecksSaid :=
  OpenClaim.holds_of_wide 3 Tryd.f3 rfl rfl rfl rfl rfl rfl rfl ⟨rfl, rfl, rfl, rfl, rfl⟩ rfl rfl rfl rfl rfl (by kernel_rfl) Tryd.func3 (by kernel_rfl)
    (of_decide_eq_true (by kernel_rfl)) (by unfold Func.isWrapper; first | (rw [if_pos (by decide +kernel)]; kernel_rfl) | (rw [if_neg (by decide +kernel)]; exact ⟨rfl, rfl⟩))
    (fun os started H enc _ => featureChecks_lifted os started H enc)

theorem featureChecks_card : Rows.FeatureChecksCardSaid :=
  Claim7.holds_tied_plain_at .later [] [.data] true (true, "f64e4ed54b71e378a0a44b42d4bac7a1deac99a27cbec671ca07fae1cb5c402a") false
    featureChecks_holds (fun _ h => by cases h) (by kernel_rfl) (fun _ h => by cases h) featureChecks_row_tie rfl ⟨rfl, rfl⟩ (by kernel_rfl) rfl
    (fun f fn hf hfn => by
      obtain rfl : f = 3 := Option.some.inj ((show Tryd.prog.funcNamed "metrolab/metrolablaw18.FeatureChecks" = some 3 by kernel_rfl).symm.trans hf) |>.symm
      obtain rfl : fn = Tryd.f3 := (Option.some.inj (Tryd.func3.symm.trans hfn)).symm
      exact ⟨by kernel_rfl, fun j t ht => by
        rw [Tryd.params3] at ht
        rcases j with _ | j
        · have h3 : t = 28 := by simpa using ht.symm
          subst h3; exact (show Tryd.prog.wantsStandIn 28 = false by kernel_rfl)
        · simp at ht⟩)
    (by kernel_rfl)
end Go.Proofs.YtgclljgdoonnmaaDoor
