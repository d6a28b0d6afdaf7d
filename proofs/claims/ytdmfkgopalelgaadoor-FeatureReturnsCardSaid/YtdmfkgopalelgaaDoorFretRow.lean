/- The tied card FeatureReturns holds: for every argument the call returns true, and each argument reads afterwards as it read before, where the listed table reads as the program's own text lays it; the card ties that to the text. No other condition. -/
import Derived.Test.YtdmfkgopalelgaaDoorFrow
import Derived.Test.YtdmfkgopalelgaaDoorOpenFtr
import Derived.Test.YtdmfkgopalelgaaDoorQm6
import Derived.Test.YtdmfkgopalelgaaDoorTie
import Derived.Test.YtdmfkgopalelgaaDoorCards
import Derived.SevenTiedAt
import Derived.Carry
namespace Go.Proofs.YtdmfkgopalelgaaDoor
open Go.ChangeShapes Go.WideShapes Go.ChangeAt Go.RowKit
open Go.ChangeMaps (open_string shut_string)

theorem featureReturns_own : ownKnob Tryd.prog.godebug = none := by kernel_rfl
theorem featureReturns_laidOut : laidOutB Tryd.prog = true := by kernel_rfl
theorem featureReturns_met (os : Os) (args : Array Value) : laidMet Tryd.prog Rows.featureReturnsRow.laid ((laidWorld os).forCall (fun _ _ => 0) ⟨#[], args, []⟩).memory :=
  laidMet_of_run' 8 (by kernel_rfl) (by kernel_rfl)

set_option maxRecDepth 100000 in
theorem featureReturns_lifted (os : Os) (started : os.Started) (H : Type) (enc : TypeId × Value → H) :
    ReturnsInHanded {} Tryd.checked os 8 .any (fun w args => (Rows.featureReturnsSpec.pre enc Tryd.prog Tryd.f8 Rows.featureReturnsRow.domain false w args ∧ laidMet Tryd.prog Rows.featureReturnsRow.laid w) ∧ sizedMet enc Tryd.prog Tryd.f8 (OpenSpec.ofChange Rows.featureReturnsSpec) false w args)
      (Rows.featureReturnsSpec.post enc Tryd.prog Tryd.f8 false true false false) := by
  refine returnsInHanded_of_change_and (C := Tryd.checked) (X := fun w _ => laidMet Tryd.prog Rows.featureReturnsRow.laid w) (fun _ _ _ hh h => h.of_heap hh) featureReturns_own started (by kernel_rfl) Tryd.func8
    (ChangeSpec.witness_at (enc := enc) (C := Tryd.checked) (os := os) (X := fun w _ => laidMet Tryd.prog Rows.featureReturnsRow.laid w) false (laidWorld os) #[.agg #[.string ⟨#[]⟩, .int .i64 0, .int .i64 0, .int .i64 0, .int .i64 0, .int .i64 0, .int .i64 0, .int .i64 0, .slice none 0 0], .agg #[.int .i64 0, .int .i64 0, .int .i64 0], .int .u8 0] 8 rfl (by kernel_rfl) (by kernel_rfl) (by kernel_rfl) (by kernel_rfl) (by kernel_rfl) (featureReturns_met os _)) ?_
  intro W base args ds gs before hval0 hW _ _ hL _
  have hval : ∀ (j : Nat) t v, Tryd.f8.params[j]? = some t → args[j]? = some v → Value.okWide Tryd.prog W .any base t v := hval0
  have hW' := hW
  obtain ⟨p, q, hA0, hV, rfl, _, _⟩ := hW
  have hA : DataW.TrodAll enc Tryd.prog W 0 (fun _ => true) true Tryd.f8.params.toList args.toList ds p := hA0
  rw [Tryd.params8] at hA hval
  obtain ⟨v0, v1, v2, d0, d1, d2, p0, p1, p2, rfl, rfl, rfl, h0_, h1_, h2_⟩ := trodAll_three hA
  obtain ⟨rfl, rfl⟩ := trodVars_none hV
  have h0k := h0_
  obtain ⟨fuel0, hf0⟩ := h0_
  obtain ⟨n, k, a, x, y, z, lo, hi, fp, fl, fc, fs, rfl, hfr0⟩ := open_ftr (hval 0 28 v0 rfl rfl) hf0
  clear hf0
  have e1 := hval 1 23 v1 rfl rfl
  unfold Value.okWide at e1
  rw [Tryd.underlying23] at e1
  obtain ⟨x1, y1, z1, b1_0, b1_1, b1_2, rfl⟩ := open_i3 (open_kinds (by kernel_rfl) e1)
  clear e1
  obtain ⟨c, rfl, rfl, rfl, wx2⟩ := open_int Tryd.underlying5 (hval 2 5 v2 rfl rfl) h2_
  have b2 : IntKind.u8.min ≤ c ∧ c ≤ IntKind.u8.max := by simpa only [Lit.wf, Bool.and_eq_true, decide_eq_true_eq] using wx2
  clear hA0 hval0
  simp only [List.append_nil] at hW'
  have lay : Gl W := gl_of_laid hL
  have hlt : ∀ x ∈ p0 ++ p1, x.block < W.heap.size := fun x hx => by simpa using hW'.lt x (by simpa using hx)
  have a0 : ∀ (W' : World), Below W.heap.size W W' → DataW.Trod enc Tryd.prog W' 0 (fun b => decide (b < W.heap.size)) true 28 (.agg #[.string n, .int .i64 k, .int .i64 a, .int .i64 x, .int .i64 y, .int .i64 z, .int .i64 lo, .int .i64 hi, .slice fp fl fc]) d0 p0 :=
    fun W' hn => Below.trod featureReturns_laidOut (by kernel_rfl) (of_decide_eq_true (by kernel_rfl)) h0k hn (fun x hx => hlt x (by simp [hx]))
  have a1 : ∀ (W' : World), Below W.heap.size W W' → DataW.Trod enc Tryd.prog W' 0 (fun b => decide (b < W.heap.size)) true 23 (.agg #[.int .i64 x1, .int .i64 y1, .int .i64 z1]) d1 p1 :=
    fun W' hn => Below.trod featureReturns_laidOut (by kernel_rfl) (of_decide_eq_true (by kernel_rfl)) h1_ hn (fun x hx => hlt x (by simp [hx]))
  refine (cReturns n k a x y z lo hi fp fl fc fs x1 y1 z1 c b2.1 b2.2 W lay hfr0).mono fun e W' ⟨he, hk⟩ => ?_
  subst he
  exact ⟨_, rfl, _, _, _, [], _, [], hW', trodAll_mk1 (shut_bool Tryd.underlying4 true), trodAll_mk3 (a0 _ hk) (a1 _ hk) (shut_int Tryd.underlying5 wx2), rfl, Below.frame hk _, fun h => by cases h⟩

theorem featureReturns_holds : Rows.FeatureReturnsSaid :=
  OpenClaim.holds_of_wide 8 Tryd.f8 rfl rfl rfl rfl rfl rfl rfl ⟨rfl, rfl, rfl, rfl, rfl⟩ rfl rfl rfl rfl rfl (by kernel_rfl) Tryd.func8 (by kernel_rfl)
    (of_decide_eq_true (by kernel_rfl)) (by unfold Func.isWrapper; first | (rw [if_pos (by decide +kernel)]; kernel_rfl) | (rw [if_neg (by decide +kernel)]; exact ⟨rfl, rfl⟩))
    (fun os started H enc _ => featureReturns_lifted os started H enc)

theorem featureReturns_card : Rows.FeatureReturnsCardSaid :=
  Claim7.holds_tied_plain_at .later [] [.data] true (true, "f64e4ed54b71e378a0a44b42d4bac7a1deac99a27cbec671ca07fae1cb5c402a") false
    featureReturns_holds (fun _ h => by cases h) (by kernel_rfl) (fun _ h => by cases h) featureReturns_row_tie rfl ⟨rfl, rfl⟩ (by kernel_rfl) rfl
    (fun f fn hf hfn => by
      obtain rfl : f = 8 := Option.some.inj ((show Tryd.prog.funcNamed "metrolab/metrolablaw18.FeatureReturns" = some 8 by kernel_rfl).symm.trans hf) |>.symm
      obtain rfl : fn = Tryd.f8 := (Option.some.inj (Tryd.func8.symm.trans hfn)).symm
      exact ⟨by kernel_rfl, fun j t ht => by
        rw [Tryd.params8] at ht
        rcases j with _ | _ | _ | j
        · have h3 : t = 28 := by simpa using ht.symm
          subst h3; exact (show Tryd.prog.wantsStandIn 28 = false by kernel_rfl)
        · have h3 : t = 23 := by simpa using ht.symm
          subst h3; exact (show Tryd.prog.wantsStandIn 23 = false by kernel_rfl)
        · have h3 : t = 5 := by simpa using ht.symm
          subst h3; exact (show Tryd.prog.wantsStandIn 5 = false by kernel_rfl)
        · simp at ht⟩)
    (by kernel_rfl)
end Go.Proofs.YtdmfkgopalelgaaDoor
