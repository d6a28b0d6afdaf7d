/- The tied card FeatureKeeps holds: for every argument the call returns true, and each argument reads afterwards as it read before, where the listed table reads as the program's own text lays it; the card ties that to the text. No other condition. -/
import Derived.Test.YtdmfkgopalelgaaDoorFrow
import Derived.Test.YtdmfkgopalelgaaDoorOpenFtr
import Derived.Test.YtdmfkgopalelgaaDoorQm8
import Derived.Test.YtdmfkgopalelgaaDoorTie
import Derived.Test.YtdmfkgopalelgaaDoorCards
import Derived.SevenTiedAt
import Derived.Carry
namespace Go.Proofs.YtdmfkgopalelgaaDoor
open Go.ChangeShapes Go.WideShapes Go.ChangeAt Go.RowKit
open Go.ChangeMaps (open_string shut_string)

theorem featureKeeps_own : ownKnob Tryd.prog.godebug = none := by kernel_rfl
theorem featureKeeps_laidOut : laidOutB Tryd.prog = true := by kernel_rfl
theorem featureKeeps_met (os : Os) (args : Array Value) : laidMet Tryd.prog Rows.featureKeepsRow.laid ((laidWorld os).forCall (fun _ _ => 0) ⟨#[], args, []⟩).memory :=
  laidMet_of_run' 8 (by kernel_rfl) (by kernel_rfl)

set_option maxRecDepth 100000 in
theorem featureKeeps_lifted (os : Os) (started : os.Started) (H : Type) (enc : TypeId × Value → H) :
    ReturnsInHanded {} Tryd.checked os 9 .any (fun w args => (Rows.featureKeepsSpec.pre enc Tryd.prog Tryd.f9 Rows.featureKeepsRow.domain false w args ∧ laidMet Tryd.prog Rows.featureKeepsRow.laid w) ∧ sizedMet enc Tryd.prog Tryd.f9 (OpenSpec.ofChange Rows.featureKeepsSpec) false w args)
      (Rows.featureKeepsSpec.post enc Tryd.prog Tryd.f9 false true false false) := by
  refine returnsInHanded_of_change_and (C := Tryd.checked) (X := fun w _ => laidMet Tryd.prog Rows.featureKeepsRow.laid w) (fun _ _ _ hh h => h.of_heap hh) featureKeeps_own started (by kernel_rfl) Tryd.func9
    (ChangeSpec.witness_at (enc := enc) (C := Tryd.checked) (os := os) (X := fun w _ => laidMet Tryd.prog Rows.featureKeepsRow.laid w) false (laidWorld os) #[.agg #[.string ⟨#[]⟩, .int .i64 0, .int .i64 0, .int .i64 0, .int .i64 0, .int .i64 0, .int .i64 0, .int .i64 0, .slice none 0 0], .agg #[.string ⟨#[]⟩, .int .i64 0, .int .i64 0, .int .i64 0, .int .i64 0, .int .i64 0, .int .i64 0, .int .i64 0, .slice none 0 0], .int .u8 0] 8 rfl (by kernel_rfl) (by kernel_rfl) (by kernel_rfl) (by kernel_rfl) (by kernel_rfl) (featureKeeps_met os _)) ?_
  intro W base args ds gs before hval0 hW _ _ hL _
  have hval : ∀ (j : Nat) t v, Tryd.f9.params[j]? = some t → args[j]? = some v → Value.okWide Tryd.prog W .any base t v := hval0
  have hW' := hW
  obtain ⟨p, q, hA0, hV, rfl, _, _⟩ := hW
  have hA : DataW.TrodAll enc Tryd.prog W 0 (fun _ => true) true Tryd.f9.params.toList args.toList ds p := hA0
  rw [Tryd.params9] at hA hval
  obtain ⟨v0, v1, v2, d0, d1, d2, p0, p1, p2, rfl, rfl, rfl, h0_, h1_, h2_⟩ := trodAll_three hA
  obtain ⟨rfl, rfl⟩ := trodVars_none hV
  have h0k := h0_
  obtain ⟨fuel0, hf0⟩ := h0_
  obtain ⟨n, k, a, x, y, z, lo, hi, fp, fl, fc, fs, rfl, hfr0⟩ := open_ftr (hval 0 28 v0 rfl rfl) hf0
  clear hf0
  have h1k := h1_
  obtain ⟨fuel1, hf1⟩ := h1_
  obtain ⟨n2, k2, a2, x2, y2, z2, lo2, hi2, fp2, fl2, fc2, fs2, rfl, hfr1⟩ := open_ftr (hval 1 28 v1 rfl rfl) hf1
  clear hf1
  obtain ⟨c, rfl, rfl, rfl, wx2⟩ := open_int Tryd.underlying5 (hval 2 5 v2 rfl rfl) h2_
  have b2 : IntKind.u8.min ≤ c ∧ c ≤ IntKind.u8.max := by simpa only [Lit.wf, Bool.and_eq_true, decide_eq_true_eq] using wx2
  clear hA0 hval0
  simp only [List.append_nil] at hW'
  have lay : Gl W := gl_of_laid hL
  have hlt : ∀ x ∈ p0 ++ p1, x.block < W.heap.size := fun x hx => by simpa using hW'.lt x (by simpa using hx)
  have a0 : ∀ (W' : World), Below W.heap.size W W' → DataW.Trod enc Tryd.prog W' 0 (fun b => decide (b < W.heap.size)) true 28 (.agg #[.string n, .int .i64 k, .int .i64 a, .int .i64 x, .int .i64 y, .int .i64 z, .int .i64 lo, .int .i64 hi, .slice fp fl fc]) d0 p0 :=
    fun W' hn => Below.trod featureKeeps_laidOut (by kernel_rfl) (of_decide_eq_true (by kernel_rfl)) h0k hn (fun x hx => hlt x (by simp [hx]))
  have a1 : ∀ (W' : World), Below W.heap.size W W' → DataW.Trod enc Tryd.prog W' 0 (fun b => decide (b < W.heap.size)) true 28 (.agg #[.string n2, .int .i64 k2, .int .i64 a2, .int .i64 x2, .int .i64 y2, .int .i64 z2, .int .i64 lo2, .int .i64 hi2, .slice fp2 fl2 fc2]) d1 p1 :=
    fun W' hn => Below.trod featureKeeps_laidOut (by kernel_rfl) (of_decide_eq_true (by kernel_rfl)) h1k hn (fun x hx => hlt x (by simp [hx]))
  refine (cKeeps n k a x y z lo hi fp fl fc n2 k2 a2 x2 y2 z2 lo2 hi2 fp2 fl2 fc2 fs fs2 c b2.1 b2.2 W lay hfr0 hfr1).mono fun e W' ⟨he, hk⟩ => ?_
  subst he
  exact ⟨_, rfl, _, _, _, [], _, [], hW', trodAll_mk1 (shut_bool Tryd.underlying4 true), trodAll_mk3 (a0 _ hk) (a1 _ hk) (shut_int Tryd.underlying5 wx2), rfl, Below.frame hk _, fun h => by cases h⟩

theorem featureKeeps_holds : Rows.FeatureKeepsSaid :=
  OpenClaim.holds_of_wide 9 Tryd.f9 rfl rfl rfl rfl rfl rfl rfl ⟨rfl, rfl, rfl, rfl, rfl⟩ rfl rfl rfl rfl rfl (by kernel_rfl) Tryd.func9 (by kernel_rfl)
    (of_decide_eq_true (by kernel_rfl)) (by unfold Func.isWrapper; first | (rw [if_pos (by decide +kernel)]; kernel_rfl) | (rw [if_neg (by decide +kernel)]; exact ⟨rfl, rfl⟩))
    (fun os started H enc _ => featureKeeps_lifted os started H enc)

theorem featureKeeps_card : Rows.FeatureKeepsCardSaid :=
  Claim7.holds_tied_plain_at .later [] [.data] true (true, "f64e4ed54b71e378a0a44b42d4bac7a1deac99a27cbec671ca07fae1cb5c402a") false
    featureKeeps_holds (fun _ h => by cases h) (by kernel_rfl) (fun _ h => by cases h) featureKeeps_row_tie rfl ⟨rfl, rfl⟩ (by kernel_rfl) rfl
    (fun f fn hf hfn => by
      obtain rfl : f = 9 := Option.some.inj ((show Tryd.prog.funcNamed "metrolab/metrolablaw18.FeatureKeeps" = some 9 by kernel_rfl).symm.trans hf) |>.symm
      obtain rfl : fn = Tryd.f9 := (Option.some.inj (Tryd.func9.symm.trans hfn)).symm
      exact ⟨by kernel_rfl, fun j t ht => by
        rw [Tryd.params9] at ht
        rcases j with _ | _ | _ | j
        · have h3 : t = 28 := by simpa using ht.symm
          subst h3; exact (show Tryd.prog.wantsStandIn 28 = false by kernel_rfl)
        · have h3 : t = 28 := by simpa using ht.symm
          subst h3; exact (show Tryd.prog.wantsStandIn 28 = false by kernel_rfl)
        · have h3 : t = 5 := by simpa using ht.symm
          subst h3; exact (show Tryd.prog.wantsStandIn 5 = false by kernel_rfl)
        · simp at ht⟩)
    (by kernel_rfl)
end Go.Proofs.YtdmfkgopalelgaaDoor
