/- The tied card FrameConditions holds: for every argument the call returns true, and each argument reads afterwards as it read before, where the listed table reads as the program's own text lays it; the card ties that to the text. No other condition. -/
import Derived.Test.YtlfeinajjfbpkaaGreatDoorM09
import Derived.Test.YtlfeinajjfbpkaaGreatDoorM13
import Derived.Test.YtlfeinajjfbpkaaGreatDoorTie
import Derived.Test.YtlfeinajjfbpkaaGreatDoorCards
import Derived.SevenTiedAt
import Derived.Carry
namespace Go.Proofs.YtlfeinajjfbpkaaGreatDoor
open Go.ChangeShapes Go.WideShapes Go.ChangeAt Go.RowKit
open Go.ChangeMaps (open_string shut_string)

theorem frameConditions_own : ownKnob Tryz.prog.godebug = none := by kernel_rfl
theorem frameConditions_laidOut : laidOutB Tryz.prog = true := by kernel_rfl
theorem frameConditions_met (os : Os) (args : Array Value) : laidMet Tryz.prog Rows.frameConditionsRow.laid ((laidWorld os).forCall (fun _ _ => 0) ⟨#[], args, []⟩).memory :=
  laid_all os args

set_option maxRecDepth 100000 in
theorem frameConditions_lifted (os : Os) (started : os.Started) (H : Type) (enc : TypeId × Value → H) :
    ReturnsInHanded {} Tryz.checked os 5 .any (fun w args => (Rows.frameConditionsSpec.pre enc Tryz.prog Tryz.f5 Rows.frameConditionsRow.domain false w args ∧ laidMet Tryz.prog Rows.frameConditionsRow.laid w) ∧ sizedMet enc Tryz.prog Tryz.f5 (OpenSpec.ofChange Rows.frameConditionsSpec) false w args)
      (Rows.frameConditionsSpec.post enc Tryz.prog Tryz.f5 false true false false) := by
  refine handed_sh (C := Tryz.checked) (X := fun w _ => laidMet Tryz.prog Rows.frameConditionsRow.laid w) (fun _ _ _ hh h => h.of_heap hh) frameConditions_own started (by kernel_rfl) Tryz.func5
    (ChangeSpec.witness_shaped (enc := enc) (C := Tryz.checked) (os := os) (X := fun w _ => laidMet Tryz.prog Rows.frameConditionsRow.laid w) false (laidWorld os) #[.agg #[.string ⟨#[]⟩, .int .i64 0, .int .i64 0, .int .i64 0, .int .i64 0, .int .i64 0, .int .i64 0, .int .i64 0, .slice none 0 0], .agg #[.int .i64 0, .bool false, .int .i64 0, .int .i64 0, .slice none 0 0], .int .i64 0] 8 rfl (World.shaped_of_RefB (by kernel_rfl) (by kernel_rfl)) (by kernel_rfl) (by kernel_rfl) (by kernel_rfl) (frameConditions_met os _)) ?_
  intro W base args ds gs before hval0 hW hL hsh
  have hval : ∀ (j : Nat) t v, Tryz.f5.params[j]? = some t → args[j]? = some v → Value.okWide Tryz.prog W .any base t v := hval0
  have hW' := hW
  obtain ⟨p, q, hA0, hV, rfl, _, _⟩ := hW
  have hA : DataW.TrodAll enc Tryz.prog W 0 (fun _ => true) true Tryz.f5.params.toList args.toList ds p := hA0
  rw [Tryz.params5] at hA hval
  obtain ⟨v0, v1, v2, d0, d1, d2, p0, p1, p2, rfl, rfl, rfl, h0_, h1_, h2_⟩ := trodAll_three hA
  obtain ⟨rfl, rfl⟩ := trodVars_none hV
  have h0k := h0_
  obtain ⟨fuel0, hf0⟩ := h0_
  obtain ⟨n, k, a, x, y, z, lo, hi, fp, fl, fc, fs, rfl, hfr0⟩ := open_ftr (hval 0 28 v0 rfl rfl) hf0
  clear hf0
  have h1k := h1_
  obtain ⟨fuel1, hf1⟩ := h1_
  obtain ⟨fk, fd, ft, fm, dp, dl, dc, ds, rfl, hd1, hcd1⟩ := open_frm (hval 1 31 v1 rfl rfl) hf1
  clear hf1
  obtain ⟨u, rfl, rfl, rfl, wx2⟩ := open_int Tryz.underlying3 (hval 2 3 v2 rfl rfl) h2_
  have b2 : IntKind.i64.min ≤ u ∧ u ≤ IntKind.i64.max := by simpa only [Lit.wf, Bool.and_eq_true, decide_eq_true_eq] using wx2
  clear hA0 hval0
  simp only [List.append_nil] at hW'
  have lay : Gf W W := gf_of_laid hL hsh
  have hlt : ∀ x ∈ p0 ++ p1, x.block < W.heap.size := fun x hx => by simpa using hW'.lt x (by simpa using hx)
  have a0 : ∀ (W' : World), Below W.heap.size W W' → DataW.Trod enc Tryz.prog W' 0 (fun b => decide (b < W.heap.size)) true 28 (.agg #[.string n, .int .i64 k, .int .i64 a, .int .i64 x, .int .i64 y, .int .i64 z, .int .i64 lo, .int .i64 hi, .slice fp fl fc]) d0 p0 :=
    fun W' hn => Below.trod frameConditions_laidOut (by kernel_rfl) (of_decide_eq_true (by kernel_rfl)) h0k hn (fun x hx => hlt x (by simp [hx]))
  have a1 : ∀ (W' : World), Below W.heap.size W W' → DataW.Trod enc Tryz.prog W' 0 (fun b => decide (b < W.heap.size)) true 31 (.agg #[.int .i64 fk, .bool fd, .int .i64 ft, .int .i64 fm, .slice dp dl dc]) d1 p1 :=
    fun W' hn => Below.trod frameConditions_laidOut (by kernel_rfl) (of_decide_eq_true (by kernel_rfl)) h1k hn (fun x hx => hlt x (by simp [hx]))
  refine (cFrameConditions n k a x y z lo hi fp fl fc fk fd ft fm dp dl dc ds u fs W lay hfr0 hd1 hcd1).mono fun e W' ⟨he, hk⟩ => ?_
  subst he
  exact ⟨_, rfl, _, _, _, [], _, [], hW', trodAll_mk1 (shut_bool Tryz.underlying4 true), trodAll_mk3 (a0 _ hk) (a1 _ hk) (shut_int Tryz.underlying3 wx2), rfl, Below.frame hk _, fun h => by cases h⟩

theorem frameConditions_holds : Rows.FrameConditionsSaid :=
  OpenClaim.holds_of_wide 5 Tryz.f5 rfl rfl rfl rfl rfl rfl rfl ⟨rfl, rfl, rfl, rfl, rfl⟩ rfl rfl rfl rfl rfl (by kernel_rfl) Tryz.func5 (by kernel_rfl)
    (of_decide_eq_true (by kernel_rfl)) (by unfold Func.isWrapper; first | (rw [if_pos (by decide +kernel)]; kernel_rfl) | (rw [if_neg (by decide +kernel)]; exact ⟨rfl, rfl⟩))
    (fun os started H enc _ => frameConditions_lifted os started H enc)

theorem frameConditions_card : Rows.FrameConditionsCardSaid :=
  Claim7.holds_tied_plain_at .later [] [.data, .data, .data, .data, .data, .sentinel, .sentinel, .data, .data, .pinned] true (true, "9ec93153bba0193bb78c5d09ae2e40f7066fb3a87638c02ccefdffc12c7d6a77") true
    frameConditions_holds (fun _ h => by cases h) (by kernel_rfl) (fun _ h => by cases h) frameConditions_row_tie rfl ⟨rfl, rfl⟩ (by kernel_rfl) rfl
    (fun f fn hf hfn => by
      obtain rfl : f = 5 := Option.some.inj ((show Tryz.prog.funcNamed "metrolab/metrolablaw19.FrameConditions" = some 5 by kernel_rfl).symm.trans hf) |>.symm
      obtain rfl : fn = Tryz.f5 := (Option.some.inj (Tryz.func5.symm.trans hfn)).symm
      exact ⟨by kernel_rfl, fun j t ht => by
        rw [Tryz.params5] at ht
        rcases j with _ | _ | _ | j
        · have h3 : t = 28 := by simpa using ht.symm
          subst h3; exact (show Tryz.prog.wantsStandIn 28 = false by kernel_rfl)
        · have h3 : t = 31 := by simpa using ht.symm
          subst h3; exact (show Tryz.prog.wantsStandIn 31 = false by kernel_rfl)
        · have h3 : t = 3 := by simpa using ht.symm
          subst h3; exact (show Tryz.prog.wantsStandIn 3 = false by kernel_rfl)
        · simp at ht⟩)
    (by kernel_rfl)
end Go.Proofs.YtlfeinajjfbpkaaGreatDoor
