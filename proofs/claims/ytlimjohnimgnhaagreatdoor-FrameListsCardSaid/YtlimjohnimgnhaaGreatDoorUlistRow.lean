/- The tied card FrameLists holds: for every argument the call returns true, and each argument reads afterwards as it read before, where the listed table reads as the program's own text lays it; the card ties that to the text. No other condition. -/
import Derived.Test.YtlimjohnimgnhaaGreatDoorM34
import Derived.Test.YtlimjohnimgnhaaGreatDoorM24
import Derived.Test.YtlimjohnimgnhaaGreatDoorM36
import Derived.Test.YtlimjohnimgnhaaGreatDoorTie
import Derived.Test.YtlimjohnimgnhaaGreatDoorCards
import Derived.SevenTiedAt
import Derived.Carry
namespace Go.Proofs.YtlimjohnimgnhaaGreatDoor
open Go.ChangeShapes Go.WideShapes Go.ChangeAt Go.RowKit
open Go.ChangeMaps (open_string shut_string)

theorem frameLists_own : ownKnob Tryz.prog.godebug = none := by kernel_rfl
theorem frameLists_laidOut : laidOutB Tryz.prog = true := by kernel_rfl
theorem frameLists_met (os : Os) (args : Array Value) : laidMet Tryz.prog Rows.frameListsRow.laid ((laidWorld os).forCall (fun _ _ => 0) ⟨#[], args, []⟩).memory :=
  laid_all os args

set_option maxRecDepth 100000 in
theorem frameLists_lifted (os : Os) (started : os.Started) (H : Type) (enc : TypeId × Value → H) :
    ReturnsInHanded {} Tryz.checked os 4 .any (fun w args => (Rows.frameListsSpec.pre enc Tryz.prog Tryz.f4 Rows.frameListsRow.domain false w args ∧ laidMet Tryz.prog Rows.frameListsRow.laid w) ∧ sizedMet enc Tryz.prog Tryz.f4 (OpenSpec.ofChange Rows.frameListsSpec) false w args)
      (Rows.frameListsSpec.post enc Tryz.prog Tryz.f4 false true false false) := by
  refine handed_sh (C := Tryz.checked) (X := fun w _ => laidMet Tryz.prog Rows.frameListsRow.laid w) (fun _ _ _ hh h => h.of_heap hh) frameLists_own started (by kernel_rfl) Tryz.func4
    (ChangeSpec.witness_shaped (enc := enc) (C := Tryz.checked) (os := os) (X := fun w _ => laidMet Tryz.prog Rows.frameListsRow.laid w) false (laidWorld os) #[.agg #[.string ⟨#[]⟩, .int .i64 0, .int .i64 0, .int .i64 0, .int .i64 0, .int .i64 0, .int .i64 0, .int .i64 0, .slice none 0 0]] 8 rfl (World.shaped_of_RefB (by kernel_rfl) (by kernel_rfl)) (by kernel_rfl) (by kernel_rfl) (by kernel_rfl) (frameLists_met os _)) ?_
  intro W base args ds gs before hval0 hW hL hsh
  have hval : ∀ (j : Nat) t v, Tryz.f4.params[j]? = some t → args[j]? = some v → Value.okWide Tryz.prog W .any base t v := hval0
  have hW' := hW
  obtain ⟨p, q, hA0, hV, rfl, _, _⟩ := hW
  have hA : DataW.TrodAll enc Tryz.prog W 0 (fun _ => true) true Tryz.f4.params.toList args.toList ds p := hA0
  rw [Tryz.params4] at hA hval
  obtain ⟨v0, d0, rfl, rfl, h0_⟩ := trodAll_one hA
  obtain ⟨rfl, rfl⟩ := trodVars_none hV
  have h0k := h0_
  obtain ⟨fuel0, hf0⟩ := h0_
  obtain ⟨n, k, a, x, y, z, lo, hi, fp, fl, fc, fs, rfl, hfr0⟩ := open_ftr_cap (hval 0 28 v0 rfl rfl) hf0
  clear hf0
  clear hA0 hval0
  simp only [List.append_nil] at hW'
  have lay : Gf W W := gf_of_laid hL hsh
  have hlt : ∀ x ∈ p, x.block < W.heap.size := fun x hx => by simpa using hW'.lt x (by simpa using hx)
  have a0 : ∀ (W' : World), Below W.heap.size W W' → DataW.Trod enc Tryz.prog W' 0 (fun b => decide (b < W.heap.size)) true 28 (.agg #[.string n, .int .i64 k, .int .i64 a, .int .i64 x, .int .i64 y, .int .i64 z, .int .i64 lo, .int .i64 hi, .slice fp fl fc]) d0 p :=
    fun W' hn => Below.trod frameLists_laidOut (by kernel_rfl) (of_decide_eq_true (by kernel_rfl)) h0k hn (fun x hx => hlt x (by simp [hx]))
  refine (cFrameLists n k a x y z lo hi fp fl fc fs W lay hfr0).mono fun e W' ⟨he, hk⟩ => ?_
  subst he
  exact ⟨_, rfl, _, _, _, [], _, [], hW', trodAll_mk1 (shut_bool Tryz.underlying4 true), trodAll_mk1 (a0 _ hk), rfl, Below.frame hk _, fun h => by cases h⟩

theorem frameLists_holds : Rows.FrameListsSaid :=
  OpenClaim.holds_of_wide 4 Tryz.f4 rfl rfl rfl rfl rfl rfl rfl ⟨rfl, rfl, rfl, rfl, rfl⟩ rfl rfl rfl rfl rfl (by kernel_rfl) Tryz.func4 (by kernel_rfl)
    (of_decide_eq_true (by kernel_rfl)) (by unfold Func.isWrapper; first | (rw [if_pos (by decide +kernel)]; kernel_rfl) | (rw [if_neg (by decide +kernel)]; exact ⟨rfl, rfl⟩))
    (fun os started H enc _ => frameLists_lifted os started H enc)

theorem frameLists_card : Rows.FrameListsCardSaid :=
  Claim7.holds_tied_plain_at .later [] [.data, .data, .data, .data, .data, .sentinel, .sentinel, .data, .data, .pinned] true (true, "9ec93153bba0193bb78c5d09ae2e40f7066fb3a87638c02ccefdffc12c7d6a77") true
    frameLists_holds (fun _ h => by cases h) (by kernel_rfl) (fun _ h => by cases h) frameLists_row_tie rfl ⟨rfl, rfl⟩ (by kernel_rfl) rfl
    (fun f fn hf hfn => by
      obtain rfl : f = 4 := Option.some.inj ((show Tryz.prog.funcNamed "metrolab/metrolablaw19.FrameLists" = some 4 by kernel_rfl).symm.trans hf) |>.symm
      obtain rfl : fn = Tryz.f4 := (Option.some.inj (Tryz.func4.symm.trans hfn)).symm
      exact ⟨by kernel_rfl, fun j t ht => by
        rw [Tryz.params4] at ht
        rcases j with _ | j
        · have h3 : t = 28 := by simpa using ht.symm
          subst h3; exact (show Tryz.prog.wantsStandIn 28 = false by kernel_rfl)
        · simp at ht⟩)
    (by kernel_rfl)
end Go.Proofs.YtlimjohnimgnhaaGreatDoor
