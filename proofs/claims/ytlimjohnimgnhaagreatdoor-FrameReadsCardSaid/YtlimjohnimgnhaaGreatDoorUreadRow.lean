/- The tied card FrameReads holds: for every argument the call returns true, and each argument reads afterwards as it read before, where the listed table reads as the program's own text lays it; the card ties that to the text. No other condition. -/
import Derived.Test.YtlimjohnimgnhaaGreatDoorM05
import Derived.Test.YtlimjohnimgnhaaGreatDoorM13
import Derived.Test.YtlimjohnimgnhaaGreatDoorTie
import Derived.Test.YtlimjohnimgnhaaGreatDoorCards
import Derived.SevenTiedAt
import Derived.Carry
namespace Go.Proofs.YtlimjohnimgnhaaGreatDoor
open Go.ChangeShapes Go.WideShapes Go.ChangeAt Go.RowKit
open Go.ChangeMaps (open_string shut_string)

theorem frameReads_own : ownKnob Tryz.prog.godebug = none := by kernel_rfl
theorem frameReads_laidOut : laidOutB Tryz.prog = true := by kernel_rfl
theorem frameReads_met (os : Os) (args : Array Value) : laidMet Tryz.prog Rows.frameReadsRow.laid ((laidWorld os).forCall (fun _ _ => 0) ⟨#[], args, []⟩).memory :=
  laid_all os args

set_option maxRecDepth 100000 in
theorem frameReads_lifted (os : Os) (started : os.Started) (H : Type) (enc : TypeId × Value → H) :
    ReturnsInHanded {} Tryz.checked os 7 .any (fun w args => (Rows.frameReadsSpec.pre enc Tryz.prog Tryz.f7 Rows.frameReadsRow.domain false w args ∧ laidMet Tryz.prog Rows.frameReadsRow.laid w) ∧ sizedMet enc Tryz.prog Tryz.f7 (OpenSpec.ofChange Rows.frameReadsSpec) false w args)
      (Rows.frameReadsSpec.post enc Tryz.prog Tryz.f7 false true false false) := by
  refine handed_sh (C := Tryz.checked) (X := fun w _ => laidMet Tryz.prog Rows.frameReadsRow.laid w) (fun _ _ _ hh h => h.of_heap hh) frameReads_own started (by kernel_rfl) Tryz.func7
    (ChangeSpec.witness_shaped (enc := enc) (C := Tryz.checked) (os := os) (X := fun w _ => laidMet Tryz.prog Rows.frameReadsRow.laid w) false (laidWorld os) #[.agg #[.int .i64 0, .bool false, .int .i64 0, .int .i64 0, .slice none 0 0], .agg #[.int .i64 0, .bool false, .int .i64 0, .int .i64 0, .slice none 0 0]] 8 rfl (World.shaped_of_RefB (by kernel_rfl) (by kernel_rfl)) (by kernel_rfl) (by kernel_rfl) (by kernel_rfl) (frameReads_met os _)) ?_
  intro W base args ds gs before hval0 hW hL hsh
  have hval : ∀ (j : Nat) t v, Tryz.f7.params[j]? = some t → args[j]? = some v → Value.okWide Tryz.prog W .any base t v := hval0
  have hW' := hW
  obtain ⟨p, q, hA0, hV, rfl, _, _⟩ := hW
  have hA : DataW.TrodAll enc Tryz.prog W 0 (fun _ => true) true Tryz.f7.params.toList args.toList ds p := hA0
  rw [Tryz.params7] at hA hval
  obtain ⟨v0, v1, d0, d1, p0, p1, rfl, rfl, rfl, h0_, h1_⟩ := trodAll_two hA
  obtain ⟨rfl, rfl⟩ := trodVars_none hV
  have h0k := h0_
  obtain ⟨fuel0, hf0⟩ := h0_
  obtain ⟨fk, fd, ft, fm, dp, dl, dc, ds, rfl, hd0, hcd0⟩ := open_frm (hval 0 31 v0 rfl rfl) hf0
  clear hf0
  have h1k := h1_
  obtain ⟨fuel1, hf1⟩ := h1_
  obtain ⟨fk2, fd2, ft2, fm2, dp2, dl2, dc2, ds2, rfl, hd1, hcd1⟩ := open_frm (hval 1 31 v1 rfl rfl) hf1
  clear hf1
  clear hA0 hval0
  simp only [List.append_nil] at hW'
  have lay : Gf W W := gf_of_laid hL hsh
  have hlt : ∀ x ∈ p0 ++ p1, x.block < W.heap.size := fun x hx => by simpa using hW'.lt x (by simpa using hx)
  have a0 : ∀ (W' : World), Below W.heap.size W W' → DataW.Trod enc Tryz.prog W' 0 (fun b => decide (b < W.heap.size)) true 31 (.agg #[.int .i64 fk, .bool fd, .int .i64 ft, .int .i64 fm, .slice dp dl dc]) d0 p0 :=
    fun W' hn => Below.trod frameReads_laidOut (by kernel_rfl) (of_decide_eq_true (by kernel_rfl)) h0k hn (fun x hx => hlt x (by simp [hx]))
  have a1 : ∀ (W' : World), Below W.heap.size W W' → DataW.Trod enc Tryz.prog W' 0 (fun b => decide (b < W.heap.size)) true 31 (.agg #[.int .i64 fk2, .bool fd2, .int .i64 ft2, .int .i64 fm2, .slice dp2 dl2 dc2]) d1 p1 :=
    fun W' hn => Below.trod frameReads_laidOut (by kernel_rfl) (of_decide_eq_true (by kernel_rfl)) h1k hn (fun x hx => hlt x (by simp [hx]))
  refine (cFrameReads fk fd ft fm dp dl dc fk2 fd2 ft2 fm2 dp2 dl2 dc2 ds ds2 W lay hd0 hd1 hcd0 hcd1).mono fun e W' ⟨he, hk⟩ => ?_
  subst he
  exact ⟨_, rfl, _, _, _, [], _, [], hW', trodAll_mk1 (shut_bool Tryz.underlying4 true), trodAll_mk2 (a0 _ hk) (a1 _ hk), rfl, Below.frame hk _, fun h => by cases h⟩

theorem frameReads_holds : Rows.FrameReadsSaid :=
  OpenClaim.holds_of_wide 7 Tryz.f7 rfl rfl rfl rfl rfl rfl rfl ⟨rfl, rfl, rfl, rfl, rfl⟩ rfl rfl rfl rfl rfl (by kernel_rfl) Tryz.func7 (by kernel_rfl)
    (of_decide_eq_true (by kernel_rfl)) (by unfold Func.isWrapper; first | (rw [if_pos (by decide +kernel)]; kernel_rfl) | (rw [if_neg (by decide +kernel)]; exact ⟨rfl, rfl⟩))
    (fun os started H enc _ => frameReads_lifted os started H enc)

theorem frameReads_card : Rows.FrameReadsCardSaid :=
  Claim7.holds_tied_plain_at .later [] [.data, .data, .data, .data, .data, .sentinel, .sentinel, .data, .data, .pinned] true (true, "9ec93153bba0193bb78c5d09ae2e40f7066fb3a87638c02ccefdffc12c7d6a77") true
    frameReads_holds (fun _ h => by cases h) (by kernel_rfl) (fun _ h => by cases h) frameReads_row_tie rfl ⟨rfl, rfl⟩ (by kernel_rfl) rfl
    (fun f fn hf hfn => by
      obtain rfl : f = 7 := Option.some.inj ((show Tryz.prog.funcNamed "metrolab/metrolablaw19.FrameReads" = some 7 by kernel_rfl).symm.trans hf) |>.symm
      obtain rfl : fn = Tryz.f7 := (Option.some.inj (Tryz.func7.symm.trans hfn)).symm
      exact ⟨by kernel_rfl, fun j t ht => by
        rw [Tryz.params7] at ht
        rcases j with _ | _ | j
        · have h3 : t = 31 := by simpa using ht.symm
          subst h3; exact (show Tryz.prog.wantsStandIn 31 = false by kernel_rfl)
        · have h3 : t = 31 := by simpa using ht.symm
          subst h3; exact (show Tryz.prog.wantsStandIn 31 = false by kernel_rfl)
        · simp at ht⟩)
    (by kernel_rfl)
end Go.Proofs.YtlimjohnimgnhaaGreatDoor
