/- The tied card TopNumbersCounted holds: for every argument the call returns true, and each argument reads afterwards as it read before, where the listed tables of the library read as the program's own text lays them; the card ties that to the text. No other condition. -/
import Derived.Test.YthjhjgglkooafaaGreatDoorM56
import Derived.Test.YthjhjgglkooafaaGreatDoorCounted
import Derived.Test.YthjhjgglkooafaaGreatDoorTie
import Derived.Test.YthjhjgglkooafaaGreatDoorCards
import Derived.SevenTiedAt
namespace Go.Proofs.YthjhjgglkooafaaGreatDoor
open Go.ChangeShapes Go.WideShapes Go.ChangeAt Go.RowKit
open Go.ChangeMaps (open_string shut_string)

theorem topNumbersCounted_met (os : Os) (args : Array Value) : laidMet Tryz.prog Rows.topNumbersCountedRow.laid ((laidWorld os).forCall (fun _ _ => 0) ⟨#[], args, []⟩).memory :=
  laidMet_of_run' 8 (by kernel_rfl) (by kernel_rfl)

set_option maxRecDepth 100000 in
theorem topNumbersCounted_lifted (os : Os) (started : os.Started) (H : Type) (enc : TypeId × Value → H) :
    ReturnsInHanded {} Tryz.checked os 3 .any (fun w args => (Rows.topNumbersCountedSpec.pre enc Tryz.prog Tryz.f3 Rows.topNumbersCountedRow.domain false w args ∧ laidMet Tryz.prog Rows.topNumbersCountedRow.laid w) ∧ sizedMet enc Tryz.prog Tryz.f3 (OpenSpec.ofChange Rows.topNumbersCountedSpec) false w args)
      (Rows.topNumbersCountedSpec.post enc Tryz.prog Tryz.f3 false true false false) := by
  refine returnsInHanded_of_change_and (C := Tryz.checked) (X := fun w _ => laidMet Tryz.prog Rows.topNumbersCountedRow.laid w) (fun _ _ _ hh h => h.of_heap hh) Tryz.own started (by kernel_rfl) Tryz.func3
    (ChangeSpec.witness_at (enc := enc) (C := Tryz.checked) (os := os) (X := fun w _ => laidMet Tryz.prog Rows.topNumbersCountedRow.laid w) false (laidWorld os) #[.string ⟨#[]⟩, .int .u8 0, .string ⟨#[]⟩] 8 rfl (by kernel_rfl) (by kernel_rfl) (by kernel_rfl) (by kernel_rfl) (by kernel_rfl) (topNumbersCounted_met os _)) ?_
  intro W base args ds gs before hval0 hW _ _ hL _
  have hval : ∀ (j : Nat) t v, Tryz.f3.params[j]? = some t → args[j]? = some v → Value.okWide Tryz.prog W .any base t v := hval0
  have hW' := hW
  obtain ⟨p, q, hA0, hV, rfl, _, _⟩ := hW
  have hA : DataW.TrodAll enc Tryz.prog W 0 (fun _ => true) true Tryz.f3.params.toList args.toList ds p := hA0
  rw [Tryz.params3] at hA hval
  obtain ⟨v0, v1, v2, d0, d1, d2, p0, p1, p2, rfl, rfl, rfl, h0, h1, h2⟩ := trodAll_three hA
  obtain ⟨rfl, rfl⟩ := trodVars_none hV
  obtain ⟨a0, rfl, rfl, rfl, wa0⟩ := open_string Tryz.underlying22 (hval 0 22 v0 rfl rfl) h0
  obtain ⟨n1, rfl, rfl, rfl, wn1⟩ := open_int Tryz.underlying5 (hval 1 5 v1 rfl rfl) h1
  have b1 : IntKind.u8.min ≤ n1 ∧ n1 ≤ IntKind.u8.max := by simpa only [Lit.wf, Bool.and_eq_true, decide_eq_true_eq] using wn1
  obtain ⟨a2, rfl, rfl, rfl, wa2⟩ := open_string Tryz.underlying22 (hval 2 22 v2 rfl rfl) h2
  clear hA0 hval0
  simp only [List.append_nil] at hW'
  have lay : Lay W := lay_of_laid hL
  have c0 : (0 : Int) ≤ n1 := b1.1
  have c1 : n1 ≤ (255 : Int) := b1.2
  refine (Counted_any a0 a2 n1 W wa0 wa2 c0 c1 lay).mono fun e W' ⟨he, hk⟩ => ?_
  subst he
  exact ⟨_, rfl, post_kept (pa := []) (pv := []) hW' hk.none (fun _ _ _ => trodAll_mk1 (shut_bool Tryz.underlying4 true)) (fun sp _ => trodAll_mk3 (shut_string Tryz.underlying22 wa0) (shut_int Tryz.underlying5 wn1) (shut_string Tryz.underlying22 wa2)) (fun _ _ => rfl) rfl
    (Go.RowKit.ok_one (by kernel_rfl) rfl (okWide_bool_mk Tryz.underlying4 true))⟩

theorem topNumbersCounted_holds : Rows.TopNumbersCountedSaid :=
  OpenClaim.holds_of_wide 3 Tryz.f3 rfl rfl rfl rfl rfl rfl rfl ⟨rfl, rfl, rfl, rfl, rfl⟩ rfl rfl rfl rfl rfl (by kernel_rfl) Tryz.func3 (by kernel_rfl)
    (of_decide_eq_true (by kernel_rfl)) (by unfold Func.isWrapper; first | (rw [if_pos (by decide +kernel)]; kernel_rfl) | (rw [if_neg (by decide +kernel)]; exact ⟨rfl, rfl⟩))
    (fun os started H enc _ => topNumbersCounted_lifted os started H enc)

theorem topNumbersCounted_card : Rows.TopNumbersCountedCardSaid :=
  Claim7.holds_tied_plain_at .later [] [.data, .data, .data, .sentinel, .sentinel] true (true, "8ad5ce780d51b046d41853ecac05c64b898df480f8795efff9a25489e85e3bd9") true
    topNumbersCounted_holds (fun _ h => by cases h) (by kernel_rfl) (fun _ h => by cases h) topNumbersCounted_row_tie rfl ⟨rfl, rfl⟩ (by kernel_rfl) rfl
    (fun f fn hf hfn => by
      obtain rfl : f = 3 := Option.some.inj ((show Tryz.prog.funcNamed "metrolab/metrolabtop.TopNumbersCounted" = some 3 by kernel_rfl).symm.trans hf) |>.symm
      obtain rfl : fn = Tryz.f3 := (Option.some.inj (Tryz.func3.symm.trans hfn)).symm
      exact ⟨by kernel_rfl, fun j t ht => by
        rw [Tryz.params3] at ht
        rcases j with _ | _ | _ | j
        · have h3 : t = 22 := by simpa using ht.symm
          subst h3; exact (show Tryz.prog.wantsStandIn 22 = false by kernel_rfl)
        · have h3 : t = 5 := by simpa using ht.symm
          subst h3; exact (show Tryz.prog.wantsStandIn 5 = false by kernel_rfl)
        · have h3 : t = 22 := by simpa using ht.symm
          subst h3; exact (show Tryz.prog.wantsStandIn 22 = false by kernel_rfl)
        · simp at ht⟩)
    (by kernel_rfl)
end Go.Proofs.YthjhjgglkooafaaGreatDoor
