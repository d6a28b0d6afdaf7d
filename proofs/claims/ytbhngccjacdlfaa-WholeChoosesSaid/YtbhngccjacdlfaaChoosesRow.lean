/- The law WholeChooses holds: for every two numbers and every text the call returns true, and each argument reads afterwards as it read before. No condition. -/
import Derived.Test.YtbhngccjacdlfaaRowKit
import Derived.Test.YtbhngccjacdlfaaChooses
namespace Go.Proofs.Ytbhngccjacdlfaa
open Go.ChangeShapes Go.WideShapes Go.ChangeAt Go.RowKit
open Go.ChangeMaps (open_string shut_string)

set_option maxRecDepth 100000 in
theorem chooses_lifted (os : Os) (started : os.Started) (H : Type) (enc : TypeId × Value → H) :
    ReturnsInHanded {} Try.checked os 10 .any (Rows.wholeChoosesSpec.pre6 enc Try.prog Try.f10 Rows.wholeChoosesRow.domain false) (Rows.wholeChoosesSpec.post enc Try.prog Try.f10 false true false false) := by
  refine returnsInHanded_of_change (C := Try.checked) Try.own started (by kernel_rfl) Try.func10
    (ChangeSpec.witness6 (enc := enc) (C := Try.checked) false ⟨#[], #[.int .u8 0, .int .u8 0, .string ByteArray.empty], []⟩ 8 (by kernel_rfl) (by kernel_rfl) (by kernel_rfl) (by kernel_rfl)) ?_
  intro W base args ds gs before hval0 hW hcnd _
  have hval : ∀ (j : Nat) t v, Try.f10.params[j]? = some t → args[j]? = some v → Value.okWide Try.prog W .any base t v := hval0
  have hW' := hW
  obtain ⟨p, q, hA0, hV, rfl, hfz, hnd⟩ := hW
  have hA : DataW.TrodAll enc Try.prog W 0 (fun _ => true) true Try.f10.params.toList args.toList ds p := hA0
  rw [Try.params10] at hA hval
  obtain ⟨v0, v1, v2, d0, d1, d2, p0, p1, p2, rfl, rfl, rfl, h0, h1, h2⟩ := trodAll_three hA
  obtain ⟨rfl, rfl⟩ := trodVars_none hV
  obtain ⟨n, rfl, rfl, rfl, wn⟩ := open_int Try.underlying5 (hval 0 5 v0 rfl rfl) h0
  obtain ⟨k, rfl, rfl, rfl, wk⟩ := open_int Try.underlying5 (hval 1 5 v1 rfl rfl) h1
  obtain ⟨a, rfl, rfl, rfl, wa⟩ := open_string Try.underlying22 (hval 2 22 v2 rfl rfl) h2
  obtain ⟨n', hn', hn2⟩ : ∃ n' : Nat, n = (n' : Int) ∧ n' ≤ 255 := by
    have h : IntKind.u8.min ≤ n ∧ n ≤ IntKind.u8.max := by simpa only [Lit.wf, Bool.and_eq_true, decide_eq_true_eq] using wn
    have h1 : (0 : Int) ≤ n := h.1
    have h2 : n ≤ (255 : Int) := h.2
    exact ⟨n.toNat, by omega, by omega⟩
  obtain ⟨k', hk', hk2⟩ : ∃ k' : Nat, k = (k' : Int) ∧ k' ≤ 255 := by
    have h : IntKind.u8.min ≤ k ∧ k ≤ IntKind.u8.max := by simpa only [Lit.wf, Bool.and_eq_true, decide_eq_true_eq] using wk
    have h1 : (0 : Int) ≤ k := h.1
    have h2 : k ≤ (255 : Int) := h.2
    exact ⟨k.toNat, by omega, by omega⟩
  subst hn'
  subst hk'
  clear hA0 hval0
  simp only [List.append_nil] at hW'
  refine (Chooses_any n' k' a W hn2 hk2).mono fun e W' ⟨he, hk⟩ => ?_
  subst he
  exact ⟨_, rfl, post_kept (pa := []) (pv := []) hW' hk.none (fun _ _ _ => trodAll_mk1 (shut_bool Try.underlying4 true)) (fun sp _ => trodAll_mk3 (shut_int Try.underlying5 wn) (shut_int Try.underlying5 wk) (shut_string Try.underlying22 wa)) (fun _ _ => rfl) rfl
    (Go.RowKit.ok_one (by kernel_rfl) rfl (okWide_bool_mk Try.underlying4 true))⟩

theorem chooses_holds : Rows.WholeChoosesSaid :=
  OpenClaim.holds_of_wide 10 Try.f10 rfl rfl rfl rfl rfl rfl rfl ⟨rfl, rfl, rfl, rfl, rfl⟩ rfl rfl rfl rfl rfl (by kernel_rfl) Try.func10 (by kernel_rfl)
    (of_decide_eq_true (by kernel_rfl)) (by unfold Func.isWrapper; first | (rw [if_pos (by decide +kernel)]; kernel_rfl) | (rw [if_neg (by decide +kernel)]; exact ⟨rfl, rfl⟩))
    (fun os started H enc _ => chooses_lifted os started H enc)
end Go.Proofs.Ytbhngccjacdlfaa
