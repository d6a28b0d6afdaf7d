/- The law TopNumbersPascal holds: for every two numbers the call returns true, and each argument reads afterwards as it read before. No condition. -/
import Derived.Test.YthjhjgglkooafaaGreatM56
import Derived.Test.YthjhjgglkooafaaGreatPascal
namespace Go.Proofs.YthjhjgglkooafaaGreat
open Go.ChangeShapes Go.WideShapes Go.ChangeAt Go.RowKit
open Go.ChangeMaps (open_string shut_string)

set_option maxRecDepth 100000 in
theorem pascal_lifted (os : Os) (started : os.Started) (H : Type) (enc : TypeId × Value → H) :
    ReturnsInHanded {} Tryz.checked os 3 .any (Rows.topNumbersPascalSpec.pre6 enc Tryz.prog Tryz.f3 Rows.topNumbersPascalRow.domain false) (Rows.topNumbersPascalSpec.post enc Tryz.prog Tryz.f3 false true false false) := by
  refine returnsInHanded_of_change (C := Tryz.checked) Tryz.own started (by kernel_rfl) Tryz.func3
    (ChangeSpec.witness6 (enc := enc) (C := Tryz.checked) false ⟨#[], #[.int .u8 0, .int .u8 0], []⟩ 8 (by kernel_rfl) (by kernel_rfl) (by kernel_rfl) (by kernel_rfl)) ?_
  intro W base args ds gs before hval0 hW hcnd _
  have hval : ∀ (j : Nat) t v, Tryz.f3.params[j]? = some t → args[j]? = some v → Value.okWide Tryz.prog W .any base t v := hval0
  have hW' := hW
  obtain ⟨p, q, hA0, hV, rfl, hfz, hnd⟩ := hW
  have hA : DataW.TrodAll enc Tryz.prog W 0 (fun _ => true) true Tryz.f3.params.toList args.toList ds p := hA0
  rw [Tryz.params3] at hA hval
  obtain ⟨v0, v1, d0, d1, p0, p1, rfl, rfl, rfl, h0, h1⟩ := trodAll_two hA
  obtain ⟨rfl, rfl⟩ := trodVars_none hV
  obtain ⟨n, rfl, rfl, rfl, wn⟩ := open_int Tryz.underlying5 (hval 0 5 v0 rfl rfl) h0
  obtain ⟨k, rfl, rfl, rfl, wk⟩ := open_int Tryz.underlying5 (hval 1 5 v1 rfl rfl) h1
  obtain ⟨n', hn', hn2⟩ : ∃ n' : Nat, n = (n' : Int) ∧ n' ≤ 255 := by
    have h : IntKind.u8.min ≤ n ∧ n ≤ IntKind.u8.max := by simpa only [Lit.wf, Bool.and_eq_true, decide_eq_true_eq] using wn
    have h1 : (0 : Int) ≤ n := h.1
    have h2 : n ≤ (255 : Int) := h.2
    exact ⟨n.toNat, by omega, by omega⟩
  obtain ⟨k', hk', hk2⟩ : ∃ k' : Nat, k = (k' : Int) ∧ k' ≤ 255 := by
    have h : IntKind.u8.min ≤ k ∧ k ≤ IntKind.u8.max := by simpa only [Lit.wf, Bool.and_eq_true, decide_eq_true_eq] using wk
    have h1 : (0 : Int) ≤ k := h.1
    have h2 : k ≤ (255 : Int) := h.2
    exact ⟨k.toNat, by omega, by omega⟩
  subst hn'
  subst hk'
  clear hA0 hval0
  simp only [List.append_nil] at hW'
  refine (Pascal_any n' k' W hn2 hk2).mono fun e W' ⟨he, hk⟩ => ?_
  subst he
  exact ⟨_, rfl, post_kept (pa := []) (pv := []) hW' hk.none (fun _ _ _ => trodAll_mk1 (shut_bool Tryz.underlying4 true)) (fun sp _ => trodAll_mk2 (shut_int Tryz.underlying5 wn) (shut_int Tryz.underlying5 wk)) (fun _ _ => rfl) rfl
    (Go.RowKit.ok_one (by kernel_rfl) rfl (okWide_bool_mk Tryz.underlying4 true))⟩

theorem pascal_holds : Rows.TopNumbersPascalSaid :=
  OpenClaim.holds_of_wide 3 Tryz.f3 rfl rfl rfl rfl rfl rfl rfl ⟨rfl, rfl, rfl, rfl, rfl⟩ rfl rfl rfl rfl rfl (by kernel_rfl) Tryz.func3 (by kernel_rfl)
    (of_decide_eq_true (by kernel_rfl)) (by unfold Func.isWrapper; first | (rw [if_pos (by decide +kernel)]; kernel_rfl) | (rw [if_neg (by decide +kernel)]; exact ⟨rfl, rfl⟩))
    (fun os started H enc _ => pascal_lifted os started H enc)
end Go.Proofs.YthjhjgglkooafaaGreat
