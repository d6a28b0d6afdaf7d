/- The law DimensionAdds holds: for all arguments the call returns true, and each argument reads afterwards as it read before. No condition. -/
import Derived.Test.YtendjeefggigbaaOpenK
import Derived.Test.YtendjeefggigbaaOl4
namespace Go.Proofs.Ytendjeefggigbaa
open Go.ChangeShapes Go.WideShapes Go.ChangeAt Go.RowKit
open Go.ChangeMaps (open_string shut_string)

theorem dimensionAdds_own : ownKnob Try.prog.godebug = none := by kernel_rfl
theorem dimensionAdds_laidOut : laidOutB Try.prog = true := by kernel_rfl

set_option maxRecDepth 100000 in
theorem dimensionAdds_lifted (os : Os) (started : os.Started) (H : Type) (enc : TypeId × Value → H) :
    ReturnsInHanded {} Try.checked os 9 .any (Rows.dimensionAddsSpec.pre6 enc Try.prog Try.f9 Rows.dimensionAddsRow.domain false) (Rows.dimensionAddsSpec.post enc Try.prog Try.f9 false true false false) := by
  refine returnsInHanded_of_change (C := Try.checked) dimensionAdds_own started (by kernel_rfl) Try.func9
    (ChangeSpec.witness6 (enc := enc) (C := Try.checked) false ⟨#[], #[.agg #[.int .i64 0, .int .i64 0], .agg #[.int .i64 0, .int .i64 0], .agg #[.int .u16 0, .int .u16 0]], []⟩ 8 (by kernel_rfl) (by kernel_rfl) (by kernel_rfl) (by kernel_rfl)) ?_
  intro W base args ds gs before hval0 hW _ _
  have hval : ∀ (j : Nat) t v, Try.f9.params[j]? = some t → args[j]? = some v → Value.okWide Try.prog W .any base t v := hval0
  have hW' := hW
  obtain ⟨p, q, hA0, hV, rfl, _, _⟩ := hW
  have hA : DataW.TrodAll enc Try.prog W 0 (fun _ => true) true Try.f9.params.toList args.toList ds p := hA0
  rw [Try.params9] at hA hval
  obtain ⟨v0, v1, v2, d0, d1, d2, p0, p1, p2, rfl, rfl, rfl, h0_, h1_, h2_⟩ := trodAll_three hA
  obtain ⟨rfl, rfl⟩ := trodVars_none hV
  have e0 := hval 0 23 v0 rfl rfl
  unfold Value.okWide at e0
  rw [Try.underlying23] at e0
  obtain ⟨l, h, b0_0, b0_1, rfl⟩ := open_i2 (open_kinds (by kernel_rfl) e0)
  clear e0
  have e1 := hval 1 23 v1 rfl rfl
  unfold Value.okWide at e1
  rw [Try.underlying23] at e1
  obtain ⟨m, k, b1_0, b1_1, rfl⟩ := open_i2 (open_kinds (by kernel_rfl) e1)
  clear e1
  have e2 := hval 2 64 v2 rfl rfl
  unfold Value.okWide at e2
  rw [Try.underlying64] at e2
  obtain ⟨p, q, b2_0, b2_1, rfl⟩ := open_w2 (open_kinds (by kernel_rfl) e2)
  clear e2
  clear hA0 hval0
  simp only [List.append_nil] at hW'
  have hlt : ∀ x ∈ p0 ++ p1 ++ p2, x.block < W.heap.size := fun x hx => by simpa using hW'.lt x (by simpa using hx)
  have a0 : ∀ (W' : World), Below W.heap.size W W' → DataW.Trod enc Try.prog W' 0 (fun b => decide (b < W.heap.size)) true 23 (.agg #[.int .i64 l, .int .i64 h]) d0 p0 :=
    fun W' hn => Below.trod dimensionAdds_laidOut (by kernel_rfl) (of_decide_eq_true (by kernel_rfl)) h0_ hn (fun x hx => hlt x (by simp [hx]))
  have a1 : ∀ (W' : World), Below W.heap.size W W' → DataW.Trod enc Try.prog W' 0 (fun b => decide (b < W.heap.size)) true 23 (.agg #[.int .i64 m, .int .i64 k]) d1 p1 :=
    fun W' hn => Below.trod dimensionAdds_laidOut (by kernel_rfl) (of_decide_eq_true (by kernel_rfl)) h1_ hn (fun x hx => hlt x (by simp [hx]))
  have a2 : ∀ (W' : World), Below W.heap.size W W' → DataW.Trod enc Try.prog W' 0 (fun b => decide (b < W.heap.size)) true 64 (.agg #[.int .u16 p, .int .u16 q]) d2 p2 :=
    fun W' hn => Below.trod dimensionAdds_laidOut (by kernel_rfl) (of_decide_eq_true (by kernel_rfl)) h2_ hn (fun x hx => hlt x (by simp [hx]))
  refine (adds_true l h m k p q ⟨b2_0.lo, b2_0.hi⟩ ⟨b2_1.lo, b2_1.hi⟩ W).mono fun e W' ⟨he, hk⟩ => ?_
  subst he
  exact ⟨_, rfl, _, _, _, [], _, [], hW', trodAll_mk1 (shut_bool Try.underlying4 true), trodAll_mk3 (a0 _ hk) (a1 _ hk) (a2 _ hk), rfl, Below.frame hk _, fun h => by cases h⟩

theorem dimensionAdds_holds : Rows.DimensionAddsSaid :=
  OpenClaim.holds_of_wide 9 Try.f9 rfl rfl rfl rfl rfl rfl rfl ⟨rfl, rfl, rfl, rfl, rfl⟩ rfl rfl rfl rfl rfl (by kernel_rfl) Try.func9 (by kernel_rfl)
    (of_decide_eq_true (by kernel_rfl)) (by unfold Func.isWrapper; first | (rw [if_pos (by decide +kernel)]; kernel_rfl) | (rw [if_neg (by decide +kernel)]; exact ⟨rfl, rfl⟩))
    (fun os started H enc _ => dimensionAdds_lifted os started H enc)
end Go.Proofs.Ytendjeefggigbaa
