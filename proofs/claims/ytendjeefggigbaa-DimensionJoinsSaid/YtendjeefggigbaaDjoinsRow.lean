/- The law DimensionJoins holds: for all arguments the call returns true, and each argument reads afterwards as it read before. No condition. -/
import Derived.Test.YtendjeefggigbaaOpenK
import Derived.Test.YtendjeefggigbaaOl5
namespace Go.Proofs.Ytendjeefggigbaa
open Go.ChangeShapes Go.WideShapes Go.ChangeAt Go.RowKit
open Go.ChangeMaps (open_string shut_string)

theorem dimensionJoins_own : ownKnob Try.prog.godebug = none := by kernel_rfl
theorem dimensionJoins_laidOut : laidOutB Try.prog = true := by kernel_rfl

set_option maxRecDepth 100000 in
theorem dimensionJoins_lifted (os : Os) (started : os.Started) (H : Type) (enc : TypeId × Value → H) :
    ReturnsInHanded {} Try.checked os 6 .any (Rows.dimensionJoinsSpec.pre6 enc Try.prog Try.f6 Rows.dimensionJoinsRow.domain false) (Rows.dimensionJoinsSpec.post enc Try.prog Try.f6 false true false false) := by
  refine returnsInHanded_of_change (C := Try.checked) dimensionJoins_own started (by kernel_rfl) Try.func6
    (ChangeSpec.witness6 (enc := enc) (C := Try.checked) false ⟨#[], #[.agg #[.string ByteArray.empty, .string ByteArray.empty, .int .i64 0, .int .i64 0, .int .i64 0], .agg #[.string ByteArray.empty, .string ByteArray.empty, .int .i64 0, .int .i64 0, .int .i64 0]], []⟩ 8 (by kernel_rfl) (by kernel_rfl) (by kernel_rfl) (by kernel_rfl)) ?_
  intro W base args ds gs before hval0 hW _ _
  have hval : ∀ (j : Nat) t v, Try.f6.params[j]? = some t → args[j]? = some v → Value.okWide Try.prog W .any base t v := hval0
  have hW' := hW
  obtain ⟨p, q, hA0, hV, rfl, _, _⟩ := hW
  have hA : DataW.TrodAll enc Try.prog W 0 (fun _ => true) true Try.f6.params.toList args.toList ds p := hA0
  rw [Try.params6] at hA hval
  obtain ⟨v0, v1, d0, d1, p0, p1, rfl, rfl, rfl, h0_, h1_⟩ := trodAll_two hA
  obtain ⟨rfl, rfl⟩ := trodVars_none hV
  have e0 := hval 0 49 v0 rfl rfl
  unfold Value.okWide at e0
  rw [Try.underlying49] at e0
  obtain ⟨f, t, a, l, h, b0_0, b0_1, b0_2, b0_3, b0_4, rfl⟩ := open_d5 (open_kinds (by kernel_rfl) e0)
  clear e0
  have e1 := hval 1 49 v1 rfl rfl
  unfold Value.okWide at e1
  rw [Try.underlying49] at e1
  obtain ⟨g, u, c, m, k, b1_0, b1_1, b1_2, b1_3, b1_4, rfl⟩ := open_d5 (open_kinds (by kernel_rfl) e1)
  clear e1
  clear hA0 hval0
  simp only [List.append_nil] at hW'
  have hlt : ∀ x ∈ p0 ++ p1, x.block < W.heap.size := fun x hx => by simpa using hW'.lt x (by simpa using hx)
  have a0 : ∀ (W' : World), Below W.heap.size W W' → DataW.Trod enc Try.prog W' 0 (fun b => decide (b < W.heap.size)) true 49 (.agg #[.string f, .string t, .int .i64 a, .int .i64 l, .int .i64 h]) d0 p0 :=
    fun W' hn => Below.trod dimensionJoins_laidOut (by kernel_rfl) (of_decide_eq_true (by kernel_rfl)) h0_ hn (fun x hx => hlt x (by simp [hx]))
  have a1 : ∀ (W' : World), Below W.heap.size W W' → DataW.Trod enc Try.prog W' 0 (fun b => decide (b < W.heap.size)) true 49 (.agg #[.string g, .string u, .int .i64 c, .int .i64 m, .int .i64 k]) d1 p1 :=
    fun W' hn => Below.trod dimensionJoins_laidOut (by kernel_rfl) (of_decide_eq_true (by kernel_rfl)) h1_ hn (fun x hx => hlt x (by simp [hx]))
  refine (joins_true f t a l h g u c m k W).mono fun e W' ⟨he, hk⟩ => ?_
  subst he
  exact ⟨_, rfl, _, _, _, [], _, [], hW', trodAll_mk1 (shut_bool Try.underlying4 true), trodAll_mk2 (a0 _ hk) (a1 _ hk), rfl, Below.frame hk _, fun h => by cases h⟩

theorem dimensionJoins_holds : Rows.DimensionJoinsSaid :=
  OpenClaim.holds_of_wide 6 Try.f6 rfl rfl rfl rfl rfl rfl rfl ⟨rfl, rfl, rfl, rfl, rfl⟩ rfl rfl rfl rfl rfl (by kernel_rfl) Try.func6 (by kernel_rfl)
    (of_decide_eq_true (by kernel_rfl)) (by unfold Func.isWrapper; first | (rw [if_pos (by decide +kernel)]; kernel_rfl) | (rw [if_neg (by decide +kernel)]; exact ⟨rfl, rfl⟩))
    (fun os started H enc _ => dimensionJoins_lifted os started H enc)
end Go.Proofs.Ytendjeefggigbaa
