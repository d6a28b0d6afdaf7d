/- The law DimensionNames holds: for all arguments the call returns true, and each argument reads afterwards as it read before. No condition. -/
import Derived.Test.YtendjeefggigbaaOpenK
import Derived.Test.YtendjeefggigbaaOl2
namespace Go.Proofs.Ytendjeefggigbaa
open Go.ChangeShapes Go.WideShapes Go.ChangeAt Go.RowKit
open Go.ChangeMaps (open_string shut_string)

theorem dimensionNames_own : ownKnob Try.prog.godebug = none := by kernel_rfl
theorem dimensionNames_laidOut : laidOutB Try.prog = true := by kernel_rfl

set_option maxRecDepth 100000 in
theorem dimensionNames_lifted (os : Os) (started : os.Started) (H : Type) (enc : TypeId × Value → H) :
    ReturnsInHanded {} Try.checked os 3 .any (Rows.dimensionNamesSpec.pre6 enc Try.prog Try.f3 Rows.dimensionNamesRow.domain false) (Rows.dimensionNamesSpec.post enc Try.prog Try.f3 false true false false) := by
  refine returnsInHanded_of_change (C := Try.checked) dimensionNames_own started (by kernel_rfl) Try.func3
    (ChangeSpec.witness6 (enc := enc) (C := Try.checked) false ⟨#[], #[.string ByteArray.empty, .agg #[.int .i64 0, .int .i64 0], .agg #[.int .i64 0, .int .i64 0, .int .i64 0]], []⟩ 8 (by kernel_rfl) (by kernel_rfl) (by kernel_rfl) (by kernel_rfl)) ?_
  intro W base args ds gs before hval0 hW _ _
  have hval : ∀ (j : Nat) t v, Try.f3.params[j]? = some t → args[j]? = some v → Value.okWide Try.prog W .any base t v := hval0
  have hW' := hW
  obtain ⟨p, q, hA0, hV, rfl, _, _⟩ := hW
  have hA : DataW.TrodAll enc Try.prog W 0 (fun _ => true) true Try.f3.params.toList args.toList ds p := hA0
  rw [Try.params3] at hA hval
  obtain ⟨v0, v1, v2, d0, d1, d2, p0, p1, p2, rfl, rfl, rfl, h0_, h1_, h2_⟩ := trodAll_three hA
  obtain ⟨rfl, rfl⟩ := trodVars_none hV
  obtain ⟨s, rfl, rfl, rfl, wx0⟩ := open_string Try.underlying9 (hval 0 9 v0 rfl rfl) h0_
  have e1 := hval 1 23 v1 rfl rfl
  unfold Value.okWide at e1
  rw [Try.underlying23] at e1
  obtain ⟨l, h, b1_0, b1_1, rfl⟩ := open_i2 (open_kinds (by kernel_rfl) e1)
  clear e1
  have e2 := hval 2 24 v2 rfl rfl
  unfold Value.okWide at e2
  rw [Try.underlying24] at e2
  obtain ⟨n0, n1, n2, b2_0, b2_1, b2_2, rfl⟩ := open_i3 (open_kinds (by kernel_rfl) e2)
  clear e2
  clear hA0 hval0
  simp only [List.append_nil, List.nil_append] at hW'
  have hlt : ∀ x ∈ p1 ++ p2, x.block < W.heap.size := fun x hx => by simpa using hW'.lt x (by simpa using hx)
  have a1 : ∀ (W' : World), Below W.heap.size W W' → DataW.Trod enc Try.prog W' 0 (fun b => decide (b < W.heap.size)) true 23 (.agg #[.int .i64 l, .int .i64 h]) d1 p1 :=
    fun W' hn => Below.trod dimensionNames_laidOut (by kernel_rfl) (of_decide_eq_true (by kernel_rfl)) h1_ hn (fun x hx => hlt x (by simp [hx]))
  have a2 : ∀ (W' : World), Below W.heap.size W W' → DataW.Trod enc Try.prog W' 0 (fun b => decide (b < W.heap.size)) true 24 (.agg #[.int .i64 n0, .int .i64 n1, .int .i64 n2]) d2 p2 :=
    fun W' hn => Below.trod dimensionNames_laidOut (by kernel_rfl) (of_decide_eq_true (by kernel_rfl)) h2_ hn (fun x hx => hlt x (by simp [hx]))
  refine (names_true s l h n0 n1 n2 W).mono fun e W' ⟨he, hk⟩ => ?_
  subst he
  exact ⟨_, rfl, _, _, _, [], _, [], hW', trodAll_mk1 (shut_bool Try.underlying4 true), trodAll_mk3 (shut_string Try.underlying9 wx0) (a1 _ hk) (a2 _ hk), rfl, Below.frame hk _, fun h => by cases h⟩

theorem dimensionNames_holds : Rows.DimensionNamesSaid :=
  OpenClaim.holds_of_wide 3 Try.f3 rfl rfl rfl rfl rfl rfl rfl ⟨rfl, rfl, rfl, rfl, rfl⟩ rfl rfl rfl rfl rfl (by kernel_rfl) Try.func3 (by kernel_rfl)
    (of_decide_eq_true (by kernel_rfl)) (by unfold Func.isWrapper; first | (rw [if_pos (by decide +kernel)]; kernel_rfl) | (rw [if_neg (by decide +kernel)]; exact ⟨rfl, rfl⟩))
    (fun os started H enc _ => dimensionNames_lifted os started H enc)
end Go.Proofs.Ytendjeefggigbaa
