/- The tied card VectorNormals holds: for every argument the call returns true, and each argument reads afterwards as it read before, where the listed tables of the library read as the program's own text lays them; the card ties that to the text. No other condition. -/
import Derived.Test.YtcgilcmhandgfaaGreatDoorM53
import Derived.Test.YtcgilcmhandgfaaGreatDoorVnorm
import Derived.Test.YtcgilcmhandgfaaGreatDoorTie
import Derived.Test.YtcgilcmhandgfaaGreatDoorCards
import Derived.SevenTiedAt
import Derived.Carry
namespace Go.Proofs.YtcgilcmhandgfaaGreatDoor
open Go.ChangeShapes Go.WideShapes Go.ChangeAt Go.RowKit

theorem vectorNormals_laidOut : laidOutB Tryz.prog = true := by kernel_rfl
theorem vectorNormals_met (os : Os) (args : Array Value) : laidMet Tryz.prog Rows.vectorNormalsRow.laid ((laidWorld os).forCall (fun _ _ => 0) ⟨#[], args, []⟩).memory :=
  laidMet_of_run' 8 (by kernel_rfl) (by kernel_rfl)

theorem vectorNormals_flat0 : flatT Tryz.prog 57 12 = true := by kernel_rfl
set_option maxRecDepth 100000 in
theorem vectorNormals_lifted (os : Os) (started : os.Started) (H : Type) (enc : TypeId × Value → H) :
    ReturnsInHanded {} Tryz.checked os 10 .any (fun w args => (Rows.vectorNormalsSpec.pre enc Tryz.prog Tryz.f10 Rows.vectorNormalsRow.domain false w args ∧ laidMet Tryz.prog Rows.vectorNormalsRow.laid w) ∧ sizedMet enc Tryz.prog Tryz.f10 (OpenSpec.ofChange Rows.vectorNormalsSpec) false w args)
      (Rows.vectorNormalsSpec.post enc Tryz.prog Tryz.f10 false true false false) := by
  refine returnsInHanded_of_change_and (C := Tryz.checked) (X := fun w _ => laidMet Tryz.prog Rows.vectorNormalsRow.laid w) (fun _ _ _ hh h => h.of_heap hh) Tryz.own started (by kernel_rfl) Tryz.func10
    (ChangeSpec.witness_at (enc := enc) (C := Tryz.checked) (os := os) (X := fun w _ => laidMet Tryz.prog Rows.vectorNormalsRow.laid w) false (laidWorld os) #[.agg #[.int .i64 0, .int .i64 0, .int .i64 0, .int .i64 0, .int .i64 0, .int .i64 0, .int .i64 0, .int .i64 0, .int .i64 0, .int .i64 0, .int .i64 0, .int .i64 0]] 8 rfl (by kernel_rfl) (by kernel_rfl) (by kernel_rfl) (by kernel_rfl) (by kernel_rfl) (vectorNormals_met os _)) ?_
  intro W base args ds gs before hval0 hW _ _ hL _
  have hval : ∀ (j : Nat) t v, Tryz.f10.params[j]? = some t → args[j]? = some v → Value.okWide Tryz.prog W .any base t v := hval0
  have hW' := hW
  obtain ⟨p, q, hA0, hV, rfl, _, _⟩ := hW
  have hA : DataW.TrodAll enc Tryz.prog W 0 (fun _ => true) true Tryz.f10.params.toList args.toList ds p := hA0
  rw [Tryz.params10] at hA hval
  obtain ⟨v0, d0, rfl, rfl, h0⟩ := trodAll_one hA
  obtain ⟨rfl, rfl⟩ := trodVars_none hV
  have e0 := hval 0 57 v0 rfl rfl
  unfold Value.okWide at e0
  rw [Tryz.underlying57] at e0
  obtain ⟨zs, hzl, hzb, rfl⟩ := open_flat vectorNormals_flat0 e0
  obtain ⟨ax, ay, az, bx, yb, bz, cx, cy, cz, dx, dy, dz, rfl⟩ := list12 hzl
  clear e0 hzl
  have b0 := hzb
  clear hzb
  clear hA0 hval0
  simp only [List.append_nil] at hW'
  have lay : Tab W := tab_of_laid hL
  have hlt : ∀ x ∈ p, x.block < W.heap.size := fun x hx => by simpa using hW'.lt x (by simpa using hx)
  have a0 : ∀ (W' : World), Below W.heap.size W W' → DataW.Trod enc Tryz.prog W' 0 (fun b => decide (b < W.heap.size)) true 57 (.agg #[.int .i64 ax, .int .i64 ay, .int .i64 az, .int .i64 bx, .int .i64 yb, .int .i64 bz, .int .i64 cx, .int .i64 cy, .int .i64 cz, .int .i64 dx, .int .i64 dy, .int .i64 dz]) d0 p :=
    fun W' hn => Below.trod vectorNormals_laidOut (by kernel_rfl) (of_decide_eq_true (by kernel_rfl)) h0 hn (fun x hx => hlt x (by simp [hx]))
  refine (Normals_any ax ay az bx yb bz cx cy cz dx dy dz W lay).mono fun e W' ⟨he, hk⟩ => ?_
  subst he
  exact ⟨_, rfl, _, _, _, [], p, [], hW', trodAll_mk1 (shut_bool Tryz.underlying4 true), trodAll_mk1 (a0 _ hk.none), rfl, hk.none.frame _, fun h => by cases h⟩

theorem vectorNormals_holds : Rows.VectorNormalsSaid :=
  OpenClaim.holds_of_wide 10 Tryz.f10 rfl rfl rfl rfl rfl rfl rfl ⟨rfl, rfl, rfl, rfl, rfl⟩ rfl rfl rfl rfl rfl (by kernel_rfl) Tryz.func10 (by kernel_rfl)
    (of_decide_eq_true (by kernel_rfl)) (by unfold Func.isWrapper; first | (rw [if_pos (by decide +kernel)]; kernel_rfl) | (rw [if_neg (by decide +kernel)]; exact ⟨rfl, rfl⟩))
    (fun os started H enc _ => vectorNormals_lifted os started H enc)

theorem vectorNormals_card : Rows.VectorNormalsCardSaid :=
  Claim7.holds_tied_plain_at .later [] [.data, .data, .data] true (true, "9387924e3c4e752c4394cd2bcff9b74e60a981fb51f93666bae965bf07dcc0c0") false
    vectorNormals_holds (fun _ h => by cases h) (by kernel_rfl) (fun _ h => by cases h) vectorNormals_row_tie rfl ⟨rfl, rfl⟩ (by kernel_rfl) rfl
    (fun f fn hf hfn => by
      obtain rfl : f = 10 := Option.some.inj ((show Tryz.prog.funcNamed "metrolab/metrolablaw07.VectorNormals" = some 10 by kernel_rfl).symm.trans hf) |>.symm
      obtain rfl : fn = Tryz.f10 := (Option.some.inj (Tryz.func10.symm.trans hfn)).symm
      exact ⟨by kernel_rfl, fun j t ht => by
        rw [Tryz.params10] at ht
        rcases j with _ | j
        · have h3 : t = 57 := by simpa using ht.symm
          subst h3; exact (show Tryz.prog.wantsStandIn 57 = false by kernel_rfl)
        · simp at ht⟩)
    (by kernel_rfl)
end Go.Proofs.YtcgilcmhandgfaaGreatDoor
