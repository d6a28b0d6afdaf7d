/- The tied card VectorTurns holds: for every argument the call returns true, and each argument reads afterwards as it read before, where the listed tables of the library read as the program's own text lays them; the card ties that to the text. No other condition. -/
import Derived.Test.YtcgilcmhandgfaaGreatDoorM53
import Derived.Test.YtcgilcmhandgfaaGreatDoorM65
import Derived.Test.YtcgilcmhandgfaaGreatDoorTie
import Derived.Test.YtcgilcmhandgfaaGreatDoorCards
import Derived.SevenTiedAt
import Derived.Carry
namespace Go.Proofs.YtcgilcmhandgfaaGreatDoor
open Go.ChangeShapes Go.WideShapes Go.ChangeAt Go.RowKit

theorem vectorTurns_laidOut : laidOutB Tryz.prog = true := by kernel_rfl
theorem vectorTurns_met (os : Os) (args : Array Value) : laidMet Tryz.prog Rows.vectorTurnsRow.laid ((laidWorld os).forCall (fun _ _ => 0) ⟨#[], args, []⟩).memory :=
  laidMet_of_run' 8 (by kernel_rfl) (by kernel_rfl)

theorem vectorTurns_flat0 : flatT Tryz.prog 75 6 = true := by kernel_rfl
theorem vectorTurns_flat1 : flatT Tryz.prog 49 2 = true := by kernel_rfl
set_option maxRecDepth 100000 in
theorem vectorTurns_lifted (os : Os) (started : os.Started) (H : Type) (enc : TypeId × Value → H) :
    ReturnsInHanded {} Tryz.checked os 8 .any (fun w args => (Rows.vectorTurnsSpec.pre enc Tryz.prog Tryz.f8 Rows.vectorTurnsRow.domain false w args ∧ laidMet Tryz.prog Rows.vectorTurnsRow.laid w) ∧ sizedMet enc Tryz.prog Tryz.f8 (OpenSpec.ofChange Rows.vectorTurnsSpec) false w args)
      (Rows.vectorTurnsSpec.post enc Tryz.prog Tryz.f8 false true false false) := by
  refine returnsInHanded_of_change_and (C := Tryz.checked) (X := fun w _ => laidMet Tryz.prog Rows.vectorTurnsRow.laid w) (fun _ _ _ hh h => h.of_heap hh) Tryz.own started (by kernel_rfl) Tryz.func8
    (ChangeSpec.witness_at (enc := enc) (C := Tryz.checked) (os := os) (X := fun w _ => laidMet Tryz.prog Rows.vectorTurnsRow.laid w) false (laidWorld os) #[.agg #[.int .i64 0, .int .i64 0, .int .i64 0, .int .i64 0, .int .i64 0, .int .i64 0], .agg #[.int .i64 0, .int .i64 0]] 8 rfl (by kernel_rfl) (by kernel_rfl) (by kernel_rfl) (by kernel_rfl) (by kernel_rfl) (vectorTurns_met os _)) ?_
  intro W base args ds gs before hval0 hW _ _ hL _
  have hval : ∀ (j : Nat) t v, Tryz.f8.params[j]? = some t → args[j]? = some v → Value.okWide Tryz.prog W .any base t v := hval0
  have hW' := hW
  obtain ⟨p, q, hA0, hV, rfl, _, _⟩ := hW
  have hA : DataW.TrodAll enc Tryz.prog W 0 (fun _ => true) true Tryz.f8.params.toList args.toList ds p := hA0
  rw [Tryz.params8] at hA hval
  obtain ⟨v0, v1, d0, d1, p0, p1, rfl, rfl, rfl, h0, h1⟩ := trodAll_two hA
  obtain ⟨rfl, rfl⟩ := trodVars_none hV
  have e0 := hval 0 75 v0 rfl rfl
  unfold Value.okWide at e0
  rw [Tryz.underlying75] at e0
  obtain ⟨zs, hzl, hzb, rfl⟩ := open_flat vectorTurns_flat0 e0
  obtain ⟨ax, ay, bx, yb, cx, yc, rfl⟩ := list6 hzl
  clear e0 hzl
  have b0 := hzb
  clear hzb
  have e1 := hval 1 49 v1 rfl rfl
  unfold Value.okWide at e1
  rw [Tryz.underlying49] at e1
  obtain ⟨zs, hzl, hzb, rfl⟩ := open_flat vectorTurns_flat1 e1
  obtain ⟨dx, dy, rfl⟩ := list2 hzl
  clear e1 hzl
  have b1 := hzb
  clear hzb
  clear hA0 hval0
  simp only [List.append_nil] at hW'
  have lay : Tab W := tab_of_laid hL
  have hlt : ∀ x ∈ p0 ++ p1, x.block < W.heap.size := fun x hx => by simpa using hW'.lt x (by simpa using hx)
  have a0 : ∀ (W' : World), Below W.heap.size W W' → DataW.Trod enc Tryz.prog W' 0 (fun b => decide (b < W.heap.size)) true 75 (.agg #[.int .i64 ax, .int .i64 ay, .int .i64 bx, .int .i64 yb, .int .i64 cx, .int .i64 yc]) d0 p0 :=
    fun W' hn => Below.trod vectorTurns_laidOut (by kernel_rfl) (of_decide_eq_true (by kernel_rfl)) h0 hn (fun x hx => hlt x (by simp [hx]))
  have a1 : ∀ (W' : World), Below W.heap.size W W' → DataW.Trod enc Tryz.prog W' 0 (fun b => decide (b < W.heap.size)) true 49 (.agg #[.int .i64 dx, .int .i64 dy]) d1 p1 :=
    fun W' hn => Below.trod vectorTurns_laidOut (by kernel_rfl) (of_decide_eq_true (by kernel_rfl)) h1 hn (fun x hx => hlt x (by simp [hx]))
  refine (Turns_any ax ay bx yb cx yc dx dy W lay).mono fun e W' ⟨he, hk⟩ => ?_
  subst he
  exact ⟨_, rfl, _, _, _, [], p0 ++ p1, [], hW', trodAll_mk1 (shut_bool Tryz.underlying4 true), trodAll_mk2 (a0 _ hk.none) (a1 _ hk.none), rfl, hk.none.frame _, fun h => by cases h⟩

theorem vectorTurns_holds : Rows.VectorTurnsSaid :=
  OpenClaim.holds_of_wide 8 Tryz.f8 rfl rfl rfl rfl rfl rfl rfl ⟨rfl, rfl, rfl, rfl, rfl⟩ rfl rfl rfl rfl rfl (by kernel_rfl) Tryz.func8 (by kernel_rfl)
    (of_decide_eq_true (by kernel_rfl)) (by unfold Func.isWrapper; first | (rw [if_pos (by decide +kernel)]; kernel_rfl) | (rw [if_neg (by decide +kernel)]; exact ⟨rfl, rfl⟩))
    (fun os started H enc _ => vectorTurns_lifted os started H enc)

theorem vectorTurns_card : Rows.VectorTurnsCardSaid :=
  Claim7.holds_tied_plain_at .later [] [.data, .data, .data] true (true, "9387924e3c4e752c4394cd2bcff9b74e60a981fb51f93666bae965bf07dcc0c0") false
    vectorTurns_holds (fun _ h => by cases h) (by kernel_rfl) (fun _ h => by cases h) vectorTurns_row_tie rfl ⟨rfl, rfl⟩ (by kernel_rfl) rfl
    (fun f fn hf hfn => by
      obtain rfl : f = 8 := Option.some.inj ((show Tryz.prog.funcNamed "metrolab/metrolablaw07.VectorTurns" = some 8 by kernel_rfl).symm.trans hf) |>.symm
      obtain rfl : fn = Tryz.f8 := (Option.some.inj (Tryz.func8.symm.trans hfn)).symm
      exact ⟨by kernel_rfl, fun j t ht => by
        rw [Tryz.params8] at ht
        rcases j with _ | _ | j
        · have h3 : t = 75 := by simpa using ht.symm
          subst h3; exact (show Tryz.prog.wantsStandIn 75 = false by kernel_rfl)
        · have h3 : t = 49 := by simpa using ht.symm
          subst h3; exact (show Tryz.prog.wantsStandIn 49 = false by kernel_rfl)
        · simp at ht⟩)
    (by kernel_rfl)
end Go.Proofs.YtcgilcmhandgfaaGreatDoor
