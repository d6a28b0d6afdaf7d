/- The tied card GradesFinds holds: for every argument the call returns true, and each argument reads afterwards as it read before, where the listed variables read as the program's own text lays them; the card ties that to the text. No other condition. -/
import Derived.Test.YthifdgddegpbjaaDoorGrow
import Derived.Test.YthifdgddegpbjaaDoorGl6
import Derived.Test.YthifdgddegpbjaaDoorTie
import Derived.Test.YthifdgddegpbjaaDoorCards
import Derived.SevenTiedAt
import Derived.Carry
namespace Go.Proofs.YthifdgddegpbjaaDoor
open Go.ChangeShapes Go.WideShapes Go.ChangeAt Go.RowKit
open Go.ChangeMaps (open_string shut_string)

/-! limits, opened -/
theorem open_lim {P : Program} {w : World} {r : Reach} {base : Nat} {t ti : TypeId} {v : Value} {fs : Array Field} (hu : P.underlying t = some (.struct fs)) (ht : P.cellTypes P.depth t = some #[ti, ti].toList) (hn : P.cellsOf t = 2)
    (hi : P.underlying ti = some (.int .i64)) (h : Value.okWide P w r base t v) : ∃ x y : Int, v = .agg #[.int .i64 x, .int .i64 y] := by
  unfold Value.okWide at h
  rw [hu] at h
  obtain ⟨cs, rfl, hsz, ts, hts, _, hc⟩ := h
  rw [hn] at hsz
  obtain rfl := Option.some.inj (ht.symm.trans hts)
  match cs, hsz with
  | ⟨[c1, c2]⟩, _ =>
    obtain ⟨u1, e1, o1⟩ := hc 0 c1 rfl
    obtain ⟨u2, e2, o2⟩ := hc 1 c2 rfl
    cases e1; cases e2
    unfold Cell.okWide at o1 o2
    rw [hi] at o1 o2
    unfold Cell.ok at o1 o2
    rw [hi] at o1 o2
    cases c1 <;> simp at o1
    cases c2 <;> simp at o2
    obtain ⟨rfl, o1⟩ := o1
    obtain ⟨rfl, o2⟩ := o2
    exact ⟨_, _, rfl⟩
theorem gradesFinds_laidOut : laidOutB Tryd.prog = true := by kernel_rfl
theorem gradesFinds_met (os : Os) (args : Array Value) : laidMet Tryd.prog Rows.gradesFindsRow.laid ((laidWorld os).forCall (fun _ _ => 0) ⟨#[], args, []⟩).memory := laid_all os args
set_option maxRecDepth 100000 in
theorem gradesFinds_lifted (os : Os) (started : os.Started) (H : Type) (enc : TypeId × Value → H) :
    ReturnsInHanded {} Tryd.checked os 6 .any (fun w args => (Rows.gradesFindsSpec.pre enc Tryd.prog Tryd.f6 Rows.gradesFindsRow.domain false w args ∧ laidMet Tryd.prog Rows.gradesFindsRow.laid w) ∧ sizedMet enc Tryd.prog Tryd.f6 (OpenSpec.ofChange Rows.gradesFindsSpec) false w args)
      (Rows.gradesFindsSpec.post enc Tryd.prog Tryd.f6 false true false false) := by
  refine returnsInHanded_of_change_and (C := Tryd.checked) (X := fun w _ => laidMet Tryd.prog Rows.gradesFindsRow.laid w) (fun _ _ _ hh h => h.of_heap hh) Tryd.own started (by kernel_rfl) Tryd.func6
    (ChangeSpec.witness_shaped (enc := enc) (C := Tryd.checked) (os := os) (X := fun w _ => laidMet Tryd.prog Rows.gradesFindsRow.laid w) false (laidWorld os) #[.int .i64 0, .agg #[.int .i64 0, .int .i64 0], .int .i64 0] 8 rfl (World.shaped_of_RefB (by kernel_rfl) (by kernel_rfl)) (by kernel_rfl) (by kernel_rfl) (by kernel_rfl) (gradesFinds_met os _)) ?_
  intro W base args ds gs before hval0 hW _ _ hL _
  have hval : ∀ (j : Nat) t v, Tryd.f6.params[j]? = some t → args[j]? = some v → Value.okWide Tryd.prog W .any base t v := hval0
  have hW' := hW
  obtain ⟨p, q, hA0, hV, rfl, _, _⟩ := hW
  have hA : DataW.TrodAll enc Tryd.prog W 0 (fun _ => true) true Tryd.f6.params.toList args.toList ds p := hA0
  rw [Tryd.params6] at hA hval
  obtain ⟨v0, v1, v2, d0, d1, d2, p0, p1, p2, rfl, rfl, rfl, h0, h1, h2⟩ := trodAll_three hA
  obtain ⟨rfl, rfl⟩ := trodVars_none hV
  obtain ⟨z, rfl, rfl, rfl, wx0⟩ := open_int Tryd.underlying3 (hval 0 3 v0 rfl rfl) h0
  have b0 : IntKind.i64.min ≤ z ∧ z ≤ IntKind.i64.max := by simpa only [Lit.wf, Bool.and_eq_true, decide_eq_true_eq] using wx0
  obtain ⟨k, g, rfl⟩ := open_lim (ti := 3) Tryd.underlying46 (by kernel_rfl) (by kernel_rfl) Tryd.underlying3 (hval 1 46 v1 rfl rfl)
  obtain ⟨m, rfl, rfl, rfl, wx2⟩ := open_int Tryd.underlying3 (hval 2 3 v2 rfl rfl) h2
  clear hA0 hval0
  simp only [List.append_nil, List.nil_append] at hW'
  have lay : Glo W := glo_of_laid hL
  have hlt : ∀ x ∈ p1, x.block < W.heap.size := fun x hx => by simpa using hW'.lt x (by simpa using hx)
  have a1 : ∀ (W' : World), Below W.heap.size W W' → DataW.Trod enc Tryd.prog W' 0 (fun b => decide (b < W.heap.size)) true 46 (.agg #[.int .i64 k, .int .i64 g]) d1 p1 :=
    fun W' hn => Below.trod gradesFinds_laidOut (by kernel_rfl) (of_decide_eq_true (by kernel_rfl)) h1 hn (fun x hx => hlt x (by simp [hx]))
  refine (finds_true z k g m W lay).mono fun e W' ⟨he, hk⟩ => ?_
  subst he
  exact ⟨_, rfl, _, _, _, [], _, [], hW', trodAll_mk1 (shut_bool Tryd.underlying4 true), trodAll_mk3 (shut_int Tryd.underlying3 wx0) (a1 _ hk) (shut_int Tryd.underlying3 wx2), rfl, Below.frame hk _, fun h => by cases h⟩

theorem gradesFinds_holds : Rows.GradesFindsSaid :=
  OpenClaim.holds_of_wide 6 Tryd.f6 rfl rfl rfl rfl rfl rfl rfl ⟨rfl, rfl, rfl, rfl, rfl⟩ rfl rfl rfl rfl rfl (by kernel_rfl) Tryd.func6 (by kernel_rfl)
    (of_decide_eq_true (by kernel_rfl)) (by unfold Func.isWrapper; first | (rw [if_pos (by decide +kernel)]; kernel_rfl) | (rw [if_neg (by decide +kernel)]; exact ⟨rfl, rfl⟩))
    (fun os started H enc _ => gradesFinds_lifted os started H enc)

theorem gradesFinds_card : Rows.GradesFindsCardSaid :=
  Claim7.holds_tied_plain_at .later [] [.data, .data, .data, .data, .sentinel, .sentinel, .data, .data, .data, .pinned, .pinned] true (true, "f060b9d9457f5e18dc34d65da8b5885946eecda2b2de2f3b418974f8dedcaa4a") true
    gradesFinds_holds (fun _ h => by cases h) (by kernel_rfl) (fun _ h => by cases h) gradesFinds_row_tie rfl ⟨rfl, rfl⟩ (by kernel_rfl) rfl
    (fun f fn hf hfn => by
      obtain rfl : f = 6 := Option.some.inj ((show Tryd.prog.funcNamed "metrolab/metrolablaw15.GradesFinds" = some 6 by kernel_rfl).symm.trans hf) |>.symm
      obtain rfl : fn = Tryd.f6 := (Option.some.inj (Tryd.func6.symm.trans hfn)).symm
      exact ⟨by kernel_rfl, fun j t ht => by
        rw [Tryd.params6] at ht
        rcases j with _ | _ | _ | j
        · have h3 : t = 3 := by simpa using ht.symm
          subst h3; exact (show Tryd.prog.wantsStandIn 3 = false by kernel_rfl)
        · have h3 : t = 46 := by simpa using ht.symm
          subst h3; exact (show Tryd.prog.wantsStandIn 46 = false by kernel_rfl)
        · have h3 : t = 3 := by simpa using ht.symm
          subst h3; exact (show Tryd.prog.wantsStandIn 3 = false by kernel_rfl)
        · simp at ht⟩)
    (by kernel_rfl)
end Go.Proofs.YthifdgddegpbjaaDoor
