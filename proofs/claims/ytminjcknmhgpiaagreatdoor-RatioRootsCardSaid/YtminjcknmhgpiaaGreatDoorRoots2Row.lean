/- The tied card RatioRoots holds: for every argument the call returns true, and the argument reads afterwards as it read before, where the listed tables of the library read as the program's own text lays them; the card ties that to the text. No other condition. -/
import Derived.Test.YtminjcknmhgpiaaGreatDoorM54
import Derived.Test.YtminjcknmhgpiaaGreatDoorM52
import Derived.Test.YtminjcknmhgpiaaGreatDoorTie
import Derived.Test.YtminjcknmhgpiaaGreatDoorCards
import Derived.SevenTiedAt
import Derived.Carry
import Derived.OpenShut
namespace Go.Proofs.YtminjcknmhgpiaaGreatDoor
open Go.ChangeShapes Go.WideShapes Go.ChangeAt Go.RowKit
open Go.ChangeMaps (open_string shut_string)

theorem list5 {α : Type} (l : List α) (h : (⟨l⟩ : Array α).size = 5) : ∃ a b c d e, l = [a, b, c, d, e] := by
  match l, h with
  | [a, b, c, d, e], _ => exact ⟨a, b, c, d, e, rfl⟩
theorem roots_cells5 : Tryz.prog.cellsOf 61 = 5 := by kernel_rfl
theorem roots_cells1 : Tryz.prog.cellsOf 22 = 1 := by kernel_rfl
theorem roots_laidOut : laidOutB Tryz.prog = true := by kernel_rfl
/-- five texts of an array -/
theorem trod_five {H : Type} {enc : TypeId × Value → H} {w : World} {base : Nat} {spare : Nat → Bool} {held : Bool} {fuel : Nat} {c0 c1 c2 c3 c4 : Value} {x : DataW H × List MemPlace}
    (h : DataW.trod enc Tryz.prog w base spare held fuel 61 [c0, c1, c2, c3, c4] = some x) :
    ∃ s0 s1 s2 s3 s4 : ByteArray, c0 = .string s0 ∧ c1 = .string s1 ∧ c2 = .string s2 ∧ c3 = .string s3 ∧ c4 = .string s4 ∧ s0.size ≤ maxLen ∧ s1.size ≤ maxLen ∧ s2.size ≤ maxLen ∧ s3.size ≤ maxLen ∧ s4.size ≤ maxLen := by
  obtain ⟨xs, m, _, _, _, hl, he⟩ := DataW.trod_array Tryz.underlying61 h
  rw [roots_cells1] at he
  have get : ∀ i, i < 5 → ∃ y, xs[i]? = some y := fun i hi => ⟨xs[i]'(by omega), List.getElem?_eq_getElem (by omega)⟩
  have one : ∀ i (c : Value), i < 5 → (([c0, c1, c2, c3, c4].drop (i * 1)).take 1) = [c] → ∃ s : ByteArray, c = .string s ∧ s.size ≤ maxLen := by
    intro i c hi hc
    obtain ⟨y, hy⟩ := get i hi
    have hh := he i hi
    rw [hc, hy] at hh
    obtain ⟨s, h1, _, h3⟩ := DataW.trod_string Tryz.underlying22 hh
    exact ⟨s, by simpa using h1, h3⟩
  obtain ⟨s0, e0, z0⟩ := one 0 c0 (by omega) rfl
  obtain ⟨s1, e1, z1⟩ := one 1 c1 (by omega) rfl
  obtain ⟨s2, e2, z2⟩ := one 2 c2 (by omega) rfl
  obtain ⟨s3, e3, z3⟩ := one 3 c3 (by omega) rfl
  obtain ⟨s4, e4, z4⟩ := one 4 c4 (by omega) rfl
  exact ⟨s0, s1, s2, s3, s4, e0, e1, e2, e3, e4, z0, z1, z2, z3, z4⟩

theorem ratioRoots_met (os : Os) (args : Array Value) : laidMet Tryz.prog Rows.ratioRootsRow.laid ((laidWorld os).forCall (fun _ _ => 0) ⟨#[], args, []⟩).memory :=
  laidMet_of_run' 8 (by kernel_rfl) (by kernel_rfl)

set_option maxRecDepth 100000 in
theorem ratioRoots_lifted (os : Os) (started : os.Started) (H : Type) (enc : TypeId × Value → H) :
    ReturnsInHanded {} Tryz.checked os 7 .any (fun w args => (Rows.ratioRootsSpec.pre enc Tryz.prog Tryz.f7 Rows.ratioRootsRow.domain false w args ∧ laidMet Tryz.prog Rows.ratioRootsRow.laid w) ∧ sizedMet enc Tryz.prog Tryz.f7 (OpenSpec.ofChange Rows.ratioRootsSpec) false w args)
      (Rows.ratioRootsSpec.post enc Tryz.prog Tryz.f7 false true false false) := by
  refine returnsInHanded_of_change_and (C := Tryz.checked) (X := fun w _ => laidMet Tryz.prog Rows.ratioRootsRow.laid w) (fun _ _ _ hh h => h.of_heap hh) Tryz.own started (by kernel_rfl) Tryz.func7
    (ChangeSpec.witness_at (enc := enc) (C := Tryz.checked) (os := os) (X := fun w _ => laidMet Tryz.prog Rows.ratioRootsRow.laid w) false (laidWorld os) #[.agg #[.string ⟨#[]⟩, .string ⟨#[]⟩, .string ⟨#[]⟩, .string ⟨#[]⟩, .string ⟨#[]⟩]] 8 rfl (by kernel_rfl) (by kernel_rfl) (by kernel_rfl) (by kernel_rfl) (by kernel_rfl) (ratioRoots_met os _)) ?_
  intro W base args ds gs before hval0 hW _ _ hL _
  have hval : ∀ (j : Nat) t v, Tryz.f7.params[j]? = some t → args[j]? = some v → Value.okWide Tryz.prog W .any base t v := hval0
  have hW' := hW
  obtain ⟨p0, q, hA0, hV, rfl, _, _⟩ := hW
  have hA : DataW.TrodAll enc Tryz.prog W 0 (fun _ => true) true Tryz.f7.params.toList args.toList ds p0 := hA0
  rw [Tryz.params7] at hA hval
  obtain ⟨v0, d0, rfl, rfl, h0⟩ := trodAll_one hA
  obtain ⟨rfl, rfl⟩ := trodVars_none hV
  obtain ⟨cs, rfl, hsz, _⟩ : ∃ cs, v0 = .agg cs ∧ cs.size = Tryz.prog.cellsOf 61 ∧ Row.okWide Tryz.prog W .any base 61 cs := by
    have := hval 0 61 v0 rfl rfl
    simpa [Value.okWide, Tryz.underlying61] using this
  rw [roots_cells5] at hsz
  obtain ⟨l⟩ := cs
  obtain ⟨c0, c1, c2, c3, c4, rfl⟩ := list5 l hsz
  have h0k := h0
  obtain ⟨fuel, hf⟩ := h0
  obtain ⟨a0, a1, a2, a3, a4, rfl, rfl, rfl, rfl, rfl, z0, z1, z2, z3, z4⟩ := trod_five hf
  clear hA0 hval0 hf hsz
  simp only [List.append_nil] at hW'
  unfold maxLen at z0 z1 z2 z3 z4
  have lay : Tab W := tab_of_laid hL
  have hlt : ∀ x ∈ p0, x.block < W.heap.size := fun x hx => by simpa using hW'.lt x hx
  have hargs : ∀ (W' : World), Below W.heap.size W W' → DataW.Trod enc Tryz.prog W' 0 (fun b => decide (b < W.heap.size)) true 61 (.agg #[.string a0, .string a1, .string a2, .string a3, .string a4]) d0 p0 :=
    fun W' hn => Below.trod roots_laidOut (by kernel_rfl) (of_decide_eq_true (by kernel_rfl)) h0k hn hlt
  refine (Roots2_any a0 a1 a2 a3 a4 W (by omega) (by omega) (by omega) (by omega) (by omega) lay).mono fun e W' ⟨he, hk⟩ => ?_
  subst he
  exact ⟨_, rfl, _, _, _, [], p0, [], hW', trodAll_mk1 (shut_bool Tryz.underlying4 true), trodAll_mk1 (hargs _ hk.none), rfl, hk.none.frame _, fun h => by cases h⟩

theorem ratioRoots_holds : Rows.RatioRootsSaid :=
  OpenClaim.holds_of_wide 7 Tryz.f7 rfl rfl rfl rfl rfl rfl rfl ⟨rfl, rfl, rfl, rfl, rfl⟩ rfl rfl rfl rfl rfl (by kernel_rfl) Tryz.func7 (by kernel_rfl)
    (of_decide_eq_true (by kernel_rfl)) (by unfold Func.isWrapper; first | (rw [if_pos (by decide +kernel)]; kernel_rfl) | (rw [if_neg (by decide +kernel)]; exact ⟨rfl, rfl⟩))
    (fun os started H enc _ => ratioRoots_lifted os started H enc)

theorem ratioRoots_card : Rows.RatioRootsCardSaid :=
  Claim7.holds_tied_plain_at .later [] [.data, .data, .data] true (true, "b1288d2f898150b0edb8e1fc01147201f0a86ccb68f0dd3b9621ceb4987d63be") false
    ratioRoots_holds (fun _ h => by cases h) (by kernel_rfl) (fun _ h => by cases h) ratioRoots_row_tie rfl ⟨rfl, rfl⟩ (by kernel_rfl) rfl
    (fun f fn hf hfn => by
      obtain rfl : f = 7 := Option.some.inj ((show Tryz.prog.funcNamed "metrolab/metrolablaw02.RatioRoots" = some 7 by kernel_rfl).symm.trans hf) |>.symm
      obtain rfl : fn = Tryz.f7 := (Option.some.inj (Tryz.func7.symm.trans hfn)).symm
      exact ⟨by kernel_rfl, fun j t ht => by
        rw [Tryz.params7] at ht
        rcases j with _ | j
        · have h3 : t = 61 := by simpa using ht.symm
          subst h3; exact (show Tryz.prog.wantsStandIn 61 = false by kernel_rfl)
        · simp at ht⟩)
    (by kernel_rfl)
end Go.Proofs.YtminjcknmhgpiaaGreatDoor
