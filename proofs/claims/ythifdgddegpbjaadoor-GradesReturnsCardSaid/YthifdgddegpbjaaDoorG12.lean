/- Package grades: natural, of any text. -/
import Derived.Test.YthifdgddegpbjaaDoorGm
import Derived.Lib.AppendIntMem
import Derived.Lib.SmallJoins
namespace Go.Proofs.YthifdgddegpbjaaDoor
open Go.RowKit

/-- what the row lists, as the walks use it -/
structure GloR (w : World) : Prop where
  glo : Glo w
  pow : Lib.TabIs Tryd.prog w "internal/strconv.uint64pow10" .u64 Lib.pow10Tab
  syn : ∃ tp p, w.var? Tryd.prog "strconv.ErrSyntax" = some #[.iface tp p]
  rng : ∃ tp p, w.var? Tryd.prog "strconv.ErrRange" = some #[.iface tp p]
  cas : Lib.CaseVar 4 Lib.caseA w
  utf : Lib.Utf8Tabs 5 6 w
  mx : ∃ m : Int, w.cell? ⟨3, 0, none⟩ = some (.int .i64 m)
theorem var_kb {P : Program} {w w' : World} {n : String} {cs : Array Value} (h : w.var? P n = some cs) (k : Kb w w') : w'.var? P n = some cs := by
  unfold World.var? at *
  cases hg : P.globalNamed n with
  | none => simp [hg] at h
  | some g =>
    simp only [hg, Option.bind_some] at h ⊢
    have hlt : g < w.heap.size := by
      rcases Nat.lt_or_ge g w.heap.size with h' | h'
      · exact h'
      · rw [Array.getElem?_eq_none h'] at h; simp at h
    rw [Below.block k g hlt]
    exact h
theorem GloR.kb {w w' : World} (h : GloR w) (k : Kb w w') : GloR w' := by
  obtain ⟨h1, h2, ⟨a, b, h3⟩, ⟨c, d, h4⟩, h5, h6, m, h7⟩ := h
  exact ⟨h1.kb k, var_kb h2 k, ⟨a, b, var_kb h3 k⟩, ⟨c, d, var_kb h4 k⟩, Lib.CaseVar_below h5 k, ⟨fun i hi => k.cell (h6.1 i hi), fun i hi => ⟨k.cell (h6.2 i hi).1, k.cell (h6.2 i hi).2⟩⟩, m, k.cell h7⟩
set_option maxRecDepth 100000 in
set_option maxHeartbeats 4000000 in
theorem natural_err (s : ByteArray) (w : World) (q1 : Hid (Calls Tryd.prog 60 #[.string s] w fun e w' => ∃ (v : Int) (N : Nat), e = .returned (.tuple #[.int .i64 v, .iface 123 (.pointer (some ⟨N, 0, none⟩))]) ∧ Below w.heap.size w w')) :
    Calls Tryd.prog 37 #[.string s] w fun r w' => r = .returned (.tuple #[.int .i64 0, .bool false]) ∧ Kb w w' := by
  go_enter Tryd.func37, Tryd.ntmps37
  go_wp2_with fail
  refine q1.out.mono ?_
  rintro e w1 ⟨v, N, rfl, hk⟩
  have hk : Kb w w1 := hk
  go_wp2
  go_ret2
  exact ⟨rfl, hk⟩
set_option maxRecDepth 100000 in
set_option maxHeartbeats 4000000 in
theorem natural_out (s : ByteArray) (v : Int) (w : World) (hv : v < 0 ∨ (¬ v < 0 ∧ 999 < v)) (q1 : Hid (Calls Tryd.prog 60 #[.string s] w fun e w' => e = .returned (.tuple #[.int .i64 v, .nilIface]) ∧ Kb w w')) :
    Calls Tryd.prog 37 #[.string s] w fun r w' => r = .returned (.tuple #[.int .i64 0, .bool false]) ∧ Kb w w' := by
  rcases hv with h1 | ⟨h1, h2⟩
  · go_enter Tryd.func37, Tryd.ntmps37
    go_wp2_with fail
    refine q1.out.mono ?_
    rintro e w1 ⟨rfl, hk⟩
    go_wp2
    go_ret2
    exact ⟨rfl, hk⟩
  · go_enter Tryd.func37, Tryd.ntmps37
    go_wp2_with fail
    refine q1.out.mono ?_
    rintro e w1 ⟨rfl, hk⟩
    go_wp2
    go_ret2
    exact ⟨rfl, hk⟩
set_option maxRecDepth 100000 in
set_option maxHeartbeats 4000000 in
theorem natural_in (s d : ByteArray) (v : Int) (b : Bool) (w : World) (h1 : ¬ v < 0) (h2 : ¬ 999 < v) (hb : (d.toList == s.toList) = b) (q1 : Hid (Calls Tryd.prog 60 #[.string s] w fun e w' => e = .returned (.tuple #[.int .i64 v, .nilIface]) ∧ Kb w w'))
    (q2 : Hid (∀ W, Kb w W → Calls Tryd.prog 41 #[.int .i64 v] W fun e w' => e = .returned (.string d) ∧ Kb W w')) :
    Calls Tryd.prog 37 #[.string s] w fun r w' => r = .returned (.tuple #[.int .i64 v, .bool b]) ∧ Kb w w' := by
  go_enter Tryd.func37, Tryd.ntmps37
  go_wp2_with fail
  refine q1.out.mono ?_
  rintro e w1 ⟨rfl, hk⟩
  go_wp2_with fail
  refine (q2.out _ hk).mono ?_
  rintro e w2 ⟨rfl, k2⟩
  have kk := hk.trans k2
  go_wp2
  go_ret2
  exact ⟨by first | rfl | (rw [← hb]; rfl), kk⟩
theorem toList_data (s : ByteArray) : s.toList = s.data.toList := by rw [ByteArray.toList_eq]
theorem gnatural_any (s : ByteArray) (hs : s.size ≤ 100) (w : World) (hr : GloR w) :
    Calls Tryd.prog 37 #[.string s] w fun r w' => (∃ v : Int, r = .returned (.tuple #[.int .i64 v, .bool (numOf s.data.toList).isSome]) ∧ (∀ n, numOf s.data.toList = some n → v = (n : Int))) ∧ Kb w w' := by
  have no : ∀ x, Lib.atoiAll s.data.toList = x → (∀ n : Nat, n < 1000 → x ≠ .ok (n : Int)) → numOf s.data.toList = none := fun x hx h => by
    cases e : numOf s.data.toList with
    | none => rfl
    | some n =>
      obtain ⟨h1, h2⟩ := numOf_some e
      rw [h2, atoi_dg h1] at hx
      exact absurd hx.symm (h n h1)
  cases ha : Lib.atoiAll s.data.toList with
  | range =>
    have hn := no _ ha (fun n _ h => by cases h)
    obtain ⟨tp, p, hv⟩ := hr.rng
    refine (natural_err s w (Lib.hid ((Tryd.strconv_Atoi_range_var s (by omega) ha tp p w hv).mono fun e w' ⟨N, h1, _, _, h4⟩ => ⟨_, N, h1, h4⟩))).mono fun r w' ⟨h1, h2⟩ => ⟨⟨0, ?_, fun n h => ?_⟩, h2⟩
    · rw [hn]; exact h1
    · rw [hn] at h; cases h
  | ok v =>
    have q1 : Hid (Calls Tryd.prog 60 #[.string s] w fun e w' => e = .returned (.tuple #[.int .i64 v, .nilIface]) ∧ Kb w w') := Lib.hid ((Tryd.strconv_Atoi_ok s (by omega) v ha w).mono fun e w' ⟨h1, h2⟩ => ⟨h1, by
      rcases h2 with rfl | ⟨t, rfl⟩
      · exact Kb.refl _
      · exact Lib.bytesWorld_below _ _ _⟩)
    by_cases hv : 0 ≤ v ∧ v ≤ 999
    · obtain ⟨n, rfl⟩ : ∃ n : Nat, v = (n : Int) := ⟨v.toNat, by omega⟩
      have hn : n < 1000 := by omega
      have q2 : Hid (∀ W, Kb w W → Calls Tryd.prog 41 #[.int .i64 (n : Int)] W fun e w' => e = .returned (.string ⟨(dg n).toArray⟩) ∧ Kb W w') := Lib.hid fun W k => by
        refine (Tryd.strconv_Itoa (n : Int) (by omega) (by omega) W (hr.kb k).pow).mono fun e w' ⟨h1, j, os, h2⟩ => ⟨?_, ?_⟩
        · rw [h1, Lib.itoa, if_neg (by omega), show (n : Int).toNat = n from rfl, dec_dg hn]
        · rw [h2]; exact Lib.below_grow W.heap.size W (Nat.le_refl _) j os
      have hb : ((⟨(dg n).toArray⟩ : ByteArray).toList == s.toList) = (numOf s.data.toList).isSome := by
        rw [toList_data, toList_data]
        show (dg n == s.data.toList) = _
        cases e : numOf s.data.toList with
        | none =>
          refine beq_eq_false_iff_ne.2 fun h => ?_
          rw [← h, numOf_dg hn] at e
          cases e
        | some m =>
          obtain ⟨h1, h2⟩ := numOf_some e
          rw [h2, atoi_dg h1] at ha
          have : m = n := by injection ha with h; omega
          subst this
          rw [h2]
          exact beq_self_eq_true _
      refine (natural_in s _ _ _ w (by omega) (by omega) hb q1 q2).mono fun r w' ⟨h1, h2⟩ => ⟨⟨_, h1, fun m h => ?_⟩, h2⟩
      obtain ⟨h3, h4⟩ := numOf_some h
      rw [h4, atoi_dg h3] at ha
      injection ha with h5
      exact h5.symm
    · have hn := no _ ha (fun n hn h => by injection h with h; omega)
      refine (natural_out s v w (by omega) q1).mono fun r w' ⟨h1, h2⟩ => ⟨⟨0, ?_, fun n h => ?_⟩, h2⟩
      · rw [hn]; exact h1
      · rw [hn] at h; cases h
  | _ =>
    have hn := no _ ha (fun n _ h => by cases h)
    obtain ⟨tp, p, hv⟩ := hr.syn
    refine (natural_err s w (Lib.hid ((Tryd.strconv_Atoi_syntax_var s (by omega) ha tp p w hv).mono fun e w' ⟨N, h1, _, _, h4⟩ => ⟨0, N, h1, h4⟩))).mono fun r w' ⟨h1, h2⟩ => ⟨⟨0, ?_, fun n h => ?_⟩, h2⟩
    · rw [hn]; exact h1
    · rw [hn] at h; cases h
end Go.Proofs.YthifdgddegpbjaaDoor
