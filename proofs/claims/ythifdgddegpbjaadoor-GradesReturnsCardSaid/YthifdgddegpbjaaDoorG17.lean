/- The reference of package grades: Parse, of any text: what it gives. -/
import Derived.Test.YthifdgddegpbjaaDoorG16
namespace Go.Proofs.YthifdgddegpbjaaDoor
open Go.RowKit

theorem pr_four {l : List UInt8} (h : prE l = 4) : (.agg #[.bool (prH l), .int .i64 (prK l), .int .i64 (prG l)] : Value) = ZC := by
  have f1 : prH l = false := if_neg (by omega)
  have f2 : prK l = 0 := if_neg (by omega)
  have f3 : prG l = 0 := if_neg (by omega)
  rw [f1, f2, f3]
theorem pr_err {l : List UInt8} (h : prE l ≠ 0) : (.agg #[.bool (prH l), .int .i64 (prK l), .int .i64 (prG l)] : Value) = ZC := by
  have f1 : prH l = false := if_neg h
  have f2 : prK l = 0 := if_neg h
  have f3 : prG l = 0 := if_neg h
  rw [f1, f2, f3]
theorem pr_none {c : UInt8} {t : List UInt8} (h : numOf t = none) : prE (c :: t) = 4 := by rw [prE_cons, h]; split <;> rfl
theorem at_cons (c : UInt8) (t : List UInt8) (i : Nat) (h : i < (⟨(c :: t).toArray⟩ : ByteArray).size) (hi : 1 ≤ i) : t[i - 1]? = some ((⟨(c :: t).toArray⟩ : ByteArray)[i]) := by
  have e : (⟨(c :: t).toArray⟩ : ByteArray)[i] = (c :: t)[i]'(by rw [size_cons] at h; simpa using h) := rfl
  rw [e]
  obtain ⟨j, rfl⟩ : ∃ j, i = j + 1 := ⟨i - 1, by omega⟩
  simp
theorem rParse_cons (c : UInt8) (t : List UInt8) (hs : t.length + 1 ≤ 60) (w : World) (hg : Glo w) :
    Calls Tryd.prog 13 #[.string ⟨(c :: t).toArray⟩] w fun r w' => r = .returned (.tuple #[.agg #[.bool (prH (c :: t)), .int .i64 (prK (c :: t)), .int .i64 (prG (c :: t))], .int .i64 (prE (c :: t))]) ∧ Kb w w' := by
  have sz := size_cons c t
  by_cases hl : t.length + 1 < 2 ∨ 4 < t.length + 1
  · have e : prE (c :: t) = 4 := by
      apply pr_none
      cases hn : numOf t with
      | none => rfl
      | some n => have := numOf_len hn; omega
    rw [pr_four e, e]
    exact rp_len _ w (by omega) (by omega)
  · have n2 : 2 ≤ (⟨(c :: t).toArray⟩ : ByteArray).size := by omega
    have n4 : (⟨(c :: t).toArray⟩ : ByteArray).size ≤ 4 := by omega
    have hc : (⟨(c :: t).toArray⟩ : ByteArray)[0]'(by omega) = c := rfl
    have q1 : Hid (∀ W : World, Calls Tryd.prog 39 #[.string letB, .int .u8 (c.toNat : Int)] W fun r w' => r = .returned (.int .i64 (Lib.indexByte letB.data.toList c)) ∧ W = w') := Lib.hid fun W => rplace letB c (by decide) W
    have q2 : Hid (∀ W : World, Calls Tryd.prog 39 #[.string capB, .int .u8 (c.toNat : Int)] W fun r w' => r = .returned (.int .i64 (Lib.indexByte capB.data.toList c)) ∧ W = w') := Lib.hid fun W => rplace capB c (by decide) W
    obtain ⟨l1, l2⟩ := let_one c
    have hT0 : (⟨(c :: t).toArray⟩ : ByteArray)[1]'(by omega) = t.getD 0 0 := by
      have := at_cons c t 1 (by omega) (by omega)
      rw [show 1 - 1 = 0 from rfl] at this
      cases t with
      | nil => simp at hl
      | cons a b => simp at this; simpa using this.symm
    by_cases hk : 0 ≤ rIdx c
    · obtain ⟨m1, _, _, _⟩ := l2 hk
      have run : ∀ (h : Bool) (k : Int), rHole c = h → rIdx c = k → Hid (∀ x ∈ t, dgB x = false → (.agg #[.bool (prH (c :: t)), .int .i64 (prK (c :: t)), .int .i64 (prG (c :: t))] : Value) = ZC ∧ prE (c :: t) = 4) ∧
          ((2 ≤ t.length → (t.getD 0 0).toNat ≠ 48) → Hid ((∀ x ∈ t, dgB x = true) → True ∧ (grE (accD t : Int) = 0 → (.agg #[.bool (prH (c :: t)), .int .i64 (prK (c :: t)), .int .i64 (prG (c :: t))] : Value) = .agg #[.bool h, .int .i64 k, .int .i64 (accD t : Int)] ∧ prE (c :: t) = 0) ∧ (grE (accD t : Int) ≠ 0 → (.agg #[.bool (prH (c :: t)), .int .i64 (prK (c :: t)), .int .i64 (prG (c :: t))] : Value) = ZC ∧ prE (c :: t) = grE (accD t : Int)))) := by
        rintro h k rfl rfl
        refine ⟨Lib.hid fun x hx hd => ?_, fun hz => Lib.hid fun ha => ⟨trivial, fun h0 => ?_, fun h0 => ?_⟩⟩
        · have e : prE (c :: t) = 4 := by
            apply pr_none
            cases hn : numOf t with
            | none => rfl
            | some n => have := (numOf_dig hn).1 x hx; rw [hd] at this; cases this
          exact ⟨pr_four e, e⟩
        · have hn := numOf_acc (by omega) (by omega) ha hz
          have e : prE (c :: t) = 0 := by rw [prE_cons, if_pos hk, hn]; exact h0
          have f1 : prH (c :: t) = rHole c := if_pos e
          have f2 : prK (c :: t) = rIdx c := if_pos e
          have f3 : prG (c :: t) = (accD t : Int) := (if_pos e).trans (by show (((numOf t).getD 0 : Nat) : Int) = _; rw [hn]; rfl)
          exact ⟨by rw [f1, f2, f3], e⟩
        · have hn := numOf_acc (by omega) (by omega) ha hz
          have e : prE (c :: t) = grE (accD t : Int) := by rw [prE_cons, if_pos hk, hn]
          exact ⟨pr_err (by rw [e]; exact h0), e⟩
      have zero : 2 ≤ t.length → (t.getD 0 0).toNat = 48 → prE (c :: t) = 4 := fun h1 h2 => by
        apply pr_none
        cases hn : numOf t with
        | none => rfl
        | some n => exact absurd h2 ((numOf_dig hn).2 h1)
      by_cases h1 : Lib.indexByte letB.data.toList c < 0
      · have r1 : rIdx c = Lib.indexByte capB.data.toList c := if_neg (by omega)
        have r2 : rHole c = true := decide_eq_true h1
        obtain ⟨hbad, hend⟩ := run true _ r2 r1
        by_cases z1 : (t.getD 0 0).toNat = 48
        · by_cases z2 : 2 < (⟨(c :: t).toArray⟩ : ByteArray).size
          · have e := zero (by omega) z1
            rw [pr_four e, e]
            exact rp_zero_up _ c w n2 n4 hc _ q1 _ q2 h1 (by omega) (by rw [hT0, z1]; rfl) z2
          · exact rp_run_up_b _ c w n2 n4 hc _ q1 _ q2 h1 (by omega) (by omega) (by rw [hT0, z1]; rfl) z2 hg t (by omega) (Lib.hid fun i h hi => at_cons c t i h hi) _ _ hbad (hend (fun h => by omega))
        · exact rp_run_up_a _ c w n2 n4 hc _ q1 _ q2 h1 (by omega) (by omega) (by rw [hT0]; exact beq_eq_false_iff_ne.2 (by omega)) hg t (by omega) (Lib.hid fun i h hi => at_cons c t i h hi) _ _ hbad (hend (fun _ => z1))
      · have r1 : rIdx c = Lib.indexByte letB.data.toList c := if_pos (by omega)
        have r2 : rHole c = false := decide_eq_false h1
        obtain ⟨hbad, hend⟩ := run false _ r2 r1
        by_cases z1 : (t.getD 0 0).toNat = 48
        · by_cases z2 : 2 < (⟨(c :: t).toArray⟩ : ByteArray).size
          · have e := zero (by omega) z1
            rw [pr_four e, e]
            exact rp_zero_lo _ c w n2 n4 hc _ q1 h1 (by rw [hT0, z1]; rfl) z2
          · exact rp_run_lo_b _ c w n2 n4 hc _ q1 h1 (by omega) (by rw [hT0, z1]; rfl) z2 hg t (by omega) (Lib.hid fun i h hi => at_cons c t i h hi) _ _ hbad (hend (fun h => by omega))
        · exact rp_run_lo_a _ c w n2 n4 hc _ q1 h1 (by omega) (by rw [hT0]; exact beq_eq_false_iff_ne.2 (by omega)) hg t (by omega) (Lib.hid fun i h hi => at_cons c t i h hi) _ _ hbad (hend (fun _ => z1))
    · have e : prE (c :: t) = 4 := by rw [prE_cons, if_neg hk]
      have h1 : Lib.indexByte letB.data.toList c < 0 := by
        unfold rIdx at hk; split at hk <;> omega
      have h2 : Lib.indexByte capB.data.toList c < 0 := by
        unfold rIdx at hk; rw [if_neg (by omega)] at hk; omega
      rw [pr_four e, e]
      exact rp_nolet _ c w n2 n4 hc _ q1 _ q2 h1 h2
theorem rParse_any (s : ByteArray) (hs : s.size ≤ 60) (w : World) (hg : Glo w) :
    Calls Tryd.prog 13 #[.string s] w fun r w' => r = .returned (.tuple #[.agg #[.bool (prH s.data.toList), .int .i64 (prK s.data.toList), .int .i64 (prG s.data.toList)], .int .i64 (prE s.data.toList)]) ∧ Kb w w' := by
  obtain ⟨l, rfl⟩ : ∃ l : List UInt8, s = ⟨l.toArray⟩ := ⟨s.data.toList, by cases s; simp⟩
  cases l with
  | nil =>
    have e : prE ([] : List UInt8) = 4 := rfl
    show Calls Tryd.prog _ _ w fun r w' => r = .returned (.tuple #[.agg #[.bool (prH []), .int .i64 (prK []), .int .i64 (prG [])], .int .i64 (prE [])]) ∧ Kb w w'
    rw [pr_four e, e]
    exact rp_len _ w hs (.inl (by show 0 < 2; omega))
  | cons c t =>
    rw [size_cons] at hs
    exact rParse_cons c t hs w hg
end Go.Proofs.YthifdgddegpbjaaDoor
