/- Package grades: Parse, of any text: what it gives; Check and Format, of any class. -/
import Derived.Test.YthifdgddegpbjaaDoorG13
namespace Go.Proofs.YthifdgddegpbjaaDoor
open Go.RowKit

abbrev repB : ByteArray := ⟨#[239, 191, 189]⟩
theorem high_all : (List.range 256).all (fun n => decide (n < 128) || (Lib.toLowerD [UInt8.ofNat n] == [239, 191, 189])) = true := by kernel_rfl
theorem high_one {c : UInt8} (h : 128 ≤ c.toNat) : Lib.toLowerD [c] = [239, 191, 189] := by
  have := List.all_eq_true.1 high_all c.toNat (List.mem_range.2 c.toNat_lt)
  rw [show UInt8.ofNat c.toNat = c by simp] at this
  simp only [Bool.or_eq_true, beq_iff_eq, decide_eq_true_eq] at this
  rcases this with h1 | h1
  · omega
  · exact h1
theorem rep_index : Lib.index letB.data.toList repB.data.toList = -1 := by kernel_rfl
theorem ext_head (c : UInt8) (t : List UInt8) : (⟨(c :: t).toArray⟩ : ByteArray).extract 0 1 = ⟨#[c]⟩ := by
  apply ByteArray.ext
  rw [ByteArray.data_extract]
  simp
theorem ext_tail (c : UInt8) (t : List UInt8) : (⟨(c :: t).toArray⟩ : ByteArray).extract 1 (⟨(c :: t).toArray⟩ : ByteArray).size = ⟨t.toArray⟩ := by
  apply ByteArray.ext
  rw [ByteArray.data_extract]
  show ((c :: t).toArray).extract 1 ((c :: t).toArray).size = _
  simp
theorem size_cons (c : UInt8) (t : List UInt8) : (⟨(c :: t).toArray⟩ : ByteArray).size = t.length + 1 := by
  show ((c :: t).toArray).size = _
  simp
theorem prE_cons (c : UInt8) (t : List UInt8) : prE (c :: t) = if 0 ≤ rIdx c then (match numOf t with | some n => grE (n : Int) | none => 4) else 4 := rfl
theorem gParse_cons (c : UInt8) (t : List UInt8) (hs : t.length + 1 ≤ 60) (w : World) (hr : GloR w) :
    Calls Tryd.prog 12 #[.string ⟨(c :: t).toArray⟩] w fun r w' => r = .returned (.tuple #[.agg #[.bool (prH (c :: t)), .int .i64 (prK (c :: t)), .int .i64 (prG (c :: t))], .int .i64 (prE (c :: t))]) ∧ Kb w w' := by
  have z1 : 1 ≤ (⟨(c :: t).toArray⟩ : ByteArray).size := by rw [size_cons]; omega
  have z2 : (⟨(c :: t).toArray⟩ : ByteArray).size ≤ 100 := by rw [size_cons]; omega
  have zt : (⟨t.toArray⟩ : ByteArray).size ≤ 100 := by show (t.toArray).size ≤ 100; simp; omega
  have x1 := ext_head c t
  have x2 := ext_tail c t
  obtain ⟨l1, l2⟩ := let_one c
  obtain ⟨X, q1, q3⟩ : ∃ X : ByteArray, Hid (∀ W, GloR W → Calls Tryd.prog 36 #[.string ⟨#[c]⟩] W fun e w' => e = .returned (.string X) ∧ Kb W w') ∧ Hid (∀ W, GloR W → Calls Tryd.prog 35 #[.string letB, .string X] W fun e w' => e = .returned (.int .i64 (rIdx c)) ∧ w' = W) := by
    by_cases hc : c.toNat < 128
    · refine ⟨⟨#[Lib.lowerB c]⟩, Lib.hid fun W _ => ?_, Lib.hid fun W _ => ?_⟩
      · exact Tryd.strings_ToLower_ascii ⟨#[c]⟩ W (show 1 ≤ 140737488355328 by decide) (fun j b hj => by
          rcases j with _ | j
          · simp at hj; subst hj; exact hc
          · simp at hj)
      · have := Tryd.strings_Index_one letB (Lib.lowerB c) W
        rw [← l1]
        unfold pIdx
        rw [if_pos hc]
        exact this
    · refine ⟨repB, Lib.hid fun W h => ?_, Lib.hid fun W h => ?_⟩
      · have := Tryd.strings_ToLower_beyond ⟨#[c]⟩ W (show 1 < 35184372088832 by decide) ⟨0, c, rfl, by omega⟩ h.cas h.utf
        rw [show (⟨#[c]⟩ : ByteArray).data.toList = [c] from rfl, high_one (by omega)] at this
        exact this
      · obtain ⟨m, hm⟩ := h.mx
        have := Tryd.strings_Index letB repB m W (show 10 < 4294967281 by decide) hm
        rw [rep_index] at this
        rw [← l1]
        unfold pIdx
        rw [if_neg hc]
        exact this
  have qn := fun W (h : GloR W) => gnatural_any ⟨t.toArray⟩ zt W h
  by_cases hk : 0 ≤ rIdx c
  · cases hn : numOf t with
    | none =>
      have e : prE (c :: t) = 4 := by rw [prE_cons, if_pos hk, hn]
      have f1 : prH (c :: t) = false := if_neg (by omega)
      have f2 : prK (c :: t) = 0 := if_neg (by omega)
      have f3 : prG (c :: t) = 0 := if_neg (by omega)
      rw [e, f1, f2, f3]
      refine parse_bad _ _ X c (rIdx c) false w hr z1 z2 x1 x2 (.inr ⟨by omega, rfl⟩) q1 q3 (Lib.hid fun W h => (qn W h).mono fun r w' ⟨⟨v, h1, _⟩, h3⟩ => ⟨⟨v, ?_⟩, h3⟩)
      rw [h1]
      show _ = Ending.returned (.tuple #[.int .i64 v, .bool false])
      rw [show (⟨t.toArray⟩ : ByteArray).data.toList = t from rfl, hn]; rfl
    | some n =>
      have e : prE (c :: t) = grE (n : Int) := by rw [prE_cons, if_pos hk, hn]
      obtain ⟨n1, n2⟩ := numOf_some hn
      by_cases hg : 5 ≤ (n : Int) ∧ (n : Int) ≤ 12
      · have e0 : grE (n : Int) = 0 := if_pos hg
        obtain ⟨m1, m2, m3, m4⟩ := l2 hk
        have hkk : (rIdx c).toNat < 10 := by omega
        obtain ⟨a1, a2, a3, a4, a5, a6, a7, a8, a9⟩ := let_facts (rIdx c).toNat hkk
        have d1 : digB n = (⟨t.toArray⟩ : ByteArray) := by rw [← dec_dig n (by omega) (by omega), dec_dg n1, ← n2]
        have b1 := (dig_facts n (by omega) (by omega) 0).1
        have q2 := gnatural_ok (digB n) n (by omega) (by have := (dig_facts n (by omega) (by omega) 0).2.1; omega) b1 (dec_dig n (by omega) (by omega))
        rw [d1] at q2
        have f1 : prH (c :: t) = rHole c := if_pos (e.trans e0)
        have f2 : prK (c :: t) = rIdx c := if_pos (e.trans e0)
        have f3 : prG (c :: t) = (n : Int) := (if_pos (e.trans e0)).trans (by show (((numOf t).getD 0 : Nat) : Int) = _; rw [hn]; rfl)
        have hs0 : (⟨(c :: t).toArray⟩ : ByteArray)[0]'z1 = c := rfl
        have := gParse_ok ⟨(c :: t).toArray⟩ ⟨t.toArray⟩ c (lowU (rIdx c).toNat) (rIdx c).toNat n hkk (by omega) (by omega) z1 z2 m4 x1 x2 (by show (⟨([Lib.lowerB c]).toArray⟩ : ByteArray) = _; rw [m3]) a2 q2 hs0 a1 w hr.glo
        rw [m2, show (((rIdx c).toNat : Nat) : Int) = rIdx c by omega] at this
        rw [e, e0, f1, f2, f3]
        exact this
      · have e0 : grE (n : Int) = 2 := if_neg hg
        have q4 := gcheckGrade (n : Int)
        rw [e0] at q4
        have f1 : prH (c :: t) = false := if_neg (by omega)
        have f2 : prK (c :: t) = 0 := if_neg (by omega)
        have f3 : prG (c :: t) = 0 := if_neg (by omega)
        rw [e, e0, f1, f2, f3]
        refine parse_gr _ _ X c (rIdx c) (n : Int) 2 w hr z1 z2 x1 x2 (by omega) rfl q1 q3 (Lib.hid fun W h => (qn W h).mono fun r w' ⟨⟨v, h1, h2⟩, h3⟩ => ⟨?_, h3⟩) q4
        rw [h1, h2 n (by rw [show (⟨t.toArray⟩ : ByteArray).data.toList = t from rfl, hn]), show (⟨t.toArray⟩ : ByteArray).data.toList = t from rfl, hn]; rfl
  · have e : prE (c :: t) = 4 := if_neg hk
    have f1 : prH (c :: t) = false := if_neg (by omega)
    have f2 : prK (c :: t) = 0 := if_neg (by omega)
    have f3 : prG (c :: t) = 0 := if_neg (by omega)
    rw [e, f1, f2, f3]
    exact parse_bad _ _ X c (rIdx c) (numOf t).isSome w hr z1 z2 x1 x2 (.inl (by omega)) q1 q3 (Lib.hid fun W h => (qn W h).mono fun r w' ⟨⟨v, h1, _⟩, h3⟩ => ⟨⟨v, h1⟩, h3⟩)
theorem gParse_any (s : ByteArray) (hs : s.size ≤ 60) (w : World) (hr : GloR w) :
    Calls Tryd.prog 12 #[.string s] w fun r w' => r = .returned (.tuple #[.agg #[.bool (prH s.data.toList), .int .i64 (prK s.data.toList), .int .i64 (prG s.data.toList)], .int .i64 (prE s.data.toList)]) ∧ Kb w w' := by
  obtain ⟨l, rfl⟩ : ∃ l : List UInt8, s = ⟨l.toArray⟩ := ⟨s.data.toList, by cases s; simp⟩
  cases l with
  | nil => exact parse_nil w
  | cons c t =>
    rw [size_cons] at hs
    exact gParse_cons c t hs w hr
end Go.Proofs.YthifdgddegpbjaaDoor
