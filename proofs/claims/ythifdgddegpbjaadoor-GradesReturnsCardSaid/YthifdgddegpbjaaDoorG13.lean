/- Package grades: Parse, of any text. -/
import Derived.Test.YthifdgddegpbjaaDoorG12
namespace Go.Proofs.YthifdgddegpbjaaDoor
open Go.RowKit

abbrev cls0 : Obj := .cells #[.bool false, .int .i64 0, .int .i64 0] 23 (0, 0)
/-- the error and the class of a text -/
def prE : List UInt8 → Int
  | [] => 4
  | c :: t => if 0 ≤ rIdx c then (match numOf t with | some n => grE (n : Int) | none => 4) else 4
def prH (l : List UInt8) : Bool := if prE l = 0 then rHole (l.headD 0) else false
def prK (l : List UInt8) : Int := if prE l = 0 then rIdx (l.headD 0) else 0
def prG (l : List UInt8) : Int := if prE l = 0 then (((numOf l.tail).getD 0 : Nat) : Int) else 0
set_option maxRecDepth 100000 in
set_option maxHeartbeats 4000000 in
theorem parse_nil (w : World) : Calls Tryd.prog 12 #[.string ⟨#[]⟩] w fun r w' => r = .returned (.tuple #[.agg #[.bool false, .int .i64 0, .int .i64 0], .int .i64 4]) ∧ Kb w w' := by
  have kk := (Kb.refl w).alloc cls0
  have cls := Is.made w #[.bool false, .int .i64 0, .int .i64 0] 23
  go_enter Tryd.func12, Tryd.ntmps12
  go_wp2
  refine ret_row2 Tryd.results12 rfl rfl rfl cls Tryd.underlying23 rfl (by kernel_rfl) ?_
  exact ⟨rfl, kk⟩
set_option maxRecDepth 100000 in
set_option maxHeartbeats 4000000 in
theorem parse_bad (s t X : ByteArray) (c : UInt8) (i : Int) (b : Bool) (w : World) (hr : GloR w) (hs : 1 ≤ s.size) (hs2 : s.size ≤ 100) (h1 : s.extract 0 1 = ⟨#[c]⟩) (h2 : s.extract 1 s.size = t) (hib : i < 0 ∨ (¬ i < 0 ∧ b = false))
    (q1 : Hid (∀ W, GloR W → Calls Tryd.prog 36 #[.string ⟨#[c]⟩] W fun e w' => e = .returned (.string X) ∧ Kb W w'))
    (q3 : Hid (∀ W, GloR W → Calls Tryd.prog 35 #[.string letB, .string X] W fun e w' => e = .returned (.int .i64 i) ∧ w' = W))
    (q2 : Hid (∀ W, GloR W → Calls Tryd.prog 37 #[.string t] W fun e w' => (∃ v : Int, e = .returned (.tuple #[.int .i64 v, .bool b])) ∧ Kb W w')) :
    Calls Tryd.prog 12 #[.string s] w fun r w' => r = .returned (.tuple #[.agg #[.bool false, .int .i64 0, .int .i64 0], .int .i64 4]) ∧ Kb w w' := by
  have hne : (s.toList == []) = false := by
    have : s.toList.length = s.size := by rw [ByteArray.toList_eq]; simp
    cases h : s.toList with
    | nil => rw [h] at this; simp at this; omega
    | cons a b => rfl
  have kk := (Kb.refl w).alloc cls0
  have cls := Is.made w #[.bool false, .int .i64 0, .int .i64 0] 23
  have hr1 := hr.kb kk
  rcases hib with hi | ⟨hi, rfl⟩
  · go_enter Tryd.func12, Tryd.ntmps12
    go_wp2_with fail
    refine (q1.out _ hr1).mono ?_
    rintro e w1 ⟨rfl, k1⟩
    go_wp2_with fail
    refine (q3.out _ (hr1.kb k1)).mono ?_
    rintro e w2 ⟨rfl, rfl⟩
    go_wp2_with fail
    refine (q2.out _ (hr1.kb k1)).mono ?_
    rintro e w3 ⟨⟨v, rfl⟩, k3⟩
    have kx := (kk.trans k1).trans k3
    have cx := (cls.kb k1).kb k3
    have f0 := cx.f 0
    have f1 := cx.f 1
    have f2 := cx.f 2
    have c0 := cx.c (i := 0) rfl
    have c1 := cx.c (i := 1) rfl
    have c2 := cx.c (i := 2) rfl
    go_wp2
    refine ret_row2 Tryd.results12 rfl rfl rfl (((cx.set 0 _).set 1 _).set 2 _) Tryd.underlying23 rfl (by kernel_rfl) ?_
    exact ⟨rfl, (((kx.setCell (Nat.le_refl _) _).setCell (Nat.le_refl _) _).setCell (Nat.le_refl _) _)⟩
  · go_enter Tryd.func12, Tryd.ntmps12
    go_wp2_with fail
    refine (q1.out _ hr1).mono ?_
    rintro e w1 ⟨rfl, k1⟩
    go_wp2_with fail
    refine (q3.out _ (hr1.kb k1)).mono ?_
    rintro e w2 ⟨rfl, rfl⟩
    go_wp2_with fail
    refine (q2.out _ (hr1.kb k1)).mono ?_
    rintro e w3 ⟨⟨v, rfl⟩, k3⟩
    have kx := (kk.trans k1).trans k3
    have cx := (cls.kb k1).kb k3
    have f0 := cx.f 0
    have f1 := cx.f 1
    have f2 := cx.f 2
    have c0 := cx.c (i := 0) rfl
    have c1 := cx.c (i := 1) rfl
    have c2 := cx.c (i := 2) rfl
    go_wp2
    refine ret_row2 Tryd.results12 rfl rfl rfl (((cx.set 0 _).set 1 _).set 2 _) Tryd.underlying23 rfl (by kernel_rfl) ?_
    exact ⟨rfl, (((kx.setCell (Nat.le_refl _) _).setCell (Nat.le_refl _) _).setCell (Nat.le_refl _) _)⟩
set_option maxRecDepth 100000 in
set_option maxHeartbeats 4000000 in
theorem parse_gr (s t X : ByteArray) (c : UInt8) (i n e0 : Int) (w : World) (hr : GloR w) (hs : 1 ≤ s.size) (hs2 : s.size ≤ 100) (h1 : s.extract 0 1 = ⟨#[c]⟩) (h2 : s.extract 1 s.size = t) (hi : ¬ i < 0) (he : (e0 != 0) = true)
    (q1 : Hid (∀ W, GloR W → Calls Tryd.prog 36 #[.string ⟨#[c]⟩] W fun e w' => e = .returned (.string X) ∧ Kb W w'))
    (q3 : Hid (∀ W, GloR W → Calls Tryd.prog 35 #[.string letB, .string X] W fun e w' => e = .returned (.int .i64 i) ∧ w' = W))
    (q2 : Hid (∀ W, GloR W → Calls Tryd.prog 37 #[.string t] W fun e w' => e = .returned (.tuple #[.int .i64 n, .bool true]) ∧ Kb W w'))
    (q4 : Gs 38 #[.int .i64 n] (.int .i64 e0)) :
    Calls Tryd.prog 12 #[.string s] w fun r w' => r = .returned (.tuple #[.agg #[.bool false, .int .i64 0, .int .i64 0], .int .i64 e0]) ∧ Kb w w' := by
  have hne : (s.toList == []) = false := by
    have : s.toList.length = s.size := by rw [ByteArray.toList_eq]; simp
    cases h : s.toList with
    | nil => rw [h] at this; simp at this; omega
    | cons a b => rfl
  unfold Gs at q4
  have kk := (Kb.refl w).alloc cls0
  have cls := Is.made w #[.bool false, .int .i64 0, .int .i64 0] 23
  have hr1 := hr.kb kk
  go_enter Tryd.func12, Tryd.ntmps12
  go_wp2_with fail
  refine (q1.out _ hr1).mono ?_
  rintro e w1 ⟨rfl, k1⟩
  go_wp2_with fail
  refine (q3.out _ (hr1.kb k1)).mono ?_
  rintro e w2 ⟨rfl, rfl⟩
  go_wp2_with fail
  refine (q2.out _ (hr1.kb k1)).mono ?_
  rintro e w3 ⟨rfl, k3⟩
  have kx := (kk.trans k1).trans k3
  have cx := (cls.kb k1).kb k3
  have hg := ((hr1.kb k1).kb k3).glo
  go_wp2_with fail
  with_reducible refine (q4.out _ hg).mono ?_
  rintro e w4 ⟨rfl, rfl⟩
  have f0 := cx.f 0
  have f1 := cx.f 1
  have f2 := cx.f 2
  have c0 := cx.c (i := 0) rfl
  have c1 := cx.c (i := 1) rfl
  have c2 := cx.c (i := 2) rfl
  go_wp2
  refine ret_row2 Tryd.results12 rfl rfl rfl (((cx.set 0 _).set 1 _).set 2 _) Tryd.underlying23 rfl (by kernel_rfl) ?_
  exact ⟨rfl, (((kx.setCell (Nat.le_refl _) _).setCell (Nat.le_refl _) _).setCell (Nat.le_refl _) _)⟩
end Go.Proofs.YthifdgddegpbjaaDoor
