/- Format, of any class: of package grades and of the reference. -/
import Derived.Test.YthifdgddegpbjaaDoorG17
import Derived.Test.YthifdgddegpbjaaDoorG9
namespace Go.Proofs.YthifdgddegpbjaaDoor
open Go.RowKit

def fmT (h : Bool) (k g : Int) : ByteArray := if clE k g = 0 then txtC h k.toNat g.toNat else ⟨#[]⟩
set_option maxRecDepth 100000 in
set_option maxHeartbeats 4000000 in
theorem rdig5 (w : World) : Calls Tryd.prog 42 #[.int .i64 5] w fun r w' => r = .returned (.string (digB 5)) ∧ Kb w w' := by
  have e : (⟨#[48, 49, 50, 51, 52, 53, 54, 55, 56, 57]⟩ : ByteArray).extract 5 6 = digB 5 := by rfl
  go_enter Tryd.func42, Tryd.ntmps42
  go_wp2
  go_ret
  exact ⟨rfl, Kb.refl _⟩
set_option maxRecDepth 100000 in
set_option maxHeartbeats 4000000 in
theorem rdig6 (w : World) : Calls Tryd.prog 42 #[.int .i64 6] w fun r w' => r = .returned (.string (digB 6)) ∧ Kb w w' := by
  have e : (⟨#[48, 49, 50, 51, 52, 53, 54, 55, 56, 57]⟩ : ByteArray).extract 6 7 = digB 6 := by rfl
  go_enter Tryd.func42, Tryd.ntmps42
  go_wp2
  go_ret
  exact ⟨rfl, Kb.refl _⟩
set_option maxRecDepth 100000 in
set_option maxHeartbeats 4000000 in
theorem rdig7 (w : World) : Calls Tryd.prog 42 #[.int .i64 7] w fun r w' => r = .returned (.string (digB 7)) ∧ Kb w w' := by
  have e : (⟨#[48, 49, 50, 51, 52, 53, 54, 55, 56, 57]⟩ : ByteArray).extract 7 8 = digB 7 := by rfl
  go_enter Tryd.func42, Tryd.ntmps42
  go_wp2
  go_ret
  exact ⟨rfl, Kb.refl _⟩
set_option maxRecDepth 100000 in
set_option maxHeartbeats 4000000 in
theorem rdig8 (w : World) : Calls Tryd.prog 42 #[.int .i64 8] w fun r w' => r = .returned (.string (digB 8)) ∧ Kb w w' := by
  have e : (⟨#[48, 49, 50, 51, 52, 53, 54, 55, 56, 57]⟩ : ByteArray).extract 8 9 = digB 8 := by rfl
  go_enter Tryd.func42, Tryd.ntmps42
  go_wp2
  go_ret
  exact ⟨rfl, Kb.refl _⟩
set_option maxRecDepth 100000 in
set_option maxHeartbeats 4000000 in
theorem rdig9 (w : World) : Calls Tryd.prog 42 #[.int .i64 9] w fun r w' => r = .returned (.string (digB 9)) ∧ Kb w w' := by
  have e : (⟨#[48, 49, 50, 51, 52, 53, 54, 55, 56, 57]⟩ : ByteArray).extract 9 10 = digB 9 := by rfl
  go_enter Tryd.func42, Tryd.ntmps42
  go_wp2
  go_ret
  exact ⟨rfl, Kb.refl _⟩
set_option maxRecDepth 100000 in
set_option maxHeartbeats 4000000 in
theorem rdig10 (w : World) : Calls Tryd.prog 42 #[.int .i64 10] w fun r w' => r = .returned (.string (digB 10)) ∧ Kb w w' := by
  go_enter Tryd.func42, Tryd.ntmps42
  go_wp2
  go_region
  all_goals go_wp2
  all_goals go_ret
  all_goals exact ⟨rfl, (Kb.refl _).drew⟩
set_option maxRecDepth 100000 in
set_option maxHeartbeats 4000000 in
theorem rdig11 (w : World) : Calls Tryd.prog 42 #[.int .i64 11] w fun r w' => r = .returned (.string (digB 11)) ∧ Kb w w' := by
  go_enter Tryd.func42, Tryd.ntmps42
  go_wp2
  go_region
  all_goals go_wp2
  all_goals go_ret
  all_goals exact ⟨rfl, (Kb.refl _).drew⟩
set_option maxRecDepth 100000 in
set_option maxHeartbeats 4000000 in
theorem rdig12 (w : World) : Calls Tryd.prog 42 #[.int .i64 12] w fun r w' => r = .returned (.string (digB 12)) ∧ Kb w w' := by
  go_enter Tryd.func42, Tryd.ntmps42
  go_wp2
  go_region
  all_goals go_wp2
  all_goals go_ret
  all_goals exact ⟨rfl, (Kb.refl _).drew⟩
theorem rdigits (n : Nat) (h5 : 5 ≤ n) (hn : n ≤ 12) (w : World) : Calls Tryd.prog 42 #[.int .i64 (n : Int)] w fun r w' => r = .returned (.string (digB n)) ∧ Kb w w' := by
  rcases gr_cases h5 hn with rfl | rfl | rfl | rfl | rfl | rfl | rfl | rfl
  · exact rdig5 w
  · exact rdig6 w
  · exact rdig7 w
  · exact rdig8 w
  · exact rdig9 w
  · exact rdig10 w
  · exact rdig11 w
  · exact rdig12 w
theorem cap_facts (k : Nat) (hk : k < 10) : capB.extract k (k + 1) = ⟨#[uppU k]⟩ := by
  rcases lt10 hk with rfl | rfl | rfl | rfl | rfl | rfl | rfl | rfl | rfl | rfl <;> rfl
set_option maxRecDepth 100000 in
set_option maxHeartbeats 4000000 in
theorem gfmt_err (h : Bool) (k g e : Int) (he : (e != 0) = true) (q : Gq 16 #[.agg #[.bool h, .int .i64 k, .int .i64 g]] (.int .i64 e)) (w : World) (hg : Glo w) : Calls Tryd.prog 14 #[.agg #[.bool h, .int .i64 k, .int .i64 g]] w fun r w' => r = .returned (.tuple #[.string ⟨#[]⟩, .int .i64 e]) ∧ Kb w w' := by
  unfold Gq at q
  have kk := (Kb.refl w).alloc (clsO 23 h k g)
  have cls := Is.made w #[.bool h, .int .i64 k, .int .i64 g] 23
  have hg1 := hg.kb kk
  have c0 := cls.c (i := 0) rfl
  have c1 := cls.c (i := 1) rfl
  have c2 := cls.c (i := 2) rfl
  go_enter Tryd.func14, Tryd.ntmps14
  go_wp2_with fail
  with_reducible refine (q.out _ hg1).mono ?_
  rintro r w1 ⟨rfl, k1⟩
  go_wp2
  go_ret2
  exact ⟨rfl, kk.trans k1⟩
set_option maxRecDepth 100000 in
set_option maxHeartbeats 4000000 in
theorem rfmt_err (h : Bool) (k g e : Int) (he : (e != 0) = true) (q : Gq 17 #[.agg #[.bool h, .int .i64 k, .int .i64 g]] (.int .i64 e)) (w : World) (hg : Glo w) : Calls Tryd.prog 15 #[.agg #[.bool h, .int .i64 k, .int .i64 g]] w fun r w' => r = .returned (.tuple #[.string ⟨#[]⟩, .int .i64 e]) ∧ Kb w w' := by
  unfold Gq at q
  have kk := (Kb.refl w).alloc (clsO 28 h k g)
  have cls := Is.made w #[.bool h, .int .i64 k, .int .i64 g] 28
  have hg1 := hg.kb kk
  have c0 := cls.c (i := 0) rfl
  have c1 := cls.c (i := 1) rfl
  have c2 := cls.c (i := 2) rfl
  go_enter Tryd.func15, Tryd.ntmps15
  go_wp2_with fail
  with_reducible refine (q.out _ hg1).mono ?_
  rintro r w1 ⟨rfl, k1⟩
  go_wp2
  go_ret2
  exact ⟨rfl, kk.trans k1⟩
set_option maxRecDepth 100000 in
set_option maxHeartbeats 4000000 in
theorem rfmt_true (k n : Nat) (hk : k < 10) (h5 : 5 ≤ n) (hn : n ≤ 12) (w : World) (hg : Glo w) : Calls Tryd.prog 15 #[.agg #[.bool true, .int .i64 (k : Int), .int .i64 (n : Int)]] w fun r w' => r = .returned (.tuple #[.string (txtC true k n), .int .i64 0]) ∧ Kb w w' := by
  have q1 := rCheck true (k : Int) (n : Int)
  have e0 : clE (k : Int) (n : Int) = 0 := by unfold clE grE; rw [if_pos (by omega), if_pos (by omega)]
  rw [e0] at q1
  unfold Gq at q1
  have q2 := Lib.hid (fun W => rdigits n h5 hn W)
  have ex : capB.extract k (k + 1) = ⟨#[headU true k]⟩ := cap_facts k hk
  have T : Hid (txtC true k n = (⟨#[headU true k]⟩ : ByteArray) ++ digB n) := rfl
  have hD : ¬ 9223372036854775807 < 1 + (digB n).size := by have := (dig_facts n h5 hn 0).2.1; omega
  have kk := (Kb.refl w).alloc (clsO 28 true (k : Int) (n : Int))
  have cls := Is.made w #[.bool true, .int .i64 (k : Int), .int .i64 (n : Int)] 28
  have hg1 := hg.kb kk
  have c0 := cls.c (i := 0) rfl
  have c1 := cls.c (i := 1) rfl
  have c2 := cls.c (i := 2) rfl
  have i1 : (0 : Int) ≤ (k : Int) := by omega
  have i2 : (k : Int) < 10 := by omega
  have i3 : k ≤ 10 := by omega
  have i4 : k + 1 ≤ 10 := by omega
  have i5 : (k : Int) ≤ (k : Int) + 1 := by omega
  have i6 : (k : Int) + 1 ≤ 10 := by omega
  have i7 : (0 : Int) ≤ (k : Int) + 1 := by omega
  have e1 : IntKind.i64.wrap ((k : Int) + 1) = (k : Int) + 1 := IntWalk.i64_in _ (by omega)
  clear e0
  generalize txtC true k n = Y at *
  generalize headU true k = d at *
  generalize digB n = D at *
  go_enter Tryd.func15, Tryd.ntmps15
  go_wp2_with fail
  with_reducible refine (q1.out _ hg1).mono ?_
  rintro r w1 ⟨rfl, k1⟩
  have kk1 := kk.trans k1
  have cls1 := cls.kb k1
  have c0 := cls1.c (i := 0) rfl
  have c1 := cls1.c (i := 1) rfl
  have c2 := cls1.c (i := 2) rfl
  go_wp2_with fail
  go_region_held3 (fun w' => w'.cell? ⟨w.heap.size, 1, none⟩ = some (.int .i64 (k : Int)) ∧ w'.cell? ⟨w.heap.size, 2, none⟩ = some (.int .i64 (n : Int)))
    (first
      | exact ⟨y1, y2⟩
      | exact ⟨c1, c2⟩
      | go_keep)
    (first
      | (go_at_call 42; with_reducible refine (q2.out _).mono ?_; rintro r w2 ⟨rfl, k2⟩; have k3 := Kb.trans (Kb.drew (Kb.refl w1)) k2; have y1 := Kb.cell k3 c1; have y2 := Kb.cell k3 c2; have kk2 := kk1.trans k3))
  all_goals go_wp2
  all_goals go_ret2
  all_goals exact ⟨by rw [T.out]; rfl, kk2⟩
set_option maxRecDepth 100000 in
set_option maxHeartbeats 4000000 in
theorem rfmt_false (k n : Nat) (hk : k < 10) (h5 : 5 ≤ n) (hn : n ≤ 12) (w : World) (hg : Glo w) : Calls Tryd.prog 15 #[.agg #[.bool false, .int .i64 (k : Int), .int .i64 (n : Int)]] w fun r w' => r = .returned (.tuple #[.string (txtC false k n), .int .i64 0]) ∧ Kb w w' := by
  have q1 := rCheck false (k : Int) (n : Int)
  have e0 : clE (k : Int) (n : Int) = 0 := by unfold clE grE; rw [if_pos (by omega), if_pos (by omega)]
  rw [e0] at q1
  unfold Gq at q1
  have q2 := Lib.hid (fun W => rdigits n h5 hn W)
  have ex : letB.extract k (k + 1) = ⟨#[headU false k]⟩ := (let_facts k hk).2.2.2.2.2.2.2.2
  have T : Hid (txtC false k n = (⟨#[headU false k]⟩ : ByteArray) ++ digB n) := rfl
  have hD : ¬ 9223372036854775807 < 1 + (digB n).size := by have := (dig_facts n h5 hn 0).2.1; omega
  have kk := (Kb.refl w).alloc (clsO 28 false (k : Int) (n : Int))
  have cls := Is.made w #[.bool false, .int .i64 (k : Int), .int .i64 (n : Int)] 28
  have hg1 := hg.kb kk
  have c0 := cls.c (i := 0) rfl
  have c1 := cls.c (i := 1) rfl
  have c2 := cls.c (i := 2) rfl
  have i1 : (0 : Int) ≤ (k : Int) := by omega
  have i2 : (k : Int) < 10 := by omega
  have i3 : k ≤ 10 := by omega
  have i4 : k + 1 ≤ 10 := by omega
  have i5 : (k : Int) ≤ (k : Int) + 1 := by omega
  have i6 : (k : Int) + 1 ≤ 10 := by omega
  have i7 : (0 : Int) ≤ (k : Int) + 1 := by omega
  have e1 : IntKind.i64.wrap ((k : Int) + 1) = (k : Int) + 1 := IntWalk.i64_in _ (by omega)
  clear e0
  generalize txtC false k n = Y at *
  generalize headU false k = d at *
  generalize digB n = D at *
  go_enter Tryd.func15, Tryd.ntmps15
  go_wp2_with fail
  with_reducible refine (q1.out _ hg1).mono ?_
  rintro r w1 ⟨rfl, k1⟩
  have kk1 := kk.trans k1
  have cls1 := cls.kb k1
  have c0 := cls1.c (i := 0) rfl
  have c1 := cls1.c (i := 1) rfl
  have c2 := cls1.c (i := 2) rfl
  go_wp2_with fail
  go_region_held3 (fun w' => w'.cell? ⟨w.heap.size, 1, none⟩ = some (.int .i64 (k : Int)) ∧ w'.cell? ⟨w.heap.size, 2, none⟩ = some (.int .i64 (n : Int)))
    (first
      | exact ⟨y1, y2⟩
      | exact ⟨c1, c2⟩
      | go_keep)
    (first
      | (go_at_call 42; with_reducible refine (q2.out _).mono ?_; rintro r w2 ⟨rfl, k2⟩; have k3 := Kb.trans (Kb.drew (Kb.refl w1)) k2; have y1 := Kb.cell k3 c1; have y2 := Kb.cell k3 c2; have kk2 := kk1.trans k3))
  all_goals go_wp2
  all_goals go_ret2
  all_goals exact ⟨by rw [T.out]; rfl, kk2⟩
theorem gFormat_any (h : Bool) (k g : Int) : Gq 14 #[.agg #[.bool h, .int .i64 k, .int .i64 g]] (.tuple #[.string (fmT h k g), .int .i64 (clE k g)]) := Lib.hid fun w hg => by
  by_cases hc : clE k g = 0
  · obtain ⟨h1, h2⟩ := clE_ok hc
    have e : fmT h k g = txtC h k.toNat g.toNat := if_pos hc
    rw [e, hc]
    have := (gFormat h k.toNat g.toNat (by omega) (by omega) (by omega)).out w hg
    rwa [show ((k.toNat : Nat) : Int) = k by omega, show ((g.toNat : Nat) : Int) = g by omega] at this
  · have e : fmT h k g = ⟨#[]⟩ := if_neg hc
    rw [e]
    exact gfmt_err h k g _ (bne_iff_ne.2 hc) (gCheck h k g) w hg
theorem rFormat_any (h : Bool) (k g : Int) : Gq 15 #[.agg #[.bool h, .int .i64 k, .int .i64 g]] (.tuple #[.string (fmT h k g), .int .i64 (clE k g)]) := Lib.hid fun w hg => by
  by_cases hc : clE k g = 0
  · obtain ⟨h1, h2⟩ := clE_ok hc
    have e : fmT h k g = txtC h k.toNat g.toNat := if_pos hc
    rw [e, hc]
    cases h with
    | true =>
      have := rfmt_true k.toNat g.toNat (by omega) (by omega) (by omega) w hg
      rwa [show ((k.toNat : Nat) : Int) = k by omega, show ((g.toNat : Nat) : Int) = g by omega] at this
    | false =>
      have := rfmt_false k.toNat g.toNat (by omega) (by omega) (by omega) w hg
      rwa [show ((k.toNat : Nat) : Int) = k by omega, show ((g.toNat : Nat) : Int) = g by omega] at this
  · have e : fmT h k g = ⟨#[]⟩ := if_neg hc
    rw [e]
    exact rfmt_err h k g _ (bne_iff_ne.2 hc) (rCheck h k g) w hg
end Go.Proofs.YthifdgddegpbjaaDoor
