/- The law GradesReads. -/
import Derived.Test.YthifdgddegpbjaaDoorG18
import Derived.Test.YthifdgddegpbjaaDoorG11
namespace Go.Proofs.YthifdgddegpbjaaDoor
open Go.RowKit

set_option maxRecDepth 100000 in
set_option maxHeartbeats 8000000 in
theorem reads_long (h : Bool) (k g : Int) (s : ByteArray) (hs : 60 < s.size) (w : World) (hg : Glo w) : Calls Tryd.prog 3 #[.agg #[.bool h, .int .i64 k, .int .i64 g], .string s] w fun r w' => r = .returned (.bool true) ∧ Kb w w' := by
  have qa := gawake
  unfold Gq at qa
  have kx := (Kb.refl w).alloc (clsO 23 h k g)
  have hgx := hg.kb kx
  have hs' : (60 : Int) < (s.size : Int) := by omega
  go_enter Tryd.func3, Tryd.ntmps3
  go_wp2_with fail
  with_reducible refine (qa.out _ hgx).mono ?_
  rintro r w1 ⟨rfl, k1⟩
  go_wp2
  go_ret
  exact ⟨rfl, kx.trans k1⟩
set_option maxRecDepth 100000 in
set_option maxHeartbeats 8000000 in
theorem reads_short (h b : Bool) (k g x y e f c : Int) (s T : ByteArray) (hs : s.size ≤ 60) (w : World) (hr : GloR w)
    (q1 : Hid (∀ W, GloR W → Calls Tryd.prog 12 #[.string s] W fun r w' => r = .returned (.tuple #[.agg #[.bool b, .int .i64 x, .int .i64 y], .int .i64 e]) ∧ Kb W w'))
    (q2 : Hid (∀ W, GloR W → Calls Tryd.prog 13 #[.string s] W fun r w' => r = .returned (.tuple #[.agg #[.bool b, .int .i64 x, .int .i64 y], .int .i64 e]) ∧ Kb W w'))
    (q3 : Gq 14 #[.agg #[.bool h, .int .i64 k, .int .i64 g]] (.tuple #[.string T, .int .i64 f])) (q4 : Gq 15 #[.agg #[.bool h, .int .i64 k, .int .i64 g]] (.tuple #[.string T, .int .i64 f]))
    (q5 : Gq 16 #[.agg #[.bool h, .int .i64 k, .int .i64 g]] (.int .i64 c)) (q6 : Gq 17 #[.agg #[.bool h, .int .i64 k, .int .i64 g]] (.int .i64 c)) :
    Calls Tryd.prog 3 #[.agg #[.bool h, .int .i64 k, .int .i64 g], .string s] w fun r w' => r = .returned (.bool true) ∧ Kb w w' := by
  have qa := gawake
  unfold Gq at qa q3 q4 q5 q6
  have kx := (Kb.refl w).alloc (clsO 23 h k g)
  have hrx := hr.kb kx
  have cls := Is.made w #[.bool h, .int .i64 k, .int .i64 g] 23
  have hs' : ¬ (60 : Int) < (s.size : Int) := by omega
  go_enter Tryd.func3, Tryd.ntmps3
  go_wp2_with fail
  refine (q1.out _ hrx).mono ?_
  rintro r w1 ⟨rfl, k1⟩
  have hrx := (hrx.kb k1).kb ((Kb.refl _).alloc (.cells #[.bool b, .int .i64 x, .int .i64 y] 23 (0, 0)))
  have kx := (kx.trans k1).alloc (.cells #[.bool b, .int .i64 x, .int .i64 y] 23 (0, 0))
  have cls := (cls.kb k1).alloc (.cells #[.bool b, .int .i64 x, .int .i64 y] 23 (0, 0))
  have ca := Is.made w1 #[.bool b, .int .i64 x, .int .i64 y] 23
  go_wp2_with fail
  refine (q2.out _ hrx).mono ?_
  rintro r w2 ⟨rfl, k2⟩
  have hrx := (hrx.kb k2).kb ((Kb.refl _).alloc (.cells #[.bool b, .int .i64 x, .int .i64 y] 28 (0, 0)))
  have kx := (kx.trans k2).alloc (.cells #[.bool b, .int .i64 x, .int .i64 y] 28 (0, 0))
  have cls := (cls.kb k2).alloc (.cells #[.bool b, .int .i64 x, .int .i64 y] 28 (0, 0))
  have ca := (ca.kb k2).alloc (.cells #[.bool b, .int .i64 x, .int .i64 y] 28 (0, 0))
  have cb := Is.made w2 #[.bool b, .int .i64 x, .int .i64 y] 28
  have hgx := hrx.glo
  have x0 := cls.c (i := 0) rfl
  have x1 := cls.c (i := 1) rfl
  have x2 := cls.c (i := 2) rfl
  go_wp2_with fail
  with_reducible refine (q3.out _ hgx).mono ?_
  rintro r w3 ⟨rfl, k3⟩
  have hgx := hgx.kb k3
  have kx := kx.trans k3
  have cls := cls.kb k3
  have ca := ca.kb k3
  have cb := cb.kb k3
  have x0 := cls.c (i := 0) rfl
  have x1 := cls.c (i := 1) rfl
  have x2 := cls.c (i := 2) rfl
  go_wp2_with fail
  with_reducible refine (q4.out _ hgx).mono ?_
  rintro r w4 ⟨rfl, k4⟩
  have hgx := (hgx.kb k4).kb (Kb.refl _).drew
  have kx := (kx.trans k4).drew
  have cls := cls.kb k4
  have ca := ca.kb k4
  have cb := cb.kb k4
  have x0 := cls.c (i := 0) rfl
  have x1 := cls.c (i := 1) rfl
  have x2 := cls.c (i := 2) rfl
  have a0 := ca.c (i := 0) rfl
  have a1 := ca.c (i := 1) rfl
  have a2 := ca.c (i := 2) rfl
  have b0 := cb.c (i := 0) rfl
  have b1 := cb.c (i := 1) rfl
  have b2 := cb.c (i := 2) rfl
  go_wp2_with fail
  go_region_held3 (fun w' => w'.cell? ⟨w.heap.size, 0, none⟩ = some (.bool h) ∧ w'.cell? ⟨w.heap.size, 1, none⟩ = some (.int .i64 k) ∧ w'.cell? ⟨w.heap.size, 2, none⟩ = some (.int .i64 g) ∧ w'.cell? ⟨w1.heap.size, 0, none⟩ = some (.bool b) ∧ w'.cell? ⟨w1.heap.size, 1, none⟩ = some (.int .i64 x) ∧ w'.cell? ⟨w1.heap.size, 2, none⟩ = some (.int .i64 y) ∧ w'.cell? ⟨w2.heap.size, 0, none⟩ = some (.bool b) ∧ w'.cell? ⟨w2.heap.size, 1, none⟩ = some (.int .i64 x) ∧ w'.cell? ⟨w2.heap.size, 2, none⟩ = some (.int .i64 y))
    (first
      | exact ⟨cls7.c (i := 0) rfl, cls7.c (i := 1) rfl, cls7.c (i := 2) rfl, ca7.c (i := 0) rfl, ca7.c (i := 1) rfl, ca7.c (i := 2) rfl, cb7.c (i := 0) rfl, cb7.c (i := 1) rfl, cb7.c (i := 2) rfl⟩
      | exact ⟨cls6.c (i := 0) rfl, cls6.c (i := 1) rfl, cls6.c (i := 2) rfl, ca6.c (i := 0) rfl, ca6.c (i := 1) rfl, ca6.c (i := 2) rfl, cb6.c (i := 0) rfl, cb6.c (i := 1) rfl, cb6.c (i := 2) rfl⟩
      | exact ⟨cls5.c (i := 0) rfl, cls5.c (i := 1) rfl, cls5.c (i := 2) rfl, ca5.c (i := 0) rfl, ca5.c (i := 1) rfl, ca5.c (i := 2) rfl, cb5.c (i := 0) rfl, cb5.c (i := 1) rfl, cb5.c (i := 2) rfl⟩
      | exact ⟨cls.c (i := 0) rfl, cls.c (i := 1) rfl, cls.c (i := 2) rfl, ca.c (i := 0) rfl, ca.c (i := 1) rfl, ca.c (i := 2) rfl, cb.c (i := 0) rfl, cb.c (i := 1) rfl, cb.c (i := 2) rfl⟩
      | go_keep)
    (first
      | (go_at_call 11; with_reducible refine (qa.out _ hgx).mono ?_; rintro r w5 ⟨rfl, k5⟩; have m5 := Kb.trans (Kb.drew (Kb.refl w4)) k5; have cls5 := Is.kb cls m5; have ca5 := Is.kb ca m5; have cb5 := Is.kb cb m5; have hg5 := Glo.kb hgx k5; have kx5 := Kb.trans kx k5)
      | (go_at_call 16; with_reducible refine (q5.out _ hg5).mono ?_; rintro r w6 ⟨rfl, k6⟩; have cls6 := Is.kb cls5 k6; have ca6 := Is.kb ca5 k6; have cb6 := Is.kb cb5 k6; have hg6 := Glo.kb hg5 k6; have kx6 := Kb.trans kx5 k6)
      | (go_at_call 17; with_reducible refine (q6.out _ hg6).mono ?_; rintro r w7 ⟨rfl, k7⟩; have cls7 := Is.kb cls6 k7; have ca7 := Is.kb ca6 k7; have cb7 := Is.kb cb6 k7; have kx7 := Kb.trans kx6 k7))
  all_goals go_wp2
  all_goals go_ret
  all_goals exact ⟨rfl, kx7⟩
theorem reads_true (h : Bool) (k g : Int) (s : ByteArray) (w : World) (hr : GloR w) : Calls Tryd.prog 3 #[.agg #[.bool h, .int .i64 k, .int .i64 g], .string s] w fun r w' => r = .returned (.bool true) ∧ Kb w w' := by
  by_cases hs : s.size ≤ 60
  · exact reads_short h _ k g _ _ _ _ _ s _ hs w hr (Lib.hid fun W h => gParse_any s hs W h) (Lib.hid fun W h => rParse_any s hs W h.glo) (gFormat_any h k g) (rFormat_any h k g) (gCheck h k g) (rCheck h k g)
  · exact reads_long h k g s (by omega) w hr.glo
end Go.Proofs.YthifdgddegpbjaaDoor
