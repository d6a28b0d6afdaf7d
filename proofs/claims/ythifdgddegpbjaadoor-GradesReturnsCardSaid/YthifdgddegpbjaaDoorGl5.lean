/- The law GradesReturns. -/
import Derived.Test.YthifdgddegpbjaaDoorG22
import Derived.Test.YthifdgddegpbjaaDoorGl3
import Derived.Test.YthifdgddegpbjaaDoorG18
namespace Go.Proofs.YthifdgddegpbjaaDoor
open Go.RowKit

set_option maxRecDepth 100000 in
set_option maxHeartbeats 8000000 in
theorem returns_out (z k g : Int) (h : Bool) (q1 : Gq 32 #[.int .i64 z, .agg #[.bool h, .int .i64 k, .int .i64 g]] (.bool false)) (w : World) (hg : Glo w) : Calls Tryd.prog 9 #[.int .i64 z, .agg #[.bool h, .int .i64 k, .int .i64 g]] w fun r w' => r = .returned (.bool true) ∧ Kb w w' := by
  have qa := gawake
  unfold Gq at q1 qa
  have kx := (Kb.refl w).alloc (clsO 23 h k g)
  have hgx := hg.kb kx
  have cls := Is.made w #[.bool h, .int .i64 k, .int .i64 g] 23
  have clsc0 := cls.c (i := 0) rfl
  have clsc1 := cls.c (i := 1) rfl
  have clsc2 := cls.c (i := 2) rfl
  go_enter Tryd.func9, Tryd.ntmps9
  go_wp2_with fail
  with_reducible refine (q1.out _ hgx).mono ?_
  rintro r w1 ⟨rfl, k1⟩
  have hgx := hgx.kb k1
  have kx := kx.trans k1
  have cls := cls.kb k1
  have clsc0 := cls.c (i := 0) rfl
  have clsc1 := cls.c (i := 1) rfl
  have clsc2 := cls.c (i := 2) rfl
  go_wp2_with fail
  with_reducible refine (qa.out _ hgx).mono ?_
  rintro r w2 ⟨rfl, k2⟩
  have hgx := hgx.kb k2
  have kx := kx.trans k2
  have cls := cls.kb k2
  have clsc0 := cls.c (i := 0) rfl
  have clsc1 := cls.c (i := 1) rfl
  have clsc2 := cls.c (i := 2) rfl
  go_wp2
  go_ret
  exact ⟨rfl, kx⟩
set_option maxRecDepth 100000 in
set_option maxHeartbeats 8000000 in
theorem returns_in (z lo hi : Int) (x : CL) (s : ByteArray) (q1 : Gq 32 #[.int .i64 z, .agg #[.bool x.1.1, .int .i64 (x.1.2.1 : Int), .int .i64 (5 + (x.1.2.2 : Int))]] (.bool true)) (q2 : Gq 14 #[.agg #[.bool x.1.1, .int .i64 (x.1.2.1 : Int), .int .i64 (5 + (x.1.2.2 : Int))]] (.tuple #[.string s, .int .i64 0])) (q3 : Gq 12 #[.string s] (.tuple #[.agg #[.bool x.1.1, .int .i64 (x.1.2.1 : Int), .int .i64 (5 + (x.1.2.2 : Int))], .int .i64 0])) (q4 : Gq 22 #[.int .i64 z, .agg #[.bool x.1.1, .int .i64 (x.1.2.1 : Int), .int .i64 (5 + (x.1.2.2 : Int))]] (.tuple #[.agg #[.int .i64 lo, .int .i64 hi], .int .i64 0]))
    (q5 : Hid (∀ W, Glo W → Calls Tryd.prog 26 #[.int .i64 z, .agg #[.int .i64 lo, .int .i64 hi]] W fun r w' => (∃ g cap, ∃ l : List CL, r = .returned (.tuple #[.slice (some ⟨g, 0, none⟩) l.length cap, .int .i64 0]) ∧ ClsAt w' g l ∧ l.length ≤ 160 ∧ x ∈ l) ∧ Kb W w')) (w : World) (hg : Glo w) :
    Calls Tryd.prog 9 #[.int .i64 z, .agg #[.bool x.1.1, .int .i64 (x.1.2.1 : Int), .int .i64 (5 + (x.1.2.2 : Int))]] w fun r w' => r = .returned (.bool true) ∧ Kb w w' := by
  have qa := gawake
  unfold Gq at q1 q2 q3 q4 qa
  have q6 : Hid (∀ (g cap : Nat) (l : List CL), l.length ≤ 160 → x ∈ l → ∀ W, ClsAt W g l → Calls Tryd.prog 33 #[.slice (some ⟨g, 0, none⟩) l.length cap, .agg #[.bool x.1.1, .int .i64 (x.1.2.1 : Int), .int .i64 (5 + (x.1.2.2 : Int))]] W fun r w' => r = .returned (.bool true) ∧ Kb W w') := Lib.hid fun g cap l hn hx W hc => gContains g cap l x hn W hc hx
  have kx := (Kb.refl w).alloc (clsO 23 x.1.1 (x.1.2.1 : Int) (5 + (x.1.2.2 : Int)))
  have hgx := hg.kb kx
  have cls := Is.made w #[.bool x.1.1, .int .i64 (x.1.2.1 : Int), .int .i64 (5 + (x.1.2.2 : Int))] 23
  have clsc0 := cls.c (i := 0) rfl
  have clsc1 := cls.c (i := 1) rfl
  have clsc2 := cls.c (i := 2) rfl
  go_enter Tryd.func9, Tryd.ntmps9
  go_wp2_with fail
  with_reducible refine (q1.out _ hgx).mono ?_
  rintro r w1 ⟨rfl, k1⟩
  have hgx := hgx.kb k1
  have kx := kx.trans k1
  have cls := cls.kb k1
  have clsc0 := cls.c (i := 0) rfl
  have clsc1 := cls.c (i := 1) rfl
  have clsc2 := cls.c (i := 2) rfl
  go_wp2_with fail
  with_reducible refine (q2.out _ hgx).mono ?_
  rintro r w2 ⟨rfl, k2⟩
  have hgx := hgx.kb k2
  have kx := kx.trans k2
  have cls := cls.kb k2
  have clsc0 := cls.c (i := 0) rfl
  have clsc1 := cls.c (i := 1) rfl
  have clsc2 := cls.c (i := 2) rfl
  go_wp2_with fail
  with_reducible refine (q3.out _ hgx).mono ?_
  rintro r w3 ⟨rfl, k3⟩
  have hgx := hgx.kb k3
  have kx := kx.trans k3
  have cls := cls.kb k3
  have clsc0 := cls.c (i := 0) rfl
  have clsc1 := cls.c (i := 1) rfl
  have clsc2 := cls.c (i := 2) rfl
  have hgx := hgx.kb ((Kb.refl _).alloc (.cells #[.bool x.1.1, .int .i64 (x.1.2.1 : Int), .int .i64 (5 + (x.1.2.2 : Int))] 23 (0, 0)))
  have kx := kx.alloc (.cells #[.bool x.1.1, .int .i64 (x.1.2.1 : Int), .int .i64 (5 + (x.1.2.2 : Int))] 23 (0, 0))
  have cls := cls.alloc (.cells #[.bool x.1.1, .int .i64 (x.1.2.1 : Int), .int .i64 (5 + (x.1.2.2 : Int))] 23 (0, 0))
  have bck := Is.made w3 #[.bool x.1.1, .int .i64 (x.1.2.1 : Int), .int .i64 (5 + (x.1.2.2 : Int))] 23
  have clsc0 := cls.c (i := 0) rfl
  have clsc1 := cls.c (i := 1) rfl
  have clsc2 := cls.c (i := 2) rfl
  have bckc0 := bck.c (i := 0) rfl
  have bckc1 := bck.c (i := 1) rfl
  have bckc2 := bck.c (i := 2) rfl
  go_wp2_with fail
  with_reducible refine (q4.out _ hgx).mono ?_
  rintro r w4 ⟨rfl, k4⟩
  have hgx := hgx.kb k4
  have kx := kx.trans k4
  have cls := cls.kb k4
  have bck := bck.kb k4
  have clsc0 := cls.c (i := 0) rfl
  have clsc1 := cls.c (i := 1) rfl
  have clsc2 := cls.c (i := 2) rfl
  have bckc0 := bck.c (i := 0) rfl
  have bckc1 := bck.c (i := 1) rfl
  have bckc2 := bck.c (i := 2) rfl
  have hgx := hgx.kb ((Kb.refl _).alloc (.cells #[.int .i64 lo, .int .i64 hi] 46 (0, 0)))
  have kx := kx.alloc (.cells #[.int .i64 lo, .int .i64 hi] 46 (0, 0))
  have cls := cls.alloc (.cells #[.int .i64 lo, .int .i64 hi] 46 (0, 0))
  have bck := bck.alloc (.cells #[.int .i64 lo, .int .i64 hi] 46 (0, 0))
  have lim := Is.made w4 #[.int .i64 lo, .int .i64 hi] 46
  have clsc0 := cls.c (i := 0) rfl
  have clsc1 := cls.c (i := 1) rfl
  have clsc2 := cls.c (i := 2) rfl
  have bckc0 := bck.c (i := 0) rfl
  have bckc1 := bck.c (i := 1) rfl
  have bckc2 := bck.c (i := 2) rfl
  have limc0 := lim.c (i := 0) rfl
  have limc1 := lim.c (i := 1) rfl
  go_wp2_with fail
  with_reducible refine (q5.out _ hgx).mono ?_
  rintro r w5 ⟨⟨g, cap, l, rfl, hcl, hn, hx⟩, k5⟩
  have hgx := hgx.kb k5
  have kx := kx.trans k5
  have cls := cls.kb k5
  have bck := bck.kb k5
  have lim := lim.kb k5
  have clsc0 := cls.c (i := 0) rfl
  have clsc1 := cls.c (i := 1) rfl
  have clsc2 := cls.c (i := 2) rfl
  have bckc0 := bck.c (i := 0) rfl
  have bckc1 := bck.c (i := 1) rfl
  have bckc2 := bck.c (i := 2) rfl
  have limc0 := lim.c (i := 0) rfl
  have limc1 := lim.c (i := 1) rfl
  go_wp2_with fail
  with_reducible refine ((Lib.hid (q6.out g cap l hn hx)).out _ hcl).mono ?_
  rintro r w6 ⟨rfl, k6⟩
  have hgx := hgx.kb k6
  have kx := kx.trans k6
  have cls := cls.kb k6
  have bck := bck.kb k6
  have lim := lim.kb k6
  have clsc0 := cls.c (i := 0) rfl
  have clsc1 := cls.c (i := 1) rfl
  have clsc2 := cls.c (i := 2) rfl
  have bckc0 := bck.c (i := 0) rfl
  have bckc1 := bck.c (i := 1) rfl
  have bckc2 := bck.c (i := 2) rfl
  have limc0 := lim.c (i := 0) rfl
  have limc1 := lim.c (i := 1) rfl
  go_wp2_with fail
  with_reducible refine (qa.out _ hgx).mono ?_
  rintro r w7 ⟨rfl, k7⟩
  have hgx := hgx.kb k7
  have kx := kx.trans k7
  have cls := cls.kb k7
  have bck := bck.kb k7
  have lim := lim.kb k7
  have clsc0 := cls.c (i := 0) rfl
  have clsc1 := cls.c (i := 1) rfl
  have clsc2 := cls.c (i := 2) rfl
  have bckc0 := bck.c (i := 0) rfl
  have bckc1 := bck.c (i := 1) rfl
  have bckc2 := bck.c (i := 2) rfl
  have limc0 := lim.c (i := 0) rfl
  have limc1 := lim.c (i := 1) rfl
  go_wp2
  go_ret
  exact ⟨rfl, kx⟩
theorem returns_true (z k g : Int) (h : Bool) (w : World) (hg : Glo w) : Calls Tryd.prog 9 #[.int .i64 z, .agg #[.bool h, .int .i64 k, .int .i64 g]] w fun r w' => r = .returned (.bool true) ∧ Kb w w' := by
  have q1 := gright z k g h
  cases hr : rtB z k g with
  | false => rw [hr] at q1; exact returns_out z k g h q1 w hg
  | true =>
    rw [hr] at q1
    unfold rtB at hr
    simp only [Bool.and_eq_true, decide_eq_true_eq] at hr
    obtain ⟨hz0, hc⟩ := hr
    have hz : 1 ≤ z ∧ z ≤ 100000 := by
      by_cases hz : 1 ≤ z ∧ z ≤ 100000
      · exact hz
      · have : szE z = 2 := if_neg hz
        omega
    obtain ⟨h1, h2⟩ := clE_ok hc
    obtain ⟨j, rfl⟩ : ∃ j : Nat, k = (j : Int) := ⟨k.toNat, by omega⟩
    obtain ⟨d, rfl⟩ : ∃ d : Nat, g = 5 + (d : Int) := ⟨(g - 5).toNat, by omega⟩
    have hj : j < 10 := by omega
    have hd : d < 8 := by omega
    have q2 := gFormat h j (5 + d) hj (by omega) (by omega)
    have q3 := gParse h j (5 + d) hj (by omega) (by omega)
    have q4 := gDeviations z j (5 + (d : Int)) h
    have e0 : dvE z j (5 + (d : Int)) = 0 := (if_pos hz).trans hc
    rw [e0, show dvL z h j (5 + (d : Int)) = devLo z h j (5 + (d : Int)) from if_pos e0, show dvH z h j (5 + (d : Int)) = devHi z h j (5 + (d : Int)) from if_pos e0] at q4
    rw [show (((5 + d : Nat)) : Int) = 5 + (d : Int) by omega] at q2 q3
    exact returns_in z _ _ ⟨(h, j, d), hj, hd⟩ _ q1 q2 q3 q4 (gFindC z hz.1 hz.2 ⟨(h, j, d), hj, hd⟩ _ _ rfl rfl) w hg
end Go.Proofs.YthifdgddegpbjaaDoor
