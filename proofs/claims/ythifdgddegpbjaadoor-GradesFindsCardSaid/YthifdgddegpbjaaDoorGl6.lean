/- The law GradesFinds. -/
import Derived.Test.YthifdgddegpbjaaDoorG24
import Derived.Test.YthifdgddegpbjaaDoorGl3
namespace Go.Proofs.YthifdgddegpbjaaDoor
open Go.RowKit

theorem owns_sl {W : World} {base : Nat} {T : TypeId} {v : Value} {l : List CL} (h : W.ownsRow base T 3 v l.length (flatC l)) : ∃ sp g cap, v = .slice sp l.length cap ∧ (0 < l.length → sp = some ⟨g, 0, none⟩) ∧ ClsAt W g l := by
  by_cases hp : 0 < l.length
  · obtain ⟨g, cap, rfl, _, _⟩ := h.form hp
    exact ⟨_, g, cap, rfl, fun _ => rfl, owns_at h⟩
  · rcases h.2 with ⟨rfl, e⟩ | ⟨g, cap, cur, rfl, hb, hg, hr⟩
    · exact ⟨none, 0, 0, by rw [e], fun h => absurd h hp, fun k hk => absurd hk (by omega)⟩
    · exact ⟨_, g, cap, rfl, fun _ => rfl, fun k hk => absurd hk (by omega)⟩
/-- what Find answers: the classes L, where they lie; and the error -/
def FindQ (f : Nat) (z lo hi E : Int) (L : List CL) : Prop := Hid (∀ W, Glo W → Calls Tryd.prog f #[.int .i64 z, .agg #[.int .i64 lo, .int .i64 hi]] W fun r w' => (∃ sp g cap, r = .returned (.tuple #[.slice sp L.length cap, .int .i64 E]) ∧ (0 < L.length → sp = some ⟨g, 0, none⟩) ∧ ClsAt w' g L) ∧ Kb W w')
theorem find_both (z lo hi : Int) : ∃ E L, L.length ≤ 160 ∧ FindQ 26 z lo hi E L ∧ FindQ 27 z lo hi E L := by
  by_cases hz : 1 ≤ z ∧ z ≤ 100000
  · have e : szE z = 0 := if_pos hz
    refine ⟨0, hits z lo hi (upto cl 160), by have := hits_le z lo hi (upto cl 160); rw [upto_length] at this; exact this, Lib.hid fun W hg => ?_, Lib.hid fun W hg => ?_⟩
    · have q := gcheckSize z
      rw [e] at q
      refine (gFind_ok z lo hi hz.2 W hg q).mono fun r w' ⟨⟨v, hr, ho⟩, k⟩ => ⟨?_, k⟩
      obtain ⟨sp, g, cap, rfl, h1, h2⟩ := owns_sl ho
      exact ⟨sp, g, cap, hr, h1, h2⟩
    · have q := rSize z
      rw [e] at q
      refine (rFind_ok z lo hi W hg q).mono fun r w' ⟨⟨v, hr, ho⟩, k⟩ => ⟨?_, k⟩
      obtain ⟨sp, g, cap, rfl, h1, h2⟩ := owns_sl ho
      exact ⟨sp, g, cap, hr, h1, h2⟩
  · have e : szE z = 2 := if_neg hz
    refine ⟨2, [], by simp, Lib.hid fun W hg => ?_, Lib.hid fun W hg => ?_⟩
    · have q := gcheckSize z
      rw [e] at q
      exact (gFind_no z lo hi 2 rfl W hg q).mono fun r w' ⟨hr, k⟩ => ⟨⟨none, 0, 0, hr, fun h => absurd h (by simp), fun k hk => absurd hk (by simp)⟩, k⟩
    · have q := rSize z
      rw [e] at q
      exact (rFind_no z lo hi 2 rfl W hg q).mono fun r w' ⟨hr, k⟩ => ⟨⟨none, 0, 0, hr, fun h => absurd h (by simp), fun k hk => absurd hk (by simp)⟩, k⟩
set_option maxRecDepth 100000 in
set_option maxHeartbeats 8000000 in
theorem finds_at (z lo hi v E c f : Int) (L : List CL) (hn : L.length ≤ 160) (q1 : FindQ 26 z lo hi E L) (q2 : FindQ 27 z lo hi E L)
    (q3 : Gq 28 #[.int .i64 z, .int .i64 v] (.tuple #[.int .i64 c, .int .i64 f])) (q4 : Gq 29 #[.int .i64 z, .int .i64 v] (.tuple #[.int .i64 c, .int .i64 f])) (w : World) (hg : Glo w) :
    Calls Tryd.prog 6 #[.int .i64 z, .agg #[.int .i64 lo, .int .i64 hi], .int .i64 v] w fun r w' => r = .returned (.bool true) ∧ Kb w w' := by
  have qa := gawake
  unfold Gq at q3 q4 qa
  unfold FindQ at q1 q2
  have kx := (Kb.refl w).alloc (.cells #[.int .i64 lo, .int .i64 hi] 46 (0, 0))
  have hgx := hg.kb kx
  have lim := Is.made w #[.int .i64 lo, .int .i64 hi] 46
  have limc0 := lim.c (i := 0) rfl
  have limc1 := lim.c (i := 1) rfl
  go_enter Tryd.func6, Tryd.ntmps6
  go_wp2_with fail
  with_reducible refine (q1.out _ hgx).mono ?_
  rintro r w1 ⟨⟨sa, ga, ca, rfl, ha, hA⟩, k1⟩
  have hgx := hgx.kb k1
  have kx := kx.trans k1
  have lim := lim.kb k1
  have limc0 := lim.c (i := 0) rfl
  have limc1 := lim.c (i := 1) rfl
  go_wp2_with fail
  with_reducible refine (q2.out _ hgx).mono ?_
  rintro r w2 ⟨⟨sb, gb, cb, rfl, hb, hB⟩, k2⟩
  have hgx := hgx.kb k2
  have kx := kx.trans k2
  have lim := lim.kb k2
  have hA := hA.kb k2
  have limc0 := lim.c (i := 0) rfl
  have limc1 := lim.c (i := 1) rfl
  go_wp2_with fail
  with_reducible refine (q3.out _ hgx).mono ?_
  rintro r w3 ⟨rfl, k3⟩
  have hgx := hgx.kb k3
  have kx := kx.trans k3
  have lim := lim.kb k3
  have hA := hA.kb k3
  have hB := hB.kb k3
  have limc0 := lim.c (i := 0) rfl
  have limc1 := lim.c (i := 1) rfl
  go_wp2_with fail
  with_reducible refine (q4.out _ hgx).mono ?_
  rintro r w4 ⟨rfl, k4⟩
  have hgx := hgx.kb k4
  have kx := kx.trans k4
  have lim := lim.kb k4
  have hA := hA.kb k4
  have hB := hB.kb k4
  have limc0 := lim.c (i := 0) rfl
  have limc1 := lim.c (i := 1) rfl
  go_wp2_with fail
  with_reducible refine (qa.out _ hgx).mono ?_
  rintro r w5 ⟨rfl, k5⟩
  have hgx := hgx.kb k5
  have kx := kx.trans k5
  have lim := lim.kb k5
  have hA := hA.kb k5
  have hB := hB.kb k5
  have limc0 := lim.c (i := 0) rfl
  have limc1 := lim.c (i := 1) rfl
  go_wp2_with fail
  with_reducible refine ((Lib.hid (lown ga ca sa L ha hn)).out _ hA).mono ?_
  rintro r w6 ⟨⟨v1, rfl, ho⟩, k6⟩
  have hgx := hgx.kb k6
  have kx := kx.trans k6
  have lim := lim.kb k6
  have hA := hA.kb k6
  have hB := hB.kb k6
  obtain ⟨sc, gc, cc, rfl, hc0, hC⟩ := owns_sl ho
  have limc0 := lim.c (i := 0) rfl
  have limc1 := lim.c (i := 1) rfl
  go_wp2_with fail
  with_reducible refine ((Lib.hid (rSame gc cc gb cb sc sb L hc0 hb hn)).out _ hC hB).mono ?_
  rintro r w7 ⟨rfl, k7⟩
  have hgx := hgx.kb k7
  have kx := kx.trans k7
  have lim := lim.kb k7
  have hA := hA.kb k7
  have hB := hB.kb k7
  have hC := hC.kb k7
  have limc0 := lim.c (i := 0) rfl
  have limc1 := lim.c (i := 1) rfl
  go_wp2
  go_ret
  exact ⟨rfl, kx⟩
theorem finds_true (z lo hi v : Int) (w : World) (hg : Glo w) : Calls Tryd.prog 6 #[.int .i64 z, .agg #[.int .i64 lo, .int .i64 hi], .int .i64 v] w fun r w' => r = .returned (.bool true) ∧ Kb w w' := by
  obtain ⟨E, L, hn, q1, q2⟩ := find_both z lo hi
  exact finds_at z lo hi v E _ _ L hn q1 q2 (gCoarsest z v) (rCoarsest z v) w hg
end Go.Proofs.YthifdgddegpbjaaDoor
