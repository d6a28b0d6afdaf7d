/- The reference of package grades: Deviations and Limits. -/
import Derived.Test.YtmjkiccoimhfkaaDoorG8
import Derived.Test.YtmjkiccoimhfkaaDoorG9a
namespace Go.Proofs.YtmjkiccoimhfkaaDoor
open Go.RowKit

set_option maxRecDepth 100000 in
set_option maxHeartbeats 4000000 in
theorem rDeviations_sz (z k g : Int) (h : Bool) (w : World) (hg : Glo w) (q1 : Gq 14 #[.int .i64 z] (.int .i64 2)) :
    Calls Tryd.prog 46 #[.int .i64 z, .agg #[.bool h, .int .i64 k, .int .i64 g]] w fun r w' => r = .returned (.tuple #[.agg #[.int .i64 0, .int .i64 0], .int .i64 2]) ∧ Kb w w' := by
  unfold Gq at q1
  have cls := (Is.made w #[.bool h, .int .i64 k, .int .i64 g] 55).alloc lim0
  have lim := Is.made (w.alloc (clsO 55 h k g)) #[.int .i64 0, .int .i64 0] 27
  rw [World.size_alloc] at lim
  have kk := ((Kb.refl w).alloc (clsO 55 h k g)).alloc lim0
  have hg2 := hg.kb kk
  go_enter Tryd.func46, Tryd.ntmps46
  go_wp2_with fail
  with_reducible refine (q1.out _ hg2).mono ?_
  rintro r w1 ⟨rfl, k1⟩
  have cls := cls.kb k1
  have lim := lim.kb k1
  have kk := kk.trans k1
  have hg2 := hg2.kb k1
  have c0 := cls.c (i := 0) rfl
  have c1 := cls.c (i := 1) rfl
  have c2 := cls.c (i := 2) rfl
  have m0 := lim.c (i := 0) rfl
  have m1 := lim.c (i := 1) rfl
  have f0 := lim.f 0
  have f1 := lim.f 1
  go_wp2
  refine ret_row2 Tryd.results46 rfl rfl rfl ((lim.set 0 _).set 1 _) Tryd.underlying27 rfl (by kernel_rfl) ?_
  exact ⟨rfl, (kk.setCell (Nat.le_succ _) _).setCell (Nat.le_succ _) _⟩
set_option maxRecDepth 100000 in
set_option maxHeartbeats 4000000 in
theorem rDeviations_cl (z k g e : Int) (h : Bool) (w : World) (hg : Glo w) (he : (e != 0) = true) (q1 : Gq 14 #[.int .i64 z] (.int .i64 0)) (q2 : Gq 36 #[.agg #[.bool h, .int .i64 k, .int .i64 g]] (.int .i64 e)) :
    Calls Tryd.prog 46 #[.int .i64 z, .agg #[.bool h, .int .i64 k, .int .i64 g]] w fun r w' => r = .returned (.tuple #[.agg #[.int .i64 0, .int .i64 0], .int .i64 e]) ∧ Kb w w' := by
  unfold Gq at q1
  unfold Gq at q2
  have cls := (Is.made w #[.bool h, .int .i64 k, .int .i64 g] 55).alloc lim0
  have lim := Is.made (w.alloc (clsO 55 h k g)) #[.int .i64 0, .int .i64 0] 27
  rw [World.size_alloc] at lim
  have kk := ((Kb.refl w).alloc (clsO 55 h k g)).alloc lim0
  have hg2 := hg.kb kk
  go_enter Tryd.func46, Tryd.ntmps46
  go_wp2_with fail
  with_reducible refine (q1.out _ hg2).mono ?_
  rintro r w1 ⟨rfl, k1⟩
  have cls := cls.kb k1
  have lim := lim.kb k1
  have kk := kk.trans k1
  have hg2 := hg2.kb k1
  have c0 := cls.c (i := 0) rfl
  have c1 := cls.c (i := 1) rfl
  have c2 := cls.c (i := 2) rfl
  have m0 := lim.c (i := 0) rfl
  have m1 := lim.c (i := 1) rfl
  have f0 := lim.f 0
  have f1 := lim.f 1
  go_wp2_with fail
  with_reducible refine (q2.out _ hg2).mono ?_
  rintro r w2 ⟨rfl, k2⟩
  have cls := cls.kb k2
  have lim := lim.kb k2
  have kk := kk.trans k2
  have hg2 := hg2.kb k2
  have c0 := cls.c (i := 0) rfl
  have c1 := cls.c (i := 1) rfl
  have c2 := cls.c (i := 2) rfl
  have m0 := lim.c (i := 0) rfl
  have m1 := lim.c (i := 1) rfl
  have f0 := lim.f 0
  have f1 := lim.f 1
  go_wp2
  refine ret_row2 Tryd.results46 rfl rfl rfl ((lim.set 0 _).set 1 _) Tryd.underlying27 rfl (by kernel_rfl) ?_
  exact ⟨rfl, (kk.setCell (Nat.le_succ _) _).setCell (Nat.le_succ _) _⟩
set_option maxRecDepth 100000 in
set_option maxHeartbeats 4000000 in
theorem rDeviations_ok (z k g lo hi : Int) (h : Bool) (w : World) (hg : Glo w) (q1 : Gq 14 #[.int .i64 z] (.int .i64 0)) (q2 : Gq 36 #[.agg #[.bool h, .int .i64 k, .int .i64 g]] (.int .i64 0)) (q3 : Gq 53 #[.int .i64 z, .agg #[.bool h, .int .i64 k, .int .i64 g]] (.agg #[.int .i64 lo, .int .i64 hi])) :
    Calls Tryd.prog 46 #[.int .i64 z, .agg #[.bool h, .int .i64 k, .int .i64 g]] w fun r w' => r = .returned (.tuple #[.agg #[.int .i64 lo, .int .i64 hi], .int .i64 0]) ∧ Kb w w' := by
  unfold Gq at q1
  unfold Gq at q2 q3
  have cls := (Is.made w #[.bool h, .int .i64 k, .int .i64 g] 55).alloc lim0
  have lim := Is.made (w.alloc (clsO 55 h k g)) #[.int .i64 0, .int .i64 0] 27
  rw [World.size_alloc] at lim
  have kk := ((Kb.refl w).alloc (clsO 55 h k g)).alloc lim0
  have hg2 := hg.kb kk
  go_enter Tryd.func46, Tryd.ntmps46
  go_wp2_with fail
  with_reducible refine (q1.out _ hg2).mono ?_
  rintro r w1 ⟨rfl, k1⟩
  have cls := cls.kb k1
  have lim := lim.kb k1
  have kk := kk.trans k1
  have hg2 := hg2.kb k1
  have c0 := cls.c (i := 0) rfl
  have c1 := cls.c (i := 1) rfl
  have c2 := cls.c (i := 2) rfl
  have m0 := lim.c (i := 0) rfl
  have m1 := lim.c (i := 1) rfl
  have f0 := lim.f 0
  have f1 := lim.f 1
  go_wp2_with fail
  with_reducible refine (q2.out _ hg2).mono ?_
  rintro r w2 ⟨rfl, k2⟩
  have cls := cls.kb k2
  have lim := lim.kb k2
  have kk := kk.trans k2
  have hg2 := hg2.kb k2
  have c0 := cls.c (i := 0) rfl
  have c1 := cls.c (i := 1) rfl
  have c2 := cls.c (i := 2) rfl
  have m0 := lim.c (i := 0) rfl
  have m1 := lim.c (i := 1) rfl
  have f0 := lim.f 0
  have f1 := lim.f 1
  go_wp2_with fail
  with_reducible refine (q3.out _ hg2).mono ?_
  rintro r w3 ⟨rfl, k3⟩
  have lim := lim.kb k3
  have kk := kk.trans k3
  have m0 := lim.c (i := 0) rfl
  have m1 := lim.c (i := 1) rfl
  have f0 := lim.f 0
  have f1 := lim.f 1
  go_wp2
  refine ret_row2 Tryd.results46 rfl rfl rfl ((lim.set 0 _).set 1 _) Tryd.underlying27 rfl (by kernel_rfl) ?_
  exact ⟨rfl, (kk.setCell (Nat.le_succ _) _).setCell (Nat.le_succ _) _⟩
theorem rDeviations (z k g : Int) (h : Bool) : Gq 46 #[.int .i64 z, .agg #[.bool h, .int .i64 k, .int .i64 g]] (.tuple #[.agg #[.int .i64 (dvL z h k g), .int .i64 (dvH z h k g)], .int .i64 (dvE z k g)]) := Lib.hid fun w hg => by
  have q1 := rSize z
  have q2 := r15Check h k g
  by_cases hz : 1 ≤ z ∧ z ≤ 100000
  · have e1 : szE z = 0 := if_pos hz
    have e2 : dvE z k g = clE k g := if_pos hz
    rw [e1] at q1
    by_cases hc : clE k g = 0
    · rw [hc] at q2 e2
      obtain ⟨h1, h2, h3⟩ := clE_ok hc
      have e3 : dvL z h k g = devLo z h k.toNat g := if_pos e2
      have e4 : dvH z h k g = devHi z h k.toNat g := if_pos e2
      have q3 := rAway z g h k.toNat h2 h3 (by omega)
      rw [show (k.toNat : Int) = k by omega] at q3
      rw [e2, e3, e4]
      exact rDeviations_ok z k g _ _ h w hg q1 q2 q3
    · have e3 : dvL z h k g = 0 := if_neg (by omega)
      have e4 : dvH z h k g = 0 := if_neg (by omega)
      rw [e2, e3, e4]
      exact rDeviations_cl z k g _ h w hg (bne_iff_ne.2 hc) q1 q2
  · have e1 : szE z = 2 := if_neg hz
    have e2 : dvE z k g = 2 := if_neg hz
    have e3 : dvL z h k g = 0 := if_neg (by omega)
    have e4 : dvH z h k g = 0 := if_neg (by omega)
    rw [e1] at q1
    rw [e2, e3, e4]
    exact rDeviations_sz z k g h w hg q1
set_option maxRecDepth 100000 in
set_option maxHeartbeats 4000000 in
theorem rLimits_no (z k g e : Int) (h : Bool) (w : World) (hg : Glo w) (he : (e != 0) = true) (q : Gq 46 #[.int .i64 z, .agg #[.bool h, .int .i64 k, .int .i64 g]] (.tuple #[.agg #[.int .i64 0, .int .i64 0], .int .i64 e])) :
    Calls Tryd.prog 37 #[.int .i64 z, .agg #[.bool h, .int .i64 k, .int .i64 g]] w fun r w' => r = .returned (.tuple #[.agg #[.int .i64 0, .int .i64 0], .int .i64 e]) ∧ Kb w w' := by
  unfold Gq at q
  have cls := (Is.made w #[.bool h, .int .i64 k, .int .i64 g] 55).alloc lim0
  have lim := Is.made (w.alloc (clsO 55 h k g)) #[.int .i64 0, .int .i64 0] 27
  rw [World.size_alloc] at lim
  have kk := ((Kb.refl w).alloc (clsO 55 h k g)).alloc lim0
  have hg2 := hg.kb kk
  have c0 := cls.c (i := 0) rfl
  have c1 := cls.c (i := 1) rfl
  have c2 := cls.c (i := 2) rfl
  go_enter Tryd.func37, Tryd.ntmps37
  go_wp2_with fail
  with_reducible refine (q.out _ hg2).mono ?_
  rintro r w1 ⟨rfl, k1⟩
  have lim := lim.kb k1
  have kk := kk.trans k1
  have n1 := Nat.ne_of_lt lim.lt
  have ll := lim.alloc (.cells #[.int .i64 0, .int .i64 0] 27 (0, 0))
  have kk := kk.alloc (.cells #[.int .i64 0, .int .i64 0] 27 (0, 0))
  have m0 := ll.c (i := 0) rfl
  have m1 := ll.c (i := 1) rfl
  have f0 := ll.f 0
  have f1 := ll.f 1
  clear lim
  go_wp2
  refine ret_row2 Tryd.results37 rfl rfl rfl ((ll.set 0 _).set 1 _) Tryd.underlying27 rfl (by kernel_rfl) ?_
  exact ⟨rfl, (kk.setCell (Nat.le_succ _) _).setCell (Nat.le_succ _) _⟩
set_option maxRecDepth 100000 in
set_option maxHeartbeats 4000000 in
theorem rLimits_out (z k g lo hi : Int) (h : Bool) (w : World) (hg : Glo w) (z1 : 1 ≤ z) (z2 : z ≤ 100000) (b1 : -462 ≤ lo) (b2 : lo ≤ 462) (b3 : -462 ≤ hi) (b4 : hi ≤ 462) (ho : z + lo < 1 ∨ 100000 < z + hi) (q : Gq 46 #[.int .i64 z, .agg #[.bool h, .int .i64 k, .int .i64 g]] (.tuple #[.agg #[.int .i64 lo, .int .i64 hi], .int .i64 0])) :
    Calls Tryd.prog 37 #[.int .i64 z, .agg #[.bool h, .int .i64 k, .int .i64 g]] w fun r w' => r = .returned (.tuple #[.agg #[.int .i64 0, .int .i64 0], .int .i64 2]) ∧ Kb w w' := by
  unfold Gq at q
  have cls := (Is.made w #[.bool h, .int .i64 k, .int .i64 g] 55).alloc lim0
  have lim := Is.made (w.alloc (clsO 55 h k g)) #[.int .i64 0, .int .i64 0] 27
  rw [World.size_alloc] at lim
  have kk := ((Kb.refl w).alloc (clsO 55 h k g)).alloc lim0
  have hg2 := hg.kb kk
  have c0 := cls.c (i := 0) rfl
  have c1 := cls.c (i := 1) rfl
  have c2 := cls.c (i := 2) rfl
  by_cases h1 : z + lo < 1
  · clear ho
    go_enter Tryd.func37, Tryd.ntmps37
    go_wp2_with fail
    with_reducible refine (q.out _ hg2).mono ?_
    rintro r w1 ⟨rfl, k1⟩
    have lim := lim.kb k1
    have kk := kk.trans k1
    have n1 := Nat.ne_of_lt lim.lt
    have ll := lim.alloc (.cells #[.int .i64 (z + lo), .int .i64 (z + hi)] 27 (0, 0))
    have kk := kk.alloc (.cells #[.int .i64 (z + lo), .int .i64 (z + hi)] 27 (0, 0))
    have m0 := ll.c (i := 0) rfl
    have m1 := ll.c (i := 1) rfl
    have f0 := ll.f 0
    have f1 := ll.f 1
    clear lim
    go_wp2
    refine ret_row2 Tryd.results37 rfl rfl rfl ((ll.set 0 _).set 1 _) Tryd.underlying27 rfl (by kernel_rfl) ?_
    exact ⟨rfl, (kk.setCell (Nat.le_succ _) _).setCell (Nat.le_succ _) _⟩
  · have h2 : 100000 < z + hi := by omega
    clear ho
    go_enter Tryd.func37, Tryd.ntmps37
    go_wp2_with fail
    with_reducible refine (q.out _ hg2).mono ?_
    rintro r w1 ⟨rfl, k1⟩
    have lim := lim.kb k1
    have kk := kk.trans k1
    have n1 := Nat.ne_of_lt lim.lt
    have ll := lim.alloc (.cells #[.int .i64 (z + lo), .int .i64 (z + hi)] 27 (0, 0))
    have kk := kk.alloc (.cells #[.int .i64 (z + lo), .int .i64 (z + hi)] 27 (0, 0))
    have m0 := ll.c (i := 0) rfl
    have m1 := ll.c (i := 1) rfl
    have f0 := ll.f 0
    have f1 := ll.f 1
    clear lim
    go_wp2
    refine ret_row2 Tryd.results37 rfl rfl rfl ((ll.set 0 _).set 1 _) Tryd.underlying27 rfl (by kernel_rfl) ?_
    exact ⟨rfl, (kk.setCell (Nat.le_succ _) _).setCell (Nat.le_succ _) _⟩
set_option maxRecDepth 100000 in
set_option maxHeartbeats 4000000 in
theorem rLimits_in (z k g lo hi : Int) (h : Bool) (w : World) (hg : Glo w) (z1 : 1 ≤ z) (z2 : z ≤ 100000) (b1 : -462 ≤ lo) (b2 : lo ≤ 462) (b3 : -462 ≤ hi) (b4 : hi ≤ 462) (h1 : ¬ z + lo < 1) (h2 : ¬ 100000 < z + hi) (q : Gq 46 #[.int .i64 z, .agg #[.bool h, .int .i64 k, .int .i64 g]] (.tuple #[.agg #[.int .i64 lo, .int .i64 hi], .int .i64 0])) :
    Calls Tryd.prog 37 #[.int .i64 z, .agg #[.bool h, .int .i64 k, .int .i64 g]] w fun r w' => r = .returned (.tuple #[.agg #[.int .i64 (z + lo), .int .i64 (z + hi)], .int .i64 0]) ∧ Kb w w' := by
  unfold Gq at q
  have cls := (Is.made w #[.bool h, .int .i64 k, .int .i64 g] 55).alloc lim0
  have lim := Is.made (w.alloc (clsO 55 h k g)) #[.int .i64 0, .int .i64 0] 27
  rw [World.size_alloc] at lim
  have kk := ((Kb.refl w).alloc (clsO 55 h k g)).alloc lim0
  have hg2 := hg.kb kk
  have c0 := cls.c (i := 0) rfl
  have c1 := cls.c (i := 1) rfl
  have c2 := cls.c (i := 2) rfl
  go_enter Tryd.func37, Tryd.ntmps37
  go_wp2_with fail
  with_reducible refine (q.out _ hg2).mono ?_
  rintro r w1 ⟨rfl, k1⟩
  have lim := lim.kb k1
  have kk := kk.trans k1
  have n1 := Nat.ne_of_lt lim.lt
  have ll := lim.alloc (.cells #[.int .i64 (z + lo), .int .i64 (z + hi)] 27 (0, 0))
  have kk := kk.alloc (.cells #[.int .i64 (z + lo), .int .i64 (z + hi)] 27 (0, 0))
  have m0 := ll.c (i := 0) rfl
  have m1 := ll.c (i := 1) rfl
  have f0 := ll.f 0
  have f1 := ll.f 1
  clear lim
  go_wp2
  refine ret_row2 Tryd.results37 rfl rfl rfl ((ll.set 0 _).set 1 _) Tryd.underlying27 rfl (by kernel_rfl) ?_
  exact ⟨rfl, (kk.setCell (Nat.le_succ _) _).setCell (Nat.le_succ _) _⟩
theorem rLimits (z k g : Int) (h : Bool) : Gq 37 #[.int .i64 z, .agg #[.bool h, .int .i64 k, .int .i64 g]] (.tuple #[.agg #[.int .i64 (glL z h k g), .int .i64 (glH z h k g)], .int .i64 (glE z h k g)]) := Lib.hid fun w hg => by
  have q := rDeviations z k g h
  obtain ⟨b1, b2, b3, b4⟩ := dvL_bd z h k g
  by_cases he : dvE z k g = 0
  · rw [he] at q
    have hz : 1 ≤ z ∧ z ≤ 100000 := by
      by_cases hz : 1 ≤ z ∧ z ≤ 100000
      · exact hz
      · have e2 : dvE z k g = 2 := if_neg hz
        omega
    have e0 : glE z h k g = if z + dvL z h k g < 1 ∨ 100000 < z + dvH z h k g then 2 else 0 := if_pos he
    by_cases ho : z + dvL z h k g < 1 ∨ 100000 < z + dvH z h k g
    · have e1 : glE z h k g = 2 := e0.trans (if_pos ho)
      have e2 : glL z h k g = 0 := if_neg (by omega)
      have e3 : glH z h k g = 0 := if_neg (by omega)
      rw [e1, e2, e3]
      exact rLimits_out z k g _ _ h w hg hz.1 hz.2 b1 b2 b3 b4 ho q
    · have e1 : glE z h k g = 0 := e0.trans (if_neg ho)
      have e2 : glL z h k g = z + dvL z h k g := if_pos e1
      have e3 : glH z h k g = z + dvH z h k g := if_pos e1
      rw [e1, e2, e3]
      exact rLimits_in z k g _ _ h w hg hz.1 hz.2 b1 b2 b3 b4 (by omega) (by omega) q
  · have e1 : glE z h k g = dvE z k g := if_neg he
    have e2 : glL z h k g = 0 := if_neg (by omega)
    have e3 : glH z h k g = 0 := if_neg (by omega)
    have e4 : dvL z h k g = 0 := if_neg he
    have e5 : dvH z h k g = 0 := if_neg he
    rw [e4, e5] at q
    rw [e1, e2, e3]
    exact rLimits_no z k g _ h w hg (bne_iff_ne.2 he) q
end Go.Proofs.YtmjkiccoimhfkaaDoor
