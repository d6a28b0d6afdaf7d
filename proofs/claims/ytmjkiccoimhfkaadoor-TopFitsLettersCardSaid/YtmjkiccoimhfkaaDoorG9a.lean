/- The reference of package grades: the deviations of a shaft, of a class. -/
import Derived.Test.YtmjkiccoimhfkaaDoorG7
import Derived.Test.YtmjkiccoimhfkaaDoorG4
namespace Go.Proofs.YtmjkiccoimhfkaaDoor
open Go.RowKit

theorem shf_at {k : Nat} (h : k < 10) : (#[.int .i64 50, .int .i64 31, .int .i64 16, .int .i64 6, .int .i64 0, .int .i64 0, .int .i64 2, .int .i64 9, .int .i64 15, .int .i64 22] : Array Value)[k]? = some (.int .i64 (shfI k)) := by
  rcases lt10 h with rfl | rfl | rfl | rfl | rfl | rfl | rfl | rfl | rfl | rfl <;> rfl
set_option maxRecDepth 100000 in
set_option maxHeartbeats 4000000 in
theorem rshaft (z g : Int) (k : Nat) (h3 : 5 ≤ g) (h4 : g ≤ 12) (hk : k < 10) :
    Gq 55 #[.int .i64 z, .int .i64 (k : Int), .int .i64 g] (.agg #[.int .i64 (dvLo k (shiI z k) (tolI z g)), .int .i64 (dvHi k (shiI z k) (tolI z g))]) := Lib.hid fun w hg => by
  have q1 := rWide z g h3 h4
  have q2 := rBase z
  unfold Gq at q1 q2
  have hs := shiP_bd z k
  have hs2 := shiI_bd z k
  have ht := tolI_bd z g
  have e1 : IntKind.i64.wrap (baseI (stp z) * shfI k) = shiP z k := IntWalk.i64_in _ (by show _ ∧ _; unfold shiP at hs; omega)
  have e3 : (shiP z k).tdiv 10 = shiI z k := by unfold shiI; rw [Int.tdiv_eq_ediv_of_nonneg (by omega)]
  have e4 : IntKind.i64.wrap (shiI z k) = shiI z k := IntWalk.i64_in _ (by omega)
  have DL : Hid (dvLo k (shiI z k) (tolI z g) = if k < 5 then -shiI z k - tolI z g else if k = 5 then -(tolI z g / 2) else shiI z k) := rfl
  have DH : Hid (dvHi k (shiI z k) (tolI z g) = if k < 5 then -shiI z k else if k = 5 then tolI z g / 2 else shiI z k + tolI z g) := rfl
  have cn := fun W => cells_new W _ 3 (0, 0) k (shf_at hk)
  have lim := Is.made w #[.int .i64 0, .int .i64 0] 27
  have kk := (Kb.refl w).alloc lim0
  have hg1 := hg.kb kk
  have i1 : (0 : Int) ≤ (k : Int) := by omega
  have i2 : (k : Int) < 10 := by omega
  generalize dvLo k (shiI z k) (tolI z g) = lo at *
  generalize dvHi k (shiI z k) (tolI z g) = hi at *
  generalize shiI z k = S at *
  generalize shiP z k = P at *
  generalize tolI z g = T at *
  generalize baseI (stp z) = b at *
  generalize shfI k = f at *
  go_enter Tryd.func55, Tryd.ntmps55
  go_wp2_with fail
  with_reducible refine (q1.out _ hg1).mono ?_
  rintro r w1 ⟨rfl, k1⟩
  have lim := lim.kb k1
  have kk := kk.trans k1
  have hg2 := hg1.kb k1
  have kd := (Kb.refl w1).drew
  have hgd := hg2.kb kd
  have ka := ((Kb.refl w1).alloc (.cells #[.int .i64 50, .int .i64 31, .int .i64 16, .int .i64 6, .int .i64 0, .int .i64 0, .int .i64 2, .int .i64 9, .int .i64 15, .int .i64 22] 3 (0, 0))).drew
  have hga := hg2.kb ka
  have c0 : (World.drew (w1.alloc (.cells #[.int .i64 50, .int .i64 31, .int .i64 16, .int .i64 6, .int .i64 0, .int .i64 0, .int .i64 2, .int .i64 9, .int .i64 15, .int .i64 22] 3 (0, 0)))).cell? ⟨w1.heap.size, k, none⟩ = some (.int .i64 f) := cn w1
  go_wp2_with fail
  go_cut [8] from 12 to 20 (fun s8 wx => s8 = .int .i64 S ∧ Kb w1 wx)
  case first =>
    go_region_with (go_at_call 61; first | (with_reducible refine (q2.out _ hgd).mono ?_; rintro r w5 ⟨rfl, k5⟩; have cz := cn w5) | (with_reducible refine (q2.out _ hga).mono ?_; rintro r w5 ⟨rfl, k5⟩; have c1 := k5.cell c0))
    all_goals go_wp2
    all_goals go_meet
    all_goals first
      | exact ⟨rfl, kd.trans (k5.alloc _)⟩
      | exact ⟨rfl, ka.trans k5⟩
  case rest =>
    obtain ⟨rfl, k5⟩ := hcut
    have lim := lim.kb k5
    have kk := kk.trans k5
    clear q1 q2 hgd hga hg1 hg2 c0 cn e1 e3 e4 k1 k5 kd ka hs hg
    by_cases hk5 : k = 5
    · subst hk5
      rw [if_neg (by omega), if_pos rfl] at DL DH
      have e5 : T.tdiv 2 = T / 2 := Int.tdiv_eq_ediv_of_nonneg (by omega)
      obtain ⟨u, hu⟩ : ∃ u, T / 2 = u := ⟨_, rfl⟩
      have hu0 : 0 ≤ u := by omega
      have hu1 : u ≤ 1000 := by omega
      rw [hu] at e5 DL DH
      clear hu
      have f0 := lim.f 0
      have f1 := lim.f 1
      have m0 := lim.c (i := 0) rfl
      have m1 := lim.c (i := 1) rfl
      go_wp2
      refine ret_row Tryd.results55 rfl rfl ((lim.set 0 _).set 1 _) Tryd.underlying27 rfl (by kernel_rfl) ?_
      exact ⟨by rw [DL.out, DH.out]; rfl, (kk.setCell (Nat.le_refl _) _).setCell (Nat.le_refl _) _⟩
    · have hne : ((k : Int) == 5) = false := by simpa using (by omega : ¬ (k : Int) = 5)
      by_cases hlt : k < 5
      · have hlt' : (k : Int) < 5 := by omega
        rw [if_pos hlt] at DL DH
        clear hk5 hlt
        have f0 := lim.f 0
        have f1 := lim.f 1
        have m0 := lim.c (i := 0) rfl
        have m1 := lim.c (i := 1) rfl
        go_wp2
        refine ret_row Tryd.results55 rfl rfl ((lim.set 0 _).set 1 _) Tryd.underlying27 rfl (by kernel_rfl) ?_
        exact ⟨by rw [DL.out, DH.out]; rfl, (kk.setCell (Nat.le_refl _) _).setCell (Nat.le_refl _) _⟩
      · have hlt' : ¬ (k : Int) < 5 := by omega
        rw [if_neg hlt, if_neg hk5] at DL DH
        clear hk5 hlt
        have f0 := lim.f 0
        have f1 := lim.f 1
        have m0 := lim.c (i := 0) rfl
        have m1 := lim.c (i := 1) rfl
        go_wp2
        refine ret_row Tryd.results55 rfl rfl ((lim.set 0 _).set 1 _) Tryd.underlying27 rfl (by kernel_rfl) ?_
        exact ⟨by rw [DL.out, DH.out]; rfl, (kk.setCell (Nat.le_refl _) _).setCell (Nat.le_refl _) _⟩
set_option maxRecDepth 100000 in
set_option maxHeartbeats 4000000 in
theorem rAway (z g : Int) (h : Bool) (k : Nat) (h3 : 5 ≤ g) (h4 : g ≤ 12) (hk : k < 10) :
    Gq 53 #[.int .i64 z, .agg #[.bool h, .int .i64 (k : Int), .int .i64 g]] (.agg #[.int .i64 (devLo z h k g), .int .i64 (devHi z h k g)]) := Lib.hid fun w hg => by
  have q := rshaft z g k h3 h4 hk
  unfold Gq at q
  have hd := dv_bd k (shiI z k) (tolI z g) (shiI_bd z k).1 (shiI_bd z k).2 (by have := tolI_bd z g; omega) (tolI_bd z g).2
  have DL : Hid (devLo z h k g = if h then -dvHi k (shiI z k) (tolI z g) else dvLo k (shiI z k) (tolI z g)) := rfl
  have DH : Hid (devHi z h k g = if h then -dvLo k (shiI z k) (tolI z g) else dvHi k (shiI z k) (tolI z g)) := rfl
  have clA := (Is.made w #[.bool h, .int .i64 (k : Int), .int .i64 g] 55).alloc lim0
  have liA := Is.made (w.alloc (clsO 55 h k g)) #[.int .i64 0, .int .i64 0] 27
  rw [World.size_alloc] at liA
  have kA := ((Kb.refl w).alloc (clsO 55 h k g)).alloc lim0
  have hg2 := hg.kb kA
  have x1 := clA.c (i := 1) rfl
  have x2 := clA.c (i := 2) rfl
  generalize dvLo k (shiI z k) (tolI z g) = lo at *
  generalize dvHi k (shiI z k) (tolI z g) = hi at *
  generalize devLo z h k g = lo2 at *
  generalize devHi z h k g = hi2 at *
  obtain ⟨hd1, hd2, hd3, hd4⟩ := hd
  go_enter Tryd.func53, Tryd.ntmps53
  go_wp2_with fail
  with_reducible refine (q.out _ hg2).mono ?_
  rintro r w1 ⟨rfl, k1⟩
  have cls := (clA.kb k1).alloc (.cells #[.int .i64 lo, .int .i64 hi] 27 (0, 0))
  have lim := (liA.kb k1).alloc (.cells #[.int .i64 lo, .int .i64 hi] 27 (0, 0))
  have kk := (kA.trans k1).alloc (.cells #[.int .i64 lo, .int .i64 hi] 27 (0, 0))
  have l2 := Is.made w1 #[.int .i64 lo, .int .i64 hi] 27
  have d0 := l2.c (i := 0) rfl
  have d1 := l2.c (i := 1) rfl
  have c0 := cls.c (i := 0) rfl
  have m0 := lim.c (i := 0) rfl
  have m1 := lim.c (i := 1) rfl
  have f0 := lim.f 0
  have f1 := lim.f 1
  clear q hg2 hg x1 x2 k1 clA liA kA
  cases h with
  | true =>
    rw [if_pos rfl] at DL DH
    go_wp2
    refine ret_row Tryd.results53 rfl rfl ((lim.set 0 _).set 1 _) Tryd.underlying27 rfl (by kernel_rfl) ?_
    exact ⟨by rw [DL.out, DH.out]; rfl, (kk.setCell (Nat.le_succ _) _).setCell (Nat.le_succ _) _⟩
  | false =>
    rw [if_neg (by decide)] at DL DH
    go_wp2
    refine ret_row Tryd.results53 rfl rfl ((lim.set 0 _).set 1 _) Tryd.underlying27 rfl (by kernel_rfl) ?_
    exact ⟨by rw [DL.out, DH.out]; rfl, (kk.setCell (Nat.le_succ _) _).setCell (Nat.le_succ _) _⟩
end Go.Proofs.YtmjkiccoimhfkaaDoor
