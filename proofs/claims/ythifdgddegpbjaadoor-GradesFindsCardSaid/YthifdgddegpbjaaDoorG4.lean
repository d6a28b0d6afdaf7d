/- The reference of package grades: tolerances of grades. -/
import Derived.Test.YthifdgddegpbjaaDoorG3
namespace Go.Proofs.YthifdgddegpbjaaDoor
open Go.RowKit

set_option maxRecDepth 100000 in
set_option maxHeartbeats 4000000 in
theorem rWide (z g : Int) (h3 : 5 ≤ g) (h4 : g ≤ 12) : Gq 47 #[.int .i64 z, .int .i64 g] (.int .i64 (tolI z g)) := Lib.hid fun w hg => by
  have q := rBase z
  unfold Gq at q
  obtain ⟨j, hj⟩ : ∃ j : Nat, g - 5 = (j : Int) := ⟨(g - 5).toNat, by omega⟩
  have hb := tolP_bd z g
  have e1 : IntKind.i64.wrap (baseI (stp z) * facI j) = tolP z g := by
    have : baseI (stp z) * facI j = tolP z g := by unfold tolP; rw [hj]; rfl
    rw [this]; exact IntWalk.i64_in _ (by omega)
  have e2 : IntKind.i64.wrap (tolP z g + 5) = tolP z g + 5 := IntWalk.i64_in _ (by omega)
  have e3 : (tolP z g + 5).tdiv 10 = tolI z g := by unfold tolI; rw [Int.tdiv_eq_ediv_of_nonneg (by omega)]
  have hb2 := tolI_bd z g
  have e4 : IntKind.i64.wrap (tolI z g) = tolI z g := IntWalk.i64_in _ (by omega)
  have e5 : IntKind.i64.wrap (j : Int) = (j : Int) := IntWalk.i64_in _ (by omega)
  have i3 : (0 : Int) ≤ (j : Int) := by omega
  have i4 : (j : Int) < 8 := by omega
  have kk := (Kb.refl w).drew
  have hgd := hg.kb kk
  have ka := ((Kb.refl w).alloc (.cells #[.int .i64 7, .int .i64 10, .int .i64 16, .int .i64 25, .int .i64 40, .int .i64 64, .int .i64 100, .int .i64 160] 3 (0, 0))).drew
  have hga := hg.kb ka
  have cn := fun W => cells_new W _ 3 (0, 0) j (facs_at (show j < 8 by omega))
  have c0 : (World.drew (w.alloc (.cells #[.int .i64 7, .int .i64 10, .int .i64 16, .int .i64 25, .int .i64 40, .int .i64 64, .int .i64 100, .int .i64 160] 3 (0, 0)))).cell? ⟨w.heap.size, j, none⟩ = some (.int .i64 (facI j)) := cn w
  clear hb hb2 h3 h4 hg
  generalize tolP z g = P at *
  generalize tolI z g = T at *
  generalize baseI (stp z) = b at *
  generalize facI j = f at *
  go_enter Tryd.func47, Tryd.ntmps47
  go_wp2_with fail
  go_region_with (go_at_call 63; first | (with_reducible refine (q.out _ hgd).mono ?_; rintro r w1 ⟨rfl, k1⟩; have cz := cn w1) | (with_reducible refine (q.out _ hga).mono ?_; rintro r w1 ⟨rfl, k1⟩; have c1 := k1.cell c0))
  all_goals go_wp2
  all_goals go_ret
  all_goals first
    | exact ⟨rfl, kk.trans (k1.alloc _)⟩
    | exact ⟨rfl, ka.trans k1⟩
set_option maxRecDepth 100000 in
set_option maxHeartbeats 4000000 in
theorem rStep (z : Int) : Gq 19 #[.int .i64 z] (.tuple #[.int .i64 (stepV z), .int .i64 (szE z)]) := Lib.hid fun w hg => by
  have q := rSize z
  unfold Gq at q
  by_cases h : 1 ≤ z ∧ z ≤ 100000
  · have q2 := rAt z
    unfold Gq at q2
    have e1 : szE z = 0 := if_pos h
    have e2 : stepV z = stp z := if_pos h
    rw [e1] at q ⊢
    rw [e2]
    clear e1 e2 h
    generalize stp z = s at *
    go_enter Tryd.func19, Tryd.ntmps19
    go_wp2_with fail
    with_reducible refine (q.out _ hg).mono ?_
    rintro r w1 ⟨rfl, k1⟩
    have hg1 := hg.kb k1
    go_wp2_with fail
    with_reducible refine (q2.out _ hg1).mono ?_
    rintro r w2 ⟨rfl, k2⟩
    go_wp2
    go_ret2
    exact ⟨rfl, k1.trans k2⟩
  · have e1 : szE z = 2 := if_neg h
    have e2 : stepV z = 0 := if_neg h
    rw [e1] at q ⊢
    rw [e2]
    clear e1 e2 h
    go_enter Tryd.func19, Tryd.ntmps19
    go_wp2_with fail
    with_reducible refine (q.out _ hg).mono ?_
    rintro r w1 ⟨rfl, k1⟩
    go_wp2
    go_ret2
    exact ⟨rfl, k1⟩
set_option maxRecDepth 100000 in
set_option maxHeartbeats 4000000 in
theorem rTolerance (z g : Int) : Gq 21 #[.int .i64 z, .int .i64 g] (.tuple #[.int .i64 (tolV z g), .int .i64 (tolE z g)]) := Lib.hid fun w hg => by
  have q := rSize z
  unfold Gq at q
  by_cases h : 1 ≤ z ∧ z ≤ 100000
  · have e1 : szE z = 0 := if_pos h
    have e3 : tolE z g = grE g := if_pos h
    rw [e1] at q
    by_cases h2 : g < 5
    · have e4 : grE g = 2 := if_neg (by omega)
      have e2 : tolV z g = 0 := if_neg (by omega)
      rw [e3, e4, e2]
      clear e1 e2 e3 e4 h
      go_enter Tryd.func21, Tryd.ntmps21
      go_wp2_with fail
      with_reducible refine (q.out _ hg).mono ?_
      rintro r w1 ⟨rfl, k1⟩
      go_wp2
      go_ret2
      exact ⟨rfl, k1⟩
    · by_cases h5 : 12 < g
      · have e4 : grE g = 2 := if_neg (by omega)
        have e2 : tolV z g = 0 := if_neg (by omega)
        rw [e3, e4, e2]
        clear e1 e2 e3 e4 h
        go_enter Tryd.func21, Tryd.ntmps21
        go_wp2_with fail
        with_reducible refine (q.out _ hg).mono ?_
        rintro r w1 ⟨rfl, k1⟩
        go_wp2
        go_ret2
        exact ⟨rfl, k1⟩
      · have q2 := rWide z g (by omega) (by omega)
        unfold Gq at q2
        have e4 : grE g = 0 := if_pos (by omega)
        have e2 : tolV z g = tolI z g := if_pos ⟨h, by omega⟩
        rw [e3, e4, e2]
        clear e1 e2 e3 e4 h
        generalize tolI z g = T at *
        go_enter Tryd.func21, Tryd.ntmps21
        go_wp2_with fail
        with_reducible refine (q.out _ hg).mono ?_
        rintro r w1 ⟨rfl, k1⟩
        have hg1 := hg.kb k1
        go_wp2_with fail
        with_reducible refine (q2.out _ hg1).mono ?_
        rintro r w2 ⟨rfl, k2⟩
        go_wp2
        go_ret2
        exact ⟨rfl, k1.trans k2⟩
  · have e1 : szE z = 2 := if_neg h
    have e3 : tolE z g = 2 := if_neg h
    have e2 : tolV z g = 0 := if_neg (fun x => h x.1)
    rw [e1] at q
    rw [e3, e2]
    clear e1 e2 e3 h
    go_enter Tryd.func21, Tryd.ntmps21
    go_wp2_with fail
    with_reducible refine (q.out _ hg).mono ?_
    rintro r w1 ⟨rfl, k1⟩
    go_wp2
    go_ret2
    exact ⟨rfl, k1⟩
set_option maxRecDepth 100000 in
set_option maxHeartbeats 4000000 in
theorem rCoarsest (z v : Int) : Gq 29 #[.int .i64 z, .int .i64 v] (.tuple #[.int .i64 (crsV z v), .int .i64 (crsE z v)]) := Lib.hid fun w hg => by
  have q := rSize z
  unfold Gq at q
  by_cases h : 1 ≤ z ∧ z ≤ 100000
  · have e1 : szE z = 0 := if_pos h
    have e2 : crsV z v = crs z v 8 := if_pos h
    have e3 : crsE z v = if crs z v 8 = 0 then 6 else 0 := if_pos h
    have q2 : ∀ k : Nat, k < 8 → Gq 47 #[.int .i64 z, .int .i64 (5 + (k : Int))] (.int .i64 (tolI z (5 + k))) := fun k hk => rWide z _ (by omega) (by omega)
    have Q2 := Lib.hid q2
    have HS : Hid (∀ k : Nat, crs z v (k + 1) = if tolI z (5 + k) ≤ v then 5 + (k : Int) else crs z v k) := Lib.hid (fun k => rfl)
    rw [e1] at q
    rw [e2]
    have HE : Hid (crsE z v = if crs z v 8 = 0 then 6 else 0) := Lib.hid e3
    clear e1 e2 e3 h q2
    generalize crsE z v = E at *
    generalize hC : crs z v = C at *
    have HC0 : Hid (C 0 = 0) := by rw [← hC]; exact rfl
    clear hC
    generalize tolI z = T at *
    go_enter Tryd.func29, Tryd.ntmps29
    go_wp2_with fail
    with_reducible refine (q.out _ hg).mono ?_
    rintro r w0 ⟨rfl, k0⟩
    go_wp2_with fail
    go_loopg [7] 8 (fun gk s7 wr => s7 = .int .i64 (4 + (gk : Int)) ∧ gk ≤ 8 ∧ Hid (C 8 = C gk) ∧ Kb w wr)
    case atStart => exact ⟨rfl, Nat.le_refl _, rfl, k0⟩
    case round =>
      obtain ⟨rfl, hk, hC, kk⟩ := hrel
      rcases Nat.eq_zero_or_pos gk with rfl | hpos
      · have hC0 := HC0.out
        have hE : Hid (E = 6 ∧ C 8 = 0) := by rw [HE.out, hC.out, hC0]; exact ⟨rfl, rfl⟩
        clear hC0 hC Q2 HS
        go_wp2
        go_ret2
        exact ⟨by rw [hE.out.1, hE.out.2]; rfl, kk⟩
      · obtain ⟨k, rfl⟩ : ∃ k, gk = k + 1 := ⟨gk - 1, by omega⟩
        have q2 := Q2.out k (by omega)
        unfold Gq at q2
        have hs := HS.out k
        have e4 : (4 : Int) + ((k + 1 : Nat) : Int) = 5 + (k : Int) := by omega
        rw [e4]
        have hge : (5 : Int) ≤ 5 + (k : Int) := by omega
        have hgr := hg.kb kk
        have Hk := Lib.hid hk
        by_cases hT : T (5 + (k : Int)) ≤ v
        · rw [if_pos hT] at hs
          have hE : Hid (E = 0 ∧ C 8 = 5 + (k : Int)) := by
            have : C 8 = 5 + (k : Int) := hC.out.trans hs
            exact ⟨HE.out.trans (if_neg (by omega)), this⟩
          clear hs hC Q2 HS HC0 hk hpos e4
          generalize T (5 + (k : Int)) = t at *
          generalize 5 + (k : Int) = gg at *
          go_wp2_with fail
          with_reducible refine (q2.out _ hgr).mono ?_
          rintro r w1 ⟨rfl, k1⟩
          go_wp2
          go_ret2
          exact ⟨by rw [hE.out.1, hE.out.2]; rfl, kk.trans k1⟩
        · rw [if_neg hT] at hs
          have hE : Hid (C 8 = C k) := hC.out.trans hs
          have e5 : (5 + (k : Int)) - 1 = 4 + (k : Int) := by omega
          clear hs hC Q2 HS HC0 hk hpos e4
          generalize T (5 + (k : Int)) = t at *
          go_wp2_with fail
          with_reducible refine (q2.out _ hgr).mono ?_
          rintro r w1 ⟨rfl, k1⟩
          go_wp2
          have hk := Hk.out
          go_roundg k
          case measure => omega
          case rel => exact ⟨by rw [show wrap64 (4 + (k : Int)) = 4 + (k : Int) by unfold wrap64; omega], by omega, hE, kk.trans k1⟩
  · have e1 : szE z = 2 := if_neg h
    have e2 : crsV z v = 0 := if_neg h
    have e3 : crsE z v = 2 := if_neg h
    rw [e1] at q
    rw [e2, e3]
    clear e1 e2 e3 h
    go_enter Tryd.func29, Tryd.ntmps29
    go_wp2_with fail
    with_reducible refine (q.out _ hg).mono ?_
    rintro r w1 ⟨rfl, k1⟩
    go_wp2
    go_ret2
    exact ⟨rfl, k1⟩
end Go.Proofs.YthifdgddegpbjaaDoor
