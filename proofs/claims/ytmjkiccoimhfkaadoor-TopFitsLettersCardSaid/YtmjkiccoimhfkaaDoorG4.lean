/- The reference of package grades: tolerances of grades. -/
import Derived.Test.YtmjkiccoimhfkaaDoorG3
namespace Go.Proofs.YtmjkiccoimhfkaaDoor
open Go.RowKit

set_option maxRecDepth 100000 in
set_option maxHeartbeats 4000000 in
theorem rWide (z g : Int) (h3 : 5 ≤ g) (h4 : g ≤ 12) : Gq 60 #[.int .i64 z, .int .i64 g] (.int .i64 (tolI z g)) := Lib.hid fun w hg => by
  have q := rBase z
  unfold Gq at q
  obtain ⟨j, hj⟩ : ∃ j : Nat, g - 5 = (j : Int) := ⟨(g - 5).toNat, by omega⟩
  have hb := tolP_bd z g
  have e1 : IntKind.i64.wrap (baseI (stp z) * facI j) = tolP z g := by
    have : baseI (stp z) * facI j = tolP z g := by unfold tolP; rw [hj]; rfl
    rw [this]; exact IntWalk.i64_in _ (by omega)
  have e2 : IntKind.i64.wrap (tolP z g + 5) = tolP z g + 5 := IntWalk.i64_in _ (by omega)
  have e3 : (tolP z g + 5).tdiv 10 = tolI z g := by unfold tolI; rw [Int.tdiv_eq_ediv_of_nonneg (by omega)]
  have hb2 := tolI_bd z g
  have e4 : IntKind.i64.wrap (tolI z g) = tolI z g := IntWalk.i64_in _ (by omega)
  have e5 : IntKind.i64.wrap (j : Int) = (j : Int) := IntWalk.i64_in _ (by omega)
  have i3 : (0 : Int) ≤ (j : Int) := by omega
  have i4 : (j : Int) < 8 := by omega
  have kk := (Kb.refl w).drew
  have hgd := hg.kb kk
  have ka := ((Kb.refl w).alloc (.cells #[.int .i64 7, .int .i64 10, .int .i64 16, .int .i64 25, .int .i64 40, .int .i64 64, .int .i64 100, .int .i64 160] 3 (0, 0))).drew
  have hga := hg.kb ka
  have cn := fun W => cells_new W _ 3 (0, 0) j (facs_at (show j < 8 by omega))
  have c0 : (World.drew (w.alloc (.cells #[.int .i64 7, .int .i64 10, .int .i64 16, .int .i64 25, .int .i64 40, .int .i64 64, .int .i64 100, .int .i64 160] 3 (0, 0)))).cell? ⟨w.heap.size, j, none⟩ = some (.int .i64 (facI j)) := cn w
  clear hb hb2 h3 h4 hg
  generalize tolP z g = P at *
  generalize tolI z g = T at *
  generalize baseI (stp z) = b at *
  generalize facI j = f at *
  go_enter Tryd.func60, Tryd.ntmps60
  go_wp2_with fail
  go_region_with (go_at_call 61; first | (with_reducible refine (q.out _ hgd).mono ?_; rintro r w1 ⟨rfl, k1⟩; have cz := cn w1) | (with_reducible refine (q.out _ hga).mono ?_; rintro r w1 ⟨rfl, k1⟩; have c1 := k1.cell c0))
  all_goals go_wp2
  all_goals go_ret
  all_goals first
    | exact ⟨rfl, kk.trans (k1.alloc _)⟩
    | exact ⟨rfl, ka.trans k1⟩



























































































































































































end Go.Proofs.YtmjkiccoimhfkaaDoor
