/- The law DimensionTurns returns true. -/
import Derived.Test.YtendjeefggigbaaOm7
namespace Go.Proofs.Ytendjeefggigbaa
open Go.RowKit

theorem turns_true (ds : List DimT) (sp : Option Addr) (cap : Nat) (z : Int) (w : World) (hs : Sl [] 5 w (.slice sp ds.length cap) (ds.map encDim)) (hm : ds.length ≤ 9223372036854775807) (hcap : ds.length ≤ cap) (hz : 0 ≤ z ∧ z ≤ 255) : Lw 10 #[.slice sp ds.length cap, .int .u8 z] w := by
  have qf : ∀ b, fewB ds = b → Hid (∀ V : World, Kb w V → Calls Try.prog 28 #[.slice sp ds.length cap] V fun r W' => r = .returned (.bool b) ∧ Kb V W') := fun b hb V k => by
    have := rFew ds _ V (hs.kb k) hm
    rwa [hb] at this
  rcases Bool.eq_false_or_eq_true (fewB ds) with hb | hb
  · obtain ⟨h1, h2⟩ := fewB_nz hb
    by_cases n2 : ds.length < 2
    · exact (turns_short1 sp ds.length cap z w (qf _ hb) (decide_eq_true (by omega)) dawake).mono fun _ _ h => h
    · by_cases n10 : 10 < ds.length
      · exact (turns_short2 sp ds.length cap z w (qf _ hb) (decide_eq_false (by omega)) (decide_eq_true (by omega)) dawake).mono fun _ _ h => h
      · by_cases h0 : (path ds).2 = 0
        · obtain ⟨p, c, hv, hcell⟩ := hs
          obtain ⟨b, off, rfl, hbl, _, hcc⟩ := hcell (by simp; omega)
          injection hv with e1 e2 e3
          subst e1
          refine (turns_main ds ds.length b off cap z w rfl (by omega) (by omega) hcap hz.1 hz.2 h2 h0 hbl (fun j hj i hi => ?_) (qf _ hb) dawake).mono fun _ _ h => h
          rw [hcc j (by simpa using hj) i hi]
          simp [gD, List.getD_eq_getElem?_getD, hj]
        · exact (turns_err sp ds.length cap z w (qf _ hb) (decide_eq_false (by omega)) (decide_eq_false (by omega)) (path ds) h0 (fun V k => dPath ds _ V (hs.kb k) h1 h2) dawake).mono fun _ _ h => h
  · exact (turns_few sp ds.length cap z w (qf _ hb) dawake).mono fun _ _ h => h
end Go.Proofs.Ytendjeefggigbaa
