/- The reference of package dimension: Few. -/
import Derived.Test.YtendjeefggigbaaOe2
namespace Go.Proofs.Ytendjeefggigbaa
open Go.RowKit

def fewD (d : DimT) : Bool := decide (d.1.size ≤ 100) && decide (d.2.1.size ≤ 100)
def fewN (n : Nat) : Bool := decide (n ≤ 10) || (decide (256 < n) && decide (n ≤ 512))
def fewB (l : List DimT) : Bool := fewN l.length && l.all fewD
theorem fewD_drop {l : List DimT} {k : Nat} (d : DimT) (h : k < l.length) : (l.drop k).all fewD = (fewD (l.getD k d) && (l.drop (k + 1)).all fewD) := by
  rw [List.drop_eq_getElem_cons h, List.all_cons, List.getD_eq_getElem?_getD, List.getElem?_eq_getElem h]
  rfl
def dim0 : DimT := (⟨#[]⟩, ⟨#[]⟩, 0, 0, 0)

set_option maxRecDepth 100000 in
set_option maxHeartbeats 4000000 in
theorem rFew (l : List DimT) (sv : Value) (w : World) (hs : Sl [] 5 w sv (l.map encDim)) (hm : l.length ≤ 9223372036854775807) : Calls Try.prog 28 #[sv] w fun r W' => r = .returned (.bool (fewB l)) ∧ Kb w W' := by
  obtain ⟨sp, cap, hv, hs⟩ := hs
  rw [List.length_map] at hv hs
  subst hv
  have HS := Lib.hid hs
  have HB : Hid (fewB l = (fewN l.length && l.all fewD)) := rfl
  have H0 : Hid (l.all fewD = (l.drop 0).all fewD) := rfl
  have HX := Lib.hid (fun k (hk : k < l.length) => show (l.map encDim).getD k [] = encDim (l.getD k dim0) by simp [List.getD_eq_getElem?_getD, hk])
  generalize hN : l.length = n at *
  have HD := Lib.hid (fun k (hk : k < n) => fewD_drop (l := l) (k := k) dim0 (by omega))
  have HE : Hid ((l.drop n).all fewD = true) := by rw [List.drop_of_length_le (by omega)]; rfl
  clear hs hN
  by_cases h1 : 10 < n ∧ n ≤ 256
  · have b : Hid (fewB l = false) := HB.out.trans (by unfold fewN; rw [decide_eq_false (by omega), decide_eq_false (show ¬ 256 < n by omega)]; rfl)
    obtain ⟨a1, a2⟩ := h1
    have d1 : decide ((n : Int) ≤ 256) = true := decide_eq_true (by omega)
    have d2 : decide ((10 : Int) < (n : Int)) = true := decide_eq_true (by omega)
    clear HS HX HD HE H0
    go_enter Try.func28, Try.ntmps28
    go_wp2
    go_ret
    exact ⟨by rw [b.out]; rfl, Kb.refl _⟩
  by_cases h2 : 512 < n
  · have b : Hid (fewB l = false) := HB.out.trans (by unfold fewN; rw [decide_eq_false (by omega), decide_eq_false (show ¬ n ≤ 512 by omega), Bool.and_false]; rfl)
    have d1 : decide ((n : Int) ≤ 256) = false := decide_eq_false (by omega)
    have d2 : decide ((10 : Int) < (n : Int)) = true := decide_eq_true (by omega)
    have d3 : decide ((512 : Int) < (n : Int)) = true := decide_eq_true (by omega)
    clear HS HX HD HE H0 h1
    go_enter Try.func28, Try.ntmps28
    go_wp2
    go_ret
    exact ⟨by rw [b.out]; rfl, Kb.refl _⟩
  have HB2 : Hid (fewB l = (l.drop 0).all fewD) := HB.out.trans (by
    have : fewN n = true := by
      unfold fewN
      by_cases c : n ≤ 10
      · rw [decide_eq_true c]; rfl
      · rw [decide_eq_true (show 256 < n by omega), decide_eq_true (show n ≤ 512 by omega)]; simp
    rw [this, Bool.true_and]; rfl)
  have d3 : decide ((512 : Int) < (n : Int)) = false := decide_eq_false (by omega)
  have dd : (decide ((10 : Int) < (n : Int)) = true ∧ decide ((n : Int) ≤ 256) = false) ∨ decide ((10 : Int) < (n : Int)) = false := by
    by_cases c : n ≤ 10
    · right; exact decide_eq_false (by omega)
    · left; exact ⟨decide_eq_true (by omega), decide_eq_false (by omega)⟩
  have Hn : Hid (n ≤ 512) := by show n ≤ 512; omega
  clear H0 HB h1 h2 hm
  have hn512 := Hn.out
  go_enter Try.func28, Try.ntmps28
  rcases dd with ⟨d1, d2⟩ | d1
  all_goals
    go_wp2
    go_loopg [3] n (fun gk s3 wr => ∃ k : Nat, s3 = .int .i64 k ∧ k + gk = n ∧ Hid (fewB l = (l.drop k).all fewD) ∧ w = wr)
    case atStart => exact ⟨0, rfl, by omega, HB2, rfl⟩
    case round =>
      obtain ⟨k, rfl, hk, hE, rfl⟩ := hrel
      have hk0 : (0 : Int) ≤ (k : Int) := by omega
      by_cases hlt : k < n
      · obtain ⟨b, off, rfl, hb, hbL, hcell⟩ := HS.out (by omega)
        have hX := HX.out k hlt
        have hD := HD.out k hlt
        generalize l.getD k dim0 = x at *
        obtain ⟨f, t, a, lo, hi⟩ := x
        have x0 := hcell k hlt 0 (by omega)
        rw [hX] at x0
        replace x0 : w.cell? ⟨b, off + k * 5, none⟩ = some (.string f) := x0
        have x1 := hcell k hlt 1 (by omega)
        rw [hX] at x1
        replace x1 : w.cell? ⟨b, off + k * 5 + 1, none⟩ = some (.string t) := x1
        have Hk := Lib.hid hk
        clear hcell hX
        have hfd : fewD (f, t, a, lo, hi) = (decide (f.size ≤ 100) && decide (t.size ≤ 100)) := rfl
        rw [hfd] at hD
        by_cases hf : 100 < f.size
        · have e : Hid (fewB l = false) := hE.out.trans (hD.trans (by rw [decide_eq_false (by omega)]; rfl))
          have z1 : decide ((100 : Int) < (f.size : Int)) = true := decide_eq_true (by omega)
          clear hD hE hk hfd
          go_wp2
          go_ret
          exact ⟨by rw [e.out]; rfl, Kb.refl _⟩
        · have z1 : decide ((100 : Int) < (f.size : Int)) = false := decide_eq_false (by omega)
          by_cases ht : 100 < t.size
          · have e : Hid (fewB l = false) := hE.out.trans (hD.trans (by rw [decide_eq_false (show ¬ t.size ≤ 100 by omega), Bool.and_false]; rfl))
            have z2 : decide ((100 : Int) < (t.size : Int)) = true := decide_eq_true (by omega)
            clear hD hE hk hfd
            go_wp2
            go_ret
            exact ⟨by rw [e.out]; rfl, Kb.refl _⟩
          · have e : Hid (fewB l = (l.drop (k + 1)).all fewD) := hE.out.trans (hD.trans (by rw [decide_eq_true (show f.size ≤ 100 by omega), decide_eq_true (show t.size ≤ 100 by omega)]; rfl))
            have z2 : decide ((100 : Int) < (t.size : Int)) = false := decide_eq_false (by omega)
            clear hD hE hk hfd
            go_wp2
            have hk := Hk.out
            go_roundg (gk - 1)
            case measure => omega
            case rel => exact ⟨k + 1, by go_num, by omega, e, rfl⟩
      · obtain rfl : k = n := by omega
        have e : Hid (fewB l = true) := hE.out.trans HE.out
        clear hk hE HE HD HS HX
        go_wp2
        go_ret
        exact ⟨by rw [e.out]; rfl, Kb.refl _⟩
end Go.Proofs.Ytendjeefggigbaa
