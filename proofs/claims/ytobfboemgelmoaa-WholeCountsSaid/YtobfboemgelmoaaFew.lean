/- Few, for all texts. -/
import Derived.Test.YtobfboemgelmoaaTotals
namespace Go.Proofs.Ytobfboemgelmoaa
open Go.RowKit
open Go.Lib (nDigits itoa decDigits)

set_option maxRecDepth 100000 in
set_option maxHeartbeats 1000000 in
theorem few_all (s : ByteArray) (w : World) :
    Calls Try.prog 23 #[.string s] w fun e w' => e = .returned (.bool (few1 s)) ∧ w = w' := by
  by_cases h2 : s.size ≤ 2048
  · exact few_any s w (by omega)
  · have hd1 : decide ((s.size : Int) ≤ 50) = false := decide_eq_false (by omega)
    have hd2 : decide ((s.size : Int) ≤ 2048) = false := decide_eq_false (by omega)
    have hv : Hid (few1 s = false) := by show few1 s = _; unfold few1; rw [decide_eq_false h2, decide_eq_false (by omega)]; rfl
    go_enter Try.func23, Try.ntmps23
    go_wp2_with fail
    go_ret
    exact ⟨by rw [hv.out]; rfl, rfl⟩
theorem few_size {s : ByteArray} (h : few1 s = true) : s.size ≤ 9223372036854775807 := by
  unfold few1 at h
  simp at h
  omega

def FewIs (a : ByteArray) (v : Bool) : Prop := Hid (∀ W, Calls Try.prog 23 #[.string a] W fun e w' => e = .returned (.bool v) ∧ W = w')
end Go.Proofs.Ytobfboemgelmoaa
