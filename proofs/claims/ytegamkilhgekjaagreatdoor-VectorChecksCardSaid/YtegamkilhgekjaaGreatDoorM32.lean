/- Texts Exp3: each says in its own first comment what it proves. -/
import Derived.Test.YtegamkilhgekjaaGreatDoorM31
/- The functions of package ratio that other packages call, for any texts: Parts, Floor, Sign, Neg, Make, Compare. -/
namespace Go.Proofs.YtegamkilhgekjaaGreatDoor
open Go.RowKit
open Go.Lib (nDigits itoa decDigits)

def qPn (a : ByteArray) : ByteArray := if spE a = 0 then cN a else ⟨#[]⟩
def qPd (a : ByteArray) : ByteArray := if spE a = 0 then cD a else ⟨#[]⟩
set_option maxRecDepth 100000 in
set_option maxHeartbeats 1000000 in
theorem qParts_any (a : ByteArray) (w : World) (ha : a.size ≤ 9223372036854775807) :
    Calls Tryz.prog 223 #[.string a] w fun x w' => x = .returned (.tuple #[.string (qPn a), .string (qPd a), .int .i64 (spE a)]) ∧ Kp [] w w' := by
  have h0 : KE (w.alloc (.cells #[.int .i64 0] 150 (0, 0))) w.heap.size 0 := heap_alloc_new w _
  have k0 : Kp [] w (w.alloc (.cells #[.int .i64 0] 150 (0, 0))) := (Kp.refl _ _).alloc _
  have q1 := Lib.hid (k_split w.heap.size 0 a _ h0 ha)
  rw [kp_zero] at q1
  have e1 : Hid (qPn a = if spE a = 0 then cN a else ⟨#[]⟩) := rfl
  have e2 : Hid (qPd a = if spE a = 0 then cD a else ⟨#[]⟩) := rfl
  by_cases hE : spE a = 0
  · rw [if_pos hE] at e1 e2
    rw [e1.out, e2.out]
    rw [hE] at q1 ⊢
    generalize cN a = n at *
    generalize cD a = p at *
    go_enter Tryz.func223, Tryz.ntmps223
    go_wp2_with fail
    with_reducible refine q1.out.mono ?_
    rintro x w1 ⟨rfl, h1, k1⟩
    have hc := (KE.alloc h1 (.cells #[.string n, .string p] 123 (0, 0))).cell
    have hf0 := (FrB.made w1 n p).c0
    have hf1 := (FrB.made w1 n p).c1
    have kk : Kp [] w (w1.alloc (.cells #[.string n, .string p] 123 (0, 0))) := (k0.step k1 (by simp)).alloc _
    go_wp2
    go_quiet (fail)
    go_wp2
    refine bodyPost_ret (results_tmp3 rfl _ _ _) rfl ?_
    exact ⟨rfl, kk.drewN _⟩
  · rw [if_neg hE] at e1 e2
    rw [e1.out, e2.out]
    have hb : (spE a != 0) = true := by simpa using hE
    generalize cN a = n at *
    generalize cD a = p at *
    generalize spE a = Ea at *
    clear hE e1 e2
    go_enter Tryz.func223, Tryz.ntmps223
    go_wp2_with fail
    with_reducible refine q1.out.mono ?_
    rintro x w1 ⟨rfl, h1, k1⟩
    have hc := (KE.alloc h1 (.cells #[.string n, .string p] 123 (0, 0))).cell
    have kk : Kp [] w (w1.alloc (.cells #[.string n, .string p] 123 (0, 0))) := (k0.step k1 (by simp)).alloc _
    go_wp2
    go_quiet (fail)
    go_wp2
    refine bodyPost_ret (results_tmp3 rfl _ _ _) rfl ?_
    exact ⟨rfl, kk.drewN _⟩

/-! Sign and Neg -/
end Go.Proofs.YtegamkilhgekjaaGreatDoor
