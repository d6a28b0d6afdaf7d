/- Texts Ref2a: each says in its own first comment what it proves. -/
import Derived.Test.YthjhjgglkooafaaGreatDoorM49
import Derived.Test.YthjhjgglkooafaaGreatDoorM48
import Derived.Test.YthjhjgglkooafaaGreatDoorM43
import Derived.Test.YthjhjgglkooafaaGreatDoorM44
/- Parts, Sign, Neg and Floor of the reference of layer 2. -/
namespace Go.Proofs.YthjhjgglkooafaaGreatDoor
open Go.RowKit
open Go.Lib (nDigits itoa decDigits)









































































































































set_option maxRecDepth 100000 in
set_option maxHeartbeats 4000000 in
theorem rSignum_core (a n d : ByteArray) (v : Int) (w : World) (s : Hid (Gw w 18 #[.string a] (.tuple #[.string n, .string d]))) (o : Hid (Gw w 21 #[.string n, .string ⟨#[48]⟩] (.int .i64 v))) :
    Calls Tryz.prog 6 #[.string a] w fun r0 w' => r0 = .returned (.int .i64 v) ∧ Kp [] w w' := by
  unfold Gw at s o
  have kk := Kp.refl [] w
  go_enter Tryz.func6, Tryz.ntmps6
  go_wp2_with fail
  with_reducible refine (s.out _ kk).mono ?_
  rintro e w1 ⟨rfl, k⟩
  replace kk := kk.trans k; clear k
  go_wp2_with fail
  with_reducible refine (o.out _ kk).mono ?_
  rintro e w2 ⟨rfl, k⟩
  replace kk := kk.trans k; clear k
  go_wp2
  go_ret
  exact ⟨rfl, kk⟩



































section
variable {j : Nat} {q : Rat}
theorem ref_check {a : ByteArray} {w : World} (ha : a.size ≤ 9223372036854775807) : Hid (Gw w 5 #[.string a] (.int .i64 (spE a))) := gw_of fun W => rCheck2_any a W ha
theorem ref_ok {w : World} (h : OkR q) : Hid (Gw w 5 #[.string (RS q)] (.int .i64 0)) := by
  have := ref_check (w := w) h.size9
  rwa [(sp_RS h).2.2] at this
theorem ref_split {w : World} (h : OkR q) : Hid (Gw w 18 #[.string (RS q)] (.tuple #[.string (S q.num), .string (S (q.den : Int))])) := gw_of fun W => by
  have c := Split_any (RS q) W (Nat.le_trans h.size (by omega))
  rwa [(sp_RS h).1, (sp_RS h).2.1] at c
theorem rSignum_c (h : OkR q) (w : World) : Calls Tryz.prog 6 #[.string (RS q)] w fun e w' => e = .returned (.int .i64 (sgR q)) ∧ Kp [] w w' := by
  refine rSignum_core _ _ _ _ w (ref_split h) (gw_of fun W => ?_)
  have c := rorder_any plus_all q.num 0 W h.1 (ok_pow (k := 1) (by decide) (by omega))
  rw [S_zero] at c
  have e : cmpI q.num 0 = sgR q := by rw [← sgn_num]; rfl
  rwa [e] at c






end
/-! the operations with one text, for texts that are wrong or small: what the program says -/











theorem kp_z (f : Int) : kp 0 f = f := if_pos rfl
theorem rT_ne {N D : ByteArray} {E : Int} (h : E ≠ 0) : rT N D E = ⟨#[]⟩ := if_neg h






























theorem few_size {a : ByteArray} (hf : fewB a = true) : a.size ≤ 5000 := by
  have hcut := cut_size a
  unfold fewB at hf
  simp only [Bool.or_eq_true, Bool.and_eq_true, decide_eq_true_eq] at hf
  omega

end Go.Proofs.YthjhjgglkooafaaGreatDoor
