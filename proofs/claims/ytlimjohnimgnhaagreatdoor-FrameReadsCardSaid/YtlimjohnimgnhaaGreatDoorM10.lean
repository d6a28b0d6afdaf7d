/- Texts Up5: each says in its own first comment what it proves. -/
import Derived.Test.YtlimjohnimgnhaaGreatDoorM42
import Derived.Test.YtlimjohnimgnhaaGreatDoorM18
/- Frames: All. -/
namespace Go.Proofs.YtlimjohnimgnhaaGreatDoor
open Go.RowKit

set_option maxRecDepth 100000 in
set_option maxHeartbeats 4000000 in
theorem fAll1_1 (w0 : World) (n : ByteArray) (k : Int) (a : Int) (x : Int) (y : Int) (z : Int) (lo : Int) (hi : Int) (fp : Option Addr) (fl : Nat) (fc : Nat) (b : Nat) (r1 : Int)   (q1 : Cf w0 58 #[.agg #[.string n, .int .i64 k, .int .i64 a, .int .i64 x, .int .i64 y, .int .i64 z, .int .i64 lo, .int .i64 hi, .slice fp fl fc]] (.int .i64 r1)) (w : World) (gl : Gf w0 w) (b0 : Is w b #[.string n, .int .i64 k, .int .i64 a, .int .i64 x, .int .i64 y, .int .i64 z, .int .i64 lo, .int .i64 hi, .slice fp fl fc] 28)  : Calls Tryz.prog 57 #[.pointer (some ⟨b, 0, none⟩)] w fun r W' => r = .returned (.int .i64 r1) ∧ Kb w W' := by
  have kx := Kb.refl w
  unfold Cf at q1
  have gl0 := Lib.hid gl
  have f1 := b0.c (i := 0) rfl
  have f2 := b0.c (i := 1) rfl
  have f3 := b0.c (i := 2) rfl
  have f4 := b0.c (i := 3) rfl
  have f5 := b0.c (i := 4) rfl
  have f6 := b0.c (i := 5) rfl
  have f7 := b0.c (i := 6) rfl
  have f8 := b0.c (i := 7) rfl
  have f9 := b0.c (i := 8) rfl
  go_enter Tryz.func57, Tryz.ntmps57
  go_wp2_with fail
  clear f1 f2 f3 f4 f5 f6 f7 f8 f9
  (with_reducible refine ((q1.out _ gl)).mono ?_)
  rintro r w1 ⟨rfl, k1⟩
  replace b0 := b0.kb k1
  replace gl := gl.kb k1
  replace kx := kx.trans k1
  have s1 := k1.size
  skip
  clear k1
  go_wp2
  go_ret
  exact ⟨rfl, kx⟩
theorem ckFrs {A : Prop} {w0 w : World} {n : ByteArray} {k : Int} {a : Int} {x : Int} {y : Int} {z : Int} {lo : Int} {hi : Int} {fp : Option Addr} {fl : Nat} {fc : Nat} {b : Nat} {e : Int} (gl : Gf w0 w) (is : Is w b #[.string n, .int .i64 k, .int .i64 a, .int .i64 x, .int .i64 y, .int .i64 z, .int .i64 lo, .int .i64 hi, .slice fp fl fc] 28) (q : A → Cf w0 58 #[.agg #[.string n, .int .i64 k, .int .i64 a, .int .i64 x, .int .i64 y, .int .i64 z, .int .i64 lo, .int .i64 hi, .slice fp fl fc]] (.int .i64 e)) : Ckc A (.func (.func 57) #[] #[.pointer (some ⟨b, 0, none⟩)]) e w :=
  ⟨_, _, rfl, enters_of Tryz.func57 (by kernel_rfl) rfl, fun hA W hW => fAll1_1 w0 n k a x y z lo hi fp fl fc b e (q hA) W (gl.kx hW) (is.kx hW (by simp))⟩
set_option maxRecDepth 100000 in
set_option maxHeartbeats 4000000 in
theorem fAllF_1 (w0 : World) (n : ByteArray) (k : Int) (a : Int) (x : Int) (y : Int) (z : Int) (lo : Int) (hi : Int) (fp : Option Addr) (fl : Nat) (fc : Nat) (ec : Int) (ea : Int)   (q1 : Ca 41 #[.agg #[.string n, .int .i64 k, .int .i64 a, .int .i64 x, .int .i64 y, .int .i64 z, .int .i64 lo, .int .i64 hi, .slice fp fl fc]] (.int .i64 ea)) (q3 : firstE [ea] = 0 ∧ fE (decide (8 < (fl : Int))) 5 = 0 → Cf w0 58 #[.agg #[.string n, .int .i64 k, .int .i64 a, .int .i64 x, .int .i64 y, .int .i64 z, .int .i64 lo, .int .i64 hi, .slice fp fl fc]] (.int .i64 ec)) (w : World) (gl : Gf w0 w)  : Calls Tryz.prog 19 #[.agg #[.string n, .int .i64 k, .int .i64 a, .int .i64 x, .int .i64 y, .int .i64 z, .int .i64 lo, .int .i64 hi, .slice fp fl fc]] w fun r W' => r = .returned (.int .i64 (firstE [firstE [ea], fE (decide (8 < (fl : Int))) 5, ec])) ∧ Kb w W' := by
  have kx := Kb.refl w
  unfold Ca at q1
  have gl0 := Lib.hid gl
  go_enter Tryz.func19, Tryz.ntmps19
  go_wp2_with fail
  have b1 := Is.made w #[.string n, .int .i64 k, .int .i64 a, .int .i64 x, .int .i64 y, .int .i64 z, .int .i64 lo, .int .i64 hi, .slice fp fl fc] 28
  replace kx := kx.alloc (.cells #[.string n, .int .i64 k, .int .i64 a, .int .i64 x, .int .i64 y, .int .i64 z, .int .i64 lo, .int .i64 hi, .slice fp fl fc] 28 (0, 0))
  replace gl := gl0.out.kb kx
  replace gl := gl.drew
  replace b1 := b1.drew
  rw [oF_lit]
  refine o_law (⟨14, [some 3, some 4, some 5, some 6, some 7, some 8, some 9, some 10, some 11, some 12, some 13, some 2], [3, 4, 5, 6, 7, 8, 9, 10, 11, 12, 13, 2], [[], [0], [1], [], [3], [4], [5], [6], [], [2, 7, 8], [9], [10]], [[1], [], [], [1], [], [], [], [], [1], [], [], []]⟩ : OT) (Kx []) (RL [fun vv _ => vv = .agg #[.string n, .int .i64 k, .int .i64 a, .int .i64 x, .int .i64 y, .int .i64 z, .int .i64 lo, .int .i64 hi, .slice fp fl fc], fun vv ww => Sl [] 9 ww vv [[.string n, .int .i64 k, .int .i64 a, .int .i64 x, .int .i64 y, .int .i64 z, .int .i64 lo, .int .i64 hi, .slice fp fl fc]], fun vv ww => Ck [] vv (firstE [ea]) ww, fun vv _ => vv = .pointer (some ⟨w.heap.size, 8, none⟩), fun vv _ => vv = .slice fp fl fc, fun vv _ => vv = .int .i64 (fl : Int), fun vv _ => vv = .bool (decide (8 < (fl : Int))), fun vv ww => Ck [] vv (fE (decide (8 < (fl : Int))) 5) ww, fun vv ww => Ckc (firstE [ea] = 0 ∧ fE (decide (8 < (fl : Int))) 5 = 0) vv ec ww, fun vv ww => SlD [firstE [ea], fE (decide (8 < (fl : Int))) 5, ec] vv ww, fun vv _ => vv = .int .i64 (firstE [firstE [ea], fE (decide (8 < (fl : Int))) 5, ec]), fun vv _ => vv = .int .i64 (firstE [firstE [ea], fE (decide (8 < (fl : Int))) 5, ec])]) (by kernel_rfl) ?hk ?hR ?fin
  case hk => kernel_rfl
  case hR =>
    refine ⟨fun _ => (Kx.refl _ _), fun _ _ _ => Kx.trans, rl_stab ⟨fun _ _ _ _ h => h, (fun v w w' k h => h.kx k), (fun v w w' k h => h.kx k), fun _ _ _ _ h => h, fun _ _ _ _ h => h, fun _ _ _ _ h => h, fun _ _ _ _ h => h, (fun v w w' k h => h.kx k), (fun v w w' k h => h.kx k), (fun v w w' k h => h.kx k), fun _ _ _ _ h => h, fun _ _ _ _ h => h, trivial⟩, ?_⟩
    refine allO_cons ?_ (allO_cons ?_ (allO_cons ?_ (allO_cons ?_ (allO_cons ?_ (allO_cons ?_ (allO_cons ?_ (allO_cons ?_ (allO_cons ?_ (allO_cons ?_ (allO_cons ?_ (allO_cons ?_ (allO_nil))))))))))))
    · intro T w9 hG hD hO Q
      have q0 := hO.1
      have e0 : (oF 14 T).eval (.tmp 1) = .pointer (some ⟨w.heap.size, 0, none⟩) := (oF_eval (by decide)).trans (show T 1 = _ from q0)
      refine og_none rfl ?_
      have im := b1.kx hG (by simp)
      have m0 := im.c (i := 0) rfl
      have m1 := im.c (i := 1) rfl
      have m2 := im.c (i := 2) rfl
      have m3 := im.c (i := 3) rfl
      have m4 := im.c (i := 4) rfl
      have m5 := im.c (i := 5) rfl
      have m6 := im.c (i := 6) rfl
      have m7 := im.c (i := 7) rfl
      have m8 := im.c (i := 8) rfl
      clear im
      exact o_val (v := .agg #[.string n, .int .i64 k, .int .i64 a, .int .i64 x, .int .i64 y, .int .i64 z, .int .i64 lo, .int .i64 hi, .slice fp fl fc]) (w' := w9) (by generalize (oF 14 T).eval = rr at *; simp [execOp, go_sem, e0, m0, m1, m2, m3, m4, m5, m6, m7, m8]) rfl rfl (Kx.refl _ _)
    · intro T w9 hG hD hO Q
      have d0 := hD.1
      have e0 : (oF 14 T).eval (.tmp 3) = .agg #[.string n, .int .i64 k, .int .i64 a, .int .i64 x, .int .i64 y, .int .i64 z, .int .i64 lo, .int .i64 hi, .slice fp fl fc] := (oF_eval (by decide)).trans (show T 3 = _ from d0)
      refine og_none rfl ?_
      have kz : Kb w9 (w9.alloc (.cells #[.string n, .int .i64 k, .int .i64 a, .int .i64 x, .int .i64 y, .int .i64 z, .int .i64 lo, .int .i64 hi, .slice fp fl fc] 28 (0, 0))) := (Kb.refl w9).alloc _
      exact o_val (v := .slice (some ⟨w9.heap.size, 0, none⟩) 1 1) (w' := w9.alloc (.cells #[.string n, .int .i64 k, .int .i64 a, .int .i64 x, .int .i64 y, .int .i64 z, .int .i64 lo, .int .i64 hi, .slice fp fl fc] 28 (0, 0))) (by generalize (oF 14 T).eval = rr at *; simp [execOp, go_sem, e0]) rfl (sl_is (Is.made w9 _ _) (by simp) rfl (rows_ok rfl rfl)) kz.kx
    · intro T w9 hG hD hO Q
      have d0 := hD.1
      have e0 : (oF 14 T).eval (.func 40) = .func (.func 40) #[] #[] := rfl
      have e1 : (oF 14 T).eval (.func 41) = .func (.func 41) #[] #[] := rfl
      have e2 : (oF 14 T).eval (.tmp 4) = T 4 := oF_eval (by decide)
      have p2 : (fun vv ww => Sl [] 9 ww vv [[.string n, .int .i64 k, .int .i64 a, .int .i64 x, .int .i64 y, .int .i64 z, .int .i64 lo, .int .i64 hi, .slice fp fl fc]]) (T 4) w9 := d0
      refine og_none rfl ?_
      refine o_call (oc2 (enters_of Tryz.func40 (by kernel_rfl) rfl) rfl rfl e1 e2) rfl ?_
      exact (cEach_Ftr [] _ (⟨#[]⟩, 0, 0, 0, 0, 0, 0, 0, none, 0, 0) [(n, k, a, x, y, z, lo, hi, fp, fl, fc)] [ea] _ w9 (by simp) (by simp) rfl p2 (enters_of Tryz.func41 (by kernel_rfl) rfl) (each_ok ⟨q1, trivial⟩ rfl)).mono fun r W' ⟨v, h1, h2, h3⟩ => ⟨v, h1, h2, h3.kx⟩
    · intro T w9 hG hD hO Q
      have q0 := hO.1
      have e0 : (oF 14 T).eval (.tmp 1) = .pointer (some ⟨w.heap.size, 0, none⟩) := (oF_eval (by decide)).trans (show T 1 = _ from q0)
      refine og_none rfl ?_
      exact o_val (v := .pointer (some ⟨w.heap.size, 8, none⟩)) (w' := w9) (by generalize (oF 14 T).eval = rr at *; simp [execOp, go_sem, e0]) rfl rfl (Kx.refl _ _)
    · intro T w9 hG hD hO Q
      have d0 := hD.1
      have e0 : (oF 14 T).eval (.tmp 6) = .pointer (some ⟨w.heap.size, 8, none⟩) := (oF_eval (by decide)).trans (show T 6 = _ from d0)
      refine og_none rfl ?_
      have im := b1.kx hG (by simp)
      have m0 := im.c (i := 8) rfl
      clear im
      exact o_val (v := .slice fp fl fc) (w' := w9) (by generalize (oF 14 T).eval = rr at *; simp [execOp, go_sem, e0, m0]) rfl rfl (Kx.refl _ _)
    · intro T w9 hG hD hO Q
      have d0 := hD.1
      have e0 : (oF 14 T).eval (.tmp 7) = .slice fp fl fc := (oF_eval (by decide)).trans (show T 7 = _ from d0)
      refine og_none rfl ?_
      exact o_val (v := .int .i64 (fl : Int)) (w' := w9) (by generalize (oF 14 T).eval = rr at *; simp [go_sem, e0]) rfl rfl (Kx.refl _ _)
    · intro T w9 hG hD hO Q
      have d0 := hD.1
      have e0 : (oF 14 T).eval (.tmp 8) = .int .i64 (fl : Int) := (oF_eval (by decide)).trans (show T 8 = _ from d0)
      have e1 : (oF 14 T).eval (.const (.int .i64 8)) = .int .i64 8 := rfl
      refine og_none rfl ?_
      exact o_val (v := .bool (decide (8 < (fl : Int)))) (w' := w9) (by generalize (oF 14 T).eval = rr at *; simp [execOp, go_sem, e0, e1]) rfl rfl (Kx.refl _ _)
    · intro T w9 hG hD hO Q
      have d0 := hD.1
      have e0 : (oF 14 T).eval (.func 47) = .func (.func 47) #[] #[] := rfl
      have e1 : (oF 14 T).eval (.tmp 9) = .bool (decide (8 < (fl : Int))) := (oF_eval (by decide)).trans (show T 9 = _ from d0)
      have e2 : (oF 14 T).eval (.const (.int .i64 5)) = .int .i64 5 := rfl
      refine og_none rfl ?_
      refine o_call (oc2 (enters_of Tryz.func47 (by kernel_rfl) rfl) rfl rfl e1 e2) rfl ?_
      exact (cWhen [] (decide (8 < (fl : Int))) 5 w9 (by simp)).mono fun r W' ⟨v, h1, h2, h3⟩ => ⟨v, h1, h2, h3.kx⟩
    · intro T w9 hG hD hO Q
      have q0 := hO.1
      have e0 : (oF 14 T).eval (.tmp 1) = .pointer (some ⟨w.heap.size, 0, none⟩) := (oF_eval (by decide)).trans (show T 1 = _ from q0)
      refine og_none rfl ?_
      have im := b1.kx hG (by simp)
      exact o_val (v := .func (.func 57) #[] #[.pointer (some ⟨w.heap.size, 0, none⟩)]) (w' := w9) (by generalize (oF 14 T).eval = rr at *; simp [execOp, go_sem, e0]) rfl (ckFrs (gl.kx hG) im q3) (Kx.refl _ _)
    · intro T w9 hG hD hO Q
      have d0 := hD.1
      have d1 := hD.2.1
      have d2 := hD.2.2.1
      have e0 : (oF 14 T).eval (.tmp 5) = T 5 := oF_eval (by decide)
      have p0 : (fun vv ww => Ck [] vv (firstE [ea]) ww) (T 5) w9 := d0
      have e1 : (oF 14 T).eval (.tmp 10) = T 10 := oF_eval (by decide)
      have p1 : (fun vv ww => Ck [] vv (fE (decide (8 < (fl : Int))) 5) ww) (T 10) w9 := d1
      have e2 : (oF 14 T).eval (.tmp 11) = T 11 := oF_eval (by decide)
      have p2 : (fun vv ww => Ckc (firstE [ea] = 0 ∧ fE (decide (8 < (fl : Int))) 5 = 0) vv ec ww) (T 11) w9 := d2
      refine og_none rfl ?_
      obtain ⟨F0, c0, f0, g0, h0⟩ := p0
      obtain ⟨F1, c1, f1, g1, h1⟩ := p1
      obtain ⟨F2, c2, f2, g2, h2⟩ := p2
      rw [f0] at e0
      rw [f1] at e1
      rw [f2] at e2
      have kz : Kb w9 (w9.alloc (.cells #[.func (.func F0) #[] c0, .func (.func F1) #[] c1, .func (.func F2) #[] c2] 80 (0, 0))) := (Kb.refl w9).alloc _
      exact o_val (v := .slice (some ⟨w9.heap.size, 0, none⟩) 3 3) (w' := w9.alloc (.cells #[.func (.func F0) #[] c0, .func (.func F1) #[] c1, .func (.func F2) #[] c2] 80 (0, 0))) (by generalize (oF 14 T).eval = rr at *; simp [execOp, go_sem, e0, e1, e2]) rfl ⟨[.func (.func F0) #[] c0, .func (.func F1) #[] c1, .func (.func F2) #[] c2], rfl, sl_is (Is.made w9 _ _) (by simp) rfl (rows_ok rfl rfl), sld3 (Ck.kx ⟨F0, c0, rfl, g0, h0⟩ kz.kx) (Ck.kx ⟨F1, c1, rfl, g1, h1⟩ kz.kx) (Ckc.kx ⟨F2, c2, rfl, g2, h2⟩ kz.kx)⟩ kz.kx
    · intro T w9 hG hD hO Q
      have d0 := hD.1
      have e0 : (oF 14 T).eval (.func 39) = .func (.func 39) #[] #[] := rfl
      have e1 : (oF 14 T).eval (.tmp 12) = T 12 := oF_eval (by decide)
      have p1 : (fun vv ww => SlD [firstE [ea], fE (decide (8 < (fl : Int))) 5, ec] vv ww) (T 12) w9 := d0
      refine og_none rfl ?_
      refine o_call (oc1 (enters_of Tryz.func39 (by kernel_rfl) rfl) rfl rfl e1) rfl ?_
      exact (cFirstD _ _ w9 p1 (by simp)).mono fun r W' h => ⟨_, h.1, rfl, h.2.kx⟩
    · intro T w9 hG hD hO Q
      have d0 := hD.1
      have e0 : (oF 14 T).eval (.tmp 13) = .int .i64 (firstE [firstE [ea], fE (decide (8 < (fl : Int))) 5, ec]) := (oF_eval (by decide)).trans (show T 13 = _ from d0)
      refine og_none rfl ?_
      exact o_val (v := .int .i64 (firstE [firstE [ea], fE (decide (8 < (fl : Int))) 5, ec])) (w' := w9) (by generalize (oF 14 T).eval = rr at *; simp [execOp, go_sem, e0]) rfl rfl (Kx.refl _ _)
  case fin =>
    intro T w1 hout hval hG
    have s1 := hG.2.2.2.1
    simp only [World.size_drew, World.size_alloc] at s1
    rw [show oF 14 T = (⟨#[T 0, T 1, T 2, T 3, T 4, T 5, T 6, T 7, T 8, T 9, T 10, T 11, T 12, T 13], []⟩ : Act) from oF_list 14 T]
    rw [show T 0 = .agg #[.string n, .int .i64 k, .int .i64 a, .int .i64 x, .int .i64 y, .int .i64 z, .int .i64 lo, .int .i64 hi, .slice fp fl fc] from hout 0 rfl]
    rw [show T 2 = .int .i64 (firstE [firstE [ea], fE (decide (8 < (fl : Int))) 5, ec]) from hval 11 (by decide : 11 < 12)]
    replace b1 := b1.kx hG (by simp)
    replace kx := (show Kb _ _ from kx.drew).trans hG.nil
    replace gl := gl0.out.kb kx
    clear hout hval hG
    go_wp2
    go_ret
    exact ⟨rfl, kx⟩
set_option maxRecDepth 100000 in
theorem fcFrames0 (n : ByteArray) (k a x y z lo hi : Int) (fp : Option Addr) (fc : Nat) (w : World) : Calls Tryz.prog 58 #[.agg #[.string n, .int .i64 k, .int .i64 a, .int .i64 x, .int .i64 y, .int .i64 z, .int .i64 lo, .int .i64 hi, .slice fp 0 fc]] w fun r W' => r = .returned (.int .i64 0) ∧ Kb w W' := by
  have c8 := ((Is.made w #[.string n, .int .i64 k, .int .i64 a, .int .i64 x, .int .i64 y, .int .i64 z, .int .i64 lo, .int .i64 hi, .slice fp 0 fc] 28).alloc (.cells #[.bool false, .bool false, .bool false, .bool false, .bool false, .bool false, .bool false, .bool false, .bool false] 144 (0, 0))).c (i := 8) rfl
  have k0 := ((Kb.refl w).alloc (.cells #[.string n, .int .i64 k, .int .i64 a, .int .i64 x, .int .i64 y, .int .i64 z, .int .i64 lo, .int .i64 hi, .slice fp 0 fc] 28 (0, 0))).alloc (.cells #[.bool false, .bool false, .bool false, .bool false, .bool false, .bool false, .bool false, .bool false, .bool false] 144 (0, 0))
  go_enter Tryz.func58, Tryz.ntmps58
  go_wp2_with fail
  refine wp_loop_rounds 1 ?_
  rw [rounds_succ]
  go_wp2
  go_ret
  exact ⟨rfl, k0⟩
theorem fcFrames {w0 : World} (n : ByteArray) (k a x y z lo hi : Int) (fp : Option Addr) (fl fc : Nat) (fs : List FrT) (hnz : n.size ≤ 1000000) (hf : FrP w0 (.slice fp fl fc) fs) (hF : fl ≤ 1000) (hz : ∀ f ∈ fs, f.ds.length ≤ 100000 ∧ ∀ d ∈ f.ds, d.1.size ≤ 1000000) : Cf w0 58 #[.agg #[.string n, .int .i64 k, .int .i64 a, .int .i64 x, .int .i64 y, .int .i64 z, .int .i64 lo, .int .i64 hi, .slice fp fl fc]] (.int .i64 (fsF n k a x y z lo hi [] fs)) := Lib.hid fun w gl => by
  have hl := hf.len
  by_cases h0 : fl = 0
  · subst h0
    obtain rfl : fs = [] := List.length_eq_zero_iff.1 hl.symm
    exact fcFrames0 n k a x y z lo hi fp fc w
  · obtain ⟨b, off, rfl, _⟩ := hf.at (by omega)
    exact fcFrames1 n k a x y z lo hi b off fl fc fs hnz hF hf hz w gl
theorem frAll {w0 : World} (n : ByteArray) (k a x y z lo hi : Int) (fp : Option Addr) (fl fc : Nat) (fs : List FrT) (hnz : n.size ≤ 1000000) (hf : FrP w0 (.slice fp fl fc) fs) (hF : fl ≤ 1000) (hz : ∀ f ∈ fs, f.ds.length ≤ 100000 ∧ ∀ d ∈ f.ds, d.1.size ≤ 1000000) : Cf w0 19 #[.agg #[.string n, .int .i64 k, .int .i64 a, .int .i64 x, .int .i64 y, .int .i64 z, .int .i64 lo, .int .i64 hi, .slice fp fl fc]] (.int .i64 (alE n k a x y z lo hi fs)) := Lib.hid fun w gl => by
  have q := fAllF_1 w0 n k a x y z lo hi fp fl fc (fsF n k a x y z lo hi [] fs) (ftE n k a x y z lo hi) (fCheck n k a x y z lo hi fp fl fc hnz) (fun _ => fcFrames n k a x y z lo hi fp fl fc fs hnz hf hF hz) w gl
  have hl := hf.len
  have e : alE n k a x y z lo hi fs = firstE [firstE [ftE n k a x y z lo hi], fE (decide (8 < (fl : Int))) 5, fsF n k a x y z lo hi [] fs] := by
    unfold alE
    rw [← hl]
    generalize ftE n k a x y z lo hi = ea
    generalize fsF n k a x y z lo hi [] fs = ec
    have one : ∀ t : Int, firstE [t] = t := fun t => by
      unfold firstE
      split
      · rename_i h; rw [h]; rfl
      · rfl
    rw [one]
    by_cases h1 : ea = 0
    · rw [if_pos h1, h1, firstE, if_pos rfl]
      by_cases h2 : 8 < fl
      · rw [if_pos h2, decide_eq_true (show (8 : Int) < (fl : Int) by omega)]; rfl
      · rw [if_neg h2, decide_eq_false (show ¬ (8 : Int) < (fl : Int) by omega)]
        show ec = firstE [0, ec]
        rw [firstE, if_pos rfl, one]
    · rw [if_neg h1, firstE, if_neg h1]
  rw [e]; exact q
end Go.Proofs.YtlimjohnimgnhaaGreatDoor
