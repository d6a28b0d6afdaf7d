/- Features: the law Compares. -/
import Derived.Test.YtgclljgdoonnmaaDoorQj5
import Derived.Test.YtgclljgdoonnmaaDoorQg9
namespace Go.Proofs.YtgclljgdoonnmaaDoor
open Go.RowKit

set_option maxRecDepth 100000 in
set_option maxHeartbeats 4000000 in
theorem lwCompares_1 (nu : ByteArray) (ku : Int) (au : Int) (xu : Int) (yu : Int) (zu : Int) (lou : Int) (hiu : Int) (fpu : Option Addr) (flu : Nat) (fcu : Nat) (nv : ByteArray) (kv : Int) (av : Int) (xv : Int) (yv : Int) (zv : Int) (lov : Int) (hiv : Int) (fpv : Option Addr) (flv : Nat) (fcv : Nat) (us : List FrT) (vs : List FrT) (sp : Bool) (qfuv : Hid (∀ W : World, FrS W (.slice fpu flu fcu) us → FrS W (.slice fpv flv fcv) vs → Calls Tryd.prog 31 #[.agg #[.string nu, .int .i64 ku, .int .i64 au, .int .i64 xu, .int .i64 yu, .int .i64 zu, .int .i64 lou, .int .i64 hiu, .slice fpu flu fcu], .agg #[.string nv, .int .i64 kv, .int .i64 av, .int .i64 xv, .int .i64 yv, .int .i64 zv, .int .i64 lov, .int .i64 hiv, .slice fpv flv fcv]] W fun r W' => r = .returned (.bool sp) ∧ Kb W W')) (qfuu : Hid (∀ W : World, FrS W (.slice fpu flu fcu) us → FrS W (.slice fpu flu fcu) us → Calls Tryd.prog 31 #[.agg #[.string nu, .int .i64 ku, .int .i64 au, .int .i64 xu, .int .i64 yu, .int .i64 zu, .int .i64 lou, .int .i64 hiu, .slice fpu flu fcu], .agg #[.string nu, .int .i64 ku, .int .i64 au, .int .i64 xu, .int .i64 yu, .int .i64 zu, .int .i64 lou, .int .i64 hiu, .slice fpu flu fcu]] W fun r W' => r = .returned (.bool true) ∧ Kb W W')) (qfvv : Hid (∀ W : World, FrS W (.slice fpv flv fcv) vs → FrS W (.slice fpv flv fcv) vs → Calls Tryd.prog 31 #[.agg #[.string nv, .int .i64 kv, .int .i64 av, .int .i64 xv, .int .i64 yv, .int .i64 zv, .int .i64 lov, .int .i64 hiv, .slice fpv flv fcv], .agg #[.string nv, .int .i64 kv, .int .i64 av, .int .i64 xv, .int .i64 yv, .int .i64 zv, .int .i64 lov, .int .i64 hiv, .slice fpv flv fcv]] W fun r W' => r = .returned (.bool true) ∧ Kb W W')) (qruv : Hid (∀ W : World, FrS W (.slice fpu flu fcu) us → FrS W (.slice fpv flv fcv) vs → Calls Tryd.prog 30 #[.agg #[.string nu, .int .i64 ku, .int .i64 au, .int .i64 xu, .int .i64 yu, .int .i64 zu, .int .i64 lou, .int .i64 hiu, .slice fpu flu fcu], .agg #[.string nv, .int .i64 kv, .int .i64 av, .int .i64 xv, .int .i64 yv, .int .i64 zv, .int .i64 lov, .int .i64 hiv, .slice fpv flv fcv]] W fun r W' => r = .returned (.bool sp) ∧ Kb W W'))      (h1 : (fewB nu us) = true) (h2 : (fewB nv vs) = true) (w : World) (gl : Gl w) (da : FrS w (.slice fpu flu fcu) us) (db : FrS w (.slice fpv flv fcv) vs)  : Calls Tryd.prog 6 #[.agg #[.string nu, .int .i64 ku, .int .i64 au, .int .i64 xu, .int .i64 yu, .int .i64 zu, .int .i64 lou, .int .i64 hiu, .slice fpu flu fcu], .agg #[.string nv, .int .i64 kv, .int .i64 av, .int .i64 xv, .int .i64 yv, .int .i64 zv, .int .i64 lov, .int .i64 hiv, .slice fpv flv fcv]] w fun r W' => r = .returned (.bool true) ∧ Kb w W' := by
  have kx := Kb.refl w
  have f1 := ((Is.made w #[.string nu, .int .i64 ku, .int .i64 au, .int .i64 xu, .int .i64 yu, .int .i64 zu, .int .i64 lou, .int .i64 hiu, .slice fpu flu fcu] 28).alloc (.cells #[.string nv, .int .i64 kv, .int .i64 av, .int .i64 xv, .int .i64 yv, .int .i64 zv, .int .i64 lov, .int .i64 hiv, .slice fpv flv fcv] 28 (0, 0))).c (i := 0) rfl
  have f2 := ((Is.made w #[.string nu, .int .i64 ku, .int .i64 au, .int .i64 xu, .int .i64 yu, .int .i64 zu, .int .i64 lou, .int .i64 hiu, .slice fpu flu fcu] 28).alloc (.cells #[.string nv, .int .i64 kv, .int .i64 av, .int .i64 xv, .int .i64 yv, .int .i64 zv, .int .i64 lov, .int .i64 hiv, .slice fpv flv fcv] 28 (0, 0))).c (i := 1) rfl
  have f3 := ((Is.made w #[.string nu, .int .i64 ku, .int .i64 au, .int .i64 xu, .int .i64 yu, .int .i64 zu, .int .i64 lou, .int .i64 hiu, .slice fpu flu fcu] 28).alloc (.cells #[.string nv, .int .i64 kv, .int .i64 av, .int .i64 xv, .int .i64 yv, .int .i64 zv, .int .i64 lov, .int .i64 hiv, .slice fpv flv fcv] 28 (0, 0))).c (i := 2) rfl
  have f4 := ((Is.made w #[.string nu, .int .i64 ku, .int .i64 au, .int .i64 xu, .int .i64 yu, .int .i64 zu, .int .i64 lou, .int .i64 hiu, .slice fpu flu fcu] 28).alloc (.cells #[.string nv, .int .i64 kv, .int .i64 av, .int .i64 xv, .int .i64 yv, .int .i64 zv, .int .i64 lov, .int .i64 hiv, .slice fpv flv fcv] 28 (0, 0))).c (i := 3) rfl
  have f5 := ((Is.made w #[.string nu, .int .i64 ku, .int .i64 au, .int .i64 xu, .int .i64 yu, .int .i64 zu, .int .i64 lou, .int .i64 hiu, .slice fpu flu fcu] 28).alloc (.cells #[.string nv, .int .i64 kv, .int .i64 av, .int .i64 xv, .int .i64 yv, .int .i64 zv, .int .i64 lov, .int .i64 hiv, .slice fpv flv fcv] 28 (0, 0))).c (i := 4) rfl
  have f6 := ((Is.made w #[.string nu, .int .i64 ku, .int .i64 au, .int .i64 xu, .int .i64 yu, .int .i64 zu, .int .i64 lou, .int .i64 hiu, .slice fpu flu fcu] 28).alloc (.cells #[.string nv, .int .i64 kv, .int .i64 av, .int .i64 xv, .int .i64 yv, .int .i64 zv, .int .i64 lov, .int .i64 hiv, .slice fpv flv fcv] 28 (0, 0))).c (i := 5) rfl
  have f7 := ((Is.made w #[.string nu, .int .i64 ku, .int .i64 au, .int .i64 xu, .int .i64 yu, .int .i64 zu, .int .i64 lou, .int .i64 hiu, .slice fpu flu fcu] 28).alloc (.cells #[.string nv, .int .i64 kv, .int .i64 av, .int .i64 xv, .int .i64 yv, .int .i64 zv, .int .i64 lov, .int .i64 hiv, .slice fpv flv fcv] 28 (0, 0))).c (i := 6) rfl
  have f8 := ((Is.made w #[.string nu, .int .i64 ku, .int .i64 au, .int .i64 xu, .int .i64 yu, .int .i64 zu, .int .i64 lou, .int .i64 hiu, .slice fpu flu fcu] 28).alloc (.cells #[.string nv, .int .i64 kv, .int .i64 av, .int .i64 xv, .int .i64 yv, .int .i64 zv, .int .i64 lov, .int .i64 hiv, .slice fpv flv fcv] 28 (0, 0))).c (i := 7) rfl
  have f9 := ((Is.made w #[.string nu, .int .i64 ku, .int .i64 au, .int .i64 xu, .int .i64 yu, .int .i64 zu, .int .i64 lou, .int .i64 hiu, .slice fpu flu fcu] 28).alloc (.cells #[.string nv, .int .i64 kv, .int .i64 av, .int .i64 xv, .int .i64 yv, .int .i64 zv, .int .i64 lov, .int .i64 hiv, .slice fpv flv fcv] 28 (0, 0))).c (i := 8) rfl
  go_enter Tryd.func6, Tryd.ntmps6
  go_wp2_with fail
  clear f1 f2 f3 f4 f5 f6 f7 f8 f9
  replace da := ((da.alloc (.cells #[.string nu, .int .i64 ku, .int .i64 au, .int .i64 xu, .int .i64 yu, .int .i64 zu, .int .i64 lou, .int .i64 hiu, .slice fpu flu fcu] 28 (0, 0))).alloc (.cells #[.string nv, .int .i64 kv, .int .i64 av, .int .i64 xv, .int .i64 yv, .int .i64 zv, .int .i64 lov, .int .i64 hiv, .slice fpv flv fcv] 28 (0, 0)))
  replace db := ((db.alloc (.cells #[.string nu, .int .i64 ku, .int .i64 au, .int .i64 xu, .int .i64 yu, .int .i64 zu, .int .i64 lou, .int .i64 hiu, .slice fpu flu fcu] 28 (0, 0))).alloc (.cells #[.string nv, .int .i64 kv, .int .i64 av, .int .i64 xv, .int .i64 yv, .int .i64 zv, .int .i64 lov, .int .i64 hiv, .slice fpv flv fcv] 28 (0, 0)))
  replace gl := ((gl.alloc (.cells #[.string nu, .int .i64 ku, .int .i64 au, .int .i64 xu, .int .i64 yu, .int .i64 zu, .int .i64 lou, .int .i64 hiu, .slice fpu flu fcu] 28 (0, 0))).alloc (.cells #[.string nv, .int .i64 kv, .int .i64 av, .int .i64 xv, .int .i64 yv, .int .i64 zv, .int .i64 lov, .int .i64 hiv, .slice fpv flv fcv] 28 (0, 0)))
  have b1 := Is.made w #[.string nu, .int .i64 ku, .int .i64 au, .int .i64 xu, .int .i64 yu, .int .i64 zu, .int .i64 lou, .int .i64 hiu, .slice fpu flu fcu] 28
  replace b1 := (b1.alloc (.cells #[.string nv, .int .i64 kv, .int .i64 av, .int .i64 xv, .int .i64 yv, .int .i64 zv, .int .i64 lov, .int .i64 hiv, .slice fpv flv fcv] 28 (0, 0)))
  have b2 := Is.made (w.alloc (.cells #[.string nu, .int .i64 ku, .int .i64 au, .int .i64 xu, .int .i64 yu, .int .i64 zu, .int .i64 lou, .int .i64 hiu, .slice fpu flu fcu] 28 (0, 0))) #[.string nv, .int .i64 kv, .int .i64 av, .int .i64 xv, .int .i64 yv, .int .i64 zv, .int .i64 lov, .int .i64 hiv, .slice fpv flv fcv] 28
  simp only [World.size_alloc] at b2
  replace kx := kx.alloc (.cells #[.string nu, .int .i64 ku, .int .i64 au, .int .i64 xu, .int .i64 yu, .int .i64 zu, .int .i64 lou, .int .i64 hiu, .slice fpu flu fcu] 28 (0, 0))
  replace kx := kx.alloc (.cells #[.string nv, .int .i64 kv, .int .i64 av, .int .i64 xv, .int .i64 yv, .int .i64 zv, .int .i64 lov, .int .i64 hiv, .slice fpv flv fcv] 28 (0, 0))
  (with_reducible refine (rFew nu ku au xu yu zu lou hiu fpu flu fcu us _ da).mono ?_)
  rintro r w1 ⟨rfl, k1⟩
  replace da := da.kb k1
  replace db := db.kb k1
  replace gl := gl.kb k1
  replace b1 := b1.kb k1
  replace b2 := b2.kb k1
  replace kx := kx.trans k1
  have s1 := k1.size
  simp only [World.size_alloc] at s1
  clear k1
  have f10 := b2.c (i := 0) rfl
  have f11 := b2.c (i := 1) rfl
  have f12 := b2.c (i := 2) rfl
  have f13 := b2.c (i := 3) rfl
  have f14 := b2.c (i := 4) rfl
  have f15 := b2.c (i := 5) rfl
  have f16 := b2.c (i := 6) rfl
  have f17 := b2.c (i := 7) rfl
  have f18 := b2.c (i := 8) rfl
  go_wp2_with fail
  clear f10 f11 f12 f13 f14 f15 f16 f17 f18
  (with_reducible refine (rFew nv kv av xv yv zv lov hiv fpv flv fcv vs _ db).mono ?_)
  rintro r w2 ⟨rfl, k2⟩
  replace da := da.kb k2
  replace db := db.kb k2
  replace gl := gl.kb k2
  replace b1 := b1.kb k2
  replace b2 := b2.kb k2
  replace kx := kx.trans k2
  have s2 := k2.size
  skip
  clear k2
  go_wp2_with fail
  replace da := da.drew
  replace db := db.drew
  replace gl := gl.drew
  replace b1 := b1.drew
  replace b2 := b2.drew
  rw [oF_lit]
  refine o_law (⟨34, [some 14, some 15, some 16, some 17, some 18, some 19, some 20, some 21, some 22, some 23, some 24, some 25, some 26, some 27, some 28, some 29, some 30, some 31, some 32, some 33, some 4], [14, 15, 16, 17, 18, 19, 20, 21, 22, 23, 24, 25, 26, 27, 28, 29, 30, 31, 32, 33, 4], [[], [0], [1], [1], [2, 3, 1], [1], [1], [5, 6, 1], [4, 7, 1], [1, 8], [9], [10], [10], [11, 12, 10], [10, 13], [14], [15], [15], [16, 17, 15], [15, 18], [19]], [[], [], [2], [3], [], [2], [3], [], [], [], [], [2], [2], [], [], [], [3], [3], [], [], []]⟩ : OT) (Kx []) (RL [fun vv _ => vv = .bool true, fun vv _ => vv = .bool true, fun vv _ => true = true → vv = .agg #[.string nu, .int .i64 ku, .int .i64 au, .int .i64 xu, .int .i64 yu, .int .i64 zu, .int .i64 lou, .int .i64 hiu, .slice fpu flu fcu], fun vv _ => true = true → vv = .agg #[.string nv, .int .i64 kv, .int .i64 av, .int .i64 xv, .int .i64 yv, .int .i64 zv, .int .i64 lov, .int .i64 hiv, .slice fpv flv fcv], fun vv _ => true = true → vv = .bool sp, fun vv _ => true = true → vv = .agg #[.string nu, .int .i64 ku, .int .i64 au, .int .i64 xu, .int .i64 yu, .int .i64 zu, .int .i64 lou, .int .i64 hiu, .slice fpu flu fcu], fun vv _ => true = true → vv = .agg #[.string nv, .int .i64 kv, .int .i64 av, .int .i64 xv, .int .i64 yv, .int .i64 zv, .int .i64 lov, .int .i64 hiv, .slice fpv flv fcv], fun vv _ => true = true → vv = .bool sp, fun vv _ => true = true → vv = .bool true, fun vv _ => vv = .bool true, fun vv _ => vv = .bool true, fun vv _ => true = true → vv = .agg #[.string nu, .int .i64 ku, .int .i64 au, .int .i64 xu, .int .i64 yu, .int .i64 zu, .int .i64 lou, .int .i64 hiu, .slice fpu flu fcu], fun vv _ => true = true → vv = .agg #[.string nu, .int .i64 ku, .int .i64 au, .int .i64 xu, .int .i64 yu, .int .i64 zu, .int .i64 lou, .int .i64 hiu, .slice fpu flu fcu], fun vv _ => true = true → vv = .bool true, fun vv _ => vv = .bool true, fun vv _ => vv = .bool true, fun vv _ => true = true → vv = .agg #[.string nv, .int .i64 kv, .int .i64 av, .int .i64 xv, .int .i64 yv, .int .i64 zv, .int .i64 lov, .int .i64 hiv, .slice fpv flv fcv], fun vv _ => true = true → vv = .agg #[.string nv, .int .i64 kv, .int .i64 av, .int .i64 xv, .int .i64 yv, .int .i64 zv, .int .i64 lov, .int .i64 hiv, .slice fpv flv fcv], fun vv _ => true = true → vv = .bool true, fun vv _ => vv = .bool true, fun vv _ => vv = .bool true]) (by kernel_rfl) ?hk ?hR ?fin
  case hk => kernel_rfl
  case hR =>
    refine ⟨fun _ => (Kx.refl _ _), fun _ _ _ => Kx.trans, rl_stab ⟨fun _ _ _ _ h => h, fun _ _ _ _ h => h, fun _ _ _ _ h => h, fun _ _ _ _ h => h, fun _ _ _ _ h => h, fun _ _ _ _ h => h, fun _ _ _ _ h => h, fun _ _ _ _ h => h, fun _ _ _ _ h => h, fun _ _ _ _ h => h, fun _ _ _ _ h => h, fun _ _ _ _ h => h, fun _ _ _ _ h => h, fun _ _ _ _ h => h, fun _ _ _ _ h => h, fun _ _ _ _ h => h, fun _ _ _ _ h => h, fun _ _ _ _ h => h, fun _ _ _ _ h => h, fun _ _ _ _ h => h, fun _ _ _ _ h => h, trivial⟩, ?_⟩
    refine allO_cons ?_ (allO_cons ?_ (allO_cons ?_ (allO_cons ?_ (allO_cons ?_ (allO_cons ?_ (allO_cons ?_ (allO_cons ?_ (allO_cons ?_ (allO_cons ?_ (allO_cons ?_ (allO_cons ?_ (allO_cons ?_ (allO_cons ?_ (allO_cons ?_ (allO_cons ?_ (allO_cons ?_ (allO_cons ?_ (allO_cons ?_ (allO_cons ?_ (allO_cons ?_ (allO_nil)))))))))))))))))))))
    · intro T w9 hG hD hO Q
      have e0 : (oF 34 T).eval (.func 11) = .func (.func 11) #[] #[] := rfl
      refine og_none rfl ?_
      refine o_call (oc0 (enters_of Tryd.func11 (by kernel_rfl) rfl) rfl rfl ) rfl ?_
      exact (Cg.out awake_any w9 (gl.kx hG (by simp))).mono fun r W' h => ⟨_, h.1, rfl, h.2.kx⟩
    · intro T w9 hG hD hO Q
      have d0 := hD.1
      have e0 : (oF 34 T).eval (.tmp 14) = .bool true := (oF_eval (by decide)).trans (show T 14 = _ from d0)
      refine og_none rfl ?_
      exact o_val (v := .bool true) (w' := w9) (by generalize (oF 34 T).eval = rr at *; simp [execOp, go_sem, e0]) rfl rfl (Kx.refl _ _)
    · intro T w9 hG hD hO Q
      have d0 := hD.1
      have q0 := hO.1
      have e0 : (oF 34 T).eval (.tmp 2) = .pointer (some ⟨w.heap.size, 0, none⟩) := (oF_eval (by decide)).trans (show T 2 = _ from q0)
      refine og_some (b := true) (c := true) rfl (show T 15 = _ from d0) (fun hc => ?_) (fun hc h => absurd h hc)
      have im := b1.kx hG (by simp)
      have m0 := im.c (i := 0) rfl
      have m1 := im.c (i := 1) rfl
      have m2 := im.c (i := 2) rfl
      have m3 := im.c (i := 3) rfl
      have m4 := im.c (i := 4) rfl
      have m5 := im.c (i := 5) rfl
      have m6 := im.c (i := 6) rfl
      have m7 := im.c (i := 7) rfl
      have m8 := im.c (i := 8) rfl
      clear im
      exact o_val (v := .agg #[.string nu, .int .i64 ku, .int .i64 au, .int .i64 xu, .int .i64 yu, .int .i64 zu, .int .i64 lou, .int .i64 hiu, .slice fpu flu fcu]) (w' := w9) (by generalize (oF 34 T).eval = rr at *; simp [execOp, go_sem, e0, m0, m1, m2, m3, m4, m5, m6, m7, m8]) rfl (fun _ => rfl) (Kx.refl _ _)
    · intro T w9 hG hD hO Q
      have d0 := hD.1
      have q0 := hO.1
      have e0 : (oF 34 T).eval (.tmp 3) = .pointer (some ⟨w.heap.size + 1, 0, none⟩) := (oF_eval (by decide)).trans (show T 3 = _ from q0)
      refine og_some (b := true) (c := true) rfl (show T 15 = _ from d0) (fun hc => ?_) (fun hc h => absurd h hc)
      have im := b2.kx hG (by simp)
      have m0 := im.c (i := 0) rfl
      have m1 := im.c (i := 1) rfl
      have m2 := im.c (i := 2) rfl
      have m3 := im.c (i := 3) rfl
      have m4 := im.c (i := 4) rfl
      have m5 := im.c (i := 5) rfl
      have m6 := im.c (i := 6) rfl
      have m7 := im.c (i := 7) rfl
      have m8 := im.c (i := 8) rfl
      clear im
      exact o_val (v := .agg #[.string nv, .int .i64 kv, .int .i64 av, .int .i64 xv, .int .i64 yv, .int .i64 zv, .int .i64 lov, .int .i64 hiv, .slice fpv flv fcv]) (w' := w9) (by generalize (oF 34 T).eval = rr at *; simp [execOp, go_sem, e0, m0, m1, m2, m3, m4, m5, m6, m7, m8]) rfl (fun _ => rfl) (Kx.refl _ _)
    · intro T w9 hG hD hO Q
      have d0 := hD.1
      have d1 := hD.2.1
      have d2 := hD.2.2.1
      have e0 : (oF 34 T).eval (.func 31) = .func (.func 31) #[] #[] := rfl
      have G1 : true = true → T 16 = .agg #[.string nu, .int .i64 ku, .int .i64 au, .int .i64 xu, .int .i64 yu, .int .i64 zu, .int .i64 lou, .int .i64 hiu, .slice fpu flu fcu] := d0
      have G2 : true = true → T 17 = .agg #[.string nv, .int .i64 kv, .int .i64 av, .int .i64 xv, .int .i64 yv, .int .i64 zv, .int .i64 lov, .int .i64 hiv, .slice fpv flv fcv] := d1
      refine og_some (b := true) (c := true) rfl (show T 15 = _ from d2) (fun hc => ?_) (fun hc h => absurd h hc)
      have e1 : (oF 34 T).eval (.tmp 16) = .agg #[.string nu, .int .i64 ku, .int .i64 au, .int .i64 xu, .int .i64 yu, .int .i64 zu, .int .i64 lou, .int .i64 hiu, .slice fpu flu fcu] := (oF_eval (by decide)).trans (G1 hc)
      have e2 : (oF 34 T).eval (.tmp 17) = .agg #[.string nv, .int .i64 kv, .int .i64 av, .int .i64 xv, .int .i64 yv, .int .i64 zv, .int .i64 lov, .int .i64 hiv, .slice fpv flv fcv] := (oF_eval (by decide)).trans (G2 hc)
      refine o_call (oc2 (enters_of Tryd.func31 (by kernel_rfl) rfl) rfl rfl e1 e2) rfl ?_
      exact (qfuv.out w9 (da.kx hG) (db.kx hG)).mono fun r W' h => ⟨_, h.1, fun _ => rfl, h.2.kx⟩
    · intro T w9 hG hD hO Q
      have d0 := hD.1
      have q0 := hO.1
      have e0 : (oF 34 T).eval (.tmp 2) = .pointer (some ⟨w.heap.size, 0, none⟩) := (oF_eval (by decide)).trans (show T 2 = _ from q0)
      refine og_some (b := true) (c := true) rfl (show T 15 = _ from d0) (fun hc => ?_) (fun hc h => absurd h hc)
      have im := b1.kx hG (by simp)
      have m0 := im.c (i := 0) rfl
      have m1 := im.c (i := 1) rfl
      have m2 := im.c (i := 2) rfl
      have m3 := im.c (i := 3) rfl
      have m4 := im.c (i := 4) rfl
      have m5 := im.c (i := 5) rfl
      have m6 := im.c (i := 6) rfl
      have m7 := im.c (i := 7) rfl
      have m8 := im.c (i := 8) rfl
      clear im
      exact o_val (v := .agg #[.string nu, .int .i64 ku, .int .i64 au, .int .i64 xu, .int .i64 yu, .int .i64 zu, .int .i64 lou, .int .i64 hiu, .slice fpu flu fcu]) (w' := w9) (by generalize (oF 34 T).eval = rr at *; simp [execOp, go_sem, e0, m0, m1, m2, m3, m4, m5, m6, m7, m8]) rfl (fun _ => rfl) (Kx.refl _ _)
    · intro T w9 hG hD hO Q
      have d0 := hD.1
      have q0 := hO.1
      have e0 : (oF 34 T).eval (.tmp 3) = .pointer (some ⟨w.heap.size + 1, 0, none⟩) := (oF_eval (by decide)).trans (show T 3 = _ from q0)
      refine og_some (b := true) (c := true) rfl (show T 15 = _ from d0) (fun hc => ?_) (fun hc h => absurd h hc)
      have im := b2.kx hG (by simp)
      have m0 := im.c (i := 0) rfl
      have m1 := im.c (i := 1) rfl
      have m2 := im.c (i := 2) rfl
      have m3 := im.c (i := 3) rfl
      have m4 := im.c (i := 4) rfl
      have m5 := im.c (i := 5) rfl
      have m6 := im.c (i := 6) rfl
      have m7 := im.c (i := 7) rfl
      have m8 := im.c (i := 8) rfl
      clear im
      exact o_val (v := .agg #[.string nv, .int .i64 kv, .int .i64 av, .int .i64 xv, .int .i64 yv, .int .i64 zv, .int .i64 lov, .int .i64 hiv, .slice fpv flv fcv]) (w' := w9) (by generalize (oF 34 T).eval = rr at *; simp [execOp, go_sem, e0, m0, m1, m2, m3, m4, m5, m6, m7, m8]) rfl (fun _ => rfl) (Kx.refl _ _)
    · intro T w9 hG hD hO Q
      have d0 := hD.1
      have d1 := hD.2.1
      have d2 := hD.2.2.1
      have e0 : (oF 34 T).eval (.func 30) = .func (.func 30) #[] #[] := rfl
      have G1 : true = true → T 19 = .agg #[.string nu, .int .i64 ku, .int .i64 au, .int .i64 xu, .int .i64 yu, .int .i64 zu, .int .i64 lou, .int .i64 hiu, .slice fpu flu fcu] := d0
      have G2 : true = true → T 20 = .agg #[.string nv, .int .i64 kv, .int .i64 av, .int .i64 xv, .int .i64 yv, .int .i64 zv, .int .i64 lov, .int .i64 hiv, .slice fpv flv fcv] := d1
      refine og_some (b := true) (c := true) rfl (show T 15 = _ from d2) (fun hc => ?_) (fun hc h => absurd h hc)
      have e1 : (oF 34 T).eval (.tmp 19) = .agg #[.string nu, .int .i64 ku, .int .i64 au, .int .i64 xu, .int .i64 yu, .int .i64 zu, .int .i64 lou, .int .i64 hiu, .slice fpu flu fcu] := (oF_eval (by decide)).trans (G1 hc)
      have e2 : (oF 34 T).eval (.tmp 20) = .agg #[.string nv, .int .i64 kv, .int .i64 av, .int .i64 xv, .int .i64 yv, .int .i64 zv, .int .i64 lov, .int .i64 hiv, .slice fpv flv fcv] := (oF_eval (by decide)).trans (G2 hc)
      refine o_call (oc2 (enters_of Tryd.func30 (by kernel_rfl) rfl) rfl rfl e1 e2) rfl ?_
      exact (qruv.out w9 (da.kx hG) (db.kx hG)).mono fun r W' h => ⟨_, h.1, fun _ => rfl, h.2.kx⟩
    · intro T w9 hG hD hO Q
      have d0 := hD.1
      have d1 := hD.2.1
      have d2 := hD.2.2.1
      have G0 : true = true → T 18 = .bool sp := d0
      have G1 : true = true → T 21 = .bool sp := d1
      refine og_some (b := true) (c := true) rfl (show T 15 = _ from d2) (fun hc => ?_) (fun hc h => absurd h hc)
      have e0 : (oF 34 T).eval (.tmp 18) = .bool sp := (oF_eval (by decide)).trans (G0 hc)
      have e1 : (oF 34 T).eval (.tmp 21) = .bool sp := (oF_eval (by decide)).trans (G1 hc)
      exact o_val (v := .bool true) (w' := w9) (by generalize (oF 34 T).eval = rr at *; simp [execOp, go_sem, e0, e1]) rfl (fun _ => rfl) (Kx.refl _ _)
    · intro T w9 hG hD hO Q
      have d0 := hD.1
      have d1 := hD.2.1
      have e0 : (oF 34 T).eval (.tmp 15) = .bool true := (oF_eval (by decide)).trans (show T 15 = _ from d0)
      have G1 : true = true → T 22 = .bool true := d1
      have e1 : (oF 34 T).eval (.tmp 22) = T 22 := oF_eval (by decide)
      have e2 : (oF 34 T).eval (.const (.bool false)) = .bool false := rfl
      refine og_none rfl ?_
      rw [G1 rfl] at e1
      exact o_val (v := .bool true) (w' := w9) (by generalize (oF 34 T).eval = rr at *; simp [execOp, go_sem, e0, e1]) rfl rfl (Kx.refl _ _)
    · intro T w9 hG hD hO Q
      have d0 := hD.1
      have e0 : (oF 34 T).eval (.tmp 23) = .bool true := (oF_eval (by decide)).trans (show T 23 = _ from d0)
      refine og_none rfl ?_
      exact o_val (v := .bool true) (w' := w9) (by generalize (oF 34 T).eval = rr at *; simp [execOp, go_sem, e0]) rfl rfl (Kx.refl _ _)
    · intro T w9 hG hD hO Q
      have d0 := hD.1
      have q0 := hO.1
      have e0 : (oF 34 T).eval (.tmp 2) = .pointer (some ⟨w.heap.size, 0, none⟩) := (oF_eval (by decide)).trans (show T 2 = _ from q0)
      refine og_some (b := true) (c := true) rfl (show T 24 = _ from d0) (fun hc => ?_) (fun hc h => absurd h hc)
      have im := b1.kx hG (by simp)
      have m0 := im.c (i := 0) rfl
      have m1 := im.c (i := 1) rfl
      have m2 := im.c (i := 2) rfl
      have m3 := im.c (i := 3) rfl
      have m4 := im.c (i := 4) rfl
      have m5 := im.c (i := 5) rfl
      have m6 := im.c (i := 6) rfl
      have m7 := im.c (i := 7) rfl
      have m8 := im.c (i := 8) rfl
      clear im
      exact o_val (v := .agg #[.string nu, .int .i64 ku, .int .i64 au, .int .i64 xu, .int .i64 yu, .int .i64 zu, .int .i64 lou, .int .i64 hiu, .slice fpu flu fcu]) (w' := w9) (by generalize (oF 34 T).eval = rr at *; simp [execOp, go_sem, e0, m0, m1, m2, m3, m4, m5, m6, m7, m8]) rfl (fun _ => rfl) (Kx.refl _ _)
    · intro T w9 hG hD hO Q
      have d0 := hD.1
      have q0 := hO.1
      have e0 : (oF 34 T).eval (.tmp 2) = .pointer (some ⟨w.heap.size, 0, none⟩) := (oF_eval (by decide)).trans (show T 2 = _ from q0)
      refine og_some (b := true) (c := true) rfl (show T 24 = _ from d0) (fun hc => ?_) (fun hc h => absurd h hc)
      have im := b1.kx hG (by simp)
      have m0 := im.c (i := 0) rfl
      have m1 := im.c (i := 1) rfl
      have m2 := im.c (i := 2) rfl
      have m3 := im.c (i := 3) rfl
      have m4 := im.c (i := 4) rfl
      have m5 := im.c (i := 5) rfl
      have m6 := im.c (i := 6) rfl
      have m7 := im.c (i := 7) rfl
      have m8 := im.c (i := 8) rfl
      clear im
      exact o_val (v := .agg #[.string nu, .int .i64 ku, .int .i64 au, .int .i64 xu, .int .i64 yu, .int .i64 zu, .int .i64 lou, .int .i64 hiu, .slice fpu flu fcu]) (w' := w9) (by generalize (oF 34 T).eval = rr at *; simp [execOp, go_sem, e0, m0, m1, m2, m3, m4, m5, m6, m7, m8]) rfl (fun _ => rfl) (Kx.refl _ _)
    · intro T w9 hG hD hO Q
      have d0 := hD.1
      have d1 := hD.2.1
      have d2 := hD.2.2.1
      have e0 : (oF 34 T).eval (.func 31) = .func (.func 31) #[] #[] := rfl
      have G1 : true = true → T 25 = .agg #[.string nu, .int .i64 ku, .int .i64 au, .int .i64 xu, .int .i64 yu, .int .i64 zu, .int .i64 lou, .int .i64 hiu, .slice fpu flu fcu] := d0
      have G2 : true = true → T 26 = .agg #[.string nu, .int .i64 ku, .int .i64 au, .int .i64 xu, .int .i64 yu, .int .i64 zu, .int .i64 lou, .int .i64 hiu, .slice fpu flu fcu] := d1
      refine og_some (b := true) (c := true) rfl (show T 24 = _ from d2) (fun hc => ?_) (fun hc h => absurd h hc)
      have e1 : (oF 34 T).eval (.tmp 25) = .agg #[.string nu, .int .i64 ku, .int .i64 au, .int .i64 xu, .int .i64 yu, .int .i64 zu, .int .i64 lou, .int .i64 hiu, .slice fpu flu fcu] := (oF_eval (by decide)).trans (G1 hc)
      have e2 : (oF 34 T).eval (.tmp 26) = .agg #[.string nu, .int .i64 ku, .int .i64 au, .int .i64 xu, .int .i64 yu, .int .i64 zu, .int .i64 lou, .int .i64 hiu, .slice fpu flu fcu] := (oF_eval (by decide)).trans (G2 hc)
      refine o_call (oc2 (enters_of Tryd.func31 (by kernel_rfl) rfl) rfl rfl e1 e2) rfl ?_
      exact (qfuu.out w9 (da.kx hG) (da.kx hG)).mono fun r W' h => ⟨_, h.1, fun _ => rfl, h.2.kx⟩
    · intro T w9 hG hD hO Q
      have d0 := hD.1
      have d1 := hD.2.1
      have e0 : (oF 34 T).eval (.tmp 24) = .bool true := (oF_eval (by decide)).trans (show T 24 = _ from d0)
      have G1 : true = true → T 27 = .bool true := d1
      have e1 : (oF 34 T).eval (.tmp 27) = T 27 := oF_eval (by decide)
      have e2 : (oF 34 T).eval (.const (.bool false)) = .bool false := rfl
      refine og_none rfl ?_
      rw [G1 rfl] at e1
      exact o_val (v := .bool true) (w' := w9) (by generalize (oF 34 T).eval = rr at *; simp [execOp, go_sem, e0, e1]) rfl rfl (Kx.refl _ _)
    · intro T w9 hG hD hO Q
      have d0 := hD.1
      have e0 : (oF 34 T).eval (.tmp 28) = .bool true := (oF_eval (by decide)).trans (show T 28 = _ from d0)
      refine og_none rfl ?_
      exact o_val (v := .bool true) (w' := w9) (by generalize (oF 34 T).eval = rr at *; simp [execOp, go_sem, e0]) rfl rfl (Kx.refl _ _)
    · intro T w9 hG hD hO Q
      have d0 := hD.1
      have q0 := hO.1
      have e0 : (oF 34 T).eval (.tmp 3) = .pointer (some ⟨w.heap.size + 1, 0, none⟩) := (oF_eval (by decide)).trans (show T 3 = _ from q0)
      refine og_some (b := true) (c := true) rfl (show T 29 = _ from d0) (fun hc => ?_) (fun hc h => absurd h hc)
      have im := b2.kx hG (by simp)
      have m0 := im.c (i := 0) rfl
      have m1 := im.c (i := 1) rfl
      have m2 := im.c (i := 2) rfl
      have m3 := im.c (i := 3) rfl
      have m4 := im.c (i := 4) rfl
      have m5 := im.c (i := 5) rfl
      have m6 := im.c (i := 6) rfl
      have m7 := im.c (i := 7) rfl
      have m8 := im.c (i := 8) rfl
      clear im
      exact o_val (v := .agg #[.string nv, .int .i64 kv, .int .i64 av, .int .i64 xv, .int .i64 yv, .int .i64 zv, .int .i64 lov, .int .i64 hiv, .slice fpv flv fcv]) (w' := w9) (by generalize (oF 34 T).eval = rr at *; simp [execOp, go_sem, e0, m0, m1, m2, m3, m4, m5, m6, m7, m8]) rfl (fun _ => rfl) (Kx.refl _ _)
    · intro T w9 hG hD hO Q
      have d0 := hD.1
      have q0 := hO.1
      have e0 : (oF 34 T).eval (.tmp 3) = .pointer (some ⟨w.heap.size + 1, 0, none⟩) := (oF_eval (by decide)).trans (show T 3 = _ from q0)
      refine og_some (b := true) (c := true) rfl (show T 29 = _ from d0) (fun hc => ?_) (fun hc h => absurd h hc)
      have im := b2.kx hG (by simp)
      have m0 := im.c (i := 0) rfl
      have m1 := im.c (i := 1) rfl
      have m2 := im.c (i := 2) rfl
      have m3 := im.c (i := 3) rfl
      have m4 := im.c (i := 4) rfl
      have m5 := im.c (i := 5) rfl
      have m6 := im.c (i := 6) rfl
      have m7 := im.c (i := 7) rfl
      have m8 := im.c (i := 8) rfl
      clear im
      exact o_val (v := .agg #[.string nv, .int .i64 kv, .int .i64 av, .int .i64 xv, .int .i64 yv, .int .i64 zv, .int .i64 lov, .int .i64 hiv, .slice fpv flv fcv]) (w' := w9) (by generalize (oF 34 T).eval = rr at *; simp [execOp, go_sem, e0, m0, m1, m2, m3, m4, m5, m6, m7, m8]) rfl (fun _ => rfl) (Kx.refl _ _)
    · intro T w9 hG hD hO Q
      have d0 := hD.1
      have d1 := hD.2.1
      have d2 := hD.2.2.1
      have e0 : (oF 34 T).eval (.func 31) = .func (.func 31) #[] #[] := rfl
      have G1 : true = true → T 30 = .agg #[.string nv, .int .i64 kv, .int .i64 av, .int .i64 xv, .int .i64 yv, .int .i64 zv, .int .i64 lov, .int .i64 hiv, .slice fpv flv fcv] := d0
      have G2 : true = true → T 31 = .agg #[.string nv, .int .i64 kv, .int .i64 av, .int .i64 xv, .int .i64 yv, .int .i64 zv, .int .i64 lov, .int .i64 hiv, .slice fpv flv fcv] := d1
      refine og_some (b := true) (c := true) rfl (show T 29 = _ from d2) (fun hc => ?_) (fun hc h => absurd h hc)
      have e1 : (oF 34 T).eval (.tmp 30) = .agg #[.string nv, .int .i64 kv, .int .i64 av, .int .i64 xv, .int .i64 yv, .int .i64 zv, .int .i64 lov, .int .i64 hiv, .slice fpv flv fcv] := (oF_eval (by decide)).trans (G1 hc)
      have e2 : (oF 34 T).eval (.tmp 31) = .agg #[.string nv, .int .i64 kv, .int .i64 av, .int .i64 xv, .int .i64 yv, .int .i64 zv, .int .i64 lov, .int .i64 hiv, .slice fpv flv fcv] := (oF_eval (by decide)).trans (G2 hc)
      refine o_call (oc2 (enters_of Tryd.func31 (by kernel_rfl) rfl) rfl rfl e1 e2) rfl ?_
      exact (qfvv.out w9 (db.kx hG) (db.kx hG)).mono fun r W' h => ⟨_, h.1, fun _ => rfl, h.2.kx⟩
    · intro T w9 hG hD hO Q
      have d0 := hD.1
      have d1 := hD.2.1
      have e0 : (oF 34 T).eval (.tmp 29) = .bool true := (oF_eval (by decide)).trans (show T 29 = _ from d0)
      have G1 : true = true → T 32 = .bool true := d1
      have e1 : (oF 34 T).eval (.tmp 32) = T 32 := oF_eval (by decide)
      have e2 : (oF 34 T).eval (.const (.bool false)) = .bool false := rfl
      refine og_none rfl ?_
      rw [G1 rfl] at e1
      exact o_val (v := .bool true) (w' := w9) (by generalize (oF 34 T).eval = rr at *; simp [execOp, go_sem, e0, e1]) rfl rfl (Kx.refl _ _)
    · intro T w9 hG hD hO Q
      have d0 := hD.1
      have e0 : (oF 34 T).eval (.tmp 33) = .bool true := (oF_eval (by decide)).trans (show T 33 = _ from d0)
      refine og_none rfl ?_
      exact o_val (v := .bool true) (w' := w9) (by generalize (oF 34 T).eval = rr at *; simp [execOp, go_sem, e0]) rfl rfl (Kx.refl _ _)
  case fin =>
    intro T w3 hout hval hG
    have s3 := hG.2.2.2.1
    simp only [World.size_drew] at s3
    rw [show oF 34 T = (⟨#[T 0, T 1, T 2, T 3, T 4, T 5, T 6, T 7, T 8, T 9, T 10, T 11, T 12, T 13, T 14, T 15, T 16, T 17, T 18, T 19, T 20, T 21, T 22, T 23, T 24, T 25, T 26, T 27, T 28, T 29, T 30, T 31, T 32, T 33], []⟩ : Act) from oF_list 34 T]
    rw [show T 0 = .agg #[.string nu, .int .i64 ku, .int .i64 au, .int .i64 xu, .int .i64 yu, .int .i64 zu, .int .i64 lou, .int .i64 hiu, .slice fpu flu fcu] from hout 0 rfl]
    rw [show T 1 = .agg #[.string nv, .int .i64 kv, .int .i64 av, .int .i64 xv, .int .i64 yv, .int .i64 zv, .int .i64 lov, .int .i64 hiv, .slice fpv flv fcv] from hout 1 rfl]
    rw [show T 2 = .pointer (some ⟨w.heap.size, 0, none⟩) from hout 2 rfl]
    rw [show T 3 = .pointer (some ⟨w.heap.size + 1, 0, none⟩) from hout 3 rfl]
    rw [show T 4 = .bool true from hval 20 (by decide : 20 < 21)]
    rw [show T 5 = .agg #[.string nu, .int .i64 ku, .int .i64 au, .int .i64 xu, .int .i64 yu, .int .i64 zu, .int .i64 lou, .int .i64 hiu, .slice fpu flu fcu] from hout 5 rfl]
    rw [show T 6 = .bool true from hout 6 rfl]
    rw [show T 7 = .bool false from hout 7 rfl]
    rw [show T 8 = .bool false from hout 8 rfl]
    rw [show T 9 = .agg #[.string nv, .int .i64 kv, .int .i64 av, .int .i64 xv, .int .i64 yv, .int .i64 zv, .int .i64 lov, .int .i64 hiv, .slice fpv flv fcv] from hout 9 rfl]
    rw [show T 10 = .bool true from hout 10 rfl]
    rw [show T 11 = .bool false from hout 11 rfl]
    rw [show T 12 = .bool false from hout 12 rfl]
    replace da := da.kx hG (by simp)
    replace db := db.kx hG (by simp)
    replace gl := gl.kx hG (by simp)
    replace b1 := b1.kx hG (by simp)
    replace b2 := b2.kx hG (by simp)
    replace kx := (show Kb _ _ from kx.drew).trans hG.nil
    clear hout hval hG
    go_wp2
    go_ret
    exact ⟨rfl, kx⟩
set_option maxRecDepth 100000 in
set_option maxHeartbeats 4000000 in
theorem lwCompares_2 (nu : ByteArray) (ku : Int) (au : Int) (xu : Int) (yu : Int) (zu : Int) (lou : Int) (hiu : Int) (fpu : Option Addr) (flu : Nat) (fcu : Nat) (nv : ByteArray) (kv : Int) (av : Int) (xv : Int) (yv : Int) (zv : Int) (lov : Int) (hiv : Int) (fpv : Option Addr) (flv : Nat) (fcv : Nat) (us : List FrT) (vs : List FrT)      (h1 : (fewB nu us) = true) (h2 : (fewB nv vs) = false) (w : World) (gl : Gl w) (da : FrS w (.slice fpu flu fcu) us) (db : FrS w (.slice fpv flv fcv) vs)  : Calls Tryd.prog 6 #[.agg #[.string nu, .int .i64 ku, .int .i64 au, .int .i64 xu, .int .i64 yu, .int .i64 zu, .int .i64 lou, .int .i64 hiu, .slice fpu flu fcu], .agg #[.string nv, .int .i64 kv, .int .i64 av, .int .i64 xv, .int .i64 yv, .int .i64 zv, .int .i64 lov, .int .i64 hiv, .slice fpv flv fcv]] w fun r W' => r = .returned (.bool true) ∧ Kb w W' := by
  have kx := Kb.refl w
  have f1 := ((Is.made w #[.string nu, .int .i64 ku, .int .i64 au, .int .i64 xu, .int .i64 yu, .int .i64 zu, .int .i64 lou, .int .i64 hiu, .slice fpu flu fcu] 28).alloc (.cells #[.string nv, .int .i64 kv, .int .i64 av, .int .i64 xv, .int .i64 yv, .int .i64 zv, .int .i64 lov, .int .i64 hiv, .slice fpv flv fcv] 28 (0, 0))).c (i := 0) rfl
  have f2 := ((Is.made w #[.string nu, .int .i64 ku, .int .i64 au, .int .i64 xu, .int .i64 yu, .int .i64 zu, .int .i64 lou, .int .i64 hiu, .slice fpu flu fcu] 28).alloc (.cells #[.string nv, .int .i64 kv, .int .i64 av, .int .i64 xv, .int .i64 yv, .int .i64 zv, .int .i64 lov, .int .i64 hiv, .slice fpv flv fcv] 28 (0, 0))).c (i := 1) rfl
  have f3 := ((Is.made w #[.string nu, .int .i64 ku, .int .i64 au, .int .i64 xu, .int .i64 yu, .int .i64 zu, .int .i64 lou, .int .i64 hiu, .slice fpu flu fcu] 28).alloc (.cells #[.string nv, .int .i64 kv, .int .i64 av, .int .i64 xv, .int .i64 yv, .int .i64 zv, .int .i64 lov, .int .i64 hiv, .slice fpv flv fcv] 28 (0, 0))).c (i := 2) rfl
  have f4 := ((Is.made w #[.string nu, .int .i64 ku, .int .i64 au, .int .i64 xu, .int .i64 yu, .int .i64 zu, .int .i64 lou, .int .i64 hiu, .slice fpu flu fcu] 28).alloc (.cells #[.string nv, .int .i64 kv, .int .i64 av, .int .i64 xv, .int .i64 yv, .int .i64 zv, .int .i64 lov, .int .i64 hiv, .slice fpv flv fcv] 28 (0, 0))).c (i := 3) rfl
  have f5 := ((Is.made w #[.string nu, .int .i64 ku, .int .i64 au, .int .i64 xu, .int .i64 yu, .int .i64 zu, .int .i64 lou, .int .i64 hiu, .slice fpu flu fcu] 28).alloc (.cells #[.string nv, .int .i64 kv, .int .i64 av, .int .i64 xv, .int .i64 yv, .int .i64 zv, .int .i64 lov, .int .i64 hiv, .slice fpv flv fcv] 28 (0, 0))).c (i := 4) rfl
  have f6 := ((Is.made w #[.string nu, .int .i64 ku, .int .i64 au, .int .i64 xu, .int .i64 yu, .int .i64 zu, .int .i64 lou, .int .i64 hiu, .slice fpu flu fcu] 28).alloc (.cells #[.string nv, .int .i64 kv, .int .i64 av, .int .i64 xv, .int .i64 yv, .int .i64 zv, .int .i64 lov, .int .i64 hiv, .slice fpv flv fcv] 28 (0, 0))).c (i := 5) rfl
  have f7 := ((Is.made w #[.string nu, .int .i64 ku, .int .i64 au, .int .i64 xu, .int .i64 yu, .int .i64 zu, .int .i64 lou, .int .i64 hiu, .slice fpu flu fcu] 28).alloc (.cells #[.string nv, .int .i64 kv, .int .i64 av, .int .i64 xv, .int .i64 yv, .int .i64 zv, .int .i64 lov, .int .i64 hiv, .slice fpv flv fcv] 28 (0, 0))).c (i := 6) rfl
  have f8 := ((Is.made w #[.string nu, .int .i64 ku, .int .i64 au, .int .i64 xu, .int .i64 yu, .int .i64 zu, .int .i64 lou, .int .i64 hiu, .slice fpu flu fcu] 28).alloc (.cells #[.string nv, .int .i64 kv, .int .i64 av, .int .i64 xv, .int .i64 yv, .int .i64 zv, .int .i64 lov, .int .i64 hiv, .slice fpv flv fcv] 28 (0, 0))).c (i := 7) rfl
  have f9 := ((Is.made w #[.string nu, .int .i64 ku, .int .i64 au, .int .i64 xu, .int .i64 yu, .int .i64 zu, .int .i64 lou, .int .i64 hiu, .slice fpu flu fcu] 28).alloc (.cells #[.string nv, .int .i64 kv, .int .i64 av, .int .i64 xv, .int .i64 yv, .int .i64 zv, .int .i64 lov, .int .i64 hiv, .slice fpv flv fcv] 28 (0, 0))).c (i := 8) rfl
  go_enter Tryd.func6, Tryd.ntmps6
  go_wp2_with fail
  clear f1 f2 f3 f4 f5 f6 f7 f8 f9
  replace da := ((da.alloc (.cells #[.string nu, .int .i64 ku, .int .i64 au, .int .i64 xu, .int .i64 yu, .int .i64 zu, .int .i64 lou, .int .i64 hiu, .slice fpu flu fcu] 28 (0, 0))).alloc (.cells #[.string nv, .int .i64 kv, .int .i64 av, .int .i64 xv, .int .i64 yv, .int .i64 zv, .int .i64 lov, .int .i64 hiv, .slice fpv flv fcv] 28 (0, 0)))
  replace db := ((db.alloc (.cells #[.string nu, .int .i64 ku, .int .i64 au, .int .i64 xu, .int .i64 yu, .int .i64 zu, .int .i64 lou, .int .i64 hiu, .slice fpu flu fcu] 28 (0, 0))).alloc (.cells #[.string nv, .int .i64 kv, .int .i64 av, .int .i64 xv, .int .i64 yv, .int .i64 zv, .int .i64 lov, .int .i64 hiv, .slice fpv flv fcv] 28 (0, 0)))
  replace gl := ((gl.alloc (.cells #[.string nu, .int .i64 ku, .int .i64 au, .int .i64 xu, .int .i64 yu, .int .i64 zu, .int .i64 lou, .int .i64 hiu, .slice fpu flu fcu] 28 (0, 0))).alloc (.cells #[.string nv, .int .i64 kv, .int .i64 av, .int .i64 xv, .int .i64 yv, .int .i64 zv, .int .i64 lov, .int .i64 hiv, .slice fpv flv fcv] 28 (0, 0)))
  have b1 := Is.made w #[.string nu, .int .i64 ku, .int .i64 au, .int .i64 xu, .int .i64 yu, .int .i64 zu, .int .i64 lou, .int .i64 hiu, .slice fpu flu fcu] 28
  replace b1 := (b1.alloc (.cells #[.string nv, .int .i64 kv, .int .i64 av, .int .i64 xv, .int .i64 yv, .int .i64 zv, .int .i64 lov, .int .i64 hiv, .slice fpv flv fcv] 28 (0, 0)))
  have b2 := Is.made (w.alloc (.cells #[.string nu, .int .i64 ku, .int .i64 au, .int .i64 xu, .int .i64 yu, .int .i64 zu, .int .i64 lou, .int .i64 hiu, .slice fpu flu fcu] 28 (0, 0))) #[.string nv, .int .i64 kv, .int .i64 av, .int .i64 xv, .int .i64 yv, .int .i64 zv, .int .i64 lov, .int .i64 hiv, .slice fpv flv fcv] 28
  simp only [World.size_alloc] at b2
  replace kx := kx.alloc (.cells #[.string nu, .int .i64 ku, .int .i64 au, .int .i64 xu, .int .i64 yu, .int .i64 zu, .int .i64 lou, .int .i64 hiu, .slice fpu flu fcu] 28 (0, 0))
  replace kx := kx.alloc (.cells #[.string nv, .int .i64 kv, .int .i64 av, .int .i64 xv, .int .i64 yv, .int .i64 zv, .int .i64 lov, .int .i64 hiv, .slice fpv flv fcv] 28 (0, 0))
  (with_reducible refine (rFew nu ku au xu yu zu lou hiu fpu flu fcu us _ da).mono ?_)
  rintro r w1 ⟨rfl, k1⟩
  replace da := da.kb k1
  replace db := db.kb k1
  replace gl := gl.kb k1
  replace b1 := b1.kb k1
  replace b2 := b2.kb k1
  replace kx := kx.trans k1
  have s1 := k1.size
  simp only [World.size_alloc] at s1
  clear k1
  have f10 := b2.c (i := 0) rfl
  have f11 := b2.c (i := 1) rfl
  have f12 := b2.c (i := 2) rfl
  have f13 := b2.c (i := 3) rfl
  have f14 := b2.c (i := 4) rfl
  have f15 := b2.c (i := 5) rfl
  have f16 := b2.c (i := 6) rfl
  have f17 := b2.c (i := 7) rfl
  have f18 := b2.c (i := 8) rfl
  go_wp2_with fail
  clear f10 f11 f12 f13 f14 f15 f16 f17 f18
  (with_reducible refine (rFew nv kv av xv yv zv lov hiv fpv flv fcv vs _ db).mono ?_)
  rintro r w2 ⟨rfl, k2⟩
  replace da := da.kb k2
  replace db := db.kb k2
  replace gl := gl.kb k2
  replace b1 := b1.kb k2
  replace b2 := b2.kb k2
  replace kx := kx.trans k2
  have s2 := k2.size
  skip
  clear k2
  go_wp2_with fail
  (with_reducible refine ((Cg.out awake_any _ gl)).mono ?_)
  rintro r w3 ⟨rfl, k3⟩
  replace da := da.kb k3
  replace db := db.kb k3
  replace gl := gl.kb k3
  replace b1 := b1.kb k3
  replace b2 := b2.kb k3
  replace kx := kx.trans k3
  have s3 := k3.size
  skip
  clear k3
  go_wp2
  go_ret
  exact ⟨rfl, kx⟩
set_option maxRecDepth 100000 in
set_option maxHeartbeats 4000000 in
theorem lwCompares_3 (nu : ByteArray) (ku : Int) (au : Int) (xu : Int) (yu : Int) (zu : Int) (lou : Int) (hiu : Int) (fpu : Option Addr) (flu : Nat) (fcu : Nat) (nv : ByteArray) (kv : Int) (av : Int) (xv : Int) (yv : Int) (zv : Int) (lov : Int) (hiv : Int) (fpv : Option Addr) (flv : Nat) (fcv : Nat) (us : List FrT) (vs : List FrT)      (h1 : (fewB nu us) = false) (w : World) (gl : Gl w) (da : FrS w (.slice fpu flu fcu) us) (db : FrS w (.slice fpv flv fcv) vs)  : Calls Tryd.prog 6 #[.agg #[.string nu, .int .i64 ku, .int .i64 au, .int .i64 xu, .int .i64 yu, .int .i64 zu, .int .i64 lou, .int .i64 hiu, .slice fpu flu fcu], .agg #[.string nv, .int .i64 kv, .int .i64 av, .int .i64 xv, .int .i64 yv, .int .i64 zv, .int .i64 lov, .int .i64 hiv, .slice fpv flv fcv]] w fun r W' => r = .returned (.bool true) ∧ Kb w W' := by
  have kx := Kb.refl w
  have f1 := ((Is.made w #[.string nu, .int .i64 ku, .int .i64 au, .int .i64 xu, .int .i64 yu, .int .i64 zu, .int .i64 lou, .int .i64 hiu, .slice fpu flu fcu] 28).alloc (.cells #[.string nv, .int .i64 kv, .int .i64 av, .int .i64 xv, .int .i64 yv, .int .i64 zv, .int .i64 lov, .int .i64 hiv, .slice fpv flv fcv] 28 (0, 0))).c (i := 0) rfl
  have f2 := ((Is.made w #[.string nu, .int .i64 ku, .int .i64 au, .int .i64 xu, .int .i64 yu, .int .i64 zu, .int .i64 lou, .int .i64 hiu, .slice fpu flu fcu] 28).alloc (.cells #[.string nv, .int .i64 kv, .int .i64 av, .int .i64 xv, .int .i64 yv, .int .i64 zv, .int .i64 lov, .int .i64 hiv, .slice fpv flv fcv] 28 (0, 0))).c (i := 1) rfl
  have f3 := ((Is.made w #[.string nu, .int .i64 ku, .int .i64 au, .int .i64 xu, .int .i64 yu, .int .i64 zu, .int .i64 lou, .int .i64 hiu, .slice fpu flu fcu] 28).alloc (.cells #[.string nv, .int .i64 kv, .int .i64 av, .int .i64 xv, .int .i64 yv, .int .i64 zv, .int .i64 lov, .int .i64 hiv, .slice fpv flv fcv] 28 (0, 0))).c (i := 2) rfl
  have f4 := ((Is.made w #[.string nu, .int .i64 ku, .int .i64 au, .int .i64 xu, .int .i64 yu, .int .i64 zu, .int .i64 lou, .int .i64 hiu, .slice fpu flu fcu] 28).alloc (.cells #[.string nv, .int .i64 kv, .int .i64 av, .int .i64 xv, .int .i64 yv, .int .i64 zv, .int .i64 lov, .int .i64 hiv, .slice fpv flv fcv] 28 (0, 0))).c (i := 3) rfl
  have f5 := ((Is.made w #[.string nu, .int .i64 ku, .int .i64 au, .int .i64 xu, .int .i64 yu, .int .i64 zu, .int .i64 lou, .int .i64 hiu, .slice fpu flu fcu] 28).alloc (.cells #[.string nv, .int .i64 kv, .int .i64 av, .int .i64 xv, .int .i64 yv, .int .i64 zv, .int .i64 lov, .int .i64 hiv, .slice fpv flv fcv] 28 (0, 0))).c (i := 4) rfl
  have f6 := ((Is.made w #[.string nu, .int .i64 ku, .int .i64 au, .int .i64 xu, .int .i64 yu, .int .i64 zu, .int .i64 lou, .int .i64 hiu, .slice fpu flu fcu] 28).alloc (.cells #[.string nv, .int .i64 kv, .int .i64 av, .int .i64 xv, .int .i64 yv, .int .i64 zv, .int .i64 lov, .int .i64 hiv, .slice fpv flv fcv] 28 (0, 0))).c (i := 5) rfl
  have f7 := ((Is.made w #[.string nu, .int .i64 ku, .int .i64 au, .int .i64 xu, .int .i64 yu, .int .i64 zu, .int .i64 lou, .int .i64 hiu, .slice fpu flu fcu] 28).alloc (.cells #[.string nv, .int .i64 kv, .int .i64 av, .int .i64 xv, .int .i64 yv, .int .i64 zv, .int .i64 lov, .int .i64 hiv, .slice fpv flv fcv] 28 (0, 0))).c (i := 6) rfl
  have f8 := ((Is.made w #[.string nu, .int .i64 ku, .int .i64 au, .int .i64 xu, .int .i64 yu, .int .i64 zu, .int .i64 lou, .int .i64 hiu, .slice fpu flu fcu] 28).alloc (.cells #[.string nv, .int .i64 kv, .int .i64 av, .int .i64 xv, .int .i64 yv, .int .i64 zv, .int .i64 lov, .int .i64 hiv, .slice fpv flv fcv] 28 (0, 0))).c (i := 7) rfl
  have f9 := ((Is.made w #[.string nu, .int .i64 ku, .int .i64 au, .int .i64 xu, .int .i64 yu, .int .i64 zu, .int .i64 lou, .int .i64 hiu, .slice fpu flu fcu] 28).alloc (.cells #[.string nv, .int .i64 kv, .int .i64 av, .int .i64 xv, .int .i64 yv, .int .i64 zv, .int .i64 lov, .int .i64 hiv, .slice fpv flv fcv] 28 (0, 0))).c (i := 8) rfl
  go_enter Tryd.func6, Tryd.ntmps6
  go_wp2_with fail
  clear f1 f2 f3 f4 f5 f6 f7 f8 f9
  replace da := ((da.alloc (.cells #[.string nu, .int .i64 ku, .int .i64 au, .int .i64 xu, .int .i64 yu, .int .i64 zu, .int .i64 lou, .int .i64 hiu, .slice fpu flu fcu] 28 (0, 0))).alloc (.cells #[.string nv, .int .i64 kv, .int .i64 av, .int .i64 xv, .int .i64 yv, .int .i64 zv, .int .i64 lov, .int .i64 hiv, .slice fpv flv fcv] 28 (0, 0)))
  replace db := ((db.alloc (.cells #[.string nu, .int .i64 ku, .int .i64 au, .int .i64 xu, .int .i64 yu, .int .i64 zu, .int .i64 lou, .int .i64 hiu, .slice fpu flu fcu] 28 (0, 0))).alloc (.cells #[.string nv, .int .i64 kv, .int .i64 av, .int .i64 xv, .int .i64 yv, .int .i64 zv, .int .i64 lov, .int .i64 hiv, .slice fpv flv fcv] 28 (0, 0)))
  replace gl := ((gl.alloc (.cells #[.string nu, .int .i64 ku, .int .i64 au, .int .i64 xu, .int .i64 yu, .int .i64 zu, .int .i64 lou, .int .i64 hiu, .slice fpu flu fcu] 28 (0, 0))).alloc (.cells #[.string nv, .int .i64 kv, .int .i64 av, .int .i64 xv, .int .i64 yv, .int .i64 zv, .int .i64 lov, .int .i64 hiv, .slice fpv flv fcv] 28 (0, 0)))
  have b1 := Is.made w #[.string nu, .int .i64 ku, .int .i64 au, .int .i64 xu, .int .i64 yu, .int .i64 zu, .int .i64 lou, .int .i64 hiu, .slice fpu flu fcu] 28
  replace b1 := (b1.alloc (.cells #[.string nv, .int .i64 kv, .int .i64 av, .int .i64 xv, .int .i64 yv, .int .i64 zv, .int .i64 lov, .int .i64 hiv, .slice fpv flv fcv] 28 (0, 0)))
  have b2 := Is.made (w.alloc (.cells #[.string nu, .int .i64 ku, .int .i64 au, .int .i64 xu, .int .i64 yu, .int .i64 zu, .int .i64 lou, .int .i64 hiu, .slice fpu flu fcu] 28 (0, 0))) #[.string nv, .int .i64 kv, .int .i64 av, .int .i64 xv, .int .i64 yv, .int .i64 zv, .int .i64 lov, .int .i64 hiv, .slice fpv flv fcv] 28
  simp only [World.size_alloc] at b2
  replace kx := kx.alloc (.cells #[.string nu, .int .i64 ku, .int .i64 au, .int .i64 xu, .int .i64 yu, .int .i64 zu, .int .i64 lou, .int .i64 hiu, .slice fpu flu fcu] 28 (0, 0))
  replace kx := kx.alloc (.cells #[.string nv, .int .i64 kv, .int .i64 av, .int .i64 xv, .int .i64 yv, .int .i64 zv, .int .i64 lov, .int .i64 hiv, .slice fpv flv fcv] 28 (0, 0))
  (with_reducible refine (rFew nu ku au xu yu zu lou hiu fpu flu fcu us _ da).mono ?_)
  rintro r w1 ⟨rfl, k1⟩
  replace da := da.kb k1
  replace db := db.kb k1
  replace gl := gl.kb k1
  replace b1 := b1.kb k1
  replace b2 := b2.kb k1
  replace kx := kx.trans k1
  have s1 := k1.size
  simp only [World.size_alloc] at s1
  clear k1
  go_wp2_with fail
  (with_reducible refine ((Cg.out awake_any _ gl)).mono ?_)
  rintro r w2 ⟨rfl, k2⟩
  replace da := da.kb k2
  replace db := db.kb k2
  replace gl := gl.kb k2
  replace b1 := b1.kb k2
  replace b2 := b2.kb k2
  replace kx := kx.trans k2
  have s2 := k2.size
  skip
  clear k2
  go_wp2
  go_ret
  exact ⟨rfl, kx⟩
theorem qfSelf (nu : ByteArray) (ku : Int) (au : Int) (xu : Int) (yu : Int) (zu : Int) (lou : Int) (hiu : Int) (fpu : Option Addr) (flu : Nat) (fcu : Nat) (us : List FrT) (h : fewB nu us = true) : Hid (∀ W : World, FrS W (.slice fpu flu fcu) us → FrS W (.slice fpu flu fcu) us → Calls Tryd.prog 31 #[.agg #[.string nu, .int .i64 ku, .int .i64 au, .int .i64 xu, .int .i64 yu, .int .i64 zu, .int .i64 lou, .int .i64 hiu, .slice fpu flu fcu], .agg #[.string nu, .int .i64 ku, .int .i64 au, .int .i64 xu, .int .i64 yu, .int .i64 zu, .int .i64 lou, .int .i64 hiu, .slice fpu flu fcu]] W fun r W' => r = .returned (.bool true) ∧ Kb W W') := by
  have q := qfSame nu ku au xu yu zu lou hiu fpu flu fcu nu ku au xu yu zu lou hiu fpu flu fcu us us h
  rw [plB_refl, eqL_refl frB_refl] at q
  exact q
theorem cCompares (nu : ByteArray) (ku : Int) (au : Int) (xu : Int) (yu : Int) (zu : Int) (lou : Int) (hiu : Int) (fpu : Option Addr) (flu : Nat) (fcu : Nat) (nv : ByteArray) (kv : Int) (av : Int) (xv : Int) (yv : Int) (zv : Int) (lov : Int) (hiv : Int) (fpv : Option Addr) (flv : Nat) (fcv : Nat) (us vs : List FrT) (w : World) (gl : Gl w) (da : FrS w (.slice fpu flu fcu) us) (db : FrS w (.slice fpv flv fcv) vs) : Calls Tryd.prog 6 #[.agg #[.string nu, .int .i64 ku, .int .i64 au, .int .i64 xu, .int .i64 yu, .int .i64 zu, .int .i64 lou, .int .i64 hiu, .slice fpu flu fcu], .agg #[.string nv, .int .i64 kv, .int .i64 av, .int .i64 xv, .int .i64 yv, .int .i64 zv, .int .i64 lov, .int .i64 hiv, .slice fpv flv fcv]] w fun r W' => r = .returned (.bool true) ∧ Kb w W' := by
  rcases Bool.eq_false_or_eq_true (fewB nu us) with h | h
  · rcases Bool.eq_false_or_eq_true (fewB nv vs) with h2 | h2
    · exact lwCompares_1 nu ku au xu yu zu lou hiu fpu flu fcu nv kv av xv yv zv lov hiv fpv flv fcv us vs _ (qfSame nu ku au xu yu zu lou hiu fpu flu fcu nv kv av xv yv zv lov hiv fpv flv fcv us vs h) (qfSelf nu ku au xu yu zu lou hiu fpu flu fcu us h) (qfSelf nv kv av xv yv zv lov hiv fpv flv fcv vs h2) (qrSame nu ku au xu yu zu lou hiu fpu flu fcu nv kv av xv yv zv lov hiv fpv flv fcv us vs h) h h2 w gl da db
    · exact lwCompares_2 nu ku au xu yu zu lou hiu fpu flu fcu nv kv av xv yv zv lov hiv fpv flv fcv us vs h h2 w gl da db
  · exact lwCompares_3 nu ku au xu yu zu lou hiu fpu flu fcu nv kv av xv yv zv lov hiv fpv flv fcv us vs h w gl da db
end Go.Proofs.YtgclljgdoonnmaaDoor
