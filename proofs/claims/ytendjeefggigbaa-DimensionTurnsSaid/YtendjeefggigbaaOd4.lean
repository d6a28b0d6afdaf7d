/- Package dimension: Name, Valid. -/
import Derived.Test.YtendjeefggigbaaOd2
import Derived.Test.YtendjeefggigbaaOd3
import Derived.Test.YtendjeefggigbaaOe2
namespace Go.Proofs.Ytendjeefggigbaa
open Go.RowKit

def nmE (s : ByteArray) : Int := firstE [fE (decide (24 < (s.size : Int))) 17, fE (!nmB s) 3]
set_option maxRecDepth 100000 in
set_option maxHeartbeats 1000000 in
theorem dName_any (s : ByteArray) (w : World) (hs : s.size ≤ 1000000) : Calls Try.prog 14 #[.string s] w fun r W' => r = .returned (.int .i64 (nmE s)) ∧ Kb w W' := by
  have q := dnamed_any s
  have Q := Lib.hid q
  clear q
  have HN : Hid (nmE s = firstE [fE (decide (24 < (s.size : Int))) 17, fE (!nmB s) 3]) := rfl
  generalize nmE s = E at *
  have Hs := Lib.hid hs
  clear hs
  generalize nmB s = nb at *
  obtain ⟨big, hbig⟩ : ∃ b : Bool, decide (24 < (s.size : Int)) = b := ⟨_, rfl⟩
  rw [hbig] at HN
  go_enter Try.func14, Try.ntmps14
  go_wp2_with fail
  (refine (cWhen [] _ _ _ (by simp)).mono ?_)
  rintro r w1 ⟨v1, rfl, c1, k1⟩
  obtain ⟨F1, a1, e1, f1, g1⟩ := c1
  subst e1
  go_wp2_with fail
  (with_reducible refine (Q.out _ Hs.out).mono ?_)
  rintro r w2 ⟨rfl, k2⟩
  go_wp2_with fail
  (refine (cWhen [] _ _ _ (by simp)).mono ?_)
  rintro r w3 ⟨v3, rfl, c3, k3⟩
  obtain ⟨F3, a3, e3, f3, g3⟩ := c3
  subst e3
  have k13 := k2.trans k3
  have kz : Kb w3 (w3.alloc (.cells #[.func (.func F1) #[] a1, .func (.func F3) #[] a3] 72 (0, 0))) := (Kb.refl w3).alloc _
  have sl : SlC [] [fE big 17, fE (!nb) 3] (.slice (some ⟨w3.heap.size, 0, none⟩) 2 2) (w3.alloc (.cells #[.func (.func F1) #[] a1, .func (.func F3) #[] a3] 72 (0, 0))) :=
    ⟨[.func (.func F1) #[] a1, .func (.func F3) #[] a3], rfl, sl_is (Is.made w3 _ _) (by simp) rfl (rows_ok rfl rfl), cks_ok ⟨Ck.kx ⟨F1, a1, rfl, f1, g1⟩ (k13.trans kz).kx, Ck.kx ⟨F3, a3, rfl, f3, g3⟩ kz.kx, trivial⟩ rfl⟩
  have SL := Lib.hid sl
  clear f1 g1 f3 g3 sl
  go_wp2_with fail
  (refine (cFirst [] _ _ _ SL.out (by simp)).mono ?_)
  rintro r w4 ⟨rfl, k4⟩
  go_wp2
  go_ret
  exact ⟨by rw [HN.out]; rfl, k1.trans (k13.trans (kz.trans k4))⟩
theorem dName (s : ByteArray) (hs : s.size ≤ 1000000) : Ca 14 #[.string s] (.int .i64 (nmE s)) := Lib.hid fun w => dName_any s w hs
def vdE (f t : ByteArray) (a l h : Int) : Int := firstE [firstE [nmE f, nmE t], fE (f.toList == t.toList) 7, fE (decide (a < 0) || decide (3 ≤ a)) 1, firstE [lmE l h]]

set_option maxRecDepth 100000 in
set_option maxHeartbeats 1000000 in
theorem dValid_any (f t : ByteArray) (a l h : Int) (hf : f.size ≤ 1000000) (ht : t.size ≤ 1000000) (w : World) : Calls Try.prog 33 #[.agg #[.string f, .string t, .int .i64 a, .int .i64 l, .int .i64 h]] w fun r W' => r = .returned (.int .i64 (vdE f t a l h)) ∧ Kb w W' := by
  have k0 := ((Kb.refl w).alloc (.cells #[.string f, .string t, .int .i64 a, .int .i64 l, .int .i64 h] 49 (0, 0)))
  have b0 := (Is.made w #[.string f, .string t, .int .i64 a, .int .i64 l, .int .i64 h] 49)
  replace b0 : Is (World.drew (w.alloc (.cells #[.string f, .string t, .int .i64 a, .int .i64 l, .int .i64 h] 49 (0, 0)))) (w.heap.size) #[.string f, .string t, .int .i64 a, .int .i64 l, .int .i64 h] 49 := b0
  have hL : ∀ x ∈ ([] : List Nat), x < (w.alloc (.cells #[.string f, .string t, .int .i64 a, .int .i64 l, .int .i64 h] 49 (0, 0))).heap.size := by (simp; try omega)
  go_enter Try.func33, Try.ntmps33
  go_wp2_with fail
  rw [oF_lit]
  refine o_law (⟨30, [some 3, some 4, some 5, some 6, some 7, some 8, some 9, some 10, some 11, some 12, some 13, some 14, some 15, some 16, some 17, some 18, some 19, some 20, some 21, some 22, some 23, some 24, some 25, some 26, some 27, some 28, some 29, some 2], [3, 4, 5, 6, 7, 8, 9, 10, 11, 12, 13, 14, 15, 16, 17, 18, 19, 20, 21, 22, 23, 24, 25, 26, 27, 28, 29, 2], [[], [0], [], [2], [1, 3], [4], [], [6], [], [8], [7, 9], [10], [], [12], [13], [14], [15], [16, 15], [17, 15], [15, 18], [19], [], [21], [22], [23], [5, 11, 20, 24], [25], [26]], [[1], [], [1], [], [], [], [1], [], [1], [], [], [], [1], [], [], [], [1], [], [], [], [], [1], [], [], [], [], [], []]⟩ : OT) (Kx []) (RL [fun vv _ => vv = .pointer (some ⟨w.heap.size, 0, none⟩), fun vv _ => vv = .string f, fun vv _ => vv = .pointer (some ⟨w.heap.size, 1, none⟩), fun vv _ => vv = .string t, fun vv ww => Sl [] 1 ww vv [[.string f], [.string t]], fun vv ww => Ck [] vv (firstE [nmE f, nmE t]) ww, fun vv _ => vv = .pointer (some ⟨w.heap.size, 0, none⟩), fun vv _ => vv = .string f, fun vv _ => vv = .pointer (some ⟨w.heap.size, 1, none⟩), fun vv _ => vv = .string t, fun vv _ => vv = .bool (f.toList == t.toList), fun vv ww => Ck [] vv (fE (f.toList == t.toList) 7) ww, fun vv _ => vv = .pointer (some ⟨w.heap.size, 2, none⟩), fun vv _ => vv = .int .i64 a, fun vv _ => vv = .bool (decide (a < 0)), fun vv _ => vv = .bool (decide (a < 0)), fun vv _ => (decide (a < 0)) = false → vv = .pointer (some ⟨w.heap.size, 2, none⟩), fun vv _ => (decide (a < 0)) = false → vv = .int .i64 a, fun vv _ => (decide (a < 0)) = false → vv = .bool (decide (3 ≤ a)), fun vv _ => vv = .bool ((decide (a < 0)) || (decide (3 ≤ a))), fun vv ww => Ck [] vv (fE (decide (a < 0) || decide (3 ≤ a)) 1) ww, fun vv _ => vv = .pointer (some ⟨w.heap.size, 3, none⟩), fun vv _ => vv = .agg #[.int .i64 l, .int .i64 h], fun vv ww => Sl [] 2 ww vv [[.int .i64 l, .int .i64 h]], fun vv ww => Ck [] vv (firstE [lmE l h]) ww, fun vv ww => SlC [] [firstE [nmE f, nmE t], fE (f.toList == t.toList) 7, fE (decide (a < 0) || decide (3 ≤ a)) 1, firstE [lmE l h]] vv ww, fun vv _ => vv = .int .i64 (firstE [firstE [nmE f, nmE t], fE (f.toList == t.toList) 7, fE (decide (a < 0) || decide (3 ≤ a)) 1, firstE [lmE l h]]), fun vv _ => vv = .int .i64 (firstE [firstE [nmE f, nmE t], fE (f.toList == t.toList) 7, fE (decide (a < 0) || decide (3 ≤ a)) 1, firstE [lmE l h]])]) (by kernel_rfl) ?hk ?hR ?fin
  case hk => kernel_rfl
  case hR =>
    refine ⟨fun _ => (Kx.refl _ _), fun _ _ _ => Kx.trans, rl_stab ⟨fun _ _ _ _ h => h, fun _ _ _ _ h => h, fun _ _ _ _ h => h, fun _ _ _ _ h => h, (fun v w w' k h => h.kx k), (fun v w w' k h => h.kx k), fun _ _ _ _ h => h, fun _ _ _ _ h => h, fun _ _ _ _ h => h, fun _ _ _ _ h => h, fun _ _ _ _ h => h, (fun v w w' k h => h.kx k), fun _ _ _ _ h => h, fun _ _ _ _ h => h, fun _ _ _ _ h => h, fun _ _ _ _ h => h, fun _ _ _ _ h => h, fun _ _ _ _ h => h, fun _ _ _ _ h => h, fun _ _ _ _ h => h, (fun v w w' k h => h.kx k), fun _ _ _ _ h => h, fun _ _ _ _ h => h, (fun v w w' k h => h.kx k), (fun v w w' k h => h.kx k), (fun v w w' k h => h.kx k), fun _ _ _ _ h => h, fun _ _ _ _ h => h, trivial⟩, ?_⟩
    refine allO_cons ?_ (allO_cons ?_ (allO_cons ?_ (allO_cons ?_ (allO_cons ?_ (allO_cons ?_ (allO_cons ?_ (allO_cons ?_ (allO_cons ?_ (allO_cons ?_ (allO_cons ?_ (allO_cons ?_ (allO_cons ?_ (allO_cons ?_ (allO_cons ?_ (allO_cons ?_ (allO_cons ?_ (allO_cons ?_ (allO_cons ?_ (allO_cons ?_ (allO_cons ?_ (allO_cons ?_ (allO_cons ?_ (allO_cons ?_ (allO_cons ?_ (allO_cons ?_ (allO_cons ?_ (allO_cons ?_ (allO_nil))))))))))))))))))))))))))))
    · intro T w9 hG hD hO Q
      have q0 := hO.1
      have e0 : (oF 30 T).eval (.tmp 1) = .pointer (some ⟨w.heap.size, 0, none⟩) := (oF_eval (by decide)).trans (show T 1 = _ from q0)
      refine og_none rfl ?_
      exact o_val (v := .pointer (some ⟨w.heap.size, 0, none⟩)) (w' := w9) (by generalize (oF 30 T).eval = rr at *; simp [execOp, go_sem, e0]) rfl rfl (Kx.refl _ _)
    · intro T w9 hG hD hO Q
      have d0 := hD.1
      have e0 : (oF 30 T).eval (.tmp 3) = .pointer (some ⟨w.heap.size, 0, none⟩) := (oF_eval (by decide)).trans (show T 3 = _ from d0)
      refine og_none rfl ?_
      have im := b0.kx hG (by simp)
      have m0 := im.c (i := 0) rfl
      clear im
      exact o_val (v := .string f) (w' := w9) (by generalize (oF 30 T).eval = rr at *; simp [execOp, go_sem, e0, m0]) rfl rfl (Kx.refl _ _)
    · intro T w9 hG hD hO Q
      have q0 := hO.1
      have e0 : (oF 30 T).eval (.tmp 1) = .pointer (some ⟨w.heap.size, 0, none⟩) := (oF_eval (by decide)).trans (show T 1 = _ from q0)
      refine og_none rfl ?_
      exact o_val (v := .pointer (some ⟨w.heap.size, 1, none⟩)) (w' := w9) (by generalize (oF 30 T).eval = rr at *; simp [execOp, go_sem, e0]) rfl rfl (Kx.refl _ _)
    · intro T w9 hG hD hO Q
      have d0 := hD.1
      have e0 : (oF 30 T).eval (.tmp 5) = .pointer (some ⟨w.heap.size, 1, none⟩) := (oF_eval (by decide)).trans (show T 5 = _ from d0)
      refine og_none rfl ?_
      have im := b0.kx hG (by simp)
      have m0 := im.c (i := 1) rfl
      clear im
      exact o_val (v := .string t) (w' := w9) (by generalize (oF 30 T).eval = rr at *; simp [execOp, go_sem, e0, m0]) rfl rfl (Kx.refl _ _)
    · intro T w9 hG hD hO Q
      have d0 := hD.1
      have d1 := hD.2.1
      have e0 : (oF 30 T).eval (.tmp 4) = .string f := (oF_eval (by decide)).trans (show T 4 = _ from d0)
      have e1 : (oF 30 T).eval (.tmp 6) = .string t := (oF_eval (by decide)).trans (show T 6 = _ from d1)
      refine og_none rfl ?_
      have kz : Kb w9 (w9.alloc (.cells #[.string f, .string t] 9 (0, 0))) := (Kb.refl w9).alloc _
      exact o_val (v := .slice (some ⟨w9.heap.size, 0, none⟩) 2 2) (w' := w9.alloc (.cells #[.string f, .string t] 9 (0, 0))) (by generalize (oF 30 T).eval = rr at *; simp [execOp, go_sem, e0, e1]) rfl (sl_is (Is.made w9 _ _) (fun hx => by have := hL _ hx; have := hG.2.2.2.1; simp only [World.size_drew] at *; omega) rfl (rows_ok rfl rfl)) kz.kx
    · intro T w9 hG hD hO Q
      have d0 := hD.1
      have e0 : (oF 30 T).eval (.func 56) = .func (.func 56) #[] #[] := rfl
      have e1 : (oF 30 T).eval (.func 14) = .func (.func 14) #[] #[] := rfl
      have e2 : (oF 30 T).eval (.tmp 7) = T 7 := oF_eval (by decide)
      have p2 : (fun vv ww => Sl [] 1 ww vv [[.string f], [.string t]]) (T 7) w9 := d0
      refine og_none rfl ?_
      refine o_call (oc2 (enters_of Try.func56 (by kernel_rfl) rfl) rfl rfl e1 e2) rfl ?_
      exact (cEach_Txt [] _ ⟨#[]⟩ [f, t] [nmE f, nmE t] _ w9 (fun x hx => by have := hL x hx; have := hG.2.2.2.1; simp only [World.size_drew] at *; omega) (by simp) rfl p2 (enters_of Try.func14 (by kernel_rfl) rfl) (each_ok ⟨dName f hf, dName t ht, trivial⟩ rfl)).mono fun r W' ⟨v, h1, h2, h3⟩ => ⟨v, h1, h2, h3.kx⟩
    · intro T w9 hG hD hO Q
      have q0 := hO.1
      have e0 : (oF 30 T).eval (.tmp 1) = .pointer (some ⟨w.heap.size, 0, none⟩) := (oF_eval (by decide)).trans (show T 1 = _ from q0)
      refine og_none rfl ?_
      exact o_val (v := .pointer (some ⟨w.heap.size, 0, none⟩)) (w' := w9) (by generalize (oF 30 T).eval = rr at *; simp [execOp, go_sem, e0]) rfl rfl (Kx.refl _ _)
    · intro T w9 hG hD hO Q
      have d0 := hD.1
      have e0 : (oF 30 T).eval (.tmp 9) = .pointer (some ⟨w.heap.size, 0, none⟩) := (oF_eval (by decide)).trans (show T 9 = _ from d0)
      refine og_none rfl ?_
      have im := b0.kx hG (by simp)
      have m0 := im.c (i := 0) rfl
      clear im
      exact o_val (v := .string f) (w' := w9) (by generalize (oF 30 T).eval = rr at *; simp [execOp, go_sem, e0, m0]) rfl rfl (Kx.refl _ _)
    · intro T w9 hG hD hO Q
      have q0 := hO.1
      have e0 : (oF 30 T).eval (.tmp 1) = .pointer (some ⟨w.heap.size, 0, none⟩) := (oF_eval (by decide)).trans (show T 1 = _ from q0)
      refine og_none rfl ?_
      exact o_val (v := .pointer (some ⟨w.heap.size, 1, none⟩)) (w' := w9) (by generalize (oF 30 T).eval = rr at *; simp [execOp, go_sem, e0]) rfl rfl (Kx.refl _ _)
    · intro T w9 hG hD hO Q
      have d0 := hD.1
      have e0 : (oF 30 T).eval (.tmp 11) = .pointer (some ⟨w.heap.size, 1, none⟩) := (oF_eval (by decide)).trans (show T 11 = _ from d0)
      refine og_none rfl ?_
      have im := b0.kx hG (by simp)
      have m0 := im.c (i := 1) rfl
      clear im
      exact o_val (v := .string t) (w' := w9) (by generalize (oF 30 T).eval = rr at *; simp [execOp, go_sem, e0, m0]) rfl rfl (Kx.refl _ _)
    · intro T w9 hG hD hO Q
      have d0 := hD.1
      have d1 := hD.2.1
      have e0 : (oF 30 T).eval (.tmp 10) = .string f := (oF_eval (by decide)).trans (show T 10 = _ from d0)
      have e1 : (oF 30 T).eval (.tmp 12) = .string t := (oF_eval (by decide)).trans (show T 12 = _ from d1)
      refine og_none rfl ?_
      exact o_val (v := .bool (f.toList == t.toList)) (w' := w9) (by generalize (oF 30 T).eval = rr at *; simp [execOp, go_sem, e0, e1]) rfl rfl (Kx.refl _ _)
    · intro T w9 hG hD hO Q
      have d0 := hD.1
      have e0 : (oF 30 T).eval (.func 40) = .func (.func 40) #[] #[] := rfl
      have e1 : (oF 30 T).eval (.tmp 13) = .bool (f.toList == t.toList) := (oF_eval (by decide)).trans (show T 13 = _ from d0)
      have e2 : (oF 30 T).eval (.const (.int .i64 7)) = .int .i64 7 := rfl
      refine og_none rfl ?_
      refine o_call (oc2 (enters_of Try.func40 (by kernel_rfl) rfl) rfl rfl e1 e2) rfl ?_
      exact (cWhen [] (f.toList == t.toList) 7 w9 (fun x hx => by have := hL x hx; have := hG.2.2.2.1; simp only [World.size_drew] at *; omega)).mono fun r W' ⟨v, h1, h2, h3⟩ => ⟨v, h1, h2, h3.kx⟩
    · intro T w9 hG hD hO Q
      have q0 := hO.1
      have e0 : (oF 30 T).eval (.tmp 1) = .pointer (some ⟨w.heap.size, 0, none⟩) := (oF_eval (by decide)).trans (show T 1 = _ from q0)
      refine og_none rfl ?_
      exact o_val (v := .pointer (some ⟨w.heap.size, 2, none⟩)) (w' := w9) (by generalize (oF 30 T).eval = rr at *; simp [execOp, go_sem, e0]) rfl rfl (Kx.refl _ _)
    · intro T w9 hG hD hO Q
      have d0 := hD.1
      have e0 : (oF 30 T).eval (.tmp 15) = .pointer (some ⟨w.heap.size, 2, none⟩) := (oF_eval (by decide)).trans (show T 15 = _ from d0)
      refine og_none rfl ?_
      have im := b0.kx hG (by simp)
      have m0 := im.c (i := 2) rfl
      clear im
      exact o_val (v := .int .i64 a) (w' := w9) (by generalize (oF 30 T).eval = rr at *; simp [execOp, go_sem, e0, m0]) rfl rfl (Kx.refl _ _)
    · intro T w9 hG hD hO Q
      have d0 := hD.1
      have e0 : (oF 30 T).eval (.tmp 16) = .int .i64 a := (oF_eval (by decide)).trans (show T 16 = _ from d0)
      have e1 : (oF 30 T).eval (.const (.int .i64 0)) = .int .i64 0 := rfl
      refine og_none rfl ?_
      exact o_val (v := .bool (decide (a < 0))) (w' := w9) (by generalize (oF 30 T).eval = rr at *; simp [execOp, go_sem, e0, e1]) rfl rfl (Kx.refl _ _)
    · intro T w9 hG hD hO Q
      have d0 := hD.1
      have e0 : (oF 30 T).eval (.tmp 17) = .bool (decide (a < 0)) := (oF_eval (by decide)).trans (show T 17 = _ from d0)
      refine og_none rfl ?_
      exact o_val (v := .bool (decide (a < 0))) (w' := w9) (by generalize (oF 30 T).eval = rr at *; simp [execOp, go_sem, e0]) rfl rfl (Kx.refl _ _)
    · intro T w9 hG hD hO Q
      have d0 := hD.1
      have q0 := hO.1
      have e0 : (oF 30 T).eval (.tmp 1) = .pointer (some ⟨w.heap.size, 0, none⟩) := (oF_eval (by decide)).trans (show T 1 = _ from q0)
      refine og_some (b := false) (c := (decide (a < 0))) rfl (show T 18 = _ from d0) (fun hc => ?_) (fun hc h => absurd h hc)
      exact o_val (v := .pointer (some ⟨w.heap.size, 2, none⟩)) (w' := w9) (by generalize (oF 30 T).eval = rr at *; simp [execOp, go_sem, e0]) rfl (fun _ => rfl) (Kx.refl _ _)
    · intro T w9 hG hD hO Q
      have d0 := hD.1
      have d1 := hD.2.1
      have G0 : (decide (a < 0)) = false → T 19 = .pointer (some ⟨w.heap.size, 2, none⟩) := d0
      refine og_some (b := false) (c := (decide (a < 0))) rfl (show T 18 = _ from d1) (fun hc => ?_) (fun hc h => absurd h hc)
      have e0 : (oF 30 T).eval (.tmp 19) = .pointer (some ⟨w.heap.size, 2, none⟩) := (oF_eval (by decide)).trans (G0 hc)
      have im := b0.kx hG (by simp)
      have m0 := im.c (i := 2) rfl
      clear im
      exact o_val (v := .int .i64 a) (w' := w9) (by generalize (oF 30 T).eval = rr at *; simp [execOp, go_sem, e0, m0]) rfl (fun _ => rfl) (Kx.refl _ _)
    · intro T w9 hG hD hO Q
      have d0 := hD.1
      have d1 := hD.2.1
      have G0 : (decide (a < 0)) = false → T 20 = .int .i64 a := d0
      have e1 : (oF 30 T).eval (.const (.int .i64 3)) = .int .i64 3 := rfl
      refine og_some (b := false) (c := (decide (a < 0))) rfl (show T 18 = _ from d1) (fun hc => ?_) (fun hc h => absurd h hc)
      have e0 : (oF 30 T).eval (.tmp 20) = .int .i64 a := (oF_eval (by decide)).trans (G0 hc)
      exact o_val (v := .bool (decide (3 ≤ a))) (w' := w9) (by generalize (oF 30 T).eval = rr at *; simp [execOp, go_sem, e0, e1]) rfl (fun _ => rfl) (Kx.refl _ _)
    · intro T w9 hG hD hO Q
      have d0 := hD.1
      have d1 := hD.2.1
      have e0 : (oF 30 T).eval (.tmp 18) = .bool (decide (a < 0)) := (oF_eval (by decide)).trans (show T 18 = _ from d0)
      have e1 : (oF 30 T).eval (.const (.bool true)) = .bool true := rfl
      have G2 : (decide (a < 0)) = false → T 21 = .bool (decide (3 ≤ a)) := d1
      have e2 : (oF 30 T).eval (.tmp 21) = T 21 := oF_eval (by decide)
      refine og_none rfl ?_
      rcases Bool.eq_false_or_eq_true (decide (a < 0)) with hb | hb
      · refine o_val (w' := w9) (v := .bool true) (by rw [hb] at e0; generalize (oF 30 T).eval = rr at *; simp [execOp, go_sem, e0, e1, e2]) rfl (by simp [RL, hb]) (Kx.refl _ _)
      · refine o_val (w' := w9) (v := .bool (decide (3 ≤ a))) (by rw [G2 hb] at e2; rw [hb] at e0; generalize (oF 30 T).eval = rr at *; simp [execOp, go_sem, e0, e1, e2]) rfl (by simp [RL, hb]) (Kx.refl _ _)
    · intro T w9 hG hD hO Q
      have d0 := hD.1
      have e0 : (oF 30 T).eval (.func 40) = .func (.func 40) #[] #[] := rfl
      have e1 : (oF 30 T).eval (.tmp 22) = .bool ((decide (a < 0)) || (decide (3 ≤ a))) := (oF_eval (by decide)).trans (show T 22 = _ from d0)
      have e2 : (oF 30 T).eval (.const (.int .i64 1)) = .int .i64 1 := rfl
      refine og_none rfl ?_
      refine o_call (oc2 (enters_of Try.func40 (by kernel_rfl) rfl) rfl rfl e1 e2) rfl ?_
      exact (cWhen [] (decide (a < 0) || decide (3 ≤ a)) 1 w9 (fun x hx => by have := hL x hx; have := hG.2.2.2.1; simp only [World.size_drew] at *; omega)).mono fun r W' ⟨v, h1, h2, h3⟩ => ⟨v, h1, h2, h3.kx⟩
    · intro T w9 hG hD hO Q
      have q0 := hO.1
      have e0 : (oF 30 T).eval (.tmp 1) = .pointer (some ⟨w.heap.size, 0, none⟩) := (oF_eval (by decide)).trans (show T 1 = _ from q0)
      refine og_none rfl ?_
      exact o_val (v := .pointer (some ⟨w.heap.size, 3, none⟩)) (w' := w9) (by generalize (oF 30 T).eval = rr at *; simp [execOp, go_sem, e0]) rfl rfl (Kx.refl _ _)
    · intro T w9 hG hD hO Q
      have d0 := hD.1
      have e0 : (oF 30 T).eval (.tmp 24) = .pointer (some ⟨w.heap.size, 3, none⟩) := (oF_eval (by decide)).trans (show T 24 = _ from d0)
      refine og_none rfl ?_
      have im := b0.kx hG (by simp)
      have m0 := im.c (i := 3) rfl
      have m1 := im.c (i := 4) rfl
      clear im
      exact o_val (v := .agg #[.int .i64 l, .int .i64 h]) (w' := w9) (by generalize (oF 30 T).eval = rr at *; simp [execOp, go_sem, e0, m0, m1]) rfl rfl (Kx.refl _ _)
    · intro T w9 hG hD hO Q
      have d0 := hD.1
      have e0 : (oF 30 T).eval (.tmp 25) = .agg #[.int .i64 l, .int .i64 h] := (oF_eval (by decide)).trans (show T 25 = _ from d0)
      refine og_none rfl ?_
      have kz : Kb w9 (w9.alloc (.cells #[.int .i64 l, .int .i64 h] 23 (0, 0))) := (Kb.refl w9).alloc _
      exact o_val (v := .slice (some ⟨w9.heap.size, 0, none⟩) 1 1) (w' := w9.alloc (.cells #[.int .i64 l, .int .i64 h] 23 (0, 0))) (by generalize (oF 30 T).eval = rr at *; simp [execOp, go_sem, e0]) rfl (sl_is (Is.made w9 _ _) (fun hx => by have := hL _ hx; have := hG.2.2.2.1; simp only [World.size_drew] at *; omega) rfl (rows_ok rfl rfl)) kz.kx
    · intro T w9 hG hD hO Q
      have d0 := hD.1
      have e0 : (oF 30 T).eval (.func 42) = .func (.func 42) #[] #[] := rfl
      have e1 : (oF 30 T).eval (.func 16) = .func (.func 16) #[] #[] := rfl
      have e2 : (oF 30 T).eval (.tmp 26) = T 26 := oF_eval (by decide)
      have p2 : (fun vv ww => Sl [] 2 ww vv [[.int .i64 l, .int .i64 h]]) (T 26) w9 := d0
      refine og_none rfl ?_
      refine o_call (oc2 (enters_of Try.func42 (by kernel_rfl) rfl) rfl rfl e1 e2) rfl ?_
      exact (cEach_Lim [] _ (0, 0) [(l, h)] [lmE l h] _ w9 (fun x hx => by have := hL x hx; have := hG.2.2.2.1; simp only [World.size_drew] at *; omega) (by simp) rfl p2 (enters_of Try.func16 (by kernel_rfl) rfl) (each_ok ⟨dCheck l h, trivial⟩ rfl)).mono fun r W' ⟨v, h1, h2, h3⟩ => ⟨v, h1, h2, h3.kx⟩
    · intro T w9 hG hD hO Q
      have d0 := hD.1
      have d1 := hD.2.1
      have d2 := hD.2.2.1
      have d3 := hD.2.2.2.1
      have e0 : (oF 30 T).eval (.tmp 8) = T 8 := oF_eval (by decide)
      have p0 : (fun vv ww => Ck [] vv (firstE [nmE f, nmE t]) ww) (T 8) w9 := d0
      have e1 : (oF 30 T).eval (.tmp 14) = T 14 := oF_eval (by decide)
      have p1 : (fun vv ww => Ck [] vv (fE (f.toList == t.toList) 7) ww) (T 14) w9 := d1
      have e2 : (oF 30 T).eval (.tmp 23) = T 23 := oF_eval (by decide)
      have p2 : (fun vv ww => Ck [] vv (fE (decide (a < 0) || decide (3 ≤ a)) 1) ww) (T 23) w9 := d2
      have e3 : (oF 30 T).eval (.tmp 27) = T 27 := oF_eval (by decide)
      have p3 : (fun vv ww => Ck [] vv (firstE [lmE l h]) ww) (T 27) w9 := d3
      refine og_none rfl ?_
      obtain ⟨F0, c0, f0, g0, h0⟩ := p0
      obtain ⟨F1, c1, f1, g1, h1⟩ := p1
      obtain ⟨F2, c2, f2, g2, h2⟩ := p2
      obtain ⟨F3, c3, f3, g3, h3⟩ := p3
      rw [f0] at e0
      rw [f1] at e1
      rw [f2] at e2
      rw [f3] at e3
      have kz : Kb w9 (w9.alloc (.cells #[.func (.func F0) #[] c0, .func (.func F1) #[] c1, .func (.func F2) #[] c2, .func (.func F3) #[] c3] 72 (0, 0))) := (Kb.refl w9).alloc _
      exact o_val (v := .slice (some ⟨w9.heap.size, 0, none⟩) 4 4) (w' := w9.alloc (.cells #[.func (.func F0) #[] c0, .func (.func F1) #[] c1, .func (.func F2) #[] c2, .func (.func F3) #[] c3] 72 (0, 0))) (by generalize (oF 30 T).eval = rr at *; simp [execOp, go_sem, e0, e1, e2, e3]) rfl ⟨[.func (.func F0) #[] c0, .func (.func F1) #[] c1, .func (.func F2) #[] c2, .func (.func F3) #[] c3], rfl, sl_is (Is.made w9 _ _) (fun hx => by have := hL _ hx; have := hG.2.2.2.1; simp only [World.size_drew] at *; omega) rfl (rows_ok rfl rfl), cks_ok ⟨(Ck.kx ⟨F0, c0, rfl, g0, h0⟩ kz.kx), (Ck.kx ⟨F1, c1, rfl, g1, h1⟩ kz.kx), (Ck.kx ⟨F2, c2, rfl, g2, h2⟩ kz.kx), (Ck.kx ⟨F3, c3, rfl, g3, h3⟩ kz.kx), trivial⟩ rfl⟩ kz.kx
    · intro T w9 hG hD hO Q
      have d0 := hD.1
      have e0 : (oF 30 T).eval (.func 45) = .func (.func 45) #[] #[] := rfl
      have e1 : (oF 30 T).eval (.tmp 28) = T 28 := oF_eval (by decide)
      have p1 : (fun vv ww => SlC [] [firstE [nmE f, nmE t], fE (f.toList == t.toList) 7, fE (decide (a < 0) || decide (3 ≤ a)) 1, firstE [lmE l h]] vv ww) (T 28) w9 := d0
      refine og_none rfl ?_
      refine o_call (oc1 (enters_of Try.func45 (by kernel_rfl) rfl) rfl rfl e1) rfl ?_
      exact (cFirst [] _ _ w9 p1 (by simp)).mono fun r W' h => ⟨_, h.1, rfl, h.2.kx⟩
    · intro T w9 hG hD hO Q
      have d0 := hD.1
      have e0 : (oF 30 T).eval (.tmp 29) = .int .i64 (firstE [firstE [nmE f, nmE t], fE (f.toList == t.toList) 7, fE (decide (a < 0) || decide (3 ≤ a)) 1, firstE [lmE l h]]) := (oF_eval (by decide)).trans (show T 29 = _ from d0)
      refine og_none rfl ?_
      exact o_val (v := .int .i64 (firstE [firstE [nmE f, nmE t], fE (f.toList == t.toList) 7, fE (decide (a < 0) || decide (3 ≤ a)) 1, firstE [lmE l h]])) (w' := w9) (by generalize (oF 30 T).eval = rr at *; simp [execOp, go_sem, e0]) rfl rfl (Kx.refl _ _)
  case fin =>
    intro T w7 hout hval hG
    rw [show oF 30 T = (⟨#[T 0, T 1, T 2, T 3, T 4, T 5, T 6, T 7, T 8, T 9, T 10, T 11, T 12, T 13, T 14, T 15, T 16, T 17, T 18, T 19, T 20, T 21, T 22, T 23, T 24, T 25, T 26, T 27, T 28, T 29], []⟩ : Act) from oF_list 30 T]
    rw [show T 2 = .int .i64 (firstE [firstE [nmE f, nmE t], fE (f.toList == t.toList) 7, fE (decide (a < 0) || decide (3 ≤ a)) 1, firstE [lmE l h]]) from hval 27 (by decide : 27 < 28)]
    clear hout hval
    go_wp2
    go_ret
    exact ⟨rfl, k0.trans (Kb.undrew hG.nil)⟩
theorem dValid (f t : ByteArray) (a l h : Int) (hf : f.size ≤ 1000000) (ht : t.size ≤ 1000000) : Ca 33 #[.agg #[.string f, .string t, .int .i64 a, .int .i64 l, .int .i64 h]] (.int .i64 (vdE f t a l h)) := Lib.hid fun w => dValid_any f t a l h hf ht w
end Go.Proofs.Ytendjeefggigbaa
