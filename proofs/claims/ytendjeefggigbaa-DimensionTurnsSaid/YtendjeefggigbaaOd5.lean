/- Package dimension: Reverse, Join. -/
import Derived.Test.YtendjeefggigbaaOd4
namespace Go.Proofs.Ytendjeefggigbaa
open Go.RowKit

set_option maxRecDepth 100000 in
set_option maxHeartbeats 1000000 in
theorem dReverse_any (f t : ByteArray) (a l h : Int) (hf : f.size ≤ 1000000) (ht : t.size ≤ 1000000) (w : World) : Calls Try.prog 29 #[.agg #[.string f, .string t, .int .i64 a, .int .i64 l, .int .i64 h]] w fun r W' => r = .returned (.tuple #[.agg #[.string (zS (firstE [firstE [vdE f t a l h]]) t), .string (zS (firstE [firstE [vdE f t a l h]]) f), .int .i64 (zI (firstE [firstE [vdE f t a l h]]) a), .int .i64 (zI (firstE [firstE [vdE f t a l h]]) (wrap64 (-h))), .int .i64 (zI (firstE [firstE [vdE f t a l h]]) (wrap64 (-l)))], .int .i64 (firstE [firstE [vdE f t a l h]])]) ∧ Kb w W' := by
  have k0 := (((Kb.refl w).alloc (.cells #[.string f, .string t, .int .i64 a, .int .i64 l, .int .i64 h] 49 (0, 0))).alloc (.cells #[.string ⟨#[]⟩, .string ⟨#[]⟩, .int .i64 0, .int .i64 0, .int .i64 0] 49 (0, 0)))
  have b0 := ((Is.made w #[.string f, .string t, .int .i64 a, .int .i64 l, .int .i64 h] 49).alloc (.cells #[.string ⟨#[]⟩, .string ⟨#[]⟩, .int .i64 0, .int .i64 0, .int .i64 0] 49 (0, 0)))
  replace b0 : Is (World.drew ((w.alloc (.cells #[.string f, .string t, .int .i64 a, .int .i64 l, .int .i64 h] 49 (0, 0))).alloc (.cells #[.string ⟨#[]⟩, .string ⟨#[]⟩, .int .i64 0, .int .i64 0, .int .i64 0] 49 (0, 0)))) (w.heap.size) #[.string f, .string t, .int .i64 a, .int .i64 l, .int .i64 h] 49 := b0
  have b1 := (Is.made (w.alloc (.cells #[.string f, .string t, .int .i64 a, .int .i64 l, .int .i64 h] 49 (0, 0))) #[.string ⟨#[]⟩, .string ⟨#[]⟩, .int .i64 0, .int .i64 0, .int .i64 0] 49)
  rw [World.size_alloc] at b1
  replace b1 : Is (World.drew ((w.alloc (.cells #[.string f, .string t, .int .i64 a, .int .i64 l, .int .i64 h] 49 (0, 0))).alloc (.cells #[.string ⟨#[]⟩, .string ⟨#[]⟩, .int .i64 0, .int .i64 0, .int .i64 0] 49 (0, 0)))) (w.heap.size + 1) #[.string ⟨#[]⟩, .string ⟨#[]⟩, .int .i64 0, .int .i64 0, .int .i64 0] 49 := b1
  have hL : ∀ x ∈ ([] : List Nat), x < ((w.alloc (.cells #[.string f, .string t, .int .i64 a, .int .i64 l, .int .i64 h] 49 (0, 0))).alloc (.cells #[.string ⟨#[]⟩, .string ⟨#[]⟩, .int .i64 0, .int .i64 0, .int .i64 0] 49 (0, 0))).heap.size := by (simp; try omega)
  go_enter Try.func29, Try.ntmps29
  go_wp2_with fail
  rw [oF_lit]
  refine o_law (⟨23, [some 5, some 6, some 7, some 8, some 9, some 10, some 11, some 12, some 13, some 14, some 4, none], [5, 6, 7, 8, 9, 10, 11, 12, 13, 14, 4, 4], [[], [0], [], [2], [], [4], [], [6], [7], [1, 3, 5, 8], [], [10, 9]], [[1], [], [1], [], [1], [], [1], [], [], [], [], []]⟩ : OT) (Gn (w.heap.size + 1 + 1) #[.string ⟨#[]⟩, .string ⟨#[]⟩, .int .i64 0, .int .i64 0, .int .i64 0] #[.string t, .string f, .int .i64 a, .int .i64 (wrap64 (-h)), .int .i64 (wrap64 (-l))] 49) (RL [fun vv _ => vv = .pointer (some ⟨w.heap.size, 1, none⟩), fun vv _ => vv = .string t, fun vv _ => vv = .pointer (some ⟨w.heap.size, 0, none⟩), fun vv _ => vv = .string f, fun vv _ => vv = .pointer (some ⟨w.heap.size, 2, none⟩), fun vv _ => vv = .int .i64 a, fun vv _ => vv = .pointer (some ⟨w.heap.size, 3, none⟩), fun vv _ => vv = .agg #[.int .i64 l, .int .i64 h], fun vv _ => vv = .agg #[.int .i64 (wrap64 (-h)), .int .i64 (wrap64 (-l))], fun vv _ => vv = .agg #[.string t, .string f, .int .i64 a, .int .i64 (wrap64 (-h)), .int .i64 (wrap64 (-l))], An (w.heap.size + 1 + 1) #[.string ⟨#[]⟩, .string ⟨#[]⟩, .int .i64 0, .int .i64 0, .int .i64 0] #[.string t, .string f, .int .i64 a, .int .i64 (wrap64 (-h)), .int .i64 (wrap64 (-l))] 49, Sn (w.heap.size + 1 + 1) #[.string t, .string f, .int .i64 a, .int .i64 (wrap64 (-h)), .int .i64 (wrap64 (-l))] 49]) (by kernel_rfl) ?hk ?hR ?fin
  case hk => kernel_rfl
  case hR =>
    refine ⟨fun _ => (Gn.refl _ _ _ _ _), fun _ _ _ => Gn.trans, rl_stab ⟨fun _ _ _ _ h => h, fun _ _ _ _ h => h, fun _ _ _ _ h => h, fun _ _ _ _ h => h, fun _ _ _ _ h => h, fun _ _ _ _ h => h, fun _ _ _ _ h => h, fun _ _ _ _ h => h, fun _ _ _ _ h => h, fun _ _ _ _ h => h, (fun v w w' k h => h.gn k), (fun v w w' k h => h.gn k), trivial⟩, ?_⟩
    refine allO_cons ?_ (allO_cons ?_ (allO_cons ?_ (allO_cons ?_ (allO_cons ?_ (allO_cons ?_ (allO_cons ?_ (allO_cons ?_ (allO_cons ?_ (allO_cons ?_ (allO_cons ?_ (allO_cons ?_ (allO_nil))))))))))))
    · intro T w9 hG hD hO Q
      have q0 := hO.1
      have e0 : (oF 23 T).eval (.tmp 1) = .pointer (some ⟨w.heap.size, 0, none⟩) := (oF_eval (by decide)).trans (show T 1 = _ from q0)
      refine og_none rfl ?_
      exact o_val (v := .pointer (some ⟨w.heap.size, 1, none⟩)) (w' := w9) (by generalize (oF 23 T).eval = rr at *; simp [execOp, go_sem, e0]) rfl rfl (Gn.refl _ _ _ _ _)
    · intro T w9 hG hD hO Q
      have d0 := hD.1
      have e0 : (oF 23 T).eval (.tmp 5) = .pointer (some ⟨w.heap.size, 1, none⟩) := (oF_eval (by decide)).trans (show T 5 = _ from d0)
      refine og_none rfl ?_
      have im := b0.gn hG (by omega)
      have m0 := im.c (i := 1) rfl
      clear im
      exact o_val (v := .string t) (w' := w9) (by generalize (oF 23 T).eval = rr at *; simp [execOp, go_sem, e0, m0]) rfl rfl (Gn.refl _ _ _ _ _)
    · intro T w9 hG hD hO Q
      have q0 := hO.1
      have e0 : (oF 23 T).eval (.tmp 1) = .pointer (some ⟨w.heap.size, 0, none⟩) := (oF_eval (by decide)).trans (show T 1 = _ from q0)
      refine og_none rfl ?_
      exact o_val (v := .pointer (some ⟨w.heap.size, 0, none⟩)) (w' := w9) (by generalize (oF 23 T).eval = rr at *; simp [execOp, go_sem, e0]) rfl rfl (Gn.refl _ _ _ _ _)
    · intro T w9 hG hD hO Q
      have d0 := hD.1
      have e0 : (oF 23 T).eval (.tmp 7) = .pointer (some ⟨w.heap.size, 0, none⟩) := (oF_eval (by decide)).trans (show T 7 = _ from d0)
      refine og_none rfl ?_
      have im := b0.gn hG (by omega)
      have m0 := im.c (i := 0) rfl
      clear im
      exact o_val (v := .string f) (w' := w9) (by generalize (oF 23 T).eval = rr at *; simp [execOp, go_sem, e0, m0]) rfl rfl (Gn.refl _ _ _ _ _)
    · intro T w9 hG hD hO Q
      have q0 := hO.1
      have e0 : (oF 23 T).eval (.tmp 1) = .pointer (some ⟨w.heap.size, 0, none⟩) := (oF_eval (by decide)).trans (show T 1 = _ from q0)
      refine og_none rfl ?_
      exact o_val (v := .pointer (some ⟨w.heap.size, 2, none⟩)) (w' := w9) (by generalize (oF 23 T).eval = rr at *; simp [execOp, go_sem, e0]) rfl rfl (Gn.refl _ _ _ _ _)
    · intro T w9 hG hD hO Q
      have d0 := hD.1
      have e0 : (oF 23 T).eval (.tmp 9) = .pointer (some ⟨w.heap.size, 2, none⟩) := (oF_eval (by decide)).trans (show T 9 = _ from d0)
      refine og_none rfl ?_
      have im := b0.gn hG (by omega)
      have m0 := im.c (i := 2) rfl
      clear im
      exact o_val (v := .int .i64 a) (w' := w9) (by generalize (oF 23 T).eval = rr at *; simp [execOp, go_sem, e0, m0]) rfl rfl (Gn.refl _ _ _ _ _)
    · intro T w9 hG hD hO Q
      have q0 := hO.1
      have e0 : (oF 23 T).eval (.tmp 1) = .pointer (some ⟨w.heap.size, 0, none⟩) := (oF_eval (by decide)).trans (show T 1 = _ from q0)
      refine og_none rfl ?_
      exact o_val (v := .pointer (some ⟨w.heap.size, 3, none⟩)) (w' := w9) (by generalize (oF 23 T).eval = rr at *; simp [execOp, go_sem, e0]) rfl rfl (Gn.refl _ _ _ _ _)
    · intro T w9 hG hD hO Q
      have d0 := hD.1
      have e0 : (oF 23 T).eval (.tmp 11) = .pointer (some ⟨w.heap.size, 3, none⟩) := (oF_eval (by decide)).trans (show T 11 = _ from d0)
      refine og_none rfl ?_
      have im := b0.gn hG (by omega)
      have m0 := im.c (i := 3) rfl
      have m1 := im.c (i := 4) rfl
      clear im
      exact o_val (v := .agg #[.int .i64 l, .int .i64 h]) (w' := w9) (by generalize (oF 23 T).eval = rr at *; simp [execOp, go_sem, e0, m0, m1]) rfl rfl (Gn.refl _ _ _ _ _)
    · intro T w9 hG hD hO Q
      have d0 := hD.1
      have e0 : (oF 23 T).eval (.func 51) = .func (.func 51) #[] #[] := rfl
      have e1 : (oF 23 T).eval (.tmp 12) = .agg #[.int .i64 l, .int .i64 h] := (oF_eval (by decide)).trans (show T 12 = _ from d0)
      refine og_none rfl ?_
      refine o_call (oc1 (enters_of Try.func51 (by kernel_rfl) rfl) rfl rfl e1) rfl ?_
      exact ((dopp l h).out w9).mono fun r W' h => ⟨_, h.1, rfl, h.2.gn⟩
    · intro T w9 hG hD hO Q
      have d0 := hD.1
      have d1 := hD.2.1
      have d2 := hD.2.2.1
      have d3 := hD.2.2.2.1
      have e0 : (oF 23 T).eval (.tmp 6) = .string t := (oF_eval (by decide)).trans (show T 6 = _ from d0)
      have e1 : (oF 23 T).eval (.tmp 8) = .string f := (oF_eval (by decide)).trans (show T 8 = _ from d1)
      have e2 : (oF 23 T).eval (.tmp 10) = .int .i64 a := (oF_eval (by decide)).trans (show T 10 = _ from d2)
      have e3 : (oF 23 T).eval (.tmp 13) = .agg #[.int .i64 (wrap64 (-h)), .int .i64 (wrap64 (-l))] := (oF_eval (by decide)).trans (show T 13 = _ from d3)
      refine og_none rfl ?_
      exact o_val (v := .agg #[.string t, .string f, .int .i64 a, .int .i64 (wrap64 (-h)), .int .i64 (wrap64 (-l))]) (w' := w9) (by generalize (oF 23 T).eval = rr at *; simp [execOp, go_sem, e0, e1, e2, e3]) rfl rfl (Gn.refl _ _ _ _ _)
    · intro T w9 hG hD hO Q
      refine og_none rfl ?_
      have kz : Kb w9 (w9.alloc (.cells #[.string ⟨#[]⟩, .string ⟨#[]⟩, .int .i64 0, .int .i64 0, .int .i64 0] 49 (0, 0))) := (Kb.refl w9).alloc _
      exact o_val (v := .pointer (some ⟨w9.heap.size, 0, none⟩)) (w' := w9.alloc (.cells #[.string ⟨#[]⟩, .string ⟨#[]⟩, .int .i64 0, .int .i64 0, .int .i64 0] 49 (0, 0))) (by simp [execOp, go_sem]) rfl ⟨_, rfl, (by have := hG.2.2.2.1; simp only [World.size_drew, World.size_alloc] at *; omega), .inl (Is.made w9 _ _)⟩ kz.gn
    · intro T w9 hG hD hO Q
      have d0 := hD.1
      have d1 := hD.2.1
      have e0 : (oF 23 T).eval (.tmp 4) = T 4 := oF_eval (by decide)
      have p0 : (An (w.heap.size + 1 + 1) #[.string ⟨#[]⟩, .string ⟨#[]⟩, .int .i64 0, .int .i64 0, .int .i64 0] #[.string t, .string f, .int .i64 a, .int .i64 (wrap64 (-h)), .int .i64 (wrap64 (-l))] 49) (T 4) w9 := d0
      have e1 : (oF 23 T).eval (.tmp 14) = .agg #[.string t, .string f, .int .i64 a, .int .i64 (wrap64 (-h)), .int .i64 (wrap64 (-l))] := (oF_eval (by decide)).trans (show T 14 = _ from d1)
      refine og_none rfl ?_
      obtain ⟨g, hg, hge, io⟩ := p0
      rw [hg] at e0
      rcases io with io | io
      · obtain ⟨zn, pt⟩ := put5 io (.string t) (.string f) (.int .i64 a) (.int .i64 (wrap64 (-h))) (.int .i64 (wrap64 (-l)))
        have gn : Gn (w.heap.size + 1 + 1) #[.string ⟨#[]⟩, .string ⟨#[]⟩, .int .i64 0, .int .i64 0, .int .i64 0] #[.string t, .string f, .int .i64 a, .int .i64 (wrap64 (-h)), .int .i64 (wrap64 (-l))] 49 w9 _ := pt.gn zn (.inl io) hge
        have m0 := io.c (i := 0) rfl
        have f0 := io.f 0
        have m1 := io.c (i := 1) rfl
        have f1 := io.f 1
        have m2 := io.c (i := 2) rfl
        have f2 := io.f 2
        have m3 := io.c (i := 3) rfl
        have f3 := io.f 3
        have m4 := io.c (i := 4) rfl
        have f4 := io.f 4
        clear io
        exact o_skip (w' := (((((w9.setCell ⟨g, 0, none⟩ (.string t)).setCell ⟨g, 1, none⟩ (.string f)).setCell ⟨g, 2, none⟩ (.int .i64 a)).setCell ⟨g, 3, none⟩ (.int .i64 (wrap64 (-h)))).setCell ⟨g, 4, none⟩ (.int .i64 (wrap64 (-l))))) (by generalize (oF 23 T).eval = rr at *; simp [execOp, go_sem, e0, e1, m0, f0, m1, f1, m2, f2, m3, f3, m4, f4]) rfl ⟨g, hg, hge, zn⟩ gn
      · obtain ⟨zn, pt⟩ := put5 io (.string t) (.string f) (.int .i64 a) (.int .i64 (wrap64 (-h))) (.int .i64 (wrap64 (-l)))
        have gn : Gn (w.heap.size + 1 + 1) #[.string ⟨#[]⟩, .string ⟨#[]⟩, .int .i64 0, .int .i64 0, .int .i64 0] #[.string t, .string f, .int .i64 a, .int .i64 (wrap64 (-h)), .int .i64 (wrap64 (-l))] 49 w9 _ := pt.gn zn (.inr io) hge
        have m0 := io.c (i := 0) rfl
        have f0 := io.f 0
        have m1 := io.c (i := 1) rfl
        have f1 := io.f 1
        have m2 := io.c (i := 2) rfl
        have f2 := io.f 2
        have m3 := io.c (i := 3) rfl
        have f3 := io.f 3
        have m4 := io.c (i := 4) rfl
        have f4 := io.f 4
        clear io
        exact o_skip (w' := (((((w9.setCell ⟨g, 0, none⟩ (.string t)).setCell ⟨g, 1, none⟩ (.string f)).setCell ⟨g, 2, none⟩ (.int .i64 a)).setCell ⟨g, 3, none⟩ (.int .i64 (wrap64 (-h)))).setCell ⟨g, 4, none⟩ (.int .i64 (wrap64 (-l))))) (by generalize (oF 23 T).eval = rr at *; simp [execOp, go_sem, e0, e1, m0, f0, m1, f1, m2, f2, m3, f3, m4, f4]) rfl ⟨g, hg, hge, zn⟩ gn
  case fin =>
    intro T w7 hout hval hG
    rw [show oF 23 T = (⟨#[T 0, T 1, T 2, T 3, T 4, T 5, T 6, T 7, T 8, T 9, T 10, T 11, T 12, T 13, T 14, T 15, T 16, T 17, T 18, T 19, T 20, T 21, T 22], []⟩ : Act) from oF_list 23 T]
    rw [show T 1 = .pointer (some ⟨w.heap.size, 0, none⟩) from hout 1 rfl]
    rw [show T 2 = .pointer (some ⟨w.heap.size + 1, 0, none⟩) from hout 2 rfl]
    obtain ⟨g0, eg, hge, ig⟩ := hval 11 (by decide)
    replace eg : T 4 = _ := eg
    rw [eg]
    replace k0 := hG.old k0.drew (show w.heap.size ≤ w.heap.size + 1 + 1 by omega)
    replace b0 := (b0.gn hG (by omega)).drew
    replace b1 := (b1.gn hG (by omega)).drew
    replace ig := ig.drew
    have hlt := b1.lt
    have hL : ∀ x ∈ ([w.heap.size + 1] : List Nat), x < w7.heap.size := by (simp; exact hlt)
    clear hout hval hG eg
    go_wp2_with fail
    rw [oF_lit]
    refine o_law (⟨23, [some 15, some 16, some 17, some 18, some 19, some 20, some 21, some 22, none, some 3], [15, 16, 17, 18, 19, 20, 21, 22, 23, 3], [[], [], [1], [2], [3], [0, 4], [5], [5], [6], [7]], [[4], [1], [], [], [], [], [], [], [2], []]⟩ : OT) (Gz (w.heap.size + 1) #[.string ⟨#[]⟩, .string ⟨#[]⟩, .int .i64 0, .int .i64 0, .int .i64 0] #[.string (zS (firstE [firstE [vdE f t a l h]]) t), .string (zS (firstE [firstE [vdE f t a l h]]) f), .int .i64 (zI (firstE [firstE [vdE f t a l h]]) a), .int .i64 (zI (firstE [firstE [vdE f t a l h]]) (wrap64 (-h))), .int .i64 (zI (firstE [firstE [vdE f t a l h]]) (wrap64 (-l)))] 49) (RL [fun vv _ => vv = .agg #[.string t, .string f, .int .i64 a, .int .i64 (wrap64 (-h)), .int .i64 (wrap64 (-l))], fun vv _ => vv = .agg #[.string f, .string t, .int .i64 a, .int .i64 l, .int .i64 h], fun vv ww => Sl [w.heap.size + 1] 5 ww vv [[.string f, .string t, .int .i64 a, .int .i64 l, .int .i64 h]], fun vv ww => Ck [w.heap.size + 1] vv (firstE [vdE f t a l h]) ww, fun vv ww => SlC [w.heap.size + 1] [firstE [vdE f t a l h]] vv ww, fun vv _ => vv = .tuple #[.agg #[.string (zS (firstE [firstE [vdE f t a l h]]) t), .string (zS (firstE [firstE [vdE f t a l h]]) f), .int .i64 (zI (firstE [firstE [vdE f t a l h]]) a), .int .i64 (zI (firstE [firstE [vdE f t a l h]]) (wrap64 (-h))), .int .i64 (zI (firstE [firstE [vdE f t a l h]]) (wrap64 (-l)))], .int .i64 (firstE [firstE [vdE f t a l h]])], fun vv _ => vv = .agg #[.string (zS (firstE [firstE [vdE f t a l h]]) t), .string (zS (firstE [firstE [vdE f t a l h]]) f), .int .i64 (zI (firstE [firstE [vdE f t a l h]]) a), .int .i64 (zI (firstE [firstE [vdE f t a l h]]) (wrap64 (-h))), .int .i64 (zI (firstE [firstE [vdE f t a l h]]) (wrap64 (-l)))], fun vv _ => vv = .int .i64 (firstE [firstE [vdE f t a l h]]), fun _ ww => Is ww (w.heap.size + 1) #[.string (zS (firstE [firstE [vdE f t a l h]]) t), .string (zS (firstE [firstE [vdE f t a l h]]) f), .int .i64 (zI (firstE [firstE [vdE f t a l h]]) a), .int .i64 (zI (firstE [firstE [vdE f t a l h]]) (wrap64 (-h))), .int .i64 (zI (firstE [firstE [vdE f t a l h]]) (wrap64 (-l)))] 49, fun vv _ => vv = .int .i64 (firstE [firstE [vdE f t a l h]])]) (by kernel_rfl) ?hk ?hR ?fin
    case hk => kernel_rfl
    case hR =>
      refine ⟨fun _ => (Gz.refl _ _ _ _ _), fun _ _ _ => Gz.trans, rl_stab ⟨fun _ _ _ _ h => h, fun _ _ _ _ h => h, (fun v w w' k h => h.kx k.1), (fun v w w' k h => h.kx k.1), (fun v w w' k h => h.kx k.1), fun _ _ _ _ h => h, fun _ _ _ _ h => h, fun _ _ _ _ h => h, (fun v w w' k h => k.2.1 h), fun _ _ _ _ h => h, trivial⟩, ?_⟩
      refine allO_cons ?_ (allO_cons ?_ (allO_cons ?_ (allO_cons ?_ (allO_cons ?_ (allO_cons ?_ (allO_cons ?_ (allO_cons ?_ (allO_cons ?_ (allO_cons ?_ (allO_nil))))))))))
      · intro T w9 hG hD hO Q
        have q0 := hO.1
        have e0 : (oF 23 T).eval (.tmp 4) = .pointer (some ⟨g0, 0, none⟩) := (oF_eval (by decide)).trans (show T 4 = _ from q0)
        refine og_none rfl ?_
        have im := ig.kx hG.1 (by simp; omega)
        have m0 := im.c (i := 0) rfl
        have m1 := im.c (i := 1) rfl
        have m2 := im.c (i := 2) rfl
        have m3 := im.c (i := 3) rfl
        have m4 := im.c (i := 4) rfl
        clear im
        exact o_val (v := .agg #[.string t, .string f, .int .i64 a, .int .i64 (wrap64 (-h)), .int .i64 (wrap64 (-l))]) (w' := w9) (by generalize (oF 23 T).eval = rr at *; simp [execOp, go_sem, e0, m0, m1, m2, m3, m4]) rfl rfl (Gz.refl _ _ _ _ _)
      · intro T w9 hG hD hO Q
        have q0 := hO.1
        have e0 : (oF 23 T).eval (.tmp 1) = .pointer (some ⟨w.heap.size, 0, none⟩) := (oF_eval (by decide)).trans (show T 1 = _ from q0)
        refine og_none rfl ?_
        have im := b0.kx hG.1 (by simp)
        have m0 := im.c (i := 0) rfl
        have m1 := im.c (i := 1) rfl
        have m2 := im.c (i := 2) rfl
        have m3 := im.c (i := 3) rfl
        have m4 := im.c (i := 4) rfl
        clear im
        exact o_val (v := .agg #[.string f, .string t, .int .i64 a, .int .i64 l, .int .i64 h]) (w' := w9) (by generalize (oF 23 T).eval = rr at *; simp [execOp, go_sem, e0, m0, m1, m2, m3, m4]) rfl rfl (Gz.refl _ _ _ _ _)
      · intro T w9 hG hD hO Q
        have d0 := hD.1
        have e0 : (oF 23 T).eval (.tmp 16) = .agg #[.string f, .string t, .int .i64 a, .int .i64 l, .int .i64 h] := (oF_eval (by decide)).trans (show T 16 = _ from d0)
        refine og_none rfl ?_
        have kz : Kb w9 (w9.alloc (.cells #[.string f, .string t, .int .i64 a, .int .i64 l, .int .i64 h] 49 (0, 0))) := (Kb.refl w9).alloc _
        exact o_val (v := .slice (some ⟨w9.heap.size, 0, none⟩) 1 1) (w' := w9.alloc (.cells #[.string f, .string t, .int .i64 a, .int .i64 l, .int .i64 h] 49 (0, 0))) (by generalize (oF 23 T).eval = rr at *; simp [execOp, go_sem, e0]) rfl (sl_is (Is.made w9 _ _) (fun hx => by have := hL _ hx; have := hG.1.2.2.2.1; simp only [World.size_drew] at *; omega) rfl (rows_ok rfl rfl)) kz.gz
      · intro T w9 hG hD hO Q
        have d0 := hD.1
        have e0 : (oF 23 T).eval (.func 54) = .func (.func 54) #[] #[] := rfl
        have e1 : (oF 23 T).eval (.func 33) = .func (.func 33) #[] #[] := rfl
        have e2 : (oF 23 T).eval (.tmp 17) = T 17 := oF_eval (by decide)
        have p2 : (fun vv ww => Sl [w.heap.size + 1] 5 ww vv [[.string f, .string t, .int .i64 a, .int .i64 l, .int .i64 h]]) (T 17) w9 := d0
        refine og_none rfl ?_
        refine o_call (oc2 (enters_of Try.func54 (by kernel_rfl) rfl) rfl rfl e1 e2) rfl ?_
        exact (cEach_Dim [w.heap.size + 1] _ (⟨#[]⟩, ⟨#[]⟩, 0, 0, 0) [(f, t, a, l, h)] [vdE f t a l h] _ w9 (fun x hx => by have := hL x hx; have := hG.1.2.2.2.1; simp only [World.size_drew] at *; omega) (by simp) rfl p2 (enters_of Try.func33 (by kernel_rfl) rfl) (each_ok ⟨dValid f t a l h hf ht, trivial⟩ rfl)).mono fun r W' ⟨v, h1, h2, h3⟩ => ⟨v, h1, h2, h3.gz⟩
      · intro T w9 hG hD hO Q
        have d0 := hD.1
        have e0 : (oF 23 T).eval (.tmp 18) = T 18 := oF_eval (by decide)
        have p0 : (fun vv ww => Ck [w.heap.size + 1] vv (firstE [vdE f t a l h]) ww) (T 18) w9 := d0
        refine og_none rfl ?_
        obtain ⟨F0, c0, f0, g0, h0⟩ := p0
        rw [f0] at e0
        have kz : Kb w9 (w9.alloc (.cells #[.func (.func F0) #[] c0] 72 (0, 0))) := (Kb.refl w9).alloc _
        exact o_val (v := .slice (some ⟨w9.heap.size, 0, none⟩) 1 1) (w' := w9.alloc (.cells #[.func (.func F0) #[] c0] 72 (0, 0))) (by generalize (oF 23 T).eval = rr at *; simp [execOp, go_sem, e0]) rfl ⟨[.func (.func F0) #[] c0], rfl, sl_is (Is.made w9 _ _) (fun hx => by have := hL _ hx; have := hG.1.2.2.2.1; simp only [World.size_drew] at *; omega) rfl (rows_ok rfl rfl), cks_ok ⟨(Ck.kx ⟨F0, c0, rfl, g0, h0⟩ kz.kx), trivial⟩ rfl⟩ kz.gz
      · intro T w9 hG hD hO Q
        have d0 := hD.1
        have d1 := hD.2.1
        have e0 : (oF 23 T).eval (.func 53) = .func (.func 53) #[] #[] := rfl
        have e1 : (oF 23 T).eval (.tmp 15) = .agg #[.string t, .string f, .int .i64 a, .int .i64 (wrap64 (-h)), .int .i64 (wrap64 (-l))] := (oF_eval (by decide)).trans (show T 15 = _ from d0)
        have e2 : (oF 23 T).eval (.tmp 19) = T 19 := oF_eval (by decide)
        have p2 : (fun vv ww => SlC [w.heap.size + 1] [firstE [vdE f t a l h]] vv ww) (T 19) w9 := d1
        refine og_none rfl ?_
        refine o_call (oc2 (enters_of Try.func53 (by kernel_rfl) rfl) rfl rfl e1 e2) rfl ?_
        exact (cResult_Dim [w.heap.size + 1] [firstE [vdE f t a l h]] _ t f a (wrap64 (-h)) (wrap64 (-l)) w9 p2 (by simp)).mono fun r W' h => ⟨_, h.1, rfl, h.2.gz⟩
      · intro T w9 hG hD hO Q
        have d0 := hD.1
        have e0 : (oF 23 T).eval (.tmp 20) = .tuple #[.agg #[.string (zS (firstE [firstE [vdE f t a l h]]) t), .string (zS (firstE [firstE [vdE f t a l h]]) f), .int .i64 (zI (firstE [firstE [vdE f t a l h]]) a), .int .i64 (zI (firstE [firstE [vdE f t a l h]]) (wrap64 (-h))), .int .i64 (zI (firstE [firstE [vdE f t a l h]]) (wrap64 (-l)))], .int .i64 (firstE [firstE [vdE f t a l h]])] := (oF_eval (by decide)).trans (show T 20 = _ from d0)
        refine og_none rfl ?_
        exact o_val (v := .agg #[.string (zS (firstE [firstE [vdE f t a l h]]) t), .string (zS (firstE [firstE [vdE f t a l h]]) f), .int .i64 (zI (firstE [firstE [vdE f t a l h]]) a), .int .i64 (zI (firstE [firstE [vdE f t a l h]]) (wrap64 (-h))), .int .i64 (zI (firstE [firstE [vdE f t a l h]]) (wrap64 (-l)))]) (w' := w9) (by generalize (oF 23 T).eval = rr at *; simp [execOp, go_sem, e0]) rfl rfl (Gz.refl _ _ _ _ _)
      · intro T w9 hG hD hO Q
        have d0 := hD.1
        have e0 : (oF 23 T).eval (.tmp 20) = .tuple #[.agg #[.string (zS (firstE [firstE [vdE f t a l h]]) t), .string (zS (firstE [firstE [vdE f t a l h]]) f), .int .i64 (zI (firstE [firstE [vdE f t a l h]]) a), .int .i64 (zI (firstE [firstE [vdE f t a l h]]) (wrap64 (-h))), .int .i64 (zI (firstE [firstE [vdE f t a l h]]) (wrap64 (-l)))], .int .i64 (firstE [firstE [vdE f t a l h]])] := (oF_eval (by decide)).trans (show T 20 = _ from d0)
        refine og_none rfl ?_
        exact o_val (v := .int .i64 (firstE [firstE [vdE f t a l h]])) (w' := w9) (by generalize (oF 23 T).eval = rr at *; simp [execOp, go_sem, e0]) rfl rfl (Gz.refl _ _ _ _ _)
      · intro T w9 hG hD hO Q
        have d0 := hD.1
        have q0 := hO.1
        have e0 : (oF 23 T).eval (.tmp 2) = .pointer (some ⟨w.heap.size + 1, 0, none⟩) := (oF_eval (by decide)).trans (show T 2 = _ from q0)
        have e1 : (oF 23 T).eval (.tmp 21) = .agg #[.string (zS (firstE [firstE [vdE f t a l h]]) t), .string (zS (firstE [firstE [vdE f t a l h]]) f), .int .i64 (zI (firstE [firstE [vdE f t a l h]]) a), .int .i64 (zI (firstE [firstE [vdE f t a l h]]) (wrap64 (-h))), .int .i64 (zI (firstE [firstE [vdE f t a l h]]) (wrap64 (-l)))] := (oF_eval (by decide)).trans (show T 21 = _ from d0)
        refine og_none rfl ?_
        have io : Is w9 (w.heap.size + 1) #[.string ⟨#[]⟩, .string ⟨#[]⟩, .int .i64 0, .int .i64 0, .int .i64 0] 49 ∨ Is w9 (w.heap.size + 1) #[.string (zS (firstE [firstE [vdE f t a l h]]) t), .string (zS (firstE [firstE [vdE f t a l h]]) f), .int .i64 (zI (firstE [firstE [vdE f t a l h]]) a), .int .i64 (zI (firstE [firstE [vdE f t a l h]]) (wrap64 (-h))), .int .i64 (zI (firstE [firstE [vdE f t a l h]]) (wrap64 (-l)))] 49 := hG.2.2 (.inl b1)
        rcases io with io | io
        · obtain ⟨zn, pt⟩ := put5 io (.string (zS (firstE [firstE [vdE f t a l h]]) t)) (.string (zS (firstE [firstE [vdE f t a l h]]) f)) (.int .i64 (zI (firstE [firstE [vdE f t a l h]]) a)) (.int .i64 (zI (firstE [firstE [vdE f t a l h]]) (wrap64 (-h)))) (.int .i64 (zI (firstE [firstE [vdE f t a l h]]) (wrap64 (-l))))
          have m0 := io.c (i := 0) rfl
          have f0 := io.f 0
          have m1 := io.c (i := 1) rfl
          have f1 := io.f 1
          have m2 := io.c (i := 2) rfl
          have f2 := io.f 2
          have m3 := io.c (i := 3) rfl
          have f3 := io.f 3
          have m4 := io.c (i := 4) rfl
          have f4 := io.f 4
          clear io
          exact o_skip (w' := (((((w9.setCell ⟨w.heap.size + 1, 0, none⟩ (.string (zS (firstE [firstE [vdE f t a l h]]) t))).setCell ⟨w.heap.size + 1, 1, none⟩ (.string (zS (firstE [firstE [vdE f t a l h]]) f))).setCell ⟨w.heap.size + 1, 2, none⟩ (.int .i64 (zI (firstE [firstE [vdE f t a l h]]) a))).setCell ⟨w.heap.size + 1, 3, none⟩ (.int .i64 (zI (firstE [firstE [vdE f t a l h]]) (wrap64 (-h))))).setCell ⟨w.heap.size + 1, 4, none⟩ (.int .i64 (zI (firstE [firstE [vdE f t a l h]]) (wrap64 (-l)))))) (by generalize (oF 23 T).eval = rr at *; simp [execOp, go_sem, e0, e1, m0, f0, m1, f1, m2, f2, m3, f3, m4, f4]) rfl zn (pt.gz zn)
        · obtain ⟨zn, pt⟩ := put5 io (.string (zS (firstE [firstE [vdE f t a l h]]) t)) (.string (zS (firstE [firstE [vdE f t a l h]]) f)) (.int .i64 (zI (firstE [firstE [vdE f t a l h]]) a)) (.int .i64 (zI (firstE [firstE [vdE f t a l h]]) (wrap64 (-h)))) (.int .i64 (zI (firstE [firstE [vdE f t a l h]]) (wrap64 (-l))))
          have m0 := io.c (i := 0) rfl
          have f0 := io.f 0
          have m1 := io.c (i := 1) rfl
          have f1 := io.f 1
          have m2 := io.c (i := 2) rfl
          have f2 := io.f 2
          have m3 := io.c (i := 3) rfl
          have f3 := io.f 3
          have m4 := io.c (i := 4) rfl
          have f4 := io.f 4
          clear io
          exact o_skip (w' := (((((w9.setCell ⟨w.heap.size + 1, 0, none⟩ (.string (zS (firstE [firstE [vdE f t a l h]]) t))).setCell ⟨w.heap.size + 1, 1, none⟩ (.string (zS (firstE [firstE [vdE f t a l h]]) f))).setCell ⟨w.heap.size + 1, 2, none⟩ (.int .i64 (zI (firstE [firstE [vdE f t a l h]]) a))).setCell ⟨w.heap.size + 1, 3, none⟩ (.int .i64 (zI (firstE [firstE [vdE f t a l h]]) (wrap64 (-h))))).setCell ⟨w.heap.size + 1, 4, none⟩ (.int .i64 (zI (firstE [firstE [vdE f t a l h]]) (wrap64 (-l)))))) (by generalize (oF 23 T).eval = rr at *; simp [execOp, go_sem, e0, e1, m0, f0, m1, f1, m2, f2, m3, f3, m4, f4]) rfl zn (pt.gz zn)
      · intro T w9 hG hD hO Q
        have d0 := hD.1
        have e0 : (oF 23 T).eval (.tmp 22) = .int .i64 (firstE [firstE [vdE f t a l h]]) := (oF_eval (by decide)).trans (show T 22 = _ from d0)
        refine og_none rfl ?_
        exact o_val (v := .int .i64 (firstE [firstE [vdE f t a l h]])) (w' := w9) (by generalize (oF 23 T).eval = rr at *; simp [execOp, go_sem, e0]) rfl rfl (Gz.refl _ _ _ _ _)
    case fin =>
      intro T2 w8 hout hval hG
      rw [show oF 23 T2 = (⟨#[T2 0, T2 1, T2 2, T2 3, T2 4, T2 5, T2 6, T2 7, T2 8, T2 9, T2 10, T2 11, T2 12, T2 13, T2 14, T2 15, T2 16, T2 17, T2 18, T2 19, T2 20, T2 21, T2 22], []⟩ : Act) from oF_list 23 T2]
      rw [show T2 2 = .pointer (some ⟨w.heap.size + 1, 0, none⟩) from hout 2 rfl]
      rw [show T2 3 = .int .i64 (firstE [firstE [vdE f t a l h]]) from hval 9 (by decide : 9 < 10)]
      have kb := hG.old k0.drew (by omega)
      have io := hval 8 (by decide)
      clear hout hval
      replace io : Is w8 (w.heap.size + 1) #[.string (zS (firstE [firstE [vdE f t a l h]]) t), .string (zS (firstE [firstE [vdE f t a l h]]) f), .int .i64 (zI (firstE [firstE [vdE f t a l h]]) a), .int .i64 (zI (firstE [firstE [vdE f t a l h]]) (wrap64 (-h))), .int .i64 (zI (firstE [firstE [vdE f t a l h]]) (wrap64 (-l)))] 49 := io
      go_wp2
      refine ret_row2 Try.results29 rfl rfl rfl io Try.underlying49 rfl (by kernel_rfl) ?_
      exact ⟨rfl, kb⟩
set_option maxRecDepth 100000 in
set_option maxHeartbeats 1000000 in
theorem dJoin_any (f t : ByteArray) (a l h : Int) (hf : f.size ≤ 1000000) (ht : t.size ≤ 1000000) (g u : ByteArray) (c m k : Int) (hg : g.size ≤ 1000000) (hu : u.size ≤ 1000000) (w : World) : Calls Try.prog 31 #[.agg #[.string f, .string t, .int .i64 a, .int .i64 l, .int .i64 h], .agg #[.string g, .string u, .int .i64 c, .int .i64 m, .int .i64 k]] w fun r W' => r = .returned (.tuple #[.agg #[.string (zS (firstE [firstE [vdE f t a l h, vdE g u c m k], fE (a != c || !(t.toList == g.toList)) 8, fE (f.toList == u.toList) 7, firstE [lmE (wrap64 (l + m)) (wrap64 (h + k))]]) f), .string (zS (firstE [firstE [vdE f t a l h, vdE g u c m k], fE (a != c || !(t.toList == g.toList)) 8, fE (f.toList == u.toList) 7, firstE [lmE (wrap64 (l + m)) (wrap64 (h + k))]]) u), .int .i64 (zI (firstE [firstE [vdE f t a l h, vdE g u c m k], fE (a != c || !(t.toList == g.toList)) 8, fE (f.toList == u.toList) 7, firstE [lmE (wrap64 (l + m)) (wrap64 (h + k))]]) a), .int .i64 (zI (firstE [firstE [vdE f t a l h, vdE g u c m k], fE (a != c || !(t.toList == g.toList)) 8, fE (f.toList == u.toList) 7, firstE [lmE (wrap64 (l + m)) (wrap64 (h + k))]]) (wrap64 (l + m))), .int .i64 (zI (firstE [firstE [vdE f t a l h, vdE g u c m k], fE (a != c || !(t.toList == g.toList)) 8, fE (f.toList == u.toList) 7, firstE [lmE (wrap64 (l + m)) (wrap64 (h + k))]]) (wrap64 (h + k)))], .int .i64 (firstE [firstE [vdE f t a l h, vdE g u c m k], fE (a != c || !(t.toList == g.toList)) 8, fE (f.toList == u.toList) 7, firstE [lmE (wrap64 (l + m)) (wrap64 (h + k))]])]) ∧ Kb w W' := by
  have k0 := ((((Kb.refl w).alloc (.cells #[.string f, .string t, .int .i64 a, .int .i64 l, .int .i64 h] 49 (0, 0))).alloc (.cells #[.string g, .string u, .int .i64 c, .int .i64 m, .int .i64 k] 49 (0, 0))).alloc (.cells #[.string ⟨#[]⟩, .string ⟨#[]⟩, .int .i64 0, .int .i64 0, .int .i64 0] 49 (0, 0)))
  have b0 := (((Is.made w #[.string f, .string t, .int .i64 a, .int .i64 l, .int .i64 h] 49).alloc (.cells #[.string g, .string u, .int .i64 c, .int .i64 m, .int .i64 k] 49 (0, 0))).alloc (.cells #[.string ⟨#[]⟩, .string ⟨#[]⟩, .int .i64 0, .int .i64 0, .int .i64 0] 49 (0, 0)))
  replace b0 : Is (World.drew (((w.alloc (.cells #[.string f, .string t, .int .i64 a, .int .i64 l, .int .i64 h] 49 (0, 0))).alloc (.cells #[.string g, .string u, .int .i64 c, .int .i64 m, .int .i64 k] 49 (0, 0))).alloc (.cells #[.string ⟨#[]⟩, .string ⟨#[]⟩, .int .i64 0, .int .i64 0, .int .i64 0] 49 (0, 0)))) (w.heap.size) #[.string f, .string t, .int .i64 a, .int .i64 l, .int .i64 h] 49 := b0
  have b1 := ((Is.made (w.alloc (.cells #[.string f, .string t, .int .i64 a, .int .i64 l, .int .i64 h] 49 (0, 0))) #[.string g, .string u, .int .i64 c, .int .i64 m, .int .i64 k] 49).alloc (.cells #[.string ⟨#[]⟩, .string ⟨#[]⟩, .int .i64 0, .int .i64 0, .int .i64 0] 49 (0, 0)))
  rw [World.size_alloc] at b1
  replace b1 : Is (World.drew (((w.alloc (.cells #[.string f, .string t, .int .i64 a, .int .i64 l, .int .i64 h] 49 (0, 0))).alloc (.cells #[.string g, .string u, .int .i64 c, .int .i64 m, .int .i64 k] 49 (0, 0))).alloc (.cells #[.string ⟨#[]⟩, .string ⟨#[]⟩, .int .i64 0, .int .i64 0, .int .i64 0] 49 (0, 0)))) (w.heap.size + 1) #[.string g, .string u, .int .i64 c, .int .i64 m, .int .i64 k] 49 := b1
  have b2 := (Is.made ((w.alloc (.cells #[.string f, .string t, .int .i64 a, .int .i64 l, .int .i64 h] 49 (0, 0))).alloc (.cells #[.string g, .string u, .int .i64 c, .int .i64 m, .int .i64 k] 49 (0, 0))) #[.string ⟨#[]⟩, .string ⟨#[]⟩, .int .i64 0, .int .i64 0, .int .i64 0] 49)
  rw [World.size_alloc, World.size_alloc] at b2
  replace b2 : Is (World.drew (((w.alloc (.cells #[.string f, .string t, .int .i64 a, .int .i64 l, .int .i64 h] 49 (0, 0))).alloc (.cells #[.string g, .string u, .int .i64 c, .int .i64 m, .int .i64 k] 49 (0, 0))).alloc (.cells #[.string ⟨#[]⟩, .string ⟨#[]⟩, .int .i64 0, .int .i64 0, .int .i64 0] 49 (0, 0)))) (w.heap.size + 1 + 1) #[.string ⟨#[]⟩, .string ⟨#[]⟩, .int .i64 0, .int .i64 0, .int .i64 0] 49 := b2
  have hL : ∀ x ∈ ([] : List Nat), x < (((w.alloc (.cells #[.string f, .string t, .int .i64 a, .int .i64 l, .int .i64 h] 49 (0, 0))).alloc (.cells #[.string g, .string u, .int .i64 c, .int .i64 m, .int .i64 k] 49 (0, 0))).alloc (.cells #[.string ⟨#[]⟩, .string ⟨#[]⟩, .int .i64 0, .int .i64 0, .int .i64 0] 49 (0, 0))).heap.size := by (simp; try omega)
  go_enter Try.func31, Try.ntmps31
  go_wp2_with fail
  rw [oF_lit]
  refine o_law (⟨51, [some 7, some 8, some 9, some 10, some 11, some 12, some 13, some 14, some 15, some 16, some 17, some 18, some 6, none], [7, 8, 9, 10, 11, 12, 13, 14, 15, 16, 17, 18, 6, 6], [[], [0], [], [2], [], [4], [], [6], [], [8], [7, 9], [1, 3, 5, 10], [], [12, 11]], [[2], [], [3], [], [2], [], [2], [], [3], [], [], [], [], []]⟩ : OT) (Gn (w.heap.size + 1 + 1 + 1) #[.string ⟨#[]⟩, .string ⟨#[]⟩, .int .i64 0, .int .i64 0, .int .i64 0] #[.string f, .string u, .int .i64 a, .int .i64 (wrap64 (l + m)), .int .i64 (wrap64 (h + k))] 49) (RL [fun vv _ => vv = .pointer (some ⟨w.heap.size, 0, none⟩), fun vv _ => vv = .string f, fun vv _ => vv = .pointer (some ⟨w.heap.size + 1, 1, none⟩), fun vv _ => vv = .string u, fun vv _ => vv = .pointer (some ⟨w.heap.size, 2, none⟩), fun vv _ => vv = .int .i64 a, fun vv _ => vv = .pointer (some ⟨w.heap.size, 3, none⟩), fun vv _ => vv = .agg #[.int .i64 l, .int .i64 h], fun vv _ => vv = .pointer (some ⟨w.heap.size + 1, 3, none⟩), fun vv _ => vv = .agg #[.int .i64 m, .int .i64 k], fun vv _ => vv = .agg #[.int .i64 (wrap64 (l + m)), .int .i64 (wrap64 (h + k))], fun vv _ => vv = .agg #[.string f, .string u, .int .i64 a, .int .i64 (wrap64 (l + m)), .int .i64 (wrap64 (h + k))], An (w.heap.size + 1 + 1 + 1) #[.string ⟨#[]⟩, .string ⟨#[]⟩, .int .i64 0, .int .i64 0, .int .i64 0] #[.string f, .string u, .int .i64 a, .int .i64 (wrap64 (l + m)), .int .i64 (wrap64 (h + k))] 49, Sn (w.heap.size + 1 + 1 + 1) #[.string f, .string u, .int .i64 a, .int .i64 (wrap64 (l + m)), .int .i64 (wrap64 (h + k))] 49]) (by kernel_rfl) ?hk ?hR ?fin
  case hk => kernel_rfl
  case hR =>
    refine ⟨fun _ => (Gn.refl _ _ _ _ _), fun _ _ _ => Gn.trans, rl_stab ⟨fun _ _ _ _ h => h, fun _ _ _ _ h => h, fun _ _ _ _ h => h, fun _ _ _ _ h => h, fun _ _ _ _ h => h, fun _ _ _ _ h => h, fun _ _ _ _ h => h, fun _ _ _ _ h => h, fun _ _ _ _ h => h, fun _ _ _ _ h => h, fun _ _ _ _ h => h, fun _ _ _ _ h => h, (fun v w w' k h => h.gn k), (fun v w w' k h => h.gn k), trivial⟩, ?_⟩
    refine allO_cons ?_ (allO_cons ?_ (allO_cons ?_ (allO_cons ?_ (allO_cons ?_ (allO_cons ?_ (allO_cons ?_ (allO_cons ?_ (allO_cons ?_ (allO_cons ?_ (allO_cons ?_ (allO_cons ?_ (allO_cons ?_ (allO_cons ?_ (allO_nil))))))))))))))
    · intro T w9 hG hD hO Q
      have q0 := hO.1
      have e0 : (oF 51 T).eval (.tmp 2) = .pointer (some ⟨w.heap.size, 0, none⟩) := (oF_eval (by decide)).trans (show T 2 = _ from q0)
      refine og_none rfl ?_
      exact o_val (v := .pointer (some ⟨w.heap.size, 0, none⟩)) (w' := w9) (by generalize (oF 51 T).eval = rr at *; simp [execOp, go_sem, e0]) rfl rfl (Gn.refl _ _ _ _ _)
    · intro T w9 hG hD hO Q
      have d0 := hD.1
      have e0 : (oF 51 T).eval (.tmp 7) = .pointer (some ⟨w.heap.size, 0, none⟩) := (oF_eval (by decide)).trans (show T 7 = _ from d0)
      refine og_none rfl ?_
      have im := b0.gn hG (by omega)
      have m0 := im.c (i := 0) rfl
      clear im
      exact o_val (v := .string f) (w' := w9) (by generalize (oF 51 T).eval = rr at *; simp [execOp, go_sem, e0, m0]) rfl rfl (Gn.refl _ _ _ _ _)
    · intro T w9 hG hD hO Q
      have q0 := hO.1
      have e0 : (oF 51 T).eval (.tmp 3) = .pointer (some ⟨w.heap.size + 1, 0, none⟩) := (oF_eval (by decide)).trans (show T 3 = _ from q0)
      refine og_none rfl ?_
      exact o_val (v := .pointer (some ⟨w.heap.size + 1, 1, none⟩)) (w' := w9) (by generalize (oF 51 T).eval = rr at *; simp [execOp, go_sem, e0]) rfl rfl (Gn.refl _ _ _ _ _)
    · intro T w9 hG hD hO Q
      have d0 := hD.1
      have e0 : (oF 51 T).eval (.tmp 9) = .pointer (some ⟨w.heap.size + 1, 1, none⟩) := (oF_eval (by decide)).trans (show T 9 = _ from d0)
      refine og_none rfl ?_
      have im := b1.gn hG (by omega)
      have m0 := im.c (i := 1) rfl
      clear im
      exact o_val (v := .string u) (w' := w9) (by generalize (oF 51 T).eval = rr at *; simp [execOp, go_sem, e0, m0]) rfl rfl (Gn.refl _ _ _ _ _)
    · intro T w9 hG hD hO Q
      have q0 := hO.1
      have e0 : (oF 51 T).eval (.tmp 2) = .pointer (some ⟨w.heap.size, 0, none⟩) := (oF_eval (by decide)).trans (show T 2 = _ from q0)
      refine og_none rfl ?_
      exact o_val (v := .pointer (some ⟨w.heap.size, 2, none⟩)) (w' := w9) (by generalize (oF 51 T).eval = rr at *; simp [execOp, go_sem, e0]) rfl rfl (Gn.refl _ _ _ _ _)
    · intro T w9 hG hD hO Q
      have d0 := hD.1
      have e0 : (oF 51 T).eval (.tmp 11) = .pointer (some ⟨w.heap.size, 2, none⟩) := (oF_eval (by decide)).trans (show T 11 = _ from d0)
      refine og_none rfl ?_
      have im := b0.gn hG (by omega)
      have m0 := im.c (i := 2) rfl
      clear im
      exact o_val (v := .int .i64 a) (w' := w9) (by generalize (oF 51 T).eval = rr at *; simp [execOp, go_sem, e0, m0]) rfl rfl (Gn.refl _ _ _ _ _)
    · intro T w9 hG hD hO Q
      have q0 := hO.1
      have e0 : (oF 51 T).eval (.tmp 2) = .pointer (some ⟨w.heap.size, 0, none⟩) := (oF_eval (by decide)).trans (show T 2 = _ from q0)
      refine og_none rfl ?_
      exact o_val (v := .pointer (some ⟨w.heap.size, 3, none⟩)) (w' := w9) (by generalize (oF 51 T).eval = rr at *; simp [execOp, go_sem, e0]) rfl rfl (Gn.refl _ _ _ _ _)
    · intro T w9 hG hD hO Q
      have d0 := hD.1
      have e0 : (oF 51 T).eval (.tmp 13) = .pointer (some ⟨w.heap.size, 3, none⟩) := (oF_eval (by decide)).trans (show T 13 = _ from d0)
      refine og_none rfl ?_
      have im := b0.gn hG (by omega)
      have m0 := im.c (i := 3) rfl
      have m1 := im.c (i := 4) rfl
      clear im
      exact o_val (v := .agg #[.int .i64 l, .int .i64 h]) (w' := w9) (by generalize (oF 51 T).eval = rr at *; simp [execOp, go_sem, e0, m0, m1]) rfl rfl (Gn.refl _ _ _ _ _)
    · intro T w9 hG hD hO Q
      have q0 := hO.1
      have e0 : (oF 51 T).eval (.tmp 3) = .pointer (some ⟨w.heap.size + 1, 0, none⟩) := (oF_eval (by decide)).trans (show T 3 = _ from q0)
      refine og_none rfl ?_
      exact o_val (v := .pointer (some ⟨w.heap.size + 1, 3, none⟩)) (w' := w9) (by generalize (oF 51 T).eval = rr at *; simp [execOp, go_sem, e0]) rfl rfl (Gn.refl _ _ _ _ _)
    · intro T w9 hG hD hO Q
      have d0 := hD.1
      have e0 : (oF 51 T).eval (.tmp 15) = .pointer (some ⟨w.heap.size + 1, 3, none⟩) := (oF_eval (by decide)).trans (show T 15 = _ from d0)
      refine og_none rfl ?_
      have im := b1.gn hG (by omega)
      have m0 := im.c (i := 3) rfl
      have m1 := im.c (i := 4) rfl
      clear im
      exact o_val (v := .agg #[.int .i64 m, .int .i64 k]) (w' := w9) (by generalize (oF 51 T).eval = rr at *; simp [execOp, go_sem, e0, m0, m1]) rfl rfl (Gn.refl _ _ _ _ _)
    · intro T w9 hG hD hO Q
      have d0 := hD.1
      have d1 := hD.2.1
      have e0 : (oF 51 T).eval (.func 52) = .func (.func 52) #[] #[] := rfl
      have e1 : (oF 51 T).eval (.tmp 14) = .agg #[.int .i64 l, .int .i64 h] := (oF_eval (by decide)).trans (show T 14 = _ from d0)
      have e2 : (oF 51 T).eval (.tmp 16) = .agg #[.int .i64 m, .int .i64 k] := (oF_eval (by decide)).trans (show T 16 = _ from d1)
      refine og_none rfl ?_
      refine o_call (oc2 (enters_of Try.func52 (by kernel_rfl) rfl) rfl rfl e1 e2) rfl ?_
      exact ((dsum l h m k).out w9).mono fun r W' h => ⟨_, h.1, rfl, h.2.gn⟩
    · intro T w9 hG hD hO Q
      have d0 := hD.1
      have d1 := hD.2.1
      have d2 := hD.2.2.1
      have d3 := hD.2.2.2.1
      have e0 : (oF 51 T).eval (.tmp 8) = .string f := (oF_eval (by decide)).trans (show T 8 = _ from d0)
      have e1 : (oF 51 T).eval (.tmp 10) = .string u := (oF_eval (by decide)).trans (show T 10 = _ from d1)
      have e2 : (oF 51 T).eval (.tmp 12) = .int .i64 a := (oF_eval (by decide)).trans (show T 12 = _ from d2)
      have e3 : (oF 51 T).eval (.tmp 17) = .agg #[.int .i64 (wrap64 (l + m)), .int .i64 (wrap64 (h + k))] := (oF_eval (by decide)).trans (show T 17 = _ from d3)
      refine og_none rfl ?_
      exact o_val (v := .agg #[.string f, .string u, .int .i64 a, .int .i64 (wrap64 (l + m)), .int .i64 (wrap64 (h + k))]) (w' := w9) (by generalize (oF 51 T).eval = rr at *; simp [execOp, go_sem, e0, e1, e2, e3]) rfl rfl (Gn.refl _ _ _ _ _)
    · intro T w9 hG hD hO Q
      refine og_none rfl ?_
      have kz : Kb w9 (w9.alloc (.cells #[.string ⟨#[]⟩, .string ⟨#[]⟩, .int .i64 0, .int .i64 0, .int .i64 0] 49 (0, 0))) := (Kb.refl w9).alloc _
      exact o_val (v := .pointer (some ⟨w9.heap.size, 0, none⟩)) (w' := w9.alloc (.cells #[.string ⟨#[]⟩, .string ⟨#[]⟩, .int .i64 0, .int .i64 0, .int .i64 0] 49 (0, 0))) (by simp [execOp, go_sem]) rfl ⟨_, rfl, (by have := hG.2.2.2.1; simp only [World.size_drew, World.size_alloc] at *; omega), .inl (Is.made w9 _ _)⟩ kz.gn
    · intro T w9 hG hD hO Q
      have d0 := hD.1
      have d1 := hD.2.1
      have e0 : (oF 51 T).eval (.tmp 6) = T 6 := oF_eval (by decide)
      have p0 : (An (w.heap.size + 1 + 1 + 1) #[.string ⟨#[]⟩, .string ⟨#[]⟩, .int .i64 0, .int .i64 0, .int .i64 0] #[.string f, .string u, .int .i64 a, .int .i64 (wrap64 (l + m)), .int .i64 (wrap64 (h + k))] 49) (T 6) w9 := d0
      have e1 : (oF 51 T).eval (.tmp 18) = .agg #[.string f, .string u, .int .i64 a, .int .i64 (wrap64 (l + m)), .int .i64 (wrap64 (h + k))] := (oF_eval (by decide)).trans (show T 18 = _ from d1)
      refine og_none rfl ?_
      obtain ⟨g, hg, hge, io⟩ := p0
      rw [hg] at e0
      rcases io with io | io
      · obtain ⟨zn, pt⟩ := put5 io (.string f) (.string u) (.int .i64 a) (.int .i64 (wrap64 (l + m))) (.int .i64 (wrap64 (h + k)))
        have gn : Gn (w.heap.size + 1 + 1 + 1) #[.string ⟨#[]⟩, .string ⟨#[]⟩, .int .i64 0, .int .i64 0, .int .i64 0] #[.string f, .string u, .int .i64 a, .int .i64 (wrap64 (l + m)), .int .i64 (wrap64 (h + k))] 49 w9 _ := pt.gn zn (.inl io) hge
        have m0 := io.c (i := 0) rfl
        have f0 := io.f 0
        have m1 := io.c (i := 1) rfl
        have f1 := io.f 1
        have m2 := io.c (i := 2) rfl
        have f2 := io.f 2
        have m3 := io.c (i := 3) rfl
        have f3 := io.f 3
        have m4 := io.c (i := 4) rfl
        have f4 := io.f 4
        clear io
        exact o_skip (w' := (((((w9.setCell ⟨g, 0, none⟩ (.string f)).setCell ⟨g, 1, none⟩ (.string u)).setCell ⟨g, 2, none⟩ (.int .i64 a)).setCell ⟨g, 3, none⟩ (.int .i64 (wrap64 (l + m)))).setCell ⟨g, 4, none⟩ (.int .i64 (wrap64 (h + k))))) (by generalize (oF 51 T).eval = rr at *; simp [execOp, go_sem, e0, e1, m0, f0, m1, f1, m2, f2, m3, f3, m4, f4]) rfl ⟨g, hg, hge, zn⟩ gn
      · obtain ⟨zn, pt⟩ := put5 io (.string f) (.string u) (.int .i64 a) (.int .i64 (wrap64 (l + m))) (.int .i64 (wrap64 (h + k)))
        have gn : Gn (w.heap.size + 1 + 1 + 1) #[.string ⟨#[]⟩, .string ⟨#[]⟩, .int .i64 0, .int .i64 0, .int .i64 0] #[.string f, .string u, .int .i64 a, .int .i64 (wrap64 (l + m)), .int .i64 (wrap64 (h + k))] 49 w9 _ := pt.gn zn (.inr io) hge
        have m0 := io.c (i := 0) rfl
        have f0 := io.f 0
        have m1 := io.c (i := 1) rfl
        have f1 := io.f 1
        have m2 := io.c (i := 2) rfl
        have f2 := io.f 2
        have m3 := io.c (i := 3) rfl
        have f3 := io.f 3
        have m4 := io.c (i := 4) rfl
        have f4 := io.f 4
        clear io
        exact o_skip (w' := (((((w9.setCell ⟨g, 0, none⟩ (.string f)).setCell ⟨g, 1, none⟩ (.string u)).setCell ⟨g, 2, none⟩ (.int .i64 a)).setCell ⟨g, 3, none⟩ (.int .i64 (wrap64 (l + m)))).setCell ⟨g, 4, none⟩ (.int .i64 (wrap64 (h + k))))) (by generalize (oF 51 T).eval = rr at *; simp [execOp, go_sem, e0, e1, m0, f0, m1, f1, m2, f2, m3, f3, m4, f4]) rfl ⟨g, hg, hge, zn⟩ gn
  case fin =>
    intro T w7 hout hval hG
    rw [show oF 51 T = (⟨#[T 0, T 1, T 2, T 3, T 4, T 5, T 6, T 7, T 8, T 9, T 10, T 11, T 12, T 13, T 14, T 15, T 16, T 17, T 18, T 19, T 20, T 21, T 22, T 23, T 24, T 25, T 26, T 27, T 28, T 29, T 30, T 31, T 32, T 33, T 34, T 35, T 36, T 37, T 38, T 39, T 40, T 41, T 42, T 43, T 44, T 45, T 46, T 47, T 48, T 49, T 50], []⟩ : Act) from oF_list 51 T]
    rw [show T 2 = .pointer (some ⟨w.heap.size, 0, none⟩) from hout 2 rfl]
    rw [show T 3 = .pointer (some ⟨w.heap.size + 1, 0, none⟩) from hout 3 rfl]
    rw [show T 4 = .pointer (some ⟨w.heap.size + 1 + 1, 0, none⟩) from hout 4 rfl]
    obtain ⟨g0, eg, hge, ig⟩ := hval 13 (by decide)
    replace eg : T 6 = _ := eg
    rw [eg]
    replace k0 := hG.old k0.drew (show w.heap.size ≤ w.heap.size + 1 + 1 + 1 by omega)
    replace b0 := (b0.gn hG (by omega)).drew
    replace b1 := (b1.gn hG (by omega)).drew
    replace b2 := (b2.gn hG (by omega)).drew
    replace ig := ig.drew
    have hlt := b2.lt
    have hL : ∀ x ∈ ([w.heap.size + 1 + 1] : List Nat), x < w7.heap.size := by (simp; exact hlt)
    clear hout hval hG eg
    go_wp2_with fail
    rw [oF_lit]
    refine o_law (⟨51, [some 19, some 20, some 21, some 22, some 23, some 24, some 25, some 26, some 27, some 28, some 29, some 30, some 31, some 32, some 33, some 34, some 35, some 36, some 37, some 38, some 39, some 40, some 41, some 42, some 43, some 44, some 45, some 46, some 47, some 48, some 49, some 50, none, some 5], [19, 20, 21, 22, 23, 24, 25, 26, 27, 28, 29, 30, 31, 32, 33, 34, 35, 36, 37, 38, 39, 40, 41, 42, 43, 44, 45, 46, 47, 48, 49, 50, 51, 5], [[], [], [], [1, 2], [3], [], [5], [], [7], [6, 8], [9], [10], [11, 10], [10], [13, 10], [12, 14, 10], [10, 15], [16], [], [18], [], [20], [19, 21], [22], [], [24], [25], [26], [4, 17, 23, 27], [0, 28], [29], [29], [30], [31]], [[6], [2], [3], [], [], [2], [], [3], [], [], [], [2], [], [3], [], [], [], [], [2], [], [3], [], [], [], [6], [], [], [], [], [], [], [], [4], []]⟩ : OT) (Gz (w.heap.size + 1 + 1) #[.string ⟨#[]⟩, .string ⟨#[]⟩, .int .i64 0, .int .i64 0, .int .i64 0] #[.string (zS (firstE [firstE [vdE f t a l h, vdE g u c m k], fE (a != c || !(t.toList == g.toList)) 8, fE (f.toList == u.toList) 7, firstE [lmE (wrap64 (l + m)) (wrap64 (h + k))]]) f), .string (zS (firstE [firstE [vdE f t a l h, vdE g u c m k], fE (a != c || !(t.toList == g.toList)) 8, fE (f.toList == u.toList) 7, firstE [lmE (wrap64 (l + m)) (wrap64 (h + k))]]) u), .int .i64 (zI (firstE [firstE [vdE f t a l h, vdE g u c m k], fE (a != c || !(t.toList == g.toList)) 8, fE (f.toList == u.toList) 7, firstE [lmE (wrap64 (l + m)) (wrap64 (h + k))]]) a), .int .i64 (zI (firstE [firstE [vdE f t a l h, vdE g u c m k], fE (a != c || !(t.toList == g.toList)) 8, fE (f.toList == u.toList) 7, firstE [lmE (wrap64 (l + m)) (wrap64 (h + k))]]) (wrap64 (l + m))), .int .i64 (zI (firstE [firstE [vdE f t a l h, vdE g u c m k], fE (a != c || !(t.toList == g.toList)) 8, fE (f.toList == u.toList) 7, firstE [lmE (wrap64 (l + m)) (wrap64 (h + k))]]) (wrap64 (h + k)))] 49) (RL [fun vv _ => vv = .agg #[.string f, .string u, .int .i64 a, .int .i64 (wrap64 (l + m)), .int .i64 (wrap64 (h + k))], fun vv _ => vv = .agg #[.string f, .string t, .int .i64 a, .int .i64 l, .int .i64 h], fun vv _ => vv = .agg #[.string g, .string u, .int .i64 c, .int .i64 m, .int .i64 k], fun vv ww => Sl [w.heap.size + 1 + 1] 5 ww vv [[.string f, .string t, .int .i64 a, .int .i64 l, .int .i64 h], [.string g, .string u, .int .i64 c, .int .i64 m, .int .i64 k]], fun vv ww => Ck [w.heap.size + 1 + 1] vv (firstE [vdE f t a l h, vdE g u c m k]) ww, fun vv _ => vv = .pointer (some ⟨w.heap.size, 2, none⟩), fun vv _ => vv = .int .i64 a, fun vv _ => vv = .pointer (some ⟨w.heap.size + 1, 2, none⟩), fun vv _ => vv = .int .i64 c, fun vv _ => vv = .bool (a != c), fun vv _ => vv = .bool (a != c), fun vv _ => (a != c) = false → vv = .pointer (some ⟨w.heap.size, 1, none⟩), fun vv _ => (a != c) = false → vv = .string t, fun vv _ => (a != c) = false → vv = .pointer (some ⟨w.heap.size + 1, 0, none⟩), fun vv _ => (a != c) = false → vv = .string g, fun vv _ => (a != c) = false → vv = .bool (!(t.toList == g.toList)), fun vv _ => vv = .bool ((a != c) || (!(t.toList == g.toList))), fun vv ww => Ck [w.heap.size + 1 + 1] vv (fE (a != c || !(t.toList == g.toList)) 8) ww, fun vv _ => vv = .pointer (some ⟨w.heap.size, 0, none⟩), fun vv _ => vv = .string f, fun vv _ => vv = .pointer (some ⟨w.heap.size + 1, 1, none⟩), fun vv _ => vv = .string u, fun vv _ => vv = .bool (f.toList == u.toList), fun vv ww => Ck [w.heap.size + 1 + 1] vv (fE (f.toList == u.toList) 7) ww, fun vv _ => vv = .pointer (some ⟨g0, 3, none⟩), fun vv _ => vv = .agg #[.int .i64 (wrap64 (l + m)), .int .i64 (wrap64 (h + k))], fun vv ww => Sl [w.heap.size + 1 + 1] 2 ww vv [[.int .i64 (wrap64 (l + m)), .int .i64 (wrap64 (h + k))]], fun vv ww => Ck [w.heap.size + 1 + 1] vv (firstE [lmE (wrap64 (l + m)) (wrap64 (h + k))]) ww, fun vv ww => SlC [w.heap.size + 1 + 1] [firstE [vdE f t a l h, vdE g u c m k], fE (a != c || !(t.toList == g.toList)) 8, fE (f.toList == u.toList) 7, firstE [lmE (wrap64 (l + m)) (wrap64 (h + k))]] vv ww, fun vv _ => vv = .tuple #[.agg #[.string (zS (firstE [firstE [vdE f t a l h, vdE g u c m k], fE (a != c || !(t.toList == g.toList)) 8, fE (f.toList == u.toList) 7, firstE [lmE (wrap64 (l + m)) (wrap64 (h + k))]]) f), .string (zS (firstE [firstE [vdE f t a l h, vdE g u c m k], fE (a != c || !(t.toList == g.toList)) 8, fE (f.toList == u.toList) 7, firstE [lmE (wrap64 (l + m)) (wrap64 (h + k))]]) u), .int .i64 (zI (firstE [firstE [vdE f t a l h, vdE g u c m k], fE (a != c || !(t.toList == g.toList)) 8, fE (f.toList == u.toList) 7, firstE [lmE (wrap64 (l + m)) (wrap64 (h + k))]]) a), .int .i64 (zI (firstE [firstE [vdE f t a l h, vdE g u c m k], fE (a != c || !(t.toList == g.toList)) 8, fE (f.toList == u.toList) 7, firstE [lmE (wrap64 (l + m)) (wrap64 (h + k))]]) (wrap64 (l + m))), .int .i64 (zI (firstE [firstE [vdE f t a l h, vdE g u c m k], fE (a != c || !(t.toList == g.toList)) 8, fE (f.toList == u.toList) 7, firstE [lmE (wrap64 (l + m)) (wrap64 (h + k))]]) (wrap64 (h + k)))], .int .i64 (firstE [firstE [vdE f t a l h, vdE g u c m k], fE (a != c || !(t.toList == g.toList)) 8, fE (f.toList == u.toList) 7, firstE [lmE (wrap64 (l + m)) (wrap64 (h + k))]])], fun vv _ => vv = .agg #[.string (zS (firstE [firstE [vdE f t a l h, vdE g u c m k], fE (a != c || !(t.toList == g.toList)) 8, fE (f.toList == u.toList) 7, firstE [lmE (wrap64 (l + m)) (wrap64 (h + k))]]) f), .string (zS (firstE [firstE [vdE f t a l h, vdE g u c m k], fE (a != c || !(t.toList == g.toList)) 8, fE (f.toList == u.toList) 7, firstE [lmE (wrap64 (l + m)) (wrap64 (h + k))]]) u), .int .i64 (zI (firstE [firstE [vdE f t a l h, vdE g u c m k], fE (a != c || !(t.toList == g.toList)) 8, fE (f.toList == u.toList) 7, firstE [lmE (wrap64 (l + m)) (wrap64 (h + k))]]) a), .int .i64 (zI (firstE [firstE [vdE f t a l h, vdE g u c m k], fE (a != c || !(t.toList == g.toList)) 8, fE (f.toList == u.toList) 7, firstE [lmE (wrap64 (l + m)) (wrap64 (h + k))]]) (wrap64 (l + m))), .int .i64 (zI (firstE [firstE [vdE f t a l h, vdE g u c m k], fE (a != c || !(t.toList == g.toList)) 8, fE (f.toList == u.toList) 7, firstE [lmE (wrap64 (l + m)) (wrap64 (h + k))]]) (wrap64 (h + k)))], fun vv _ => vv = .int .i64 (firstE [firstE [vdE f t a l h, vdE g u c m k], fE (a != c || !(t.toList == g.toList)) 8, fE (f.toList == u.toList) 7, firstE [lmE (wrap64 (l + m)) (wrap64 (h + k))]]), fun _ ww => Is ww (w.heap.size + 1 + 1) #[.string (zS (firstE [firstE [vdE f t a l h, vdE g u c m k], fE (a != c || !(t.toList == g.toList)) 8, fE (f.toList == u.toList) 7, firstE [lmE (wrap64 (l + m)) (wrap64 (h + k))]]) f), .string (zS (firstE [firstE [vdE f t a l h, vdE g u c m k], fE (a != c || !(t.toList == g.toList)) 8, fE (f.toList == u.toList) 7, firstE [lmE (wrap64 (l + m)) (wrap64 (h + k))]]) u), .int .i64 (zI (firstE [firstE [vdE f t a l h, vdE g u c m k], fE (a != c || !(t.toList == g.toList)) 8, fE (f.toList == u.toList) 7, firstE [lmE (wrap64 (l + m)) (wrap64 (h + k))]]) a), .int .i64 (zI (firstE [firstE [vdE f t a l h, vdE g u c m k], fE (a != c || !(t.toList == g.toList)) 8, fE (f.toList == u.toList) 7, firstE [lmE (wrap64 (l + m)) (wrap64 (h + k))]]) (wrap64 (l + m))), .int .i64 (zI (firstE [firstE [vdE f t a l h, vdE g u c m k], fE (a != c || !(t.toList == g.toList)) 8, fE (f.toList == u.toList) 7, firstE [lmE (wrap64 (l + m)) (wrap64 (h + k))]]) (wrap64 (h + k)))] 49, fun vv _ => vv = .int .i64 (firstE [firstE [vdE f t a l h, vdE g u c m k], fE (a != c || !(t.toList == g.toList)) 8, fE (f.toList == u.toList) 7, firstE [lmE (wrap64 (l + m)) (wrap64 (h + k))]])]) (by kernel_rfl) ?hk ?hR ?fin
    case hk => kernel_rfl
    case hR =>
      refine ⟨fun _ => (Gz.refl _ _ _ _ _), fun _ _ _ => Gz.trans, rl_stab ⟨fun _ _ _ _ h => h, fun _ _ _ _ h => h, fun _ _ _ _ h => h, (fun v w w' k h => h.kx k.1), (fun v w w' k h => h.kx k.1), fun _ _ _ _ h => h, fun _ _ _ _ h => h, fun _ _ _ _ h => h, fun _ _ _ _ h => h, fun _ _ _ _ h => h, fun _ _ _ _ h => h, fun _ _ _ _ h => h, fun _ _ _ _ h => h, fun _ _ _ _ h => h, fun _ _ _ _ h => h, fun _ _ _ _ h => h, fun _ _ _ _ h => h, (fun v w w' k h => h.kx k.1), fun _ _ _ _ h => h, fun _ _ _ _ h => h, fun _ _ _ _ h => h, fun _ _ _ _ h => h, fun _ _ _ _ h => h, (fun v w w' k h => h.kx k.1), fun _ _ _ _ h => h, fun _ _ _ _ h => h, (fun v w w' k h => h.kx k.1), (fun v w w' k h => h.kx k.1), (fun v w w' k h => h.kx k.1), fun _ _ _ _ h => h, fun _ _ _ _ h => h, fun _ _ _ _ h => h, (fun v w w' k h => k.2.1 h), fun _ _ _ _ h => h, trivial⟩, ?_⟩
      refine allO_cons ?_ (allO_cons ?_ (allO_cons ?_ (allO_cons ?_ (allO_cons ?_ (allO_cons ?_ (allO_cons ?_ (allO_cons ?_ (allO_cons ?_ (allO_cons ?_ (allO_cons ?_ (allO_cons ?_ (allO_cons ?_ (allO_cons ?_ (allO_cons ?_ (allO_cons ?_ (allO_cons ?_ (allO_cons ?_ (allO_cons ?_ (allO_cons ?_ (allO_cons ?_ (allO_cons ?_ (allO_cons ?_ (allO_cons ?_ (allO_cons ?_ (allO_cons ?_ (allO_cons ?_ (allO_cons ?_ (allO_cons ?_ (allO_cons ?_ (allO_cons ?_ (allO_cons ?_ (allO_cons ?_ (allO_cons ?_ (allO_nil))))))))))))))))))))))))))))))))))
      · intro T w9 hG hD hO Q
        have q0 := hO.1
        have e0 : (oF 51 T).eval (.tmp 6) = .pointer (some ⟨g0, 0, none⟩) := (oF_eval (by decide)).trans (show T 6 = _ from q0)
        refine og_none rfl ?_
        have im := ig.kx hG.1 (by simp; omega)
        have m0 := im.c (i := 0) rfl
        have m1 := im.c (i := 1) rfl
        have m2 := im.c (i := 2) rfl
        have m3 := im.c (i := 3) rfl
        have m4 := im.c (i := 4) rfl
        clear im
        exact o_val (v := .agg #[.string f, .string u, .int .i64 a, .int .i64 (wrap64 (l + m)), .int .i64 (wrap64 (h + k))]) (w' := w9) (by generalize (oF 51 T).eval = rr at *; simp [execOp, go_sem, e0, m0, m1, m2, m3, m4]) rfl rfl (Gz.refl _ _ _ _ _)
      · intro T w9 hG hD hO Q
        have q0 := hO.1
        have e0 : (oF 51 T).eval (.tmp 2) = .pointer (some ⟨w.heap.size, 0, none⟩) := (oF_eval (by decide)).trans (show T 2 = _ from q0)
        refine og_none rfl ?_
        have im := b0.kx hG.1 (by simp; omega)
        have m0 := im.c (i := 0) rfl
        have m1 := im.c (i := 1) rfl
        have m2 := im.c (i := 2) rfl
        have m3 := im.c (i := 3) rfl
        have m4 := im.c (i := 4) rfl
        clear im
        exact o_val (v := .agg #[.string f, .string t, .int .i64 a, .int .i64 l, .int .i64 h]) (w' := w9) (by generalize (oF 51 T).eval = rr at *; simp [execOp, go_sem, e0, m0, m1, m2, m3, m4]) rfl rfl (Gz.refl _ _ _ _ _)
      · intro T w9 hG hD hO Q
        have q0 := hO.1
        have e0 : (oF 51 T).eval (.tmp 3) = .pointer (some ⟨w.heap.size + 1, 0, none⟩) := (oF_eval (by decide)).trans (show T 3 = _ from q0)
        refine og_none rfl ?_
        have im := b1.kx hG.1 (by simp)
        have m0 := im.c (i := 0) rfl
        have m1 := im.c (i := 1) rfl
        have m2 := im.c (i := 2) rfl
        have m3 := im.c (i := 3) rfl
        have m4 := im.c (i := 4) rfl
        clear im
        exact o_val (v := .agg #[.string g, .string u, .int .i64 c, .int .i64 m, .int .i64 k]) (w' := w9) (by generalize (oF 51 T).eval = rr at *; simp [execOp, go_sem, e0, m0, m1, m2, m3, m4]) rfl rfl (Gz.refl _ _ _ _ _)
      · intro T w9 hG hD hO Q
        have d0 := hD.1
        have d1 := hD.2.1
        have e0 : (oF 51 T).eval (.tmp 20) = .agg #[.string f, .string t, .int .i64 a, .int .i64 l, .int .i64 h] := (oF_eval (by decide)).trans (show T 20 = _ from d0)
        have e1 : (oF 51 T).eval (.tmp 21) = .agg #[.string g, .string u, .int .i64 c, .int .i64 m, .int .i64 k] := (oF_eval (by decide)).trans (show T 21 = _ from d1)
        refine og_none rfl ?_
        have kz : Kb w9 (w9.alloc (.cells #[.string f, .string t, .int .i64 a, .int .i64 l, .int .i64 h, .string g, .string u, .int .i64 c, .int .i64 m, .int .i64 k] 49 (0, 0))) := (Kb.refl w9).alloc _
        exact o_val (v := .slice (some ⟨w9.heap.size, 0, none⟩) 2 2) (w' := w9.alloc (.cells #[.string f, .string t, .int .i64 a, .int .i64 l, .int .i64 h, .string g, .string u, .int .i64 c, .int .i64 m, .int .i64 k] 49 (0, 0))) (by generalize (oF 51 T).eval = rr at *; simp [execOp, go_sem, e0, e1]) rfl (sl_is (Is.made w9 _ _) (fun hx => by have := hL _ hx; have := hG.1.2.2.2.1; simp only [World.size_drew] at *; omega) rfl (rows_ok rfl rfl)) kz.gz
      · intro T w9 hG hD hO Q
        have d0 := hD.1
        have e0 : (oF 51 T).eval (.func 54) = .func (.func 54) #[] #[] := rfl
        have e1 : (oF 51 T).eval (.func 33) = .func (.func 33) #[] #[] := rfl
        have e2 : (oF 51 T).eval (.tmp 22) = T 22 := oF_eval (by decide)
        have p2 : (fun vv ww => Sl [w.heap.size + 1 + 1] 5 ww vv [[.string f, .string t, .int .i64 a, .int .i64 l, .int .i64 h], [.string g, .string u, .int .i64 c, .int .i64 m, .int .i64 k]]) (T 22) w9 := d0
        refine og_none rfl ?_
        refine o_call (oc2 (enters_of Try.func54 (by kernel_rfl) rfl) rfl rfl e1 e2) rfl ?_
        exact (cEach_Dim [w.heap.size + 1 + 1] _ (⟨#[]⟩, ⟨#[]⟩, 0, 0, 0) [(f, t, a, l, h), (g, u, c, m, k)] [vdE f t a l h, vdE g u c m k] _ w9 (fun x hx => by have := hL x hx; have := hG.1.2.2.2.1; simp only [World.size_drew] at *; omega) (by simp) rfl p2 (enters_of Try.func33 (by kernel_rfl) rfl) (each_ok ⟨dValid f t a l h hf ht, dValid g u c m k hg hu, trivial⟩ rfl)).mono fun r W' ⟨v, h1, h2, h3⟩ => ⟨v, h1, h2, h3.gz⟩
      · intro T w9 hG hD hO Q
        have q0 := hO.1
        have e0 : (oF 51 T).eval (.tmp 2) = .pointer (some ⟨w.heap.size, 0, none⟩) := (oF_eval (by decide)).trans (show T 2 = _ from q0)
        refine og_none rfl ?_
        exact o_val (v := .pointer (some ⟨w.heap.size, 2, none⟩)) (w' := w9) (by generalize (oF 51 T).eval = rr at *; simp [execOp, go_sem, e0]) rfl rfl (Gz.refl _ _ _ _ _)
      · intro T w9 hG hD hO Q
        have d0 := hD.1
        have e0 : (oF 51 T).eval (.tmp 24) = .pointer (some ⟨w.heap.size, 2, none⟩) := (oF_eval (by decide)).trans (show T 24 = _ from d0)
        refine og_none rfl ?_
        have im := b0.kx hG.1 (by simp; omega)
        have m0 := im.c (i := 2) rfl
        clear im
        exact o_val (v := .int .i64 a) (w' := w9) (by generalize (oF 51 T).eval = rr at *; simp [execOp, go_sem, e0, m0]) rfl rfl (Gz.refl _ _ _ _ _)
      · intro T w9 hG hD hO Q
        have q0 := hO.1
        have e0 : (oF 51 T).eval (.tmp 3) = .pointer (some ⟨w.heap.size + 1, 0, none⟩) := (oF_eval (by decide)).trans (show T 3 = _ from q0)
        refine og_none rfl ?_
        exact o_val (v := .pointer (some ⟨w.heap.size + 1, 2, none⟩)) (w' := w9) (by generalize (oF 51 T).eval = rr at *; simp [execOp, go_sem, e0]) rfl rfl (Gz.refl _ _ _ _ _)
      · intro T w9 hG hD hO Q
        have d0 := hD.1
        have e0 : (oF 51 T).eval (.tmp 26) = .pointer (some ⟨w.heap.size + 1, 2, none⟩) := (oF_eval (by decide)).trans (show T 26 = _ from d0)
        refine og_none rfl ?_
        have im := b1.kx hG.1 (by simp)
        have m0 := im.c (i := 2) rfl
        clear im
        exact o_val (v := .int .i64 c) (w' := w9) (by generalize (oF 51 T).eval = rr at *; simp [execOp, go_sem, e0, m0]) rfl rfl (Gz.refl _ _ _ _ _)
      · intro T w9 hG hD hO Q
        have d0 := hD.1
        have d1 := hD.2.1
        have e0 : (oF 51 T).eval (.tmp 25) = .int .i64 a := (oF_eval (by decide)).trans (show T 25 = _ from d0)
        have e1 : (oF 51 T).eval (.tmp 27) = .int .i64 c := (oF_eval (by decide)).trans (show T 27 = _ from d1)
        refine og_none rfl ?_
        exact o_val (v := .bool (a != c)) (w' := w9) (by generalize (oF 51 T).eval = rr at *; simp [execOp, go_sem, e0, e1]) rfl rfl (Gz.refl _ _ _ _ _)
      · intro T w9 hG hD hO Q
        have d0 := hD.1
        have e0 : (oF 51 T).eval (.tmp 28) = .bool (a != c) := (oF_eval (by decide)).trans (show T 28 = _ from d0)
        refine og_none rfl ?_
        exact o_val (v := .bool (a != c)) (w' := w9) (by generalize (oF 51 T).eval = rr at *; simp [execOp, go_sem, e0]) rfl rfl (Gz.refl _ _ _ _ _)
      · intro T w9 hG hD hO Q
        have d0 := hD.1
        have q0 := hO.1
        have e0 : (oF 51 T).eval (.tmp 2) = .pointer (some ⟨w.heap.size, 0, none⟩) := (oF_eval (by decide)).trans (show T 2 = _ from q0)
        refine og_some (b := false) (c := (a != c)) rfl (show T 29 = _ from d0) (fun hc => ?_) (fun hc h => absurd h hc)
        exact o_val (v := .pointer (some ⟨w.heap.size, 1, none⟩)) (w' := w9) (by generalize (oF 51 T).eval = rr at *; simp [execOp, go_sem, e0]) rfl (fun _ => rfl) (Gz.refl _ _ _ _ _)
      · intro T w9 hG hD hO Q
        have d0 := hD.1
        have d1 := hD.2.1
        have G0 : (a != c) = false → T 30 = .pointer (some ⟨w.heap.size, 1, none⟩) := d0
        refine og_some (b := false) (c := (a != c)) rfl (show T 29 = _ from d1) (fun hc => ?_) (fun hc h => absurd h hc)
        have e0 : (oF 51 T).eval (.tmp 30) = .pointer (some ⟨w.heap.size, 1, none⟩) := (oF_eval (by decide)).trans (G0 hc)
        have im := b0.kx hG.1 (by simp; omega)
        have m0 := im.c (i := 1) rfl
        clear im
        exact o_val (v := .string t) (w' := w9) (by generalize (oF 51 T).eval = rr at *; simp [execOp, go_sem, e0, m0]) rfl (fun _ => rfl) (Gz.refl _ _ _ _ _)
      · intro T w9 hG hD hO Q
        have d0 := hD.1
        have q0 := hO.1
        have e0 : (oF 51 T).eval (.tmp 3) = .pointer (some ⟨w.heap.size + 1, 0, none⟩) := (oF_eval (by decide)).trans (show T 3 = _ from q0)
        refine og_some (b := false) (c := (a != c)) rfl (show T 29 = _ from d0) (fun hc => ?_) (fun hc h => absurd h hc)
        exact o_val (v := .pointer (some ⟨w.heap.size + 1, 0, none⟩)) (w' := w9) (by generalize (oF 51 T).eval = rr at *; simp [execOp, go_sem, e0]) rfl (fun _ => rfl) (Gz.refl _ _ _ _ _)
      · intro T w9 hG hD hO Q
        have d0 := hD.1
        have d1 := hD.2.1
        have G0 : (a != c) = false → T 32 = .pointer (some ⟨w.heap.size + 1, 0, none⟩) := d0
        refine og_some (b := false) (c := (a != c)) rfl (show T 29 = _ from d1) (fun hc => ?_) (fun hc h => absurd h hc)
        have e0 : (oF 51 T).eval (.tmp 32) = .pointer (some ⟨w.heap.size + 1, 0, none⟩) := (oF_eval (by decide)).trans (G0 hc)
        have im := b1.kx hG.1 (by simp)
        have m0 := im.c (i := 0) rfl
        clear im
        exact o_val (v := .string g) (w' := w9) (by generalize (oF 51 T).eval = rr at *; simp [execOp, go_sem, e0, m0]) rfl (fun _ => rfl) (Gz.refl _ _ _ _ _)
      · intro T w9 hG hD hO Q
        have d0 := hD.1
        have d1 := hD.2.1
        have d2 := hD.2.2.1
        have G0 : (a != c) = false → T 31 = .string t := d0
        have G1 : (a != c) = false → T 33 = .string g := d1
        refine og_some (b := false) (c := (a != c)) rfl (show T 29 = _ from d2) (fun hc => ?_) (fun hc h => absurd h hc)
        have e0 : (oF 51 T).eval (.tmp 31) = .string t := (oF_eval (by decide)).trans (G0 hc)
        have e1 : (oF 51 T).eval (.tmp 33) = .string g := (oF_eval (by decide)).trans (G1 hc)
        exact o_val (v := .bool (!(t.toList == g.toList))) (w' := w9) (by generalize (oF 51 T).eval = rr at *; simp [execOp, go_sem, e0, e1]) rfl (fun _ => rfl) (Gz.refl _ _ _ _ _)
      · intro T w9 hG hD hO Q
        have d0 := hD.1
        have d1 := hD.2.1
        have e0 : (oF 51 T).eval (.tmp 29) = .bool (a != c) := (oF_eval (by decide)).trans (show T 29 = _ from d0)
        have e1 : (oF 51 T).eval (.const (.bool true)) = .bool true := rfl
        have G2 : (a != c) = false → T 34 = .bool (!(t.toList == g.toList)) := d1
        have e2 : (oF 51 T).eval (.tmp 34) = T 34 := oF_eval (by decide)
        refine og_none rfl ?_
        rcases Bool.eq_false_or_eq_true (a != c) with hb | hb
        · refine o_val (w' := w9) (v := .bool true) (by rw [hb] at e0; generalize (oF 51 T).eval = rr at *; simp [execOp, go_sem, e0, e1, e2]) rfl (by simp [RL, hb]) (Gz.refl _ _ _ _ _)
        · refine o_val (w' := w9) (v := .bool (!(t.toList == g.toList))) (by rw [G2 hb] at e2; rw [hb] at e0; generalize (oF 51 T).eval = rr at *; simp [execOp, go_sem, e0, e1, e2]) rfl (by simp [RL, hb]) (Gz.refl _ _ _ _ _)
      · intro T w9 hG hD hO Q
        have d0 := hD.1
        have e0 : (oF 51 T).eval (.func 40) = .func (.func 40) #[] #[] := rfl
        have e1 : (oF 51 T).eval (.tmp 35) = .bool ((a != c) || (!(t.toList == g.toList))) := (oF_eval (by decide)).trans (show T 35 = _ from d0)
        have e2 : (oF 51 T).eval (.const (.int .i64 8)) = .int .i64 8 := rfl
        refine og_none rfl ?_
        refine o_call (oc2 (enters_of Try.func40 (by kernel_rfl) rfl) rfl rfl e1 e2) rfl ?_
        exact (cWhen [w.heap.size + 1 + 1] (a != c || !(t.toList == g.toList)) 8 w9 (fun x hx => by have := hL x hx; have := hG.1.2.2.2.1; simp only [World.size_drew] at *; omega)).mono fun r W' ⟨v, h1, h2, h3⟩ => ⟨v, h1, h2, h3.gz⟩
      · intro T w9 hG hD hO Q
        have q0 := hO.1
        have e0 : (oF 51 T).eval (.tmp 2) = .pointer (some ⟨w.heap.size, 0, none⟩) := (oF_eval (by decide)).trans (show T 2 = _ from q0)
        refine og_none rfl ?_
        exact o_val (v := .pointer (some ⟨w.heap.size, 0, none⟩)) (w' := w9) (by generalize (oF 51 T).eval = rr at *; simp [execOp, go_sem, e0]) rfl rfl (Gz.refl _ _ _ _ _)
      · intro T w9 hG hD hO Q
        have d0 := hD.1
        have e0 : (oF 51 T).eval (.tmp 37) = .pointer (some ⟨w.heap.size, 0, none⟩) := (oF_eval (by decide)).trans (show T 37 = _ from d0)
        refine og_none rfl ?_
        have im := b0.kx hG.1 (by simp; omega)
        have m0 := im.c (i := 0) rfl
        clear im
        exact o_val (v := .string f) (w' := w9) (by generalize (oF 51 T).eval = rr at *; simp [execOp, go_sem, e0, m0]) rfl rfl (Gz.refl _ _ _ _ _)
      · intro T w9 hG hD hO Q
        have q0 := hO.1
        have e0 : (oF 51 T).eval (.tmp 3) = .pointer (some ⟨w.heap.size + 1, 0, none⟩) := (oF_eval (by decide)).trans (show T 3 = _ from q0)
        refine og_none rfl ?_
        exact o_val (v := .pointer (some ⟨w.heap.size + 1, 1, none⟩)) (w' := w9) (by generalize (oF 51 T).eval = rr at *; simp [execOp, go_sem, e0]) rfl rfl (Gz.refl _ _ _ _ _)
      · intro T w9 hG hD hO Q
        have d0 := hD.1
        have e0 : (oF 51 T).eval (.tmp 39) = .pointer (some ⟨w.heap.size + 1, 1, none⟩) := (oF_eval (by decide)).trans (show T 39 = _ from d0)
        refine og_none rfl ?_
        have im := b1.kx hG.1 (by simp)
        have m0 := im.c (i := 1) rfl
        clear im
        exact o_val (v := .string u) (w' := w9) (by generalize (oF 51 T).eval = rr at *; simp [execOp, go_sem, e0, m0]) rfl rfl (Gz.refl _ _ _ _ _)
      · intro T w9 hG hD hO Q
        have d0 := hD.1
        have d1 := hD.2.1
        have e0 : (oF 51 T).eval (.tmp 38) = .string f := (oF_eval (by decide)).trans (show T 38 = _ from d0)
        have e1 : (oF 51 T).eval (.tmp 40) = .string u := (oF_eval (by decide)).trans (show T 40 = _ from d1)
        refine og_none rfl ?_
        exact o_val (v := .bool (f.toList == u.toList)) (w' := w9) (by generalize (oF 51 T).eval = rr at *; simp [execOp, go_sem, e0, e1]) rfl rfl (Gz.refl _ _ _ _ _)
      · intro T w9 hG hD hO Q
        have d0 := hD.1
        have e0 : (oF 51 T).eval (.func 40) = .func (.func 40) #[] #[] := rfl
        have e1 : (oF 51 T).eval (.tmp 41) = .bool (f.toList == u.toList) := (oF_eval (by decide)).trans (show T 41 = _ from d0)
        have e2 : (oF 51 T).eval (.const (.int .i64 7)) = .int .i64 7 := rfl
        refine og_none rfl ?_
        refine o_call (oc2 (enters_of Try.func40 (by kernel_rfl) rfl) rfl rfl e1 e2) rfl ?_
        exact (cWhen [w.heap.size + 1 + 1] (f.toList == u.toList) 7 w9 (fun x hx => by have := hL x hx; have := hG.1.2.2.2.1; simp only [World.size_drew] at *; omega)).mono fun r W' ⟨v, h1, h2, h3⟩ => ⟨v, h1, h2, h3.gz⟩
      · intro T w9 hG hD hO Q
        have q0 := hO.1
        have e0 : (oF 51 T).eval (.tmp 6) = .pointer (some ⟨g0, 0, none⟩) := (oF_eval (by decide)).trans (show T 6 = _ from q0)
        refine og_none rfl ?_
        exact o_val (v := .pointer (some ⟨g0, 3, none⟩)) (w' := w9) (by generalize (oF 51 T).eval = rr at *; simp [execOp, go_sem, e0]) rfl rfl (Gz.refl _ _ _ _ _)
      · intro T w9 hG hD hO Q
        have d0 := hD.1
        have e0 : (oF 51 T).eval (.tmp 43) = .pointer (some ⟨g0, 3, none⟩) := (oF_eval (by decide)).trans (show T 43 = _ from d0)
        refine og_none rfl ?_
        have im := ig.kx hG.1 (by simp; omega)
        have m0 := im.c (i := 3) rfl
        have m1 := im.c (i := 4) rfl
        clear im
        exact o_val (v := .agg #[.int .i64 (wrap64 (l + m)), .int .i64 (wrap64 (h + k))]) (w' := w9) (by generalize (oF 51 T).eval = rr at *; simp [execOp, go_sem, e0, m0, m1]) rfl rfl (Gz.refl _ _ _ _ _)
      · intro T w9 hG hD hO Q
        have d0 := hD.1
        have e0 : (oF 51 T).eval (.tmp 44) = .agg #[.int .i64 (wrap64 (l + m)), .int .i64 (wrap64 (h + k))] := (oF_eval (by decide)).trans (show T 44 = _ from d0)
        refine og_none rfl ?_
        have kz : Kb w9 (w9.alloc (.cells #[.int .i64 (wrap64 (l + m)), .int .i64 (wrap64 (h + k))] 23 (0, 0))) := (Kb.refl w9).alloc _
        exact o_val (v := .slice (some ⟨w9.heap.size, 0, none⟩) 1 1) (w' := w9.alloc (.cells #[.int .i64 (wrap64 (l + m)), .int .i64 (wrap64 (h + k))] 23 (0, 0))) (by generalize (oF 51 T).eval = rr at *; simp [execOp, go_sem, e0]) rfl (sl_is (Is.made w9 _ _) (fun hx => by have := hL _ hx; have := hG.1.2.2.2.1; simp only [World.size_drew] at *; omega) rfl (rows_ok rfl rfl)) kz.gz
      · intro T w9 hG hD hO Q
        have d0 := hD.1
        have e0 : (oF 51 T).eval (.func 42) = .func (.func 42) #[] #[] := rfl
        have e1 : (oF 51 T).eval (.func 16) = .func (.func 16) #[] #[] := rfl
        have e2 : (oF 51 T).eval (.tmp 45) = T 45 := oF_eval (by decide)
        have p2 : (fun vv ww => Sl [w.heap.size + 1 + 1] 2 ww vv [[.int .i64 (wrap64 (l + m)), .int .i64 (wrap64 (h + k))]]) (T 45) w9 := d0
        refine og_none rfl ?_
        refine o_call (oc2 (enters_of Try.func42 (by kernel_rfl) rfl) rfl rfl e1 e2) rfl ?_
        exact (cEach_Lim [w.heap.size + 1 + 1] _ (0, 0) [(wrap64 (l + m), wrap64 (h + k))] [lmE (wrap64 (l + m)) (wrap64 (h + k))] _ w9 (fun x hx => by have := hL x hx; have := hG.1.2.2.2.1; simp only [World.size_drew] at *; omega) (by simp) rfl p2 (enters_of Try.func16 (by kernel_rfl) rfl) (each_ok ⟨dCheck (wrap64 (l + m)) (wrap64 (h + k)), trivial⟩ rfl)).mono fun r W' ⟨v, h1, h2, h3⟩ => ⟨v, h1, h2, h3.gz⟩
      · intro T w9 hG hD hO Q
        have d0 := hD.1
        have d1 := hD.2.1
        have d2 := hD.2.2.1
        have d3 := hD.2.2.2.1
        have e0 : (oF 51 T).eval (.tmp 23) = T 23 := oF_eval (by decide)
        have p0 : (fun vv ww => Ck [w.heap.size + 1 + 1] vv (firstE [vdE f t a l h, vdE g u c m k]) ww) (T 23) w9 := d0
        have e1 : (oF 51 T).eval (.tmp 36) = T 36 := oF_eval (by decide)
        have p1 : (fun vv ww => Ck [w.heap.size + 1 + 1] vv (fE (a != c || !(t.toList == g.toList)) 8) ww) (T 36) w9 := d1
        have e2 : (oF 51 T).eval (.tmp 42) = T 42 := oF_eval (by decide)
        have p2 : (fun vv ww => Ck [w.heap.size + 1 + 1] vv (fE (f.toList == u.toList) 7) ww) (T 42) w9 := d2
        have e3 : (oF 51 T).eval (.tmp 46) = T 46 := oF_eval (by decide)
        have p3 : (fun vv ww => Ck [w.heap.size + 1 + 1] vv (firstE [lmE (wrap64 (l + m)) (wrap64 (h + k))]) ww) (T 46) w9 := d3
        refine og_none rfl ?_
        obtain ⟨F0, c0, f0, g0, h0⟩ := p0
        obtain ⟨F1, c1, f1, g1, h1⟩ := p1
        obtain ⟨F2, c2, f2, g2, h2⟩ := p2
        obtain ⟨F3, c3, f3, g3, h3⟩ := p3
        rw [f0] at e0
        rw [f1] at e1
        rw [f2] at e2
        rw [f3] at e3
        have kz : Kb w9 (w9.alloc (.cells #[.func (.func F0) #[] c0, .func (.func F1) #[] c1, .func (.func F2) #[] c2, .func (.func F3) #[] c3] 72 (0, 0))) := (Kb.refl w9).alloc _
        exact o_val (v := .slice (some ⟨w9.heap.size, 0, none⟩) 4 4) (w' := w9.alloc (.cells #[.func (.func F0) #[] c0, .func (.func F1) #[] c1, .func (.func F2) #[] c2, .func (.func F3) #[] c3] 72 (0, 0))) (by generalize (oF 51 T).eval = rr at *; simp [execOp, go_sem, e0, e1, e2, e3]) rfl ⟨[.func (.func F0) #[] c0, .func (.func F1) #[] c1, .func (.func F2) #[] c2, .func (.func F3) #[] c3], rfl, sl_is (Is.made w9 _ _) (fun hx => by have := hL _ hx; have := hG.1.2.2.2.1; simp only [World.size_drew] at *; omega) rfl (rows_ok rfl rfl), cks_ok ⟨(Ck.kx ⟨F0, c0, rfl, g0, h0⟩ kz.kx), (Ck.kx ⟨F1, c1, rfl, g1, h1⟩ kz.kx), (Ck.kx ⟨F2, c2, rfl, g2, h2⟩ kz.kx), (Ck.kx ⟨F3, c3, rfl, g3, h3⟩ kz.kx), trivial⟩ rfl⟩ kz.gz
      · intro T w9 hG hD hO Q
        have d0 := hD.1
        have d1 := hD.2.1
        have e0 : (oF 51 T).eval (.func 53) = .func (.func 53) #[] #[] := rfl
        have e1 : (oF 51 T).eval (.tmp 19) = .agg #[.string f, .string u, .int .i64 a, .int .i64 (wrap64 (l + m)), .int .i64 (wrap64 (h + k))] := (oF_eval (by decide)).trans (show T 19 = _ from d0)
        have e2 : (oF 51 T).eval (.tmp 47) = T 47 := oF_eval (by decide)
        have p2 : (fun vv ww => SlC [w.heap.size + 1 + 1] [firstE [vdE f t a l h, vdE g u c m k], fE (a != c || !(t.toList == g.toList)) 8, fE (f.toList == u.toList) 7, firstE [lmE (wrap64 (l + m)) (wrap64 (h + k))]] vv ww) (T 47) w9 := d1
        refine og_none rfl ?_
        refine o_call (oc2 (enters_of Try.func53 (by kernel_rfl) rfl) rfl rfl e1 e2) rfl ?_
        exact (cResult_Dim [w.heap.size + 1 + 1] [firstE [vdE f t a l h, vdE g u c m k], fE (a != c || !(t.toList == g.toList)) 8, fE (f.toList == u.toList) 7, firstE [lmE (wrap64 (l + m)) (wrap64 (h + k))]] _ f u a (wrap64 (l + m)) (wrap64 (h + k)) w9 p2 (by simp)).mono fun r W' h => ⟨_, h.1, rfl, h.2.gz⟩
      · intro T w9 hG hD hO Q
        have d0 := hD.1
        have e0 : (oF 51 T).eval (.tmp 48) = .tuple #[.agg #[.string (zS (firstE [firstE [vdE f t a l h, vdE g u c m k], fE (a != c || !(t.toList == g.toList)) 8, fE (f.toList == u.toList) 7, firstE [lmE (wrap64 (l + m)) (wrap64 (h + k))]]) f), .string (zS (firstE [firstE [vdE f t a l h, vdE g u c m k], fE (a != c || !(t.toList == g.toList)) 8, fE (f.toList == u.toList) 7, firstE [lmE (wrap64 (l + m)) (wrap64 (h + k))]]) u), .int .i64 (zI (firstE [firstE [vdE f t a l h, vdE g u c m k], fE (a != c || !(t.toList == g.toList)) 8, fE (f.toList == u.toList) 7, firstE [lmE (wrap64 (l + m)) (wrap64 (h + k))]]) a), .int .i64 (zI (firstE [firstE [vdE f t a l h, vdE g u c m k], fE (a != c || !(t.toList == g.toList)) 8, fE (f.toList == u.toList) 7, firstE [lmE (wrap64 (l + m)) (wrap64 (h + k))]]) (wrap64 (l + m))), .int .i64 (zI (firstE [firstE [vdE f t a l h, vdE g u c m k], fE (a != c || !(t.toList == g.toList)) 8, fE (f.toList == u.toList) 7, firstE [lmE (wrap64 (l + m)) (wrap64 (h + k))]]) (wrap64 (h + k)))], .int .i64 (firstE [firstE [vdE f t a l h, vdE g u c m k], fE (a != c || !(t.toList == g.toList)) 8, fE (f.toList == u.toList) 7, firstE [lmE (wrap64 (l + m)) (wrap64 (h + k))]])] := (oF_eval (by decide)).trans (show T 48 = _ from d0)
        refine og_none rfl ?_
        exact o_val (v := .agg #[.string (zS (firstE [firstE [vdE f t a l h, vdE g u c m k], fE (a != c || !(t.toList == g.toList)) 8, fE (f.toList == u.toList) 7, firstE [lmE (wrap64 (l + m)) (wrap64 (h + k))]]) f), .string (zS (firstE [firstE [vdE f t a l h, vdE g u c m k], fE (a != c || !(t.toList == g.toList)) 8, fE (f.toList == u.toList) 7, firstE [lmE (wrap64 (l + m)) (wrap64 (h + k))]]) u), .int .i64 (zI (firstE [firstE [vdE f t a l h, vdE g u c m k], fE (a != c || !(t.toList == g.toList)) 8, fE (f.toList == u.toList) 7, firstE [lmE (wrap64 (l + m)) (wrap64 (h + k))]]) a), .int .i64 (zI (firstE [firstE [vdE f t a l h, vdE g u c m k], fE (a != c || !(t.toList == g.toList)) 8, fE (f.toList == u.toList) 7, firstE [lmE (wrap64 (l + m)) (wrap64 (h + k))]]) (wrap64 (l + m))), .int .i64 (zI (firstE [firstE [vdE f t a l h, vdE g u c m k], fE (a != c || !(t.toList == g.toList)) 8, fE (f.toList == u.toList) 7, firstE [lmE (wrap64 (l + m)) (wrap64 (h + k))]]) (wrap64 (h + k)))]) (w' := w9) (by generalize (oF 51 T).eval = rr at *; simp [execOp, go_sem, e0]) rfl rfl (Gz.refl _ _ _ _ _)
      · intro T w9 hG hD hO Q
        have d0 := hD.1
        have e0 : (oF 51 T).eval (.tmp 48) = .tuple #[.agg #[.string (zS (firstE [firstE [vdE f t a l h, vdE g u c m k], fE (a != c || !(t.toList == g.toList)) 8, fE (f.toList == u.toList) 7, firstE [lmE (wrap64 (l + m)) (wrap64 (h + k))]]) f), .string (zS (firstE [firstE [vdE f t a l h, vdE g u c m k], fE (a != c || !(t.toList == g.toList)) 8, fE (f.toList == u.toList) 7, firstE [lmE (wrap64 (l + m)) (wrap64 (h + k))]]) u), .int .i64 (zI (firstE [firstE [vdE f t a l h, vdE g u c m k], fE (a != c || !(t.toList == g.toList)) 8, fE (f.toList == u.toList) 7, firstE [lmE (wrap64 (l + m)) (wrap64 (h + k))]]) a), .int .i64 (zI (firstE [firstE [vdE f t a l h, vdE g u c m k], fE (a != c || !(t.toList == g.toList)) 8, fE (f.toList == u.toList) 7, firstE [lmE (wrap64 (l + m)) (wrap64 (h + k))]]) (wrap64 (l + m))), .int .i64 (zI (firstE [firstE [vdE f t a l h, vdE g u c m k], fE (a != c || !(t.toList == g.toList)) 8, fE (f.toList == u.toList) 7, firstE [lmE (wrap64 (l + m)) (wrap64 (h + k))]]) (wrap64 (h + k)))], .int .i64 (firstE [firstE [vdE f t a l h, vdE g u c m k], fE (a != c || !(t.toList == g.toList)) 8, fE (f.toList == u.toList) 7, firstE [lmE (wrap64 (l + m)) (wrap64 (h + k))]])] := (oF_eval (by decide)).trans (show T 48 = _ from d0)
        refine og_none rfl ?_
        exact o_val (v := .int .i64 (firstE [firstE [vdE f t a l h, vdE g u c m k], fE (a != c || !(t.toList == g.toList)) 8, fE (f.toList == u.toList) 7, firstE [lmE (wrap64 (l + m)) (wrap64 (h + k))]])) (w' := w9) (by generalize (oF 51 T).eval = rr at *; simp [execOp, go_sem, e0]) rfl rfl (Gz.refl _ _ _ _ _)
      · intro T w9 hG hD hO Q
        have d0 := hD.1
        have q0 := hO.1
        have e0 : (oF 51 T).eval (.tmp 4) = .pointer (some ⟨w.heap.size + 1 + 1, 0, none⟩) := (oF_eval (by decide)).trans (show T 4 = _ from q0)
        have e1 : (oF 51 T).eval (.tmp 49) = .agg #[.string (zS (firstE [firstE [vdE f t a l h, vdE g u c m k], fE (a != c || !(t.toList == g.toList)) 8, fE (f.toList == u.toList) 7, firstE [lmE (wrap64 (l + m)) (wrap64 (h + k))]]) f), .string (zS (firstE [firstE [vdE f t a l h, vdE g u c m k], fE (a != c || !(t.toList == g.toList)) 8, fE (f.toList == u.toList) 7, firstE [lmE (wrap64 (l + m)) (wrap64 (h + k))]]) u), .int .i64 (zI (firstE [firstE [vdE f t a l h, vdE g u c m k], fE (a != c || !(t.toList == g.toList)) 8, fE (f.toList == u.toList) 7, firstE [lmE (wrap64 (l + m)) (wrap64 (h + k))]]) a), .int .i64 (zI (firstE [firstE [vdE f t a l h, vdE g u c m k], fE (a != c || !(t.toList == g.toList)) 8, fE (f.toList == u.toList) 7, firstE [lmE (wrap64 (l + m)) (wrap64 (h + k))]]) (wrap64 (l + m))), .int .i64 (zI (firstE [firstE [vdE f t a l h, vdE g u c m k], fE (a != c || !(t.toList == g.toList)) 8, fE (f.toList == u.toList) 7, firstE [lmE (wrap64 (l + m)) (wrap64 (h + k))]]) (wrap64 (h + k)))] := (oF_eval (by decide)).trans (show T 49 = _ from d0)
        refine og_none rfl ?_
        have io : Is w9 (w.heap.size + 1 + 1) #[.string ⟨#[]⟩, .string ⟨#[]⟩, .int .i64 0, .int .i64 0, .int .i64 0] 49 ∨ Is w9 (w.heap.size + 1 + 1) #[.string (zS (firstE [firstE [vdE f t a l h, vdE g u c m k], fE (a != c || !(t.toList == g.toList)) 8, fE (f.toList == u.toList) 7, firstE [lmE (wrap64 (l + m)) (wrap64 (h + k))]]) f), .string (zS (firstE [firstE [vdE f t a l h, vdE g u c m k], fE (a != c || !(t.toList == g.toList)) 8, fE (f.toList == u.toList) 7, firstE [lmE (wrap64 (l + m)) (wrap64 (h + k))]]) u), .int .i64 (zI (firstE [firstE [vdE f t a l h, vdE g u c m k], fE (a != c || !(t.toList == g.toList)) 8, fE (f.toList == u.toList) 7, firstE [lmE (wrap64 (l + m)) (wrap64 (h + k))]]) a), .int .i64 (zI (firstE [firstE [vdE f t a l h, vdE g u c m k], fE (a != c || !(t.toList == g.toList)) 8, fE (f.toList == u.toList) 7, firstE [lmE (wrap64 (l + m)) (wrap64 (h + k))]]) (wrap64 (l + m))), .int .i64 (zI (firstE [firstE [vdE f t a l h, vdE g u c m k], fE (a != c || !(t.toList == g.toList)) 8, fE (f.toList == u.toList) 7, firstE [lmE (wrap64 (l + m)) (wrap64 (h + k))]]) (wrap64 (h + k)))] 49 := hG.2.2 (.inl b2)
        rcases io with io | io
        · obtain ⟨zn, pt⟩ := put5 io (.string (zS (firstE [firstE [vdE f t a l h, vdE g u c m k], fE (a != c || !(t.toList == g.toList)) 8, fE (f.toList == u.toList) 7, firstE [lmE (wrap64 (l + m)) (wrap64 (h + k))]]) f)) (.string (zS (firstE [firstE [vdE f t a l h, vdE g u c m k], fE (a != c || !(t.toList == g.toList)) 8, fE (f.toList == u.toList) 7, firstE [lmE (wrap64 (l + m)) (wrap64 (h + k))]]) u)) (.int .i64 (zI (firstE [firstE [vdE f t a l h, vdE g u c m k], fE (a != c || !(t.toList == g.toList)) 8, fE (f.toList == u.toList) 7, firstE [lmE (wrap64 (l + m)) (wrap64 (h + k))]]) a)) (.int .i64 (zI (firstE [firstE [vdE f t a l h, vdE g u c m k], fE (a != c || !(t.toList == g.toList)) 8, fE (f.toList == u.toList) 7, firstE [lmE (wrap64 (l + m)) (wrap64 (h + k))]]) (wrap64 (l + m)))) (.int .i64 (zI (firstE [firstE [vdE f t a l h, vdE g u c m k], fE (a != c || !(t.toList == g.toList)) 8, fE (f.toList == u.toList) 7, firstE [lmE (wrap64 (l + m)) (wrap64 (h + k))]]) (wrap64 (h + k))))
          have m0 := io.c (i := 0) rfl
          have f0 := io.f 0
          have m1 := io.c (i := 1) rfl
          have f1 := io.f 1
          have m2 := io.c (i := 2) rfl
          have f2 := io.f 2
          have m3 := io.c (i := 3) rfl
          have f3 := io.f 3
          have m4 := io.c (i := 4) rfl
          have f4 := io.f 4
          clear io
          exact o_skip (w' := (((((w9.setCell ⟨w.heap.size + 1 + 1, 0, none⟩ (.string (zS (firstE [firstE [vdE f t a l h, vdE g u c m k], fE (a != c || !(t.toList == g.toList)) 8, fE (f.toList == u.toList) 7, firstE [lmE (wrap64 (l + m)) (wrap64 (h + k))]]) f))).setCell ⟨w.heap.size + 1 + 1, 1, none⟩ (.string (zS (firstE [firstE [vdE f t a l h, vdE g u c m k], fE (a != c || !(t.toList == g.toList)) 8, fE (f.toList == u.toList) 7, firstE [lmE (wrap64 (l + m)) (wrap64 (h + k))]]) u))).setCell ⟨w.heap.size + 1 + 1, 2, none⟩ (.int .i64 (zI (firstE [firstE [vdE f t a l h, vdE g u c m k], fE (a != c || !(t.toList == g.toList)) 8, fE (f.toList == u.toList) 7, firstE [lmE (wrap64 (l + m)) (wrap64 (h + k))]]) a))).setCell ⟨w.heap.size + 1 + 1, 3, none⟩ (.int .i64 (zI (firstE [firstE [vdE f t a l h, vdE g u c m k], fE (a != c || !(t.toList == g.toList)) 8, fE (f.toList == u.toList) 7, firstE [lmE (wrap64 (l + m)) (wrap64 (h + k))]]) (wrap64 (l + m))))).setCell ⟨w.heap.size + 1 + 1, 4, none⟩ (.int .i64 (zI (firstE [firstE [vdE f t a l h, vdE g u c m k], fE (a != c || !(t.toList == g.toList)) 8, fE (f.toList == u.toList) 7, firstE [lmE (wrap64 (l + m)) (wrap64 (h + k))]]) (wrap64 (h + k)))))) (by generalize (oF 51 T).eval = rr at *; simp [execOp, go_sem, e0, e1, m0, f0, m1, f1, m2, f2, m3, f3, m4, f4]) rfl zn (pt.gz zn)
        · obtain ⟨zn, pt⟩ := put5 io (.string (zS (firstE [firstE [vdE f t a l h, vdE g u c m k], fE (a != c || !(t.toList == g.toList)) 8, fE (f.toList == u.toList) 7, firstE [lmE (wrap64 (l + m)) (wrap64 (h + k))]]) f)) (.string (zS (firstE [firstE [vdE f t a l h, vdE g u c m k], fE (a != c || !(t.toList == g.toList)) 8, fE (f.toList == u.toList) 7, firstE [lmE (wrap64 (l + m)) (wrap64 (h + k))]]) u)) (.int .i64 (zI (firstE [firstE [vdE f t a l h, vdE g u c m k], fE (a != c || !(t.toList == g.toList)) 8, fE (f.toList == u.toList) 7, firstE [lmE (wrap64 (l + m)) (wrap64 (h + k))]]) a)) (.int .i64 (zI (firstE [firstE [vdE f t a l h, vdE g u c m k], fE (a != c || !(t.toList == g.toList)) 8, fE (f.toList == u.toList) 7, firstE [lmE (wrap64 (l + m)) (wrap64 (h + k))]]) (wrap64 (l + m)))) (.int .i64 (zI (firstE [firstE [vdE f t a l h, vdE g u c m k], fE (a != c || !(t.toList == g.toList)) 8, fE (f.toList == u.toList) 7, firstE [lmE (wrap64 (l + m)) (wrap64 (h + k))]]) (wrap64 (h + k))))
          have m0 := io.c (i := 0) rfl
          have f0 := io.f 0
          have m1 := io.c (i := 1) rfl
          have f1 := io.f 1
          have m2 := io.c (i := 2) rfl
          have f2 := io.f 2
          have m3 := io.c (i := 3) rfl
          have f3 := io.f 3
          have m4 := io.c (i := 4) rfl
          have f4 := io.f 4
          clear io
          exact o_skip (w' := (((((w9.setCell ⟨w.heap.size + 1 + 1, 0, none⟩ (.string (zS (firstE [firstE [vdE f t a l h, vdE g u c m k], fE (a != c || !(t.toList == g.toList)) 8, fE (f.toList == u.toList) 7, firstE [lmE (wrap64 (l + m)) (wrap64 (h + k))]]) f))).setCell ⟨w.heap.size + 1 + 1, 1, none⟩ (.string (zS (firstE [firstE [vdE f t a l h, vdE g u c m k], fE (a != c || !(t.toList == g.toList)) 8, fE (f.toList == u.toList) 7, firstE [lmE (wrap64 (l + m)) (wrap64 (h + k))]]) u))).setCell ⟨w.heap.size + 1 + 1, 2, none⟩ (.int .i64 (zI (firstE [firstE [vdE f t a l h, vdE g u c m k], fE (a != c || !(t.toList == g.toList)) 8, fE (f.toList == u.toList) 7, firstE [lmE (wrap64 (l + m)) (wrap64 (h + k))]]) a))).setCell ⟨w.heap.size + 1 + 1, 3, none⟩ (.int .i64 (zI (firstE [firstE [vdE f t a l h, vdE g u c m k], fE (a != c || !(t.toList == g.toList)) 8, fE (f.toList == u.toList) 7, firstE [lmE (wrap64 (l + m)) (wrap64 (h + k))]]) (wrap64 (l + m))))).setCell ⟨w.heap.size + 1 + 1, 4, none⟩ (.int .i64 (zI (firstE [firstE [vdE f t a l h, vdE g u c m k], fE (a != c || !(t.toList == g.toList)) 8, fE (f.toList == u.toList) 7, firstE [lmE (wrap64 (l + m)) (wrap64 (h + k))]]) (wrap64 (h + k)))))) (by generalize (oF 51 T).eval = rr at *; simp [execOp, go_sem, e0, e1, m0, f0, m1, f1, m2, f2, m3, f3, m4, f4]) rfl zn (pt.gz zn)
      · intro T w9 hG hD hO Q
        have d0 := hD.1
        have e0 : (oF 51 T).eval (.tmp 50) = .int .i64 (firstE [firstE [vdE f t a l h, vdE g u c m k], fE (a != c || !(t.toList == g.toList)) 8, fE (f.toList == u.toList) 7, firstE [lmE (wrap64 (l + m)) (wrap64 (h + k))]]) := (oF_eval (by decide)).trans (show T 50 = _ from d0)
        refine og_none rfl ?_
        exact o_val (v := .int .i64 (firstE [firstE [vdE f t a l h, vdE g u c m k], fE (a != c || !(t.toList == g.toList)) 8, fE (f.toList == u.toList) 7, firstE [lmE (wrap64 (l + m)) (wrap64 (h + k))]])) (w' := w9) (by generalize (oF 51 T).eval = rr at *; simp [execOp, go_sem, e0]) rfl rfl (Gz.refl _ _ _ _ _)
    case fin =>
      intro T2 w8 hout hval hG
      rw [show oF 51 T2 = (⟨#[T2 0, T2 1, T2 2, T2 3, T2 4, T2 5, T2 6, T2 7, T2 8, T2 9, T2 10, T2 11, T2 12, T2 13, T2 14, T2 15, T2 16, T2 17, T2 18, T2 19, T2 20, T2 21, T2 22, T2 23, T2 24, T2 25, T2 26, T2 27, T2 28, T2 29, T2 30, T2 31, T2 32, T2 33, T2 34, T2 35, T2 36, T2 37, T2 38, T2 39, T2 40, T2 41, T2 42, T2 43, T2 44, T2 45, T2 46, T2 47, T2 48, T2 49, T2 50], []⟩ : Act) from oF_list 51 T2]
      rw [show T2 4 = .pointer (some ⟨w.heap.size + 1 + 1, 0, none⟩) from hout 4 rfl]
      rw [show T2 5 = .int .i64 (firstE [firstE [vdE f t a l h, vdE g u c m k], fE (a != c || !(t.toList == g.toList)) 8, fE (f.toList == u.toList) 7, firstE [lmE (wrap64 (l + m)) (wrap64 (h + k))]]) from hval 33 (by decide : 33 < 34)]
      have kb := hG.old k0.drew (by omega)
      have io := hval 32 (by decide)
      clear hout hval
      replace io : Is w8 (w.heap.size + 1 + 1) #[.string (zS (firstE [firstE [vdE f t a l h, vdE g u c m k], fE (a != c || !(t.toList == g.toList)) 8, fE (f.toList == u.toList) 7, firstE [lmE (wrap64 (l + m)) (wrap64 (h + k))]]) f), .string (zS (firstE [firstE [vdE f t a l h, vdE g u c m k], fE (a != c || !(t.toList == g.toList)) 8, fE (f.toList == u.toList) 7, firstE [lmE (wrap64 (l + m)) (wrap64 (h + k))]]) u), .int .i64 (zI (firstE [firstE [vdE f t a l h, vdE g u c m k], fE (a != c || !(t.toList == g.toList)) 8, fE (f.toList == u.toList) 7, firstE [lmE (wrap64 (l + m)) (wrap64 (h + k))]]) a), .int .i64 (zI (firstE [firstE [vdE f t a l h, vdE g u c m k], fE (a != c || !(t.toList == g.toList)) 8, fE (f.toList == u.toList) 7, firstE [lmE (wrap64 (l + m)) (wrap64 (h + k))]]) (wrap64 (l + m))), .int .i64 (zI (firstE [firstE [vdE f t a l h, vdE g u c m k], fE (a != c || !(t.toList == g.toList)) 8, fE (f.toList == u.toList) 7, firstE [lmE (wrap64 (l + m)) (wrap64 (h + k))]]) (wrap64 (h + k)))] 49 := io
      go_wp2
      refine ret_row2 Try.results31 rfl rfl rfl io Try.underlying49 rfl (by kernel_rfl) ?_
      exact ⟨rfl, kb⟩
end Go.Proofs.Ytendjeefggigbaa
