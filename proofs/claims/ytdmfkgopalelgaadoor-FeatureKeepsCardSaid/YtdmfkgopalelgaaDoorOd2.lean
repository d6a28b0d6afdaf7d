/- Package dimension: Of, Add, Neg. -/
import Derived.Test.YtdmfkgopalelgaaDoorOd1
namespace Go.Proofs.YtdmfkgopalelgaaDoor
open Go.RowKit
























def ofE (n l h : Int) : Int := firstE [fE (!inAll [n, l, h]) 2, lmE (wrap64 (n + l)) (wrap64 (n + h))]
set_option maxRecDepth 100000 in
set_option maxHeartbeats 1000000 in
theorem dOf_any (n l h : Int) (w : World) : Calls Tryd.prog 53 #[.int .i64 n, .int .i64 l, .int .i64 h] w fun r W' => r = .returned (.tuple #[.agg #[.int .i64 (zI (firstE [fE (!inAll [n, l, h]) 2, firstE [lmE (wrap64 (n + l)) (wrap64 (n + h))]]) (wrap64 (n + l))), .int .i64 (zI (firstE [fE (!inAll [n, l, h]) 2, firstE [lmE (wrap64 (n + l)) (wrap64 (n + h))]]) (wrap64 (n + h)))], .int .i64 (firstE [fE (!inAll [n, l, h]) 2, firstE [lmE (wrap64 (n + l)) (wrap64 (n + h))]])]) ∧ Kb w W' := by
  have k0 := (((Kb.refl w).alloc (.cells #[.int .i64 0, .int .i64 0] 25 (0, 0))).alloc (.cells #[.int .i64 (wrap64 (n + l)), .int .i64 (wrap64 (n + h))] 25 (0, 0)))
  have b0 := ((Is.made w #[.int .i64 0, .int .i64 0] 25).alloc (.cells #[.int .i64 (wrap64 (n + l)), .int .i64 (wrap64 (n + h))] 25 (0, 0)))
  replace b0 : Is (World.drew ((w.alloc (.cells #[.int .i64 0, .int .i64 0] 25 (0, 0))).alloc (.cells #[.int .i64 (wrap64 (n + l)), .int .i64 (wrap64 (n + h))] 25 (0, 0)))) (w.heap.size) #[.int .i64 0, .int .i64 0] 25 := b0
  have b1 := (Is.made (w.alloc (.cells #[.int .i64 0, .int .i64 0] 25 (0, 0))) #[.int .i64 (wrap64 (n + l)), .int .i64 (wrap64 (n + h))] 25)
  rw [World.size_alloc] at b1
  replace b1 : Is (World.drew ((w.alloc (.cells #[.int .i64 0, .int .i64 0] 25 (0, 0))).alloc (.cells #[.int .i64 (wrap64 (n + l)), .int .i64 (wrap64 (n + h))] 25 (0, 0)))) (w.heap.size + 1) #[.int .i64 (wrap64 (n + l)), .int .i64 (wrap64 (n + h))] 25 := b1
  have hL : ∀ x ∈ ([w.heap.size] : List Nat), x < ((w.alloc (.cells #[.int .i64 0, .int .i64 0] 25 (0, 0))).alloc (.cells #[.int .i64 (wrap64 (n + l)), .int .i64 (wrap64 (n + h))] 25 (0, 0))).heap.size := by (simp; try omega)
  go_enter Tryd.func53, Tryd.ntmps53
  go_wp2_with fail
  rw [oF_lit]
  refine o_law (⟨31, [some 16, some 17, some 18, some 19, some 20, some 21, some 22, some 23, some 24, some 25, some 26, some 27, some 28, some 29, some 30, none, some 7], [16, 17, 18, 19, 20, 21, 22, 23, 24, 25, 26, 27, 28, 29, 30, 31, 7], [[], [], [], [], [1, 2, 3], [4], [5], [6], [], [8], [9], [7, 10], [0, 11], [12], [12], [13], [14]], [[8], [0], [1], [2], [], [], [], [], [8], [], [], [], [], [], [], [6], []]⟩ : OT) (Gz w.heap.size #[.int .i64 0, .int .i64 0] #[.int .i64 (zI (firstE [fE (!inAll [n, l, h]) 2, firstE [lmE (wrap64 (n + l)) (wrap64 (n + h))]]) (wrap64 (n + l))), .int .i64 (zI (firstE [fE (!inAll [n, l, h]) 2, firstE [lmE (wrap64 (n + l)) (wrap64 (n + h))]]) (wrap64 (n + h)))] 25) (RL [fun vv _ => vv = .agg #[.int .i64 (wrap64 (n + l)), .int .i64 (wrap64 (n + h))], fun vv _ => vv = .int .i64 n, fun vv _ => vv = .int .i64 l, fun vv _ => vv = .int .i64 h, fun vv ww => Sl [w.heap.size] 1 ww vv [[.int .i64 n], [.int .i64 l], [.int .i64 h]], fun vv _ => vv = .bool (inAll [n, l, h]), fun vv _ => vv = .bool (!(inAll [n, l, h])), fun vv ww => Ck [w.heap.size] vv (fE (!inAll [n, l, h]) 2) ww, fun vv _ => vv = .agg #[.int .i64 (wrap64 (n + l)), .int .i64 (wrap64 (n + h))], fun vv ww => Sl [w.heap.size] 2 ww vv [[.int .i64 (wrap64 (n + l)), .int .i64 (wrap64 (n + h))]], fun vv ww => Ck [w.heap.size] vv (firstE [lmE (wrap64 (n + l)) (wrap64 (n + h))]) ww, fun vv ww => SlC [w.heap.size] [fE (!inAll [n, l, h]) 2, firstE [lmE (wrap64 (n + l)) (wrap64 (n + h))]] vv ww, fun vv _ => vv = .tuple #[.agg #[.int .i64 (zI (firstE [fE (!inAll [n, l, h]) 2, firstE [lmE (wrap64 (n + l)) (wrap64 (n + h))]]) (wrap64 (n + l))), .int .i64 (zI (firstE [fE (!inAll [n, l, h]) 2, firstE [lmE (wrap64 (n + l)) (wrap64 (n + h))]]) (wrap64 (n + h)))], .int .i64 (firstE [fE (!inAll [n, l, h]) 2, firstE [lmE (wrap64 (n + l)) (wrap64 (n + h))]])], fun vv _ => vv = .agg #[.int .i64 (zI (firstE [fE (!inAll [n, l, h]) 2, firstE [lmE (wrap64 (n + l)) (wrap64 (n + h))]]) (wrap64 (n + l))), .int .i64 (zI (firstE [fE (!inAll [n, l, h]) 2, firstE [lmE (wrap64 (n + l)) (wrap64 (n + h))]]) (wrap64 (n + h)))], fun vv _ => vv = .int .i64 (firstE [fE (!inAll [n, l, h]) 2, firstE [lmE (wrap64 (n + l)) (wrap64 (n + h))]]), fun _ ww => Is ww w.heap.size #[.int .i64 (zI (firstE [fE (!inAll [n, l, h]) 2, firstE [lmE (wrap64 (n + l)) (wrap64 (n + h))]]) (wrap64 (n + l))), .int .i64 (zI (firstE [fE (!inAll [n, l, h]) 2, firstE [lmE (wrap64 (n + l)) (wrap64 (n + h))]]) (wrap64 (n + h)))] 25, fun vv _ => vv = .int .i64 (firstE [fE (!inAll [n, l, h]) 2, firstE [lmE (wrap64 (n + l)) (wrap64 (n + h))]])]) (by kernel_rfl) ?hk ?hR ?fin
  case hk => kernel_rfl
  case hR =>
    refine ⟨fun _ => (Gz.refl _ _ _ _ _), fun _ _ _ => Gz.trans, rl_stab ⟨fun _ _ _ _ h => h, fun _ _ _ _ h => h, fun _ _ _ _ h => h, fun _ _ _ _ h => h, (fun v w w' k h => h.kx k.1), fun _ _ _ _ h => h, fun _ _ _ _ h => h, (fun v w w' k h => h.kx k.1), fun _ _ _ _ h => h, (fun v w w' k h => h.kx k.1), (fun v w w' k h => h.kx k.1), (fun v w w' k h => h.kx k.1), fun _ _ _ _ h => h, fun _ _ _ _ h => h, fun _ _ _ _ h => h, (fun v w w' k h => k.2.1 h), fun _ _ _ _ h => h, trivial⟩, ?_⟩
    refine allO_cons ?_ (allO_cons ?_ (allO_cons ?_ (allO_cons ?_ (allO_cons ?_ (allO_cons ?_ (allO_cons ?_ (allO_cons ?_ (allO_cons ?_ (allO_cons ?_ (allO_cons ?_ (allO_cons ?_ (allO_cons ?_ (allO_cons ?_ (allO_cons ?_ (allO_cons ?_ (allO_cons ?_ (allO_nil)))))))))))))))))
    · intro T w9 hG hD hO Q
      have q0 := hO.1
      have e0 : (oF 31 T).eval (.tmp 8) = .pointer (some ⟨w.heap.size + 1, 0, none⟩) := (oF_eval (by decide)).trans (show T 8 = _ from q0)
      refine og_none rfl ?_
      have im := b1.kx hG.1 (by simp)
      have m0 := im.c (i := 0) rfl
      have m1 := im.c (i := 1) rfl
      clear im
      exact o_val (v := .agg #[.int .i64 (wrap64 (n + l)), .int .i64 (wrap64 (n + h))]) (w' := w9) (by generalize (oF 31 T).eval = rr at *; simp [execOp, go_sem, e0, m0, m1]) rfl rfl (Gz.refl _ _ _ _ _)
    · intro T w9 hG hD hO Q
      have q0 := hO.1
      have e0 : (oF 31 T).eval (.tmp 0) = .int .i64 n := (oF_eval (by decide)).trans (show T 0 = _ from q0)
      refine og_none rfl ?_
      exact o_val (v := .int .i64 n) (w' := w9) (by generalize (oF 31 T).eval = rr at *; simp [execOp, go_sem, e0]) rfl rfl (Gz.refl _ _ _ _ _)
    · intro T w9 hG hD hO Q
      have q0 := hO.1
      have e0 : (oF 31 T).eval (.tmp 1) = .int .i64 l := (oF_eval (by decide)).trans (show T 1 = _ from q0)
      refine og_none rfl ?_
      exact o_val (v := .int .i64 l) (w' := w9) (by generalize (oF 31 T).eval = rr at *; simp [execOp, go_sem, e0]) rfl rfl (Gz.refl _ _ _ _ _)
    · intro T w9 hG hD hO Q
      have q0 := hO.1
      have e0 : (oF 31 T).eval (.tmp 2) = .int .i64 h := (oF_eval (by decide)).trans (show T 2 = _ from q0)
      refine og_none rfl ?_
      exact o_val (v := .int .i64 h) (w' := w9) (by generalize (oF 31 T).eval = rr at *; simp [execOp, go_sem, e0]) rfl rfl (Gz.refl _ _ _ _ _)
    · intro T w9 hG hD hO Q
      have d0 := hD.1
      have d1 := hD.2.1
      have d2 := hD.2.2.1
      have e0 : (oF 31 T).eval (.tmp 17) = .int .i64 n := (oF_eval (by decide)).trans (show T 17 = _ from d0)
      have e1 : (oF 31 T).eval (.tmp 18) = .int .i64 l := (oF_eval (by decide)).trans (show T 18 = _ from d1)
      have e2 : (oF 31 T).eval (.tmp 19) = .int .i64 h := (oF_eval (by decide)).trans (show T 19 = _ from d2)
      refine og_none rfl ?_
      have kz : Kb w9 (w9.alloc (.cells #[.int .i64 n, .int .i64 l, .int .i64 h] 3 (0, 0))) := (Kb.refl w9).alloc _
      exact o_val (v := .slice (some ⟨w9.heap.size, 0, none⟩) 3 3) (w' := w9.alloc (.cells #[.int .i64 n, .int .i64 l, .int .i64 h] 3 (0, 0))) (by generalize (oF 31 T).eval = rr at *; simp [execOp, go_sem, e0, e1, e2]) rfl (sl_is (Is.made w9 _ _) (fun hx => by have := hL _ hx; have := hG.1.2.2.2.1; simp only [World.size_drew] at *; omega) rfl (rows_ok rfl rfl)) kz.gz
    · intro T w9 hG hD hO Q
      have d0 := hD.1
      have e0 : (oF 31 T).eval (.func 79) = .func (.func 79) #[] #[] := rfl
      have e1 : (oF 31 T).eval (.tmp 20) = T 20 := oF_eval (by decide)
      have p1 : (fun vv ww => Sl [w.heap.size] 1 ww vv [[.int .i64 n], [.int .i64 l], [.int .i64 h]]) (T 20) w9 := d0
      refine og_none rfl ?_
      refine o_call (oc1 (enters_of Tryd.func79 (by kernel_rfl) rfl) rfl rfl e1) rfl ?_
      exact (dlengths [n, l, h] _ w9 (p1.none) (by simp)).mono fun r W' h => ⟨_, h.1, rfl, h.2.gz⟩
    · intro T w9 hG hD hO Q
      have d0 := hD.1
      have e0 : (oF 31 T).eval (.tmp 21) = .bool (inAll [n, l, h]) := (oF_eval (by decide)).trans (show T 21 = _ from d0)
      refine og_none rfl ?_
      exact o_val (v := .bool (!(inAll [n, l, h]))) (w' := w9) (by generalize (oF 31 T).eval = rr at *; simp [execOp, go_sem, e0]) rfl rfl (Gz.refl _ _ _ _ _)
    · intro T w9 hG hD hO Q
      have d0 := hD.1
      have e0 : (oF 31 T).eval (.func 40) = .func (.func 40) #[] #[] := rfl
      have e1 : (oF 31 T).eval (.tmp 22) = .bool (!(inAll [n, l, h])) := (oF_eval (by decide)).trans (show T 22 = _ from d0)
      have e2 : (oF 31 T).eval (.const (.int .i64 2)) = .int .i64 2 := rfl
      refine og_none rfl ?_
      refine o_call (oc2 (enters_of Tryd.func40 (by kernel_rfl) rfl) rfl rfl e1 e2) rfl ?_
      exact (cWhen [w.heap.size] (!inAll [n, l, h]) 2 w9 (fun x hx => by have := hL x hx; have := hG.1.2.2.2.1; simp only [World.size_drew] at *; omega)).mono fun r W' ⟨v, h1, h2, h3⟩ => ⟨v, h1, h2, h3.gz⟩
    · intro T w9 hG hD hO Q
      have q0 := hO.1
      have e0 : (oF 31 T).eval (.tmp 8) = .pointer (some ⟨w.heap.size + 1, 0, none⟩) := (oF_eval (by decide)).trans (show T 8 = _ from q0)
      refine og_none rfl ?_
      have im := b1.kx hG.1 (by simp)
      have m0 := im.c (i := 0) rfl
      have m1 := im.c (i := 1) rfl
      clear im
      exact o_val (v := .agg #[.int .i64 (wrap64 (n + l)), .int .i64 (wrap64 (n + h))]) (w' := w9) (by generalize (oF 31 T).eval = rr at *; simp [execOp, go_sem, e0, m0, m1]) rfl rfl (Gz.refl _ _ _ _ _)
    · intro T w9 hG hD hO Q
      have d0 := hD.1
      have e0 : (oF 31 T).eval (.tmp 24) = .agg #[.int .i64 (wrap64 (n + l)), .int .i64 (wrap64 (n + h))] := (oF_eval (by decide)).trans (show T 24 = _ from d0)
      refine og_none rfl ?_
      have kz : Kb w9 (w9.alloc (.cells #[.int .i64 (wrap64 (n + l)), .int .i64 (wrap64 (n + h))] 25 (0, 0))) := (Kb.refl w9).alloc _
      exact o_val (v := .slice (some ⟨w9.heap.size, 0, none⟩) 1 1) (w' := w9.alloc (.cells #[.int .i64 (wrap64 (n + l)), .int .i64 (wrap64 (n + h))] 25 (0, 0))) (by generalize (oF 31 T).eval = rr at *; simp [execOp, go_sem, e0]) rfl (sl_is (Is.made w9 _ _) (fun hx => by have := hL _ hx; have := hG.1.2.2.2.1; simp only [World.size_drew] at *; omega) rfl (rows_ok rfl rfl)) kz.gz
    · intro T w9 hG hD hO Q
      have d0 := hD.1
      have e0 : (oF 31 T).eval (.func 73) = .func (.func 73) #[] #[] := rfl
      have e1 : (oF 31 T).eval (.func 74) = .func (.func 74) #[] #[] := rfl
      have e2 : (oF 31 T).eval (.tmp 25) = T 25 := oF_eval (by decide)
      have p2 : (fun vv ww => Sl [w.heap.size] 2 ww vv [[.int .i64 (wrap64 (n + l)), .int .i64 (wrap64 (n + h))]]) (T 25) w9 := d0
      refine og_none rfl ?_
      refine o_call (oc2 (enters_of Tryd.func73 (by kernel_rfl) rfl) rfl rfl e1 e2) rfl ?_
      exact (cEach_Lim [w.heap.size] _ (0, 0) [(wrap64 (n + l), wrap64 (n + h))] [lmE (wrap64 (n + l)) (wrap64 (n + h))] _ w9 (fun x hx => by have := hL x hx; have := hG.1.2.2.2.1; simp only [World.size_drew] at *; omega) (by simp) rfl p2 (enters_of Tryd.func74 (by kernel_rfl) rfl) (each_ok ⟨dCheck (wrap64 (n + l)) (wrap64 (n + h)), trivial⟩ rfl)).mono fun r W' ⟨v, h1, h2, h3⟩ => ⟨v, h1, h2, h3.gz⟩
    · intro T w9 hG hD hO Q
      have d0 := hD.1
      have d1 := hD.2.1
      have e0 : (oF 31 T).eval (.tmp 23) = T 23 := oF_eval (by decide)
      have p0 : (fun vv ww => Ck [w.heap.size] vv (fE (!inAll [n, l, h]) 2) ww) (T 23) w9 := d0
      have e1 : (oF 31 T).eval (.tmp 26) = T 26 := oF_eval (by decide)
      have p1 : (fun vv ww => Ck [w.heap.size] vv (firstE [lmE (wrap64 (n + l)) (wrap64 (n + h))]) ww) (T 26) w9 := d1
      refine og_none rfl ?_
      obtain ⟨F0, c0, f0, g0, h0⟩ := p0
      obtain ⟨F1, c1, f1, g1, h1⟩ := p1
      rw [f0] at e0
      rw [f1] at e1
      have kz : Kb w9 (w9.alloc (.cells #[.func (.func F0) #[] c0, .func (.func F1) #[] c1] 69 (0, 0))) := (Kb.refl w9).alloc _
      exact o_val (v := .slice (some ⟨w9.heap.size, 0, none⟩) 2 2) (w' := w9.alloc (.cells #[.func (.func F0) #[] c0, .func (.func F1) #[] c1] 69 (0, 0))) (by generalize (oF 31 T).eval = rr at *; simp [execOp, go_sem, e0, e1]) rfl ⟨[.func (.func F0) #[] c0, .func (.func F1) #[] c1], rfl, sl_is (Is.made w9 _ _) (fun hx => by have := hL _ hx; have := hG.1.2.2.2.1; simp only [World.size_drew] at *; omega) rfl (rows_ok rfl rfl), cks_ok ⟨(Ck.kx ⟨F0, c0, rfl, g0, h0⟩ kz.kx), (Ck.kx ⟨F1, c1, rfl, g1, h1⟩ kz.kx), trivial⟩ rfl⟩ kz.gz
    · intro T w9 hG hD hO Q
      have d0 := hD.1
      have d1 := hD.2.1
      have e0 : (oF 31 T).eval (.func 78) = .func (.func 78) #[] #[] := rfl
      have e1 : (oF 31 T).eval (.tmp 16) = .agg #[.int .i64 (wrap64 (n + l)), .int .i64 (wrap64 (n + h))] := (oF_eval (by decide)).trans (show T 16 = _ from d0)
      have e2 : (oF 31 T).eval (.tmp 27) = T 27 := oF_eval (by decide)
      have p2 : (fun vv ww => SlC [w.heap.size] [fE (!inAll [n, l, h]) 2, firstE [lmE (wrap64 (n + l)) (wrap64 (n + h))]] vv ww) (T 27) w9 := d1
      refine og_none rfl ?_
      refine o_call (oc2 (enters_of Tryd.func78 (by kernel_rfl) rfl) rfl rfl e1 e2) rfl ?_
      exact (cResult_Lim [w.heap.size] [fE (!inAll [n, l, h]) 2, firstE [lmE (wrap64 (n + l)) (wrap64 (n + h))]] _ (wrap64 (n + l)) (wrap64 (n + h)) w9 p2 (by simp)).mono fun r W' h => ⟨_, h.1, rfl, h.2.gz⟩
    · intro T w9 hG hD hO Q
      have d0 := hD.1
      have e0 : (oF 31 T).eval (.tmp 28) = .tuple #[.agg #[.int .i64 (zI (firstE [fE (!inAll [n, l, h]) 2, firstE [lmE (wrap64 (n + l)) (wrap64 (n + h))]]) (wrap64 (n + l))), .int .i64 (zI (firstE [fE (!inAll [n, l, h]) 2, firstE [lmE (wrap64 (n + l)) (wrap64 (n + h))]]) (wrap64 (n + h)))], .int .i64 (firstE [fE (!inAll [n, l, h]) 2, firstE [lmE (wrap64 (n + l)) (wrap64 (n + h))]])] := (oF_eval (by decide)).trans (show T 28 = _ from d0)
      refine og_none rfl ?_
      exact o_val (v := .agg #[.int .i64 (zI (firstE [fE (!inAll [n, l, h]) 2, firstE [lmE (wrap64 (n + l)) (wrap64 (n + h))]]) (wrap64 (n + l))), .int .i64 (zI (firstE [fE (!inAll [n, l, h]) 2, firstE [lmE (wrap64 (n + l)) (wrap64 (n + h))]]) (wrap64 (n + h)))]) (w' := w9) (by generalize (oF 31 T).eval = rr at *; simp [execOp, go_sem, e0]) rfl rfl (Gz.refl _ _ _ _ _)
    · intro T w9 hG hD hO Q
      have d0 := hD.1
      have e0 : (oF 31 T).eval (.tmp 28) = .tuple #[.agg #[.int .i64 (zI (firstE [fE (!inAll [n, l, h]) 2, firstE [lmE (wrap64 (n + l)) (wrap64 (n + h))]]) (wrap64 (n + l))), .int .i64 (zI (firstE [fE (!inAll [n, l, h]) 2, firstE [lmE (wrap64 (n + l)) (wrap64 (n + h))]]) (wrap64 (n + h)))], .int .i64 (firstE [fE (!inAll [n, l, h]) 2, firstE [lmE (wrap64 (n + l)) (wrap64 (n + h))]])] := (oF_eval (by decide)).trans (show T 28 = _ from d0)
      refine og_none rfl ?_
      exact o_val (v := .int .i64 (firstE [fE (!inAll [n, l, h]) 2, firstE [lmE (wrap64 (n + l)) (wrap64 (n + h))]])) (w' := w9) (by generalize (oF 31 T).eval = rr at *; simp [execOp, go_sem, e0]) rfl rfl (Gz.refl _ _ _ _ _)
    · intro T w9 hG hD hO Q
      have d0 := hD.1
      have q0 := hO.1
      have e0 : (oF 31 T).eval (.tmp 6) = .pointer (some ⟨w.heap.size, 0, none⟩) := (oF_eval (by decide)).trans (show T 6 = _ from q0)
      have e1 : (oF 31 T).eval (.tmp 29) = .agg #[.int .i64 (zI (firstE [fE (!inAll [n, l, h]) 2, firstE [lmE (wrap64 (n + l)) (wrap64 (n + h))]]) (wrap64 (n + l))), .int .i64 (zI (firstE [fE (!inAll [n, l, h]) 2, firstE [lmE (wrap64 (n + l)) (wrap64 (n + h))]]) (wrap64 (n + h)))] := (oF_eval (by decide)).trans (show T 29 = _ from d0)
      refine og_none rfl ?_
      have io : Is w9 w.heap.size #[.int .i64 0, .int .i64 0] 25 ∨ Is w9 w.heap.size #[.int .i64 (zI (firstE [fE (!inAll [n, l, h]) 2, firstE [lmE (wrap64 (n + l)) (wrap64 (n + h))]]) (wrap64 (n + l))), .int .i64 (zI (firstE [fE (!inAll [n, l, h]) 2, firstE [lmE (wrap64 (n + l)) (wrap64 (n + h))]]) (wrap64 (n + h)))] 25 := hG.2.2 (.inl b0)
      rcases io with io | io
      · have zn : Is ((w9.setCell ⟨w.heap.size, 0, none⟩ (.int .i64 (zI (firstE [fE (!inAll [n, l, h]) 2, firstE [lmE (wrap64 (n + l)) (wrap64 (n + h))]]) (wrap64 (n + l))))).setCell ⟨w.heap.size, 1, none⟩ (.int .i64 (zI (firstE [fE (!inAll [n, l, h]) 2, firstE [lmE (wrap64 (n + l)) (wrap64 (n + h))]]) (wrap64 (n + h))))) w.heap.size #[.int .i64 (zI (firstE [fE (!inAll [n, l, h]) 2, firstE [lmE (wrap64 (n + l)) (wrap64 (n + h))]]) (wrap64 (n + l))), .int .i64 (zI (firstE [fE (!inAll [n, l, h]) 2, firstE [lmE (wrap64 (n + l)) (wrap64 (n + h))]]) (wrap64 (n + h)))] 25 := ((io.set 0 (.int .i64 (zI (firstE [fE (!inAll [n, l, h]) 2, firstE [lmE (wrap64 (n + l)) (wrap64 (n + h))]]) (wrap64 (n + l))))).set 1 (.int .i64 (zI (firstE [fE (!inAll [n, l, h]) 2, firstE [lmE (wrap64 (n + l)) (wrap64 (n + h))]]) (wrap64 (n + h)))))
        have kx : Kx [w.heap.size] w9 ((w9.setCell ⟨w.heap.size, 0, none⟩ (.int .i64 (zI (firstE [fE (!inAll [n, l, h]) 2, firstE [lmE (wrap64 (n + l)) (wrap64 (n + h))]]) (wrap64 (n + l))))).setCell ⟨w.heap.size, 1, none⟩ (.int .i64 (zI (firstE [fE (!inAll [n, l, h]) 2, firstE [lmE (wrap64 (n + l)) (wrap64 (n + h))]]) (wrap64 (n + h))))) := (((Kx.refl _ _).trans (Kx.set [w.heap.size] _ (by simp) (.int .i64 (zI (firstE [fE (!inAll [n, l, h]) 2, firstE [lmE (wrap64 (n + l)) (wrap64 (n + h))]]) (wrap64 (n + l)))))).trans (Kx.set [w.heap.size] _ (by simp) (.int .i64 (zI (firstE [fE (!inAll [n, l, h]) 2, firstE [lmE (wrap64 (n + l)) (wrap64 (n + h))]]) (wrap64 (n + h))))))
        have m0 := io.c (i := 0) rfl
        have f0 := io.f 0
        have m1 := io.c (i := 1) rfl
        have f1 := io.f 1
        clear io
        exact o_skip (w' := ((w9.setCell ⟨w.heap.size, 0, none⟩ (.int .i64 (zI (firstE [fE (!inAll [n, l, h]) 2, firstE [lmE (wrap64 (n + l)) (wrap64 (n + h))]]) (wrap64 (n + l))))).setCell ⟨w.heap.size, 1, none⟩ (.int .i64 (zI (firstE [fE (!inAll [n, l, h]) 2, firstE [lmE (wrap64 (n + l)) (wrap64 (n + h))]]) (wrap64 (n + h)))))) (by generalize (oF 31 T).eval = rr at *; simp [execOp, go_sem, e0, e1, m0, f0, m1, f1]) rfl zn ⟨kx, fun _ => zn, fun _ => .inr zn⟩
      · have zn : Is ((w9.setCell ⟨w.heap.size, 0, none⟩ (.int .i64 (zI (firstE [fE (!inAll [n, l, h]) 2, firstE [lmE (wrap64 (n + l)) (wrap64 (n + h))]]) (wrap64 (n + l))))).setCell ⟨w.heap.size, 1, none⟩ (.int .i64 (zI (firstE [fE (!inAll [n, l, h]) 2, firstE [lmE (wrap64 (n + l)) (wrap64 (n + h))]]) (wrap64 (n + h))))) w.heap.size #[.int .i64 (zI (firstE [fE (!inAll [n, l, h]) 2, firstE [lmE (wrap64 (n + l)) (wrap64 (n + h))]]) (wrap64 (n + l))), .int .i64 (zI (firstE [fE (!inAll [n, l, h]) 2, firstE [lmE (wrap64 (n + l)) (wrap64 (n + h))]]) (wrap64 (n + h)))] 25 := ((io.set 0 (.int .i64 (zI (firstE [fE (!inAll [n, l, h]) 2, firstE [lmE (wrap64 (n + l)) (wrap64 (n + h))]]) (wrap64 (n + l))))).set 1 (.int .i64 (zI (firstE [fE (!inAll [n, l, h]) 2, firstE [lmE (wrap64 (n + l)) (wrap64 (n + h))]]) (wrap64 (n + h)))))
        have kx : Kx [w.heap.size] w9 ((w9.setCell ⟨w.heap.size, 0, none⟩ (.int .i64 (zI (firstE [fE (!inAll [n, l, h]) 2, firstE [lmE (wrap64 (n + l)) (wrap64 (n + h))]]) (wrap64 (n + l))))).setCell ⟨w.heap.size, 1, none⟩ (.int .i64 (zI (firstE [fE (!inAll [n, l, h]) 2, firstE [lmE (wrap64 (n + l)) (wrap64 (n + h))]]) (wrap64 (n + h))))) := (((Kx.refl _ _).trans (Kx.set [w.heap.size] _ (by simp) (.int .i64 (zI (firstE [fE (!inAll [n, l, h]) 2, firstE [lmE (wrap64 (n + l)) (wrap64 (n + h))]]) (wrap64 (n + l)))))).trans (Kx.set [w.heap.size] _ (by simp) (.int .i64 (zI (firstE [fE (!inAll [n, l, h]) 2, firstE [lmE (wrap64 (n + l)) (wrap64 (n + h))]]) (wrap64 (n + h))))))
        have m0 := io.c (i := 0) rfl
        have f0 := io.f 0
        have m1 := io.c (i := 1) rfl
        have f1 := io.f 1
        clear io
        exact o_skip (w' := ((w9.setCell ⟨w.heap.size, 0, none⟩ (.int .i64 (zI (firstE [fE (!inAll [n, l, h]) 2, firstE [lmE (wrap64 (n + l)) (wrap64 (n + h))]]) (wrap64 (n + l))))).setCell ⟨w.heap.size, 1, none⟩ (.int .i64 (zI (firstE [fE (!inAll [n, l, h]) 2, firstE [lmE (wrap64 (n + l)) (wrap64 (n + h))]]) (wrap64 (n + h)))))) (by generalize (oF 31 T).eval = rr at *; simp [execOp, go_sem, e0, e1, m0, f0, m1, f1]) rfl zn ⟨kx, fun _ => zn, fun _ => .inr zn⟩
    · intro T w9 hG hD hO Q
      have d0 := hD.1
      have e0 : (oF 31 T).eval (.tmp 30) = .int .i64 (firstE [fE (!inAll [n, l, h]) 2, firstE [lmE (wrap64 (n + l)) (wrap64 (n + h))]]) := (oF_eval (by decide)).trans (show T 30 = _ from d0)
      refine og_none rfl ?_
      exact o_val (v := .int .i64 (firstE [fE (!inAll [n, l, h]) 2, firstE [lmE (wrap64 (n + l)) (wrap64 (n + h))]])) (w' := w9) (by generalize (oF 31 T).eval = rr at *; simp [execOp, go_sem, e0]) rfl rfl (Gz.refl _ _ _ _ _)
  case fin =>
    intro T w7 hout hval hG
    rw [show oF 31 T = (⟨#[T 0, T 1, T 2, T 3, T 4, T 5, T 6, T 7, T 8, T 9, T 10, T 11, T 12, T 13, T 14, T 15, T 16, T 17, T 18, T 19, T 20, T 21, T 22, T 23, T 24, T 25, T 26, T 27, T 28, T 29, T 30], []⟩ : Act) from oF_list 31 T]
    rw [show T 6 = .pointer (some ⟨w.heap.size, 0, none⟩) from hout 6 rfl]
    rw [show T 7 = .int .i64 (firstE [fE (!inAll [n, l, h]) 2, firstE [lmE (wrap64 (n + l)) (wrap64 (n + h))]]) from hval 16 (by decide : 16 < 17)]
    have kb := hG.old k0.drew (by omega)
    have io := hval 15 (by decide)
    clear hout hval
    replace io : Is w7 (w.heap.size) #[.int .i64 (zI (firstE [fE (!inAll [n, l, h]) 2, firstE [lmE (wrap64 (n + l)) (wrap64 (n + h))]]) (wrap64 (n + l))), .int .i64 (zI (firstE [fE (!inAll [n, l, h]) 2, firstE [lmE (wrap64 (n + l)) (wrap64 (n + h))]]) (wrap64 (n + h)))] 25 := io
    go_wp2
    refine ret_row2 Tryd.results53 rfl rfl rfl io Tryd.underlying25 rfl (by kernel_rfl) ?_
    exact ⟨rfl, kb⟩








































































































































































































































































































end Go.Proofs.YtdmfkgopalelgaaDoor
