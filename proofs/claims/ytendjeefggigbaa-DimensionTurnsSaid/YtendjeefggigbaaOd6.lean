/- The laws' examples of package dimension: awake returns true. -/
import Derived.Test.YtendjeefggigbaaOd5
import Derived.Test.YtendjeefggigbaaOf2
namespace Go.Proofs.Ytendjeefggigbaa
open Go.RowKit

def jnE (f t : ByteArray) (a l h : Int) (g u : ByteArray) (c m k : Int) : Int := firstE [firstE [vdE f t a l h, vdE g u c m k], fE (a != c || !(t.toList == g.toList)) 8, fE (f.toList == u.toList) 7, firstE [lmE (wrap64 (l + m)) (wrap64 (h + k))]]
theorem Ca.out {n : Nat} {args : Array Value} {v : Value} (h : Ca n args v) (W : World) : Calls Try.prog n args W fun r w' => r = .returned v ∧ Kb W w' := h W
set_option maxRecDepth 100000 in
set_option maxHeartbeats 1000000 in
theorem alimits (l h : Int) : Ca 38 #[.int .i64 l, .int .i64 h] (.agg #[.int .i64 l, .int .i64 h]) := Lib.hid fun w => by
  have kk := (Kb.refl w).alloc (.cells #[.int .i64 l, .int .i64 h] 23 (0, 0))
  have is := Is.made w #[.int .i64 l, .int .i64 h] 23
  go_enter Try.func38, Try.ntmps38
  go_wp2
  refine ret_row Try.results38 rfl rfl is Try.underlying23 rfl (by kernel_rfl) ?_
  exact ⟨rfl, kk⟩
theorem aw_of : Ca 12 #[.int .i64 10000, .int .i64 (-50), .int .i64 20] (.tuple #[.agg #[.int .i64 9950, .int .i64 10020], .int .i64 0]) := by
  have h := dOf 10000 (-50) 20
  rw [show ofE 10000 (-50) 20 = 0 by decide +kernel, zI_0, zI_0, show wrap64 (10000 + -50) = 9950 by decide +kernel, show wrap64 (10000 + 20) = 10020 by decide +kernel] at h
  exact h
theorem aw_m1 : Ca 24 #[.agg #[.int .i64 9950, .int .i64 10020], .agg #[.int .i64 10010, .int .i64 10100]] (.tuple #[.agg #[.int .i64 10010, .int .i64 10020], .int .i64 0]) := dMeet 9950 10020 10010 10100
theorem aw_m2 : Ca 24 #[.agg #[.int .i64 9950, .int .i64 10020], .agg #[.int .i64 10030, .int .i64 10100]] (.tuple #[.agg #[.int .i64 0, .int .i64 0], .int .i64 16]) := dMeet 9950 10020 10030 10100
theorem dJoin (f t : ByteArray) (a l h : Int) (hf : f.size ≤ 1000000) (ht : t.size ≤ 1000000) (g u : ByteArray) (c m k : Int) (hg : g.size ≤ 1000000) (hu : u.size ≤ 1000000) : Ca 31 #[.agg #[.string f, .string t, .int .i64 a, .int .i64 l, .int .i64 h], .agg #[.string g, .string u, .int .i64 c, .int .i64 m, .int .i64 k]]
    (.tuple #[.agg #[.string (zS (jnE f t a l h g u c m k) f), .string (zS (jnE f t a l h g u c m k) u), .int .i64 (zI (jnE f t a l h g u c m k) a), .int .i64 (zI (jnE f t a l h g u c m k) (wrap64 (l + m))), .int .i64 (zI (jnE f t a l h g u c m k) (wrap64 (h + k)))], .int .i64 (jnE f t a l h g u c m k)]) := Lib.hid fun w => dJoin_any f t a l h hf ht g u c m k hg hu w
theorem dReverse (f t : ByteArray) (a l h : Int) (hf : f.size ≤ 1000000) (ht : t.size ≤ 1000000) : Ca 29 #[.agg #[.string f, .string t, .int .i64 a, .int .i64 l, .int .i64 h]]
    (.tuple #[.agg #[.string (zS (vdE f t a l h) t), .string (zS (vdE f t a l h) f), .int .i64 (zI (vdE f t a l h) a), .int .i64 (zI (vdE f t a l h) (wrap64 (-h))), .int .i64 (zI (vdE f t a l h) (wrap64 (-l)))], .int .i64 (vdE f t a l h)]) := Lib.hid fun w => by
  have := dReverse_any f t a l h hf ht w
  rw [firstE_one, firstE_one] at this
  exact this
theorem aw_j : Ca 31 #[.agg #[.string ⟨#[65]⟩, .string ⟨#[66]⟩, .int .i64 0, .int .i64 100, .int .i64 110], .agg #[.string ⟨#[66]⟩, .string ⟨#[67]⟩, .int .i64 0, .int .i64 (-20), .int .i64 5]] (.tuple #[.agg #[.string ⟨#[65]⟩, .string ⟨#[67]⟩, .int .i64 0, .int .i64 80, .int .i64 115], .int .i64 0]) := by
  have h := dJoin ⟨#[65]⟩ ⟨#[66]⟩ 0 100 110 (by decide) (by decide) ⟨#[66]⟩ ⟨#[67]⟩ 0 (-20) 5 (by decide) (by decide)
  rw [show jnE ⟨#[65]⟩ ⟨#[66]⟩ 0 100 110 ⟨#[66]⟩ ⟨#[67]⟩ 0 (-20) 5 = 0 by decide +kernel, zS_0, zS_0, zI_0, zI_0, zI_0, show wrap64 (100 + -20) = 80 by decide +kernel, show wrap64 (110 + 5) = 115 by decide +kernel] at h
  exact h
theorem aw_r : Ca 29 #[.agg #[.string ⟨#[65]⟩, .string ⟨#[67]⟩, .int .i64 0, .int .i64 80, .int .i64 115]] (.tuple #[.agg #[.string ⟨#[67]⟩, .string ⟨#[65]⟩, .int .i64 0, .int .i64 (-115), .int .i64 (-80)], .int .i64 0]) := by
  have h := dReverse ⟨#[65]⟩ ⟨#[67]⟩ 0 80 115 (by decide) (by decide)
  rw [show vdE ⟨#[65]⟩ ⟨#[67]⟩ 0 80 115 = 0 by decide +kernel, zS_0, zS_0, zI_0, zI_0, zI_0, show wrap64 (-115) = -115 by decide +kernel, show wrap64 (-80) = -80 by decide +kernel] at h
  exact h
theorem aw_n1 : Ca 14 #[.string ⟨#[65, 49]⟩] (.int .i64 0) := by
  have h := dName ⟨#[65, 49]⟩ (by decide)
  rw [show nmE ⟨#[65, 49]⟩ = 0 by decide +kernel] at h
  exact h
theorem aw_n2 : Ca 14 #[.string ⟨#[49, 65]⟩] (.int .i64 3) := by
  have h := dName ⟨#[49, 65]⟩ (by decide)
  rw [show nmE ⟨#[49, 65]⟩ = 3 by decide +kernel] at h
  exact h
theorem aw_n3 : Ca 14 #[.string ⟨#[65, 95, 49]⟩] (.int .i64 3) := by
  have h := dName ⟨#[65, 95, 49]⟩ (by decide)
  rw [show nmE ⟨#[65, 95, 49]⟩ = 3 by decide +kernel] at h
  exact h
set_option maxRecDepth 100000 in
set_option maxHeartbeats 4000000 in
theorem awake_any (w : World) : Calls Try.prog 11 #[] w fun r W' => r = .returned (.bool true) ∧ Kb w W' := by
  have kx := Kb.refl w
  have q0 := aw_of
  have q1 := aw_m1
  have q2 := aw_m2
  have q3 := aw_j
  have q4 := aw_r
  have q5 := aw_n1
  have q6 := aw_n2
  have q7 := aw_n3
  have ql := fun l h => alimits l h
  unfold Ca at q0 q1 q2 q3 q4 q5 q6 q7
  go_enter Try.func11, Try.ntmps11
  go_wp2_with fail
  (with_reducible refine (q0.out _).mono ?_)
  rintro r w1 ⟨rfl, k1⟩
  replace kx := kx.trans k1
  clear k1
  have p1 := Is.made w1 #[.int .i64 9950, .int .i64 10020] 23
  replace kx := kx.alloc (.cells #[.int .i64 9950, .int .i64 10020] 23 (0, 0))
  have p1_0 := p1.c (i := 0) rfl
  have p1_1 := p1.c (i := 1) rfl
  go_wp2_with fail
  clear p1_0 p1_1
  replace p1 := p1.drew
  rw [oF_lit]
  refine o_law (⟨84, [some 16, some 17, some 18, some 15, some 19, some 20, some 3, none, some 4], [16, 17, 18, 15, 19, 20, 3, 3, 4], [[], [], [0, 1], [2], [3], [3], [], [6, 4], [5]], [[1], [], [], [], [], [], [], [], []]⟩ : OT) (Gn ((w1.alloc (.cells #[.int .i64 9950, .int .i64 10020] 23 (0, 0))).heap.size) #[.int .i64 0, .int .i64 0] #[.int .i64 10010, .int .i64 10020] 23) (RL [fun vv _ => vv = .agg #[.int .i64 9950, .int .i64 10020], fun vv _ => vv = .agg #[.int .i64 10010, .int .i64 10100], fun vv _ => vv = .tuple #[.agg #[.int .i64 10010, .int .i64 10020], .int .i64 0], fun vv _ => vv = .tuple #[.agg #[.int .i64 10010, .int .i64 10020], .int .i64 0], fun vv _ => vv = .agg #[.int .i64 10010, .int .i64 10020], fun vv _ => vv = .int .i64 0, An ((w1.alloc (.cells #[.int .i64 9950, .int .i64 10020] 23 (0, 0))).heap.size) #[.int .i64 0, .int .i64 0] #[.int .i64 10010, .int .i64 10020] 23, Sn ((w1.alloc (.cells #[.int .i64 9950, .int .i64 10020] 23 (0, 0))).heap.size) #[.int .i64 10010, .int .i64 10020] 23, fun vv _ => vv = .int .i64 0]) (by kernel_rfl) ?hk ?hR ?fin
  case hk => kernel_rfl
  case hR =>
    refine ⟨fun _ => (Gn.refl _ _ _ _ _), fun _ _ _ => Gn.trans, rl_stab ⟨fun _ _ _ _ h => h, fun _ _ _ _ h => h, fun _ _ _ _ h => h, fun _ _ _ _ h => h, fun _ _ _ _ h => h, fun _ _ _ _ h => h, (fun v w w' k h => h.gn k), (fun v w w' k h => h.gn k), fun _ _ _ _ h => h, trivial⟩, ?_⟩
    refine allO_cons ?_ (allO_cons ?_ (allO_cons ?_ (allO_cons ?_ (allO_cons ?_ (allO_cons ?_ (allO_cons ?_ (allO_cons ?_ (allO_cons ?_ (allO_nil)))))))))
    · intro T w9 hG hD hO Q
      have q0 := hO.1
      have e0 : (oF 84 T).eval (.tmp 1) = .pointer (some ⟨w1.heap.size, 0, none⟩) := (oF_eval (by decide)).trans (show T 1 = _ from q0)
      refine og_none rfl ?_
      have im := p1.gn hG p1.lt
      have m0 := im.c (i := 0) rfl
      have m1 := im.c (i := 1) rfl
      clear im
      exact o_val (v := .agg #[.int .i64 9950, .int .i64 10020]) (w' := w9) (by generalize (oF 84 T).eval = rr at *; simp [execOp, go_sem, e0, m0, m1]) rfl rfl (Gn.refl _ _ _ _ _)
    · intro T w9 hG hD hO Q
      have e0 : (oF 84 T).eval (.func 38) = .func (.func 38) #[] #[] := rfl
      have e1 : (oF 84 T).eval (.const (.int .i64 10010)) = .int .i64 10010 := rfl
      have e2 : (oF 84 T).eval (.const (.int .i64 10100)) = .int .i64 10100 := rfl
      refine og_none rfl ?_
      refine o_call (oc2 (enters_of Try.func38 (by kernel_rfl) rfl) rfl rfl e1 e2) rfl ?_
      exact ((ql _ _).out w9).mono fun r W' h => ⟨_, h.1, rfl, h.2.gn⟩
    · intro T w9 hG hD hO Q
      have d0 := hD.1
      have d1 := hD.2.1
      have e0 : (oF 84 T).eval (.func 24) = .func (.func 24) #[] #[] := rfl
      have e1 : (oF 84 T).eval (.tmp 16) = .agg #[.int .i64 9950, .int .i64 10020] := (oF_eval (by decide)).trans (show T 16 = _ from d0)
      have e2 : (oF 84 T).eval (.tmp 17) = .agg #[.int .i64 10010, .int .i64 10100] := (oF_eval (by decide)).trans (show T 17 = _ from d1)
      refine og_none rfl ?_
      refine o_call (oc2 (enters_of Try.func24 (by kernel_rfl) rfl) rfl rfl e1 e2) rfl ?_
      exact (q1.out w9).mono fun r W' h => ⟨_, h.1, rfl, h.2.gn⟩
    · intro T w9 hG hD hO Q
      have d0 := hD.1
      have e0 : (oF 84 T).eval (.tmp 18) = .tuple #[.agg #[.int .i64 10010, .int .i64 10020], .int .i64 0] := (oF_eval (by decide)).trans (show T 18 = _ from d0)
      refine og_none rfl ?_
      exact o_val (v := .tuple #[.agg #[.int .i64 10010, .int .i64 10020], .int .i64 0]) (w' := w9) (by generalize (oF 84 T).eval = rr at *; simp [execOp, go_sem, e0]) rfl rfl (Gn.refl _ _ _ _ _)
    · intro T w9 hG hD hO Q
      have d0 := hD.1
      have e0 : (oF 84 T).eval (.tmp 15) = .tuple #[.agg #[.int .i64 10010, .int .i64 10020], .int .i64 0] := (oF_eval (by decide)).trans (show T 15 = _ from d0)
      refine og_none rfl ?_
      exact o_val (v := .agg #[.int .i64 10010, .int .i64 10020]) (w' := w9) (by generalize (oF 84 T).eval = rr at *; simp [execOp, go_sem, e0]) rfl rfl (Gn.refl _ _ _ _ _)
    · intro T w9 hG hD hO Q
      have d0 := hD.1
      have e0 : (oF 84 T).eval (.tmp 15) = .tuple #[.agg #[.int .i64 10010, .int .i64 10020], .int .i64 0] := (oF_eval (by decide)).trans (show T 15 = _ from d0)
      refine og_none rfl ?_
      exact o_val (v := .int .i64 0) (w' := w9) (by generalize (oF 84 T).eval = rr at *; simp [execOp, go_sem, e0]) rfl rfl (Gn.refl _ _ _ _ _)
    · intro T w9 hG hD hO Q
      refine og_none rfl ?_
      have kz : Kb w9 (w9.alloc (.cells #[.int .i64 0, .int .i64 0] 23 (0, 0))) := (Kb.refl w9).alloc _
      exact o_val (v := .pointer (some ⟨w9.heap.size, 0, none⟩)) (w' := w9.alloc (.cells #[.int .i64 0, .int .i64 0] 23 (0, 0))) (by simp [execOp, go_sem]) rfl ⟨_, rfl, (by have := hG.2.2.2.1; simp only [World.size_drew] at *; (try simp only [World.size_alloc] at *); omega), .inl (Is.made w9 _ _)⟩ kz.gn
    · intro T w9 hG hD hO Q
      have d0 := hD.1
      have d1 := hD.2.1
      have e0 : (oF 84 T).eval (.tmp 3) = T 3 := oF_eval (by decide)
      have p0 : (An ((w1.alloc (.cells #[.int .i64 9950, .int .i64 10020] 23 (0, 0))).heap.size) #[.int .i64 0, .int .i64 0] #[.int .i64 10010, .int .i64 10020] 23) (T 3) w9 := d0
      have e1 : (oF 84 T).eval (.tmp 19) = .agg #[.int .i64 10010, .int .i64 10020] := (oF_eval (by decide)).trans (show T 19 = _ from d1)
      refine og_none rfl ?_
      obtain ⟨g, hg, hge, io⟩ := p0
      rw [hg] at e0
      rcases io with io | io
      · obtain ⟨zn, pt⟩ := put2 io (.int .i64 10010) (.int .i64 10020)
        have gn : Gn ((w1.alloc (.cells #[.int .i64 9950, .int .i64 10020] 23 (0, 0))).heap.size) #[.int .i64 0, .int .i64 0] #[.int .i64 10010, .int .i64 10020] 23 w9 _ := pt.gn zn (.inl io) hge
        have m0 := io.c (i := 0) rfl
        have f0 := io.f 0
        have m1 := io.c (i := 1) rfl
        have f1 := io.f 1
        clear io
        exact o_skip (w' := ((w9.setCell ⟨g, 0, none⟩ (.int .i64 10010)).setCell ⟨g, 1, none⟩ (.int .i64 10020))) (by generalize (oF 84 T).eval = rr at *; simp [execOp, go_sem, e0, e1, m0, f0, m1, f1]) rfl ⟨g, hg, hge, zn⟩ gn
      · obtain ⟨zn, pt⟩ := put2 io (.int .i64 10010) (.int .i64 10020)
        have gn : Gn ((w1.alloc (.cells #[.int .i64 9950, .int .i64 10020] 23 (0, 0))).heap.size) #[.int .i64 0, .int .i64 0] #[.int .i64 10010, .int .i64 10020] 23 w9 _ := pt.gn zn (.inr io) hge
        have m0 := io.c (i := 0) rfl
        have f0 := io.f 0
        have m1 := io.c (i := 1) rfl
        have f1 := io.f 1
        clear io
        exact o_skip (w' := ((w9.setCell ⟨g, 0, none⟩ (.int .i64 10010)).setCell ⟨g, 1, none⟩ (.int .i64 10020))) (by generalize (oF 84 T).eval = rr at *; simp [execOp, go_sem, e0, e1, m0, f0, m1, f1]) rfl ⟨g, hg, hge, zn⟩ gn
    · intro T w9 hG hD hO Q
      have d0 := hD.1
      have e0 : (oF 84 T).eval (.tmp 20) = .int .i64 0 := (oF_eval (by decide)).trans (show T 20 = _ from d0)
      refine og_none rfl ?_
      exact o_val (v := .int .i64 0) (w' := w9) (by generalize (oF 84 T).eval = rr at *; simp [execOp, go_sem, e0]) rfl rfl (Gn.refl _ _ _ _ _)
  case fin =>
    intro T w2 hout hval hG
    rw [show oF 84 T = (⟨#[T 0, T 1, T 2, T 3, T 4, T 5, T 6, T 7, T 8, T 9, T 10, T 11, T 12, T 13, T 14, T 15, T 16, T 17, T 18, T 19, T 20, T 21, T 22, T 23, T 24, T 25, T 26, T 27, T 28, T 29, T 30, T 31, T 32, T 33, T 34, T 35, T 36, T 37, T 38, T 39, T 40, T 41, T 42, T 43, T 44, T 45, T 46, T 47, T 48, T 49, T 50, T 51, T 52, T 53, T 54, T 55, T 56, T 57, T 58, T 59, T 60, T 61, T 62, T 63, T 64, T 65, T 66, T 67, T 68, T 69, T 70, T 71, T 72, T 73, T 74, T 75, T 76, T 77, T 78, T 79, T 80, T 81, T 82, T 83], []⟩ : Act) from oF_list 84 T]
    rw [show T 1 = .pointer (some ⟨w1.heap.size, 0, none⟩) from hout 1 rfl]
    rw [show T 2 = .int .i64 0 from hout 2 rfl]
    rw [show T 4 = .int .i64 0 from hval 8 (by decide : 8 < 9)]
    obtain ⟨g3, eg, hge, p3⟩ := hval 7 (by decide)
    replace eg : T 3 = _ := eg
    rw [eg]
    replace p1 := p1.gn hG p1.lt
    replace kx := hG.old kx.drew kx.size
    clear hout hval hG eg hge
    have p1_0 := p1.c (i := 0) rfl
    have p1_1 := p1.c (i := 1) rfl
    have p3_0 := p3.c (i := 0) rfl
    have p3_1 := p3.c (i := 1) rfl
    go_wp2_with fail
    clear p1_0 p1_1 p3_0 p3_1
    replace p1 := p1.drew
    replace p3 := p3.drew
    rw [oF_lit]
    refine o_law (⟨84, [some 22, some 23, some 24, some 21, some 25, some 26, some 5, none, some 6], [22, 23, 24, 21, 25, 26, 5, 5, 6], [[], [], [0, 1], [2], [3], [3], [], [6, 4], [5]], [[1], [], [], [], [], [], [], [], []]⟩ : OT) (Gn w2.heap.size #[.int .i64 0, .int .i64 0] #[.int .i64 0, .int .i64 0] 23) (RL [fun vv _ => vv = .agg #[.int .i64 9950, .int .i64 10020], fun vv _ => vv = .agg #[.int .i64 10030, .int .i64 10100], fun vv _ => vv = .tuple #[.agg #[.int .i64 0, .int .i64 0], .int .i64 16], fun vv _ => vv = .tuple #[.agg #[.int .i64 0, .int .i64 0], .int .i64 16], fun vv _ => vv = .agg #[.int .i64 0, .int .i64 0], fun vv _ => vv = .int .i64 16, An w2.heap.size #[.int .i64 0, .int .i64 0] #[.int .i64 0, .int .i64 0] 23, Sn w2.heap.size #[.int .i64 0, .int .i64 0] 23, fun vv _ => vv = .int .i64 16]) (by kernel_rfl) ?hk ?hR ?fin
    case hk => kernel_rfl
    case hR =>
      refine ⟨fun _ => (Gn.refl _ _ _ _ _), fun _ _ _ => Gn.trans, rl_stab ⟨fun _ _ _ _ h => h, fun _ _ _ _ h => h, fun _ _ _ _ h => h, fun _ _ _ _ h => h, fun _ _ _ _ h => h, fun _ _ _ _ h => h, (fun v w w' k h => h.gn k), (fun v w w' k h => h.gn k), fun _ _ _ _ h => h, trivial⟩, ?_⟩
      refine allO_cons ?_ (allO_cons ?_ (allO_cons ?_ (allO_cons ?_ (allO_cons ?_ (allO_cons ?_ (allO_cons ?_ (allO_cons ?_ (allO_cons ?_ (allO_nil)))))))))
      · intro T w9 hG hD hO Q
        have q0 := hO.1
        have e0 : (oF 84 T).eval (.tmp 1) = .pointer (some ⟨w1.heap.size, 0, none⟩) := (oF_eval (by decide)).trans (show T 1 = _ from q0)
        refine og_none rfl ?_
        have im := p1.gn hG p1.lt
        have m0 := im.c (i := 0) rfl
        have m1 := im.c (i := 1) rfl
        clear im
        exact o_val (v := .agg #[.int .i64 9950, .int .i64 10020]) (w' := w9) (by generalize (oF 84 T).eval = rr at *; simp [execOp, go_sem, e0, m0, m1]) rfl rfl (Gn.refl _ _ _ _ _)
      · intro T w9 hG hD hO Q
        have e0 : (oF 84 T).eval (.func 38) = .func (.func 38) #[] #[] := rfl
        have e1 : (oF 84 T).eval (.const (.int .i64 10030)) = .int .i64 10030 := rfl
        have e2 : (oF 84 T).eval (.const (.int .i64 10100)) = .int .i64 10100 := rfl
        refine og_none rfl ?_
        refine o_call (oc2 (enters_of Try.func38 (by kernel_rfl) rfl) rfl rfl e1 e2) rfl ?_
        exact ((ql _ _).out w9).mono fun r W' h => ⟨_, h.1, rfl, h.2.gn⟩
      · intro T w9 hG hD hO Q
        have d0 := hD.1
        have d1 := hD.2.1
        have e0 : (oF 84 T).eval (.func 24) = .func (.func 24) #[] #[] := rfl
        have e1 : (oF 84 T).eval (.tmp 22) = .agg #[.int .i64 9950, .int .i64 10020] := (oF_eval (by decide)).trans (show T 22 = _ from d0)
        have e2 : (oF 84 T).eval (.tmp 23) = .agg #[.int .i64 10030, .int .i64 10100] := (oF_eval (by decide)).trans (show T 23 = _ from d1)
        refine og_none rfl ?_
        refine o_call (oc2 (enters_of Try.func24 (by kernel_rfl) rfl) rfl rfl e1 e2) rfl ?_
        exact (q2.out w9).mono fun r W' h => ⟨_, h.1, rfl, h.2.gn⟩
      · intro T w9 hG hD hO Q
        have d0 := hD.1
        have e0 : (oF 84 T).eval (.tmp 24) = .tuple #[.agg #[.int .i64 0, .int .i64 0], .int .i64 16] := (oF_eval (by decide)).trans (show T 24 = _ from d0)
        refine og_none rfl ?_
        exact o_val (v := .tuple #[.agg #[.int .i64 0, .int .i64 0], .int .i64 16]) (w' := w9) (by generalize (oF 84 T).eval = rr at *; simp [execOp, go_sem, e0]) rfl rfl (Gn.refl _ _ _ _ _)
      · intro T w9 hG hD hO Q
        have d0 := hD.1
        have e0 : (oF 84 T).eval (.tmp 21) = .tuple #[.agg #[.int .i64 0, .int .i64 0], .int .i64 16] := (oF_eval (by decide)).trans (show T 21 = _ from d0)
        refine og_none rfl ?_
        exact o_val (v := .agg #[.int .i64 0, .int .i64 0]) (w' := w9) (by generalize (oF 84 T).eval = rr at *; simp [execOp, go_sem, e0]) rfl rfl (Gn.refl _ _ _ _ _)
      · intro T w9 hG hD hO Q
        have d0 := hD.1
        have e0 : (oF 84 T).eval (.tmp 21) = .tuple #[.agg #[.int .i64 0, .int .i64 0], .int .i64 16] := (oF_eval (by decide)).trans (show T 21 = _ from d0)
        refine og_none rfl ?_
        exact o_val (v := .int .i64 16) (w' := w9) (by generalize (oF 84 T).eval = rr at *; simp [execOp, go_sem, e0]) rfl rfl (Gn.refl _ _ _ _ _)
      · intro T w9 hG hD hO Q
        refine og_none rfl ?_
        have kz : Kb w9 (w9.alloc (.cells #[.int .i64 0, .int .i64 0] 23 (0, 0))) := (Kb.refl w9).alloc _
        exact o_val (v := .pointer (some ⟨w9.heap.size, 0, none⟩)) (w' := w9.alloc (.cells #[.int .i64 0, .int .i64 0] 23 (0, 0))) (by simp [execOp, go_sem]) rfl ⟨_, rfl, (by have := hG.2.2.2.1; simp only [World.size_drew] at *; (try simp only [World.size_alloc] at *); omega), .inl (Is.made w9 _ _)⟩ kz.gn
      · intro T w9 hG hD hO Q
        have d0 := hD.1
        have d1 := hD.2.1
        have e0 : (oF 84 T).eval (.tmp 5) = T 5 := oF_eval (by decide)
        have p0 : (An w2.heap.size #[.int .i64 0, .int .i64 0] #[.int .i64 0, .int .i64 0] 23) (T 5) w9 := d0
        have e1 : (oF 84 T).eval (.tmp 25) = .agg #[.int .i64 0, .int .i64 0] := (oF_eval (by decide)).trans (show T 25 = _ from d1)
        refine og_none rfl ?_
        obtain ⟨g, hg, hge, io⟩ := p0
        rw [hg] at e0
        rcases io with io | io
        · obtain ⟨zn, pt⟩ := put2 io (.int .i64 0) (.int .i64 0)
          have gn : Gn w2.heap.size #[.int .i64 0, .int .i64 0] #[.int .i64 0, .int .i64 0] 23 w9 _ := pt.gn zn (.inl io) hge
          have m0 := io.c (i := 0) rfl
          have f0 := io.f 0
          have m1 := io.c (i := 1) rfl
          have f1 := io.f 1
          clear io
          exact o_skip (w' := ((w9.setCell ⟨g, 0, none⟩ (.int .i64 0)).setCell ⟨g, 1, none⟩ (.int .i64 0))) (by generalize (oF 84 T).eval = rr at *; simp [execOp, go_sem, e0, e1, m0, f0, m1, f1]) rfl ⟨g, hg, hge, zn⟩ gn
        · obtain ⟨zn, pt⟩ := put2 io (.int .i64 0) (.int .i64 0)
          have gn : Gn w2.heap.size #[.int .i64 0, .int .i64 0] #[.int .i64 0, .int .i64 0] 23 w9 _ := pt.gn zn (.inr io) hge
          have m0 := io.c (i := 0) rfl
          have f0 := io.f 0
          have m1 := io.c (i := 1) rfl
          have f1 := io.f 1
          clear io
          exact o_skip (w' := ((w9.setCell ⟨g, 0, none⟩ (.int .i64 0)).setCell ⟨g, 1, none⟩ (.int .i64 0))) (by generalize (oF 84 T).eval = rr at *; simp [execOp, go_sem, e0, e1, m0, f0, m1, f1]) rfl ⟨g, hg, hge, zn⟩ gn
      · intro T w9 hG hD hO Q
        have d0 := hD.1
        have e0 : (oF 84 T).eval (.tmp 26) = .int .i64 16 := (oF_eval (by decide)).trans (show T 26 = _ from d0)
        refine og_none rfl ?_
        exact o_val (v := .int .i64 16) (w' := w9) (by generalize (oF 84 T).eval = rr at *; simp [execOp, go_sem, e0]) rfl rfl (Gn.refl _ _ _ _ _)
    case fin =>
      intro T w3 hout hval hG
      rw [show oF 84 T = (⟨#[T 0, T 1, T 2, T 3, T 4, T 5, T 6, T 7, T 8, T 9, T 10, T 11, T 12, T 13, T 14, T 15, T 16, T 17, T 18, T 19, T 20, T 21, T 22, T 23, T 24, T 25, T 26, T 27, T 28, T 29, T 30, T 31, T 32, T 33, T 34, T 35, T 36, T 37, T 38, T 39, T 40, T 41, T 42, T 43, T 44, T 45, T 46, T 47, T 48, T 49, T 50, T 51, T 52, T 53, T 54, T 55, T 56, T 57, T 58, T 59, T 60, T 61, T 62, T 63, T 64, T 65, T 66, T 67, T 68, T 69, T 70, T 71, T 72, T 73, T 74, T 75, T 76, T 77, T 78, T 79, T 80, T 81, T 82, T 83], []⟩ : Act) from oF_list 84 T]
      rw [show T 1 = .pointer (some ⟨w1.heap.size, 0, none⟩) from hout 1 rfl]
      rw [show T 2 = .int .i64 0 from hout 2 rfl]
      rw [show T 3 = .pointer (some ⟨g3, 0, none⟩) from hout 3 rfl]
      rw [show T 4 = .int .i64 0 from hout 4 rfl]
      rw [show T 6 = .int .i64 16 from hval 8 (by decide : 8 < 9)]
      obtain ⟨g5, eg, hge, p5⟩ := hval 7 (by decide)
      replace eg : T 5 = _ := eg
      rw [eg]
      replace p1 := p1.gn hG p1.lt
      replace p3 := p3.gn hG p3.lt
      replace kx := hG.old kx.drew kx.size
      clear hout hval hG eg hge
      have p1_0 := p1.c (i := 0) rfl
      have p1_1 := p1.c (i := 1) rfl
      have p3_0 := p3.c (i := 0) rfl
      have p3_1 := p3.c (i := 1) rfl
      have p5_0 := p5.c (i := 0) rfl
      have p5_1 := p5.c (i := 1) rfl
      go_wp2_with fail
      (with_reducible refine ((ql _ _).out _).mono ?_)
      rintro r w4 ⟨rfl, k4⟩
      clear p1_0 p1_1 p3_0 p3_1 p5_0 p5_1
      replace p1 := p1.kb k4
      replace p3 := p3.kb k4
      replace p5 := p5.kb k4
      replace kx := kx.trans k4
      clear k4
      have p1_0 := p1.c (i := 0) rfl
      have p1_1 := p1.c (i := 1) rfl
      have p3_0 := p3.c (i := 0) rfl
      have p3_1 := p3.c (i := 1) rfl
      have p5_0 := p5.c (i := 0) rfl
      have p5_1 := p5.c (i := 1) rfl
      go_wp2_with fail
      (with_reducible refine ((ql _ _).out _).mono ?_)
      rintro r w5 ⟨rfl, k5⟩
      clear p1_0 p1_1 p3_0 p3_1 p5_0 p5_1
      replace p1 := p1.kb k5
      replace p3 := p3.kb k5
      replace p5 := p5.kb k5
      replace kx := kx.trans k5
      clear k5
      have p1_0 := p1.c (i := 0) rfl
      have p1_1 := p1.c (i := 1) rfl
      have p3_0 := p3.c (i := 0) rfl
      have p3_1 := p3.c (i := 1) rfl
      have p5_0 := p5.c (i := 0) rfl
      have p5_1 := p5.c (i := 1) rfl
      go_wp2_with fail
      (with_reducible refine (q3.out _).mono ?_)
      rintro r w6 ⟨rfl, k6⟩
      clear p1_0 p1_1 p3_0 p3_1 p5_0 p5_1
      replace p1 := p1.kb k6
      replace p3 := p3.kb k6
      replace p5 := p5.kb k6
      replace kx := kx.trans k6
      clear k6
      replace p1 := p1.alloc (.cells #[.string ⟨#[65]⟩, .string ⟨#[67]⟩, .int .i64 0, .int .i64 80, .int .i64 115] 49 (0, 0))
      replace p3 := p3.alloc (.cells #[.string ⟨#[65]⟩, .string ⟨#[67]⟩, .int .i64 0, .int .i64 80, .int .i64 115] 49 (0, 0))
      replace p5 := p5.alloc (.cells #[.string ⟨#[65]⟩, .string ⟨#[67]⟩, .int .i64 0, .int .i64 80, .int .i64 115] 49 (0, 0))
      have p7 := Is.made w6 #[.string ⟨#[65]⟩, .string ⟨#[67]⟩, .int .i64 0, .int .i64 80, .int .i64 115] 49
      replace kx := kx.alloc (.cells #[.string ⟨#[65]⟩, .string ⟨#[67]⟩, .int .i64 0, .int .i64 80, .int .i64 115] 49 (0, 0))
      have p1_0 := p1.c (i := 0) rfl
      have p1_1 := p1.c (i := 1) rfl
      have p3_0 := p3.c (i := 0) rfl
      have p3_1 := p3.c (i := 1) rfl
      have p5_0 := p5.c (i := 0) rfl
      have p5_1 := p5.c (i := 1) rfl
      have p7_0 := p7.c (i := 0) rfl
      have p7_1 := p7.c (i := 1) rfl
      have p7_2 := p7.c (i := 2) rfl
      have p7_3 := p7.c (i := 3) rfl
      have p7_4 := p7.c (i := 4) rfl
      go_wp2_with fail
      (with_reducible refine (q4.out _).mono ?_)
      rintro r w7 ⟨rfl, k7⟩
      clear p1_0 p1_1 p3_0 p3_1 p5_0 p5_1 p7_0 p7_1 p7_2 p7_3 p7_4
      replace p1 := p1.kb k7
      replace p3 := p3.kb k7
      replace p5 := p5.kb k7
      replace p7 := p7.kb k7
      replace kx := kx.trans k7
      clear k7
      replace p1 := p1.alloc (.cells #[.string ⟨#[67]⟩, .string ⟨#[65]⟩, .int .i64 0, .int .i64 (-115), .int .i64 (-80)] 49 (0, 0))
      replace p3 := p3.alloc (.cells #[.string ⟨#[67]⟩, .string ⟨#[65]⟩, .int .i64 0, .int .i64 (-115), .int .i64 (-80)] 49 (0, 0))
      replace p5 := p5.alloc (.cells #[.string ⟨#[67]⟩, .string ⟨#[65]⟩, .int .i64 0, .int .i64 (-115), .int .i64 (-80)] 49 (0, 0))
      replace p7 := p7.alloc (.cells #[.string ⟨#[67]⟩, .string ⟨#[65]⟩, .int .i64 0, .int .i64 (-115), .int .i64 (-80)] 49 (0, 0))
      have p9 := Is.made w7 #[.string ⟨#[67]⟩, .string ⟨#[65]⟩, .int .i64 0, .int .i64 (-115), .int .i64 (-80)] 49
      replace kx := kx.alloc (.cells #[.string ⟨#[67]⟩, .string ⟨#[65]⟩, .int .i64 0, .int .i64 (-115), .int .i64 (-80)] 49 (0, 0))
      have p1_0 := p1.c (i := 0) rfl
      have p1_1 := p1.c (i := 1) rfl
      have p3_0 := p3.c (i := 0) rfl
      have p3_1 := p3.c (i := 1) rfl
      have p5_0 := p5.c (i := 0) rfl
      have p5_1 := p5.c (i := 1) rfl
      have p7_0 := p7.c (i := 0) rfl
      have p7_1 := p7.c (i := 1) rfl
      have p7_2 := p7.c (i := 2) rfl
      have p7_3 := p7.c (i := 3) rfl
      have p7_4 := p7.c (i := 4) rfl
      have p9_0 := p9.c (i := 0) rfl
      have p9_1 := p9.c (i := 1) rfl
      have p9_2 := p9.c (i := 2) rfl
      have p9_3 := p9.c (i := 3) rfl
      have p9_4 := p9.c (i := 4) rfl
      go_wp2_with fail
      (with_reducible refine (q5.out _).mono ?_)
      rintro r w8 ⟨rfl, k8⟩
      clear p1_0 p1_1 p3_0 p3_1 p5_0 p5_1 p7_0 p7_1 p7_2 p7_3 p7_4 p9_0 p9_1 p9_2 p9_3 p9_4
      replace p1 := p1.kb k8
      replace p3 := p3.kb k8
      replace p5 := p5.kb k8
      replace p7 := p7.kb k8
      replace p9 := p9.kb k8
      replace kx := kx.trans k8
      clear k8
      have p1_0 := p1.c (i := 0) rfl
      have p1_1 := p1.c (i := 1) rfl
      have p3_0 := p3.c (i := 0) rfl
      have p3_1 := p3.c (i := 1) rfl
      have p5_0 := p5.c (i := 0) rfl
      have p5_1 := p5.c (i := 1) rfl
      have p7_0 := p7.c (i := 0) rfl
      have p7_1 := p7.c (i := 1) rfl
      have p7_2 := p7.c (i := 2) rfl
      have p7_3 := p7.c (i := 3) rfl
      have p7_4 := p7.c (i := 4) rfl
      have p9_0 := p9.c (i := 0) rfl
      have p9_1 := p9.c (i := 1) rfl
      have p9_2 := p9.c (i := 2) rfl
      have p9_3 := p9.c (i := 3) rfl
      have p9_4 := p9.c (i := 4) rfl
      go_wp2_with fail
      (with_reducible refine (q6.out _).mono ?_)
      rintro r w9 ⟨rfl, k9⟩
      clear p1_0 p1_1 p3_0 p3_1 p5_0 p5_1 p7_0 p7_1 p7_2 p7_3 p7_4 p9_0 p9_1 p9_2 p9_3 p9_4
      replace p1 := p1.kb k9
      replace p3 := p3.kb k9
      replace p5 := p5.kb k9
      replace p7 := p7.kb k9
      replace p9 := p9.kb k9
      replace kx := kx.trans k9
      clear k9
      have p1_0 := p1.c (i := 0) rfl
      have p1_1 := p1.c (i := 1) rfl
      have p3_0 := p3.c (i := 0) rfl
      have p3_1 := p3.c (i := 1) rfl
      have p5_0 := p5.c (i := 0) rfl
      have p5_1 := p5.c (i := 1) rfl
      have p7_0 := p7.c (i := 0) rfl
      have p7_1 := p7.c (i := 1) rfl
      have p7_2 := p7.c (i := 2) rfl
      have p7_3 := p7.c (i := 3) rfl
      have p7_4 := p7.c (i := 4) rfl
      have p9_0 := p9.c (i := 0) rfl
      have p9_1 := p9.c (i := 1) rfl
      have p9_2 := p9.c (i := 2) rfl
      have p9_3 := p9.c (i := 3) rfl
      have p9_4 := p9.c (i := 4) rfl
      go_wp2_with fail
      (with_reducible refine (q7.out _).mono ?_)
      rintro r w10 ⟨rfl, k10⟩
      clear p1_0 p1_1 p3_0 p3_1 p5_0 p5_1 p7_0 p7_1 p7_2 p7_3 p7_4 p9_0 p9_1 p9_2 p9_3 p9_4
      replace p1 := p1.kb k10
      replace p3 := p3.kb k10
      replace p5 := p5.kb k10
      replace p7 := p7.kb k10
      replace p9 := p9.kb k10
      replace kx := kx.trans k10
      clear k10
      have p1_0 := p1.c (i := 0) rfl
      have p1_1 := p1.c (i := 1) rfl
      have p3_0 := p3.c (i := 0) rfl
      have p3_1 := p3.c (i := 1) rfl
      have p5_0 := p5.c (i := 0) rfl
      have p5_1 := p5.c (i := 1) rfl
      have p7_0 := p7.c (i := 0) rfl
      have p7_1 := p7.c (i := 1) rfl
      have p7_2 := p7.c (i := 2) rfl
      have p7_3 := p7.c (i := 3) rfl
      have p7_4 := p7.c (i := 4) rfl
      have p9_0 := p9.c (i := 0) rfl
      have p9_1 := p9.c (i := 1) rfl
      have p9_2 := p9.c (i := 2) rfl
      have p9_3 := p9.c (i := 3) rfl
      have p9_4 := p9.c (i := 4) rfl
      go_wp2_with fail
      clear p1_0 p1_1 p3_0 p3_1 p5_0 p5_1 p7_0 p7_1 p7_2 p7_3 p7_4 p9_0 p9_1 p9_2 p9_3 p9_4
      replace p1 := p1.drew
      replace p3 := p3.drew
      replace p5 := p5.drew
      replace p7 := p7.drew
      replace p9 := p9.drew
      rw [oF_lit]
      refine o_law (⟨84, [some 64, some 65, some 66, some 67, some 68, some 69, some 70, some 71, some 72, some 73, some 74, some 75, some 76, some 77, some 78, some 79, some 80, some 81, some 82, some 83, some 0], [64, 65, 66, 67, 68, 69, 70, 71, 72, 73, 74, 75, 76, 77, 78, 79, 80, 81, 82, 83, 0], [[], [], [0, 1], [2], [3], [3], [4, 5, 3], [3, 6], [7], [8], [8], [10, 8], [9, 11, 8], [8, 12], [13], [14], [14], [16, 14], [15, 17, 14], [14, 18], [19]], [[1], [], [], [], [3], [], [], [], [], [7], [], [], [], [], [], [9], [], [], [], [], []]⟩ : OT) (Kx []) (RL [fun vv _ => vv = .agg #[.int .i64 9950, .int .i64 10020], fun vv _ => vv = .agg #[.int .i64 9950, .int .i64 10020], fun vv _ => vv = .bool true, fun vv _ => vv = .bool true, fun vv _ => true = true → vv = .agg #[.int .i64 10010, .int .i64 10020], fun vv _ => true = true → vv = .agg #[.int .i64 10010, .int .i64 10020], fun vv _ => true = true → vv = .bool true, fun vv _ => vv = .bool true, fun vv _ => vv = .bool true, fun vv _ => true = true → vv = .agg #[.string ⟨#[65]⟩, .string ⟨#[67]⟩, .int .i64 0, .int .i64 80, .int .i64 115], fun vv _ => true = true → vv = .agg #[.int .i64 80, .int .i64 115], fun vv _ => true = true → vv = .agg #[.string ⟨#[65]⟩, .string ⟨#[67]⟩, .int .i64 0, .int .i64 80, .int .i64 115], fun vv _ => true = true → vv = .bool true, fun vv _ => vv = .bool true, fun vv _ => vv = .bool true, fun vv _ => true = true → vv = .agg #[.string ⟨#[67]⟩, .string ⟨#[65]⟩, .int .i64 0, .int .i64 (-115), .int .i64 (-80)], fun vv _ => true = true → vv = .agg #[.int .i64 (-115), .int .i64 (-80)], fun vv _ => true = true → vv = .agg #[.string ⟨#[67]⟩, .string ⟨#[65]⟩, .int .i64 0, .int .i64 (-115), .int .i64 (-80)], fun vv _ => true = true → vv = .bool true, fun vv _ => vv = .bool true, fun vv _ => vv = .bool true]) (by kernel_rfl) ?hk ?hR ?fin
      case hk => kernel_rfl
      case hR =>
        refine ⟨fun _ => (Kx.refl _ _), fun _ _ _ => Kx.trans, rl_stab ⟨fun _ _ _ _ h => h, fun _ _ _ _ h => h, fun _ _ _ _ h => h, fun _ _ _ _ h => h, fun _ _ _ _ h => h, fun _ _ _ _ h => h, fun _ _ _ _ h => h, fun _ _ _ _ h => h, fun _ _ _ _ h => h, fun _ _ _ _ h => h, fun _ _ _ _ h => h, fun _ _ _ _ h => h, fun _ _ _ _ h => h, fun _ _ _ _ h => h, fun _ _ _ _ h => h, fun _ _ _ _ h => h, fun _ _ _ _ h => h, fun _ _ _ _ h => h, fun _ _ _ _ h => h, fun _ _ _ _ h => h, fun _ _ _ _ h => h, trivial⟩, ?_⟩
        refine allO_cons ?_ (allO_cons ?_ (allO_cons ?_ (allO_cons ?_ (allO_cons ?_ (allO_cons ?_ (allO_cons ?_ (allO_cons ?_ (allO_cons ?_ (allO_cons ?_ (allO_cons ?_ (allO_cons ?_ (allO_cons ?_ (allO_cons ?_ (allO_cons ?_ (allO_cons ?_ (allO_cons ?_ (allO_cons ?_ (allO_cons ?_ (allO_cons ?_ (allO_cons ?_ (allO_nil)))))))))))))))))))))
        · intro T w9 hG hD hO Q
          have q0 := hO.1
          have e0 : (oF 84 T).eval (.tmp 1) = .pointer (some ⟨w1.heap.size, 0, none⟩) := (oF_eval (by decide)).trans (show T 1 = _ from q0)
          refine og_none rfl ?_
          have im := p1.kx hG (by simp)
          have m0 := im.c (i := 0) rfl
          have m1 := im.c (i := 1) rfl
          clear im
          exact o_val (v := .agg #[.int .i64 9950, .int .i64 10020]) (w' := w9) (by generalize (oF 84 T).eval = rr at *; simp [execOp, go_sem, e0, m0, m1]) rfl rfl (Kx.refl _ _)
        · intro T w9 hG hD hO Q
          have e0 : (oF 84 T).eval (.func 38) = .func (.func 38) #[] #[] := rfl
          have e1 : (oF 84 T).eval (.const (.int .i64 9950)) = .int .i64 9950 := rfl
          have e2 : (oF 84 T).eval (.const (.int .i64 10020)) = .int .i64 10020 := rfl
          refine og_none rfl ?_
          refine o_call (oc2 (enters_of Try.func38 (by kernel_rfl) rfl) rfl rfl e1 e2) rfl ?_
          exact ((ql _ _).out w9).mono fun r W' h => ⟨_, h.1, rfl, h.2.kx⟩
        · intro T w9 hG hD hO Q
          have d0 := hD.1
          have d1 := hD.2.1
          have e0 : (oF 84 T).eval (.tmp 64) = .agg #[.int .i64 9950, .int .i64 10020] := (oF_eval (by decide)).trans (show T 64 = _ from d0)
          have e1 : (oF 84 T).eval (.tmp 65) = .agg #[.int .i64 9950, .int .i64 10020] := (oF_eval (by decide)).trans (show T 65 = _ from d1)
          refine og_none rfl ?_
          exact o_val (v := .bool true) (w' := w9) (by generalize (oF 84 T).eval = rr at *; simp [execOp, go_sem, e0, e1]) rfl rfl (Kx.refl _ _)
        · intro T w9 hG hD hO Q
          have d0 := hD.1
          have e0 : (oF 84 T).eval (.tmp 66) = .bool true := (oF_eval (by decide)).trans (show T 66 = _ from d0)
          refine og_none rfl ?_
          exact o_val (v := .bool true) (w' := w9) (by generalize (oF 84 T).eval = rr at *; simp [execOp, go_sem, e0]) rfl rfl (Kx.refl _ _)
        · intro T w9 hG hD hO Q
          have d0 := hD.1
          have q0 := hO.1
          have e0 : (oF 84 T).eval (.tmp 3) = .pointer (some ⟨g3, 0, none⟩) := (oF_eval (by decide)).trans (show T 3 = _ from q0)
          refine og_some (b := true) (c := true) rfl (show T 67 = _ from d0) (fun hc => ?_) (fun hc h => absurd h hc)
          have im := p3.kx hG (by simp)
          have m0 := im.c (i := 0) rfl
          have m1 := im.c (i := 1) rfl
          clear im
          exact o_val (v := .agg #[.int .i64 10010, .int .i64 10020]) (w' := w9) (by generalize (oF 84 T).eval = rr at *; simp [execOp, go_sem, e0, m0, m1]) rfl (fun _ => rfl) (Kx.refl _ _)
        · intro T w9 hG hD hO Q
          have d0 := hD.1
          have e0 : (oF 84 T).eval (.func 38) = .func (.func 38) #[] #[] := rfl
          have e1 : (oF 84 T).eval (.const (.int .i64 10010)) = .int .i64 10010 := rfl
          have e2 : (oF 84 T).eval (.const (.int .i64 10020)) = .int .i64 10020 := rfl
          refine og_some (b := true) (c := true) rfl (show T 67 = _ from d0) (fun hc => ?_) (fun hc h => absurd h hc)
          refine o_call (oc2 (enters_of Try.func38 (by kernel_rfl) rfl) rfl rfl e1 e2) rfl ?_
          exact ((ql _ _).out w9).mono fun r W' h => ⟨_, h.1, (fun _ => rfl), h.2.kx⟩
        · intro T w9 hG hD hO Q
          have d0 := hD.1
          have d1 := hD.2.1
          have d2 := hD.2.2.1
          have G0 : true = true → T 68 = .agg #[.int .i64 10010, .int .i64 10020] := d0
          have G1 : true = true → T 69 = .agg #[.int .i64 10010, .int .i64 10020] := d1
          refine og_some (b := true) (c := true) rfl (show T 67 = _ from d2) (fun hc => ?_) (fun hc h => absurd h hc)
          have e0 : (oF 84 T).eval (.tmp 68) = .agg #[.int .i64 10010, .int .i64 10020] := (oF_eval (by decide)).trans (G0 hc)
          have e1 : (oF 84 T).eval (.tmp 69) = .agg #[.int .i64 10010, .int .i64 10020] := (oF_eval (by decide)).trans (G1 hc)
          exact o_val (v := .bool true) (w' := w9) (by generalize (oF 84 T).eval = rr at *; simp [execOp, go_sem, e0, e1]) rfl (fun _ => rfl) (Kx.refl _ _)
        · intro T w9 hG hD hO Q
          have d0 := hD.1
          have d1 := hD.2.1
          have e0 : (oF 84 T).eval (.tmp 67) = .bool true := (oF_eval (by decide)).trans (show T 67 = _ from d0)
          have G1 : true = true → T 70 = .bool true := d1
          have e1 : (oF 84 T).eval (.tmp 70) = T 70 := oF_eval (by decide)
          have e2 : (oF 84 T).eval (.const (.bool false)) = .bool false := rfl
          refine og_none rfl ?_
          rw [G1 rfl] at e1
          exact o_val (v := .bool true) (w' := w9) (by generalize (oF 84 T).eval = rr at *; simp [execOp, go_sem, e0, e1, e2]) rfl rfl (Kx.refl _ _)
        · intro T w9 hG hD hO Q
          have d0 := hD.1
          have e0 : (oF 84 T).eval (.tmp 71) = .bool true := (oF_eval (by decide)).trans (show T 71 = _ from d0)
          refine og_none rfl ?_
          exact o_val (v := .bool true) (w' := w9) (by generalize (oF 84 T).eval = rr at *; simp [execOp, go_sem, e0]) rfl rfl (Kx.refl _ _)
        · intro T w9 hG hD hO Q
          have d0 := hD.1
          have q0 := hO.1
          have e0 : (oF 84 T).eval (.tmp 7) = .pointer (some ⟨w6.heap.size, 0, none⟩) := (oF_eval (by decide)).trans (show T 7 = _ from q0)
          refine og_some (b := true) (c := true) rfl (show T 72 = _ from d0) (fun hc => ?_) (fun hc h => absurd h hc)
          have im := p7.kx hG (by simp)
          have m0 := im.c (i := 0) rfl
          have m1 := im.c (i := 1) rfl
          have m2 := im.c (i := 2) rfl
          have m3 := im.c (i := 3) rfl
          have m4 := im.c (i := 4) rfl
          clear im
          exact o_val (v := .agg #[.string ⟨#[65]⟩, .string ⟨#[67]⟩, .int .i64 0, .int .i64 80, .int .i64 115]) (w' := w9) (by generalize (oF 84 T).eval = rr at *; simp [execOp, go_sem, e0, m0, m1, m2, m3, m4]) rfl (fun _ => rfl) (Kx.refl _ _)
        · intro T w9 hG hD hO Q
          have d0 := hD.1
          have e0 : (oF 84 T).eval (.func 38) = .func (.func 38) #[] #[] := rfl
          have e1 : (oF 84 T).eval (.const (.int .i64 80)) = .int .i64 80 := rfl
          have e2 : (oF 84 T).eval (.const (.int .i64 115)) = .int .i64 115 := rfl
          refine og_some (b := true) (c := true) rfl (show T 72 = _ from d0) (fun hc => ?_) (fun hc h => absurd h hc)
          refine o_call (oc2 (enters_of Try.func38 (by kernel_rfl) rfl) rfl rfl e1 e2) rfl ?_
          exact ((ql _ _).out w9).mono fun r W' h => ⟨_, h.1, (fun _ => rfl), h.2.kx⟩
        · intro T w9 hG hD hO Q
          have d0 := hD.1
          have d1 := hD.2.1
          have e0 : (oF 84 T).eval (.const (.string ⟨#[65]⟩)) = .string ⟨#[65]⟩ := rfl
          have e1 : (oF 84 T).eval (.const (.string ⟨#[67]⟩)) = .string ⟨#[67]⟩ := rfl
          have G2 : true = true → T 74 = .agg #[.int .i64 80, .int .i64 115] := d0
          refine og_some (b := true) (c := true) rfl (show T 72 = _ from d1) (fun hc => ?_) (fun hc h => absurd h hc)
          have e2 : (oF 84 T).eval (.tmp 74) = .agg #[.int .i64 80, .int .i64 115] := (oF_eval (by decide)).trans (G2 hc)
          exact o_val (v := .agg #[.string ⟨#[65]⟩, .string ⟨#[67]⟩, .int .i64 0, .int .i64 80, .int .i64 115]) (w' := w9) (by generalize (oF 84 T).eval = rr at *; simp [execOp, go_sem, e0, e1, e2]) rfl (fun _ => rfl) (Kx.refl _ _)
        · intro T w9 hG hD hO Q
          have d0 := hD.1
          have d1 := hD.2.1
          have d2 := hD.2.2.1
          have G0 : true = true → T 73 = .agg #[.string ⟨#[65]⟩, .string ⟨#[67]⟩, .int .i64 0, .int .i64 80, .int .i64 115] := d0
          have G1 : true = true → T 75 = .agg #[.string ⟨#[65]⟩, .string ⟨#[67]⟩, .int .i64 0, .int .i64 80, .int .i64 115] := d1
          refine og_some (b := true) (c := true) rfl (show T 72 = _ from d2) (fun hc => ?_) (fun hc h => absurd h hc)
          have e0 : (oF 84 T).eval (.tmp 73) = .agg #[.string ⟨#[65]⟩, .string ⟨#[67]⟩, .int .i64 0, .int .i64 80, .int .i64 115] := (oF_eval (by decide)).trans (G0 hc)
          have e1 : (oF 84 T).eval (.tmp 75) = .agg #[.string ⟨#[65]⟩, .string ⟨#[67]⟩, .int .i64 0, .int .i64 80, .int .i64 115] := (oF_eval (by decide)).trans (G1 hc)
          exact o_val (v := .bool true) (w' := w9) (by generalize (oF 84 T).eval = rr at *; simp [execOp, go_sem, e0, e1]) rfl (fun _ => rfl) (Kx.refl _ _)
        · intro T w9 hG hD hO Q
          have d0 := hD.1
          have d1 := hD.2.1
          have e0 : (oF 84 T).eval (.tmp 72) = .bool true := (oF_eval (by decide)).trans (show T 72 = _ from d0)
          have G1 : true = true → T 76 = .bool true := d1
          have e1 : (oF 84 T).eval (.tmp 76) = T 76 := oF_eval (by decide)
          have e2 : (oF 84 T).eval (.const (.bool false)) = .bool false := rfl
          refine og_none rfl ?_
          rw [G1 rfl] at e1
          exact o_val (v := .bool true) (w' := w9) (by generalize (oF 84 T).eval = rr at *; simp [execOp, go_sem, e0, e1, e2]) rfl rfl (Kx.refl _ _)
        · intro T w9 hG hD hO Q
          have d0 := hD.1
          have e0 : (oF 84 T).eval (.tmp 77) = .bool true := (oF_eval (by decide)).trans (show T 77 = _ from d0)
          refine og_none rfl ?_
          exact o_val (v := .bool true) (w' := w9) (by generalize (oF 84 T).eval = rr at *; simp [execOp, go_sem, e0]) rfl rfl (Kx.refl _ _)
        · intro T w9 hG hD hO Q
          have d0 := hD.1
          have q0 := hO.1
          have e0 : (oF 84 T).eval (.tmp 9) = .pointer (some ⟨w7.heap.size, 0, none⟩) := (oF_eval (by decide)).trans (show T 9 = _ from q0)
          refine og_some (b := true) (c := true) rfl (show T 78 = _ from d0) (fun hc => ?_) (fun hc h => absurd h hc)
          have im := p9.kx hG (by simp)
          have m0 := im.c (i := 0) rfl
          have m1 := im.c (i := 1) rfl
          have m2 := im.c (i := 2) rfl
          have m3 := im.c (i := 3) rfl
          have m4 := im.c (i := 4) rfl
          clear im
          exact o_val (v := .agg #[.string ⟨#[67]⟩, .string ⟨#[65]⟩, .int .i64 0, .int .i64 (-115), .int .i64 (-80)]) (w' := w9) (by generalize (oF 84 T).eval = rr at *; simp [execOp, go_sem, e0, m0, m1, m2, m3, m4]) rfl (fun _ => rfl) (Kx.refl _ _)
        · intro T w9 hG hD hO Q
          have d0 := hD.1
          have e0 : (oF 84 T).eval (.func 38) = .func (.func 38) #[] #[] := rfl
          have e1 : (oF 84 T).eval (.const (.int .i64 (-115))) = .int .i64 (-115) := rfl
          have e2 : (oF 84 T).eval (.const (.int .i64 (-80))) = .int .i64 (-80) := rfl
          refine og_some (b := true) (c := true) rfl (show T 78 = _ from d0) (fun hc => ?_) (fun hc h => absurd h hc)
          refine o_call (oc2 (enters_of Try.func38 (by kernel_rfl) rfl) rfl rfl e1 e2) rfl ?_
          exact ((ql _ _).out w9).mono fun r W' h => ⟨_, h.1, (fun _ => rfl), h.2.kx⟩
        · intro T w9 hG hD hO Q
          have d0 := hD.1
          have d1 := hD.2.1
          have e0 : (oF 84 T).eval (.const (.string ⟨#[67]⟩)) = .string ⟨#[67]⟩ := rfl
          have e1 : (oF 84 T).eval (.const (.string ⟨#[65]⟩)) = .string ⟨#[65]⟩ := rfl
          have G2 : true = true → T 80 = .agg #[.int .i64 (-115), .int .i64 (-80)] := d0
          refine og_some (b := true) (c := true) rfl (show T 78 = _ from d1) (fun hc => ?_) (fun hc h => absurd h hc)
          have e2 : (oF 84 T).eval (.tmp 80) = .agg #[.int .i64 (-115), .int .i64 (-80)] := (oF_eval (by decide)).trans (G2 hc)
          exact o_val (v := .agg #[.string ⟨#[67]⟩, .string ⟨#[65]⟩, .int .i64 0, .int .i64 (-115), .int .i64 (-80)]) (w' := w9) (by generalize (oF 84 T).eval = rr at *; simp [execOp, go_sem, e0, e1, e2]) rfl (fun _ => rfl) (Kx.refl _ _)
        · intro T w9 hG hD hO Q
          have d0 := hD.1
          have d1 := hD.2.1
          have d2 := hD.2.2.1
          have G0 : true = true → T 79 = .agg #[.string ⟨#[67]⟩, .string ⟨#[65]⟩, .int .i64 0, .int .i64 (-115), .int .i64 (-80)] := d0
          have G1 : true = true → T 81 = .agg #[.string ⟨#[67]⟩, .string ⟨#[65]⟩, .int .i64 0, .int .i64 (-115), .int .i64 (-80)] := d1
          refine og_some (b := true) (c := true) rfl (show T 78 = _ from d2) (fun hc => ?_) (fun hc h => absurd h hc)
          have e0 : (oF 84 T).eval (.tmp 79) = .agg #[.string ⟨#[67]⟩, .string ⟨#[65]⟩, .int .i64 0, .int .i64 (-115), .int .i64 (-80)] := (oF_eval (by decide)).trans (G0 hc)
          have e1 : (oF 84 T).eval (.tmp 81) = .agg #[.string ⟨#[67]⟩, .string ⟨#[65]⟩, .int .i64 0, .int .i64 (-115), .int .i64 (-80)] := (oF_eval (by decide)).trans (G1 hc)
          exact o_val (v := .bool true) (w' := w9) (by generalize (oF 84 T).eval = rr at *; simp [execOp, go_sem, e0, e1]) rfl (fun _ => rfl) (Kx.refl _ _)
        · intro T w9 hG hD hO Q
          have d0 := hD.1
          have d1 := hD.2.1
          have e0 : (oF 84 T).eval (.tmp 78) = .bool true := (oF_eval (by decide)).trans (show T 78 = _ from d0)
          have G1 : true = true → T 82 = .bool true := d1
          have e1 : (oF 84 T).eval (.tmp 82) = T 82 := oF_eval (by decide)
          have e2 : (oF 84 T).eval (.const (.bool false)) = .bool false := rfl
          refine og_none rfl ?_
          rw [G1 rfl] at e1
          exact o_val (v := .bool true) (w' := w9) (by generalize (oF 84 T).eval = rr at *; simp [execOp, go_sem, e0, e1, e2]) rfl rfl (Kx.refl _ _)
        · intro T w9 hG hD hO Q
          have d0 := hD.1
          have e0 : (oF 84 T).eval (.tmp 83) = .bool true := (oF_eval (by decide)).trans (show T 83 = _ from d0)
          refine og_none rfl ?_
          exact o_val (v := .bool true) (w' := w9) (by generalize (oF 84 T).eval = rr at *; simp [execOp, go_sem, e0]) rfl rfl (Kx.refl _ _)
      case fin =>
        intro T w11 hout hval hG
        rw [show oF 84 T = (⟨#[T 0, T 1, T 2, T 3, T 4, T 5, T 6, T 7, T 8, T 9, T 10, T 11, T 12, T 13, T 14, T 15, T 16, T 17, T 18, T 19, T 20, T 21, T 22, T 23, T 24, T 25, T 26, T 27, T 28, T 29, T 30, T 31, T 32, T 33, T 34, T 35, T 36, T 37, T 38, T 39, T 40, T 41, T 42, T 43, T 44, T 45, T 46, T 47, T 48, T 49, T 50, T 51, T 52, T 53, T 54, T 55, T 56, T 57, T 58, T 59, T 60, T 61, T 62, T 63, T 64, T 65, T 66, T 67, T 68, T 69, T 70, T 71, T 72, T 73, T 74, T 75, T 76, T 77, T 78, T 79, T 80, T 81, T 82, T 83], []⟩ : Act) from oF_list 84 T]
        rw [show T 0 = .bool true from hval 20 (by decide : 20 < 21)]
        replace p1 := p1.kx hG (by simp)
        replace p3 := p3.kx hG (by simp)
        replace p5 := p5.kx hG (by simp)
        replace p7 := p7.kx hG (by simp)
        replace p9 := p9.kx hG (by simp)
        replace kx := (show Kb _ _ from kx.drew).trans hG.nil
        clear hout hval hG
        have p1_0 := p1.c (i := 0) rfl
        have p1_1 := p1.c (i := 1) rfl
        have p3_0 := p3.c (i := 0) rfl
        have p3_1 := p3.c (i := 1) rfl
        have p5_0 := p5.c (i := 0) rfl
        have p5_1 := p5.c (i := 1) rfl
        have p7_0 := p7.c (i := 0) rfl
        have p7_1 := p7.c (i := 1) rfl
        have p7_2 := p7.c (i := 2) rfl
        have p7_3 := p7.c (i := 3) rfl
        have p7_4 := p7.c (i := 4) rfl
        have p9_0 := p9.c (i := 0) rfl
        have p9_1 := p9.c (i := 1) rfl
        have p9_2 := p9.c (i := 2) rfl
        have p9_3 := p9.c (i := 3) rfl
        have p9_4 := p9.c (i := 4) rfl
        go_wp2
        go_ret
        exact ⟨rfl, kx⟩
theorem dawake : Ca 11 #[] (.bool true) := Lib.hid fun w => awake_any w
end Go.Proofs.Ytendjeefggigbaa
