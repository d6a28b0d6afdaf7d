/- Texts Qg1: each says in its own first comment what it proves. -/
import Derived.Test.YtlimjohnimgnhaaGreatDoorM47
import Derived.Test.YtlimjohnimgnhaaGreatDoorM08
import Derived.LoopN
/- Features: the closures that read and write coordinates. -/
namespace Go.Proofs.YtlimjohnimgnhaaGreatDoor
open Go.RowKit

set_option maxRecDepth 100000 in
set_option maxHeartbeats 1000000 in
theorem cCoord0_1 (b : Nat) (w : World)  : Calls Tryz.prog 121 #[.pointer (some ⟨b, 0, none⟩)] w fun r W' => ∃ g, r = .returned (.tuple #[.func (.func 139) #[] #[.pointer (some ⟨g, 0, none⟩)], .func (.func 140) #[] #[.pointer (some ⟨g, 0, none⟩)]]) ∧ Is W' g #[.pointer (some ⟨b, 0, none⟩), .pointer (some ⟨b, 1, none⟩), .pointer (some ⟨b, 2, none⟩)] 178 ∧ w.heap.size ≤ g ∧ Kb w W' := by
  have kx := Kb.refl w
  go_enter Tryz.func121, Tryz.ntmps121
  go_wp2_with fail
  rw [oF_lit]
  refine o_law (⟨17, [some 5, some 6, some 7, some 8, some 9, some 10, some 11, some 12, some 13, some 14, some 4, none], [5, 6, 7, 8, 9, 10, 11, 12, 13, 14, 4, 4], [[], [0], [1], [], [3], [4], [], [6], [7], [2, 5, 8], [], [10, 9]], [[0], [], [], [0], [], [], [0], [], [], [], [], []]⟩ : OT) (Gn w.heap.size #[.pointer none, .pointer none, .pointer none] #[.pointer (some ⟨b, 0, none⟩), .pointer (some ⟨b, 1, none⟩), .pointer (some ⟨b, 2, none⟩)] 178) (RL [fun vv _ => vv = .pointer (some ⟨b, 0, none⟩), fun vv _ => vv = .pointer (some ⟨b, 0, none⟩), fun vv _ => vv = .pointer (some ⟨b, 0, none⟩), fun vv _ => vv = .pointer (some ⟨b, 0, none⟩), fun vv _ => vv = .pointer (some ⟨b, 0, none⟩), fun vv _ => vv = .pointer (some ⟨b, 1, none⟩), fun vv _ => vv = .pointer (some ⟨b, 0, none⟩), fun vv _ => vv = .pointer (some ⟨b, 0, none⟩), fun vv _ => vv = .pointer (some ⟨b, 2, none⟩), fun vv _ => vv = .agg #[.pointer (some ⟨b, 0, none⟩), .pointer (some ⟨b, 1, none⟩), .pointer (some ⟨b, 2, none⟩)], An w.heap.size #[.pointer none, .pointer none, .pointer none] #[.pointer (some ⟨b, 0, none⟩), .pointer (some ⟨b, 1, none⟩), .pointer (some ⟨b, 2, none⟩)] 178, Sn w.heap.size #[.pointer (some ⟨b, 0, none⟩), .pointer (some ⟨b, 1, none⟩), .pointer (some ⟨b, 2, none⟩)] 178]) (by kernel_rfl) ?hk ?hR ?fin
  case hk => kernel_rfl
  case hR =>
    refine ⟨fun _ => (Gn.refl _ _ _ _ _), fun _ _ _ => Gn.trans, rl_stab ⟨fun _ _ _ _ h => h, fun _ _ _ _ h => h, fun _ _ _ _ h => h, fun _ _ _ _ h => h, fun _ _ _ _ h => h, fun _ _ _ _ h => h, fun _ _ _ _ h => h, fun _ _ _ _ h => h, fun _ _ _ _ h => h, fun _ _ _ _ h => h, (fun v w w' k h => h.gn k), (fun v w w' k h => h.gn k), trivial⟩, ?_⟩
    refine allO_cons ?_ (allO_cons ?_ (allO_cons ?_ (allO_cons ?_ (allO_cons ?_ (allO_cons ?_ (allO_cons ?_ (allO_cons ?_ (allO_cons ?_ (allO_cons ?_ (allO_cons ?_ (allO_cons ?_ (allO_nil))))))))))))
    · intro T w9 hG hD hO Q
      have q0 := hO.1
      have e0 : (oF 17 T).eval (.tmp 0) = .pointer (some ⟨b, 0, none⟩) := (oF_eval (by decide)).trans (show T 0 = _ from q0)
      refine og_none rfl ?_
      exact o_val (v := .pointer (some ⟨b, 0, none⟩)) (w' := w9) (by generalize (oF 17 T).eval = rr at *; simp [execOp, go_sem, e0]) rfl rfl (Gn.refl _ _ _ _ _)
    · intro T w9 hG hD hO Q
      have d0 := hD.1
      have e0 : (oF 17 T).eval (.tmp 5) = .pointer (some ⟨b, 0, none⟩) := (oF_eval (by decide)).trans (show T 5 = _ from d0)
      refine og_none rfl ?_
      exact o_val (v := .pointer (some ⟨b, 0, none⟩)) (w' := w9) (by generalize (oF 17 T).eval = rr at *; simp [execOp, go_sem, e0]) rfl rfl (Gn.refl _ _ _ _ _)
    · intro T w9 hG hD hO Q
      have d0 := hD.1
      have e0 : (oF 17 T).eval (.tmp 6) = .pointer (some ⟨b, 0, none⟩) := (oF_eval (by decide)).trans (show T 6 = _ from d0)
      refine og_none rfl ?_
      exact o_val (v := .pointer (some ⟨b, 0, none⟩)) (w' := w9) (by generalize (oF 17 T).eval = rr at *; simp [execOp, go_sem, e0]) rfl rfl (Gn.refl _ _ _ _ _)
    · intro T w9 hG hD hO Q
      have q0 := hO.1
      have e0 : (oF 17 T).eval (.tmp 0) = .pointer (some ⟨b, 0, none⟩) := (oF_eval (by decide)).trans (show T 0 = _ from q0)
      refine og_none rfl ?_
      exact o_val (v := .pointer (some ⟨b, 0, none⟩)) (w' := w9) (by generalize (oF 17 T).eval = rr at *; simp [execOp, go_sem, e0]) rfl rfl (Gn.refl _ _ _ _ _)
    · intro T w9 hG hD hO Q
      have d0 := hD.1
      have e0 : (oF 17 T).eval (.tmp 8) = .pointer (some ⟨b, 0, none⟩) := (oF_eval (by decide)).trans (show T 8 = _ from d0)
      refine og_none rfl ?_
      exact o_val (v := .pointer (some ⟨b, 0, none⟩)) (w' := w9) (by generalize (oF 17 T).eval = rr at *; simp [execOp, go_sem, e0]) rfl rfl (Gn.refl _ _ _ _ _)
    · intro T w9 hG hD hO Q
      have d0 := hD.1
      have e0 : (oF 17 T).eval (.tmp 9) = .pointer (some ⟨b, 0, none⟩) := (oF_eval (by decide)).trans (show T 9 = _ from d0)
      refine og_none rfl ?_
      exact o_val (v := .pointer (some ⟨b, 1, none⟩)) (w' := w9) (by generalize (oF 17 T).eval = rr at *; simp [execOp, go_sem, e0]) rfl rfl (Gn.refl _ _ _ _ _)
    · intro T w9 hG hD hO Q
      have q0 := hO.1
      have e0 : (oF 17 T).eval (.tmp 0) = .pointer (some ⟨b, 0, none⟩) := (oF_eval (by decide)).trans (show T 0 = _ from q0)
      refine og_none rfl ?_
      exact o_val (v := .pointer (some ⟨b, 0, none⟩)) (w' := w9) (by generalize (oF 17 T).eval = rr at *; simp [execOp, go_sem, e0]) rfl rfl (Gn.refl _ _ _ _ _)
    · intro T w9 hG hD hO Q
      have d0 := hD.1
      have e0 : (oF 17 T).eval (.tmp 11) = .pointer (some ⟨b, 0, none⟩) := (oF_eval (by decide)).trans (show T 11 = _ from d0)
      refine og_none rfl ?_
      exact o_val (v := .pointer (some ⟨b, 0, none⟩)) (w' := w9) (by generalize (oF 17 T).eval = rr at *; simp [execOp, go_sem, e0]) rfl rfl (Gn.refl _ _ _ _ _)
    · intro T w9 hG hD hO Q
      have d0 := hD.1
      have e0 : (oF 17 T).eval (.tmp 12) = .pointer (some ⟨b, 0, none⟩) := (oF_eval (by decide)).trans (show T 12 = _ from d0)
      refine og_none rfl ?_
      exact o_val (v := .pointer (some ⟨b, 2, none⟩)) (w' := w9) (by generalize (oF 17 T).eval = rr at *; simp [execOp, go_sem, e0]) rfl rfl (Gn.refl _ _ _ _ _)
    · intro T w9 hG hD hO Q
      have d0 := hD.1
      have d1 := hD.2.1
      have d2 := hD.2.2.1
      have e0 : (oF 17 T).eval (.tmp 7) = .pointer (some ⟨b, 0, none⟩) := (oF_eval (by decide)).trans (show T 7 = _ from d0)
      have e1 : (oF 17 T).eval (.tmp 10) = .pointer (some ⟨b, 1, none⟩) := (oF_eval (by decide)).trans (show T 10 = _ from d1)
      have e2 : (oF 17 T).eval (.tmp 13) = .pointer (some ⟨b, 2, none⟩) := (oF_eval (by decide)).trans (show T 13 = _ from d2)
      refine og_none rfl ?_
      exact o_val (v := .agg #[.pointer (some ⟨b, 0, none⟩), .pointer (some ⟨b, 1, none⟩), .pointer (some ⟨b, 2, none⟩)]) (w' := w9) (by generalize (oF 17 T).eval = rr at *; simp [execOp, go_sem, e0, e1, e2]) rfl rfl (Gn.refl _ _ _ _ _)
    · intro T w9 hG hD hO Q
      refine og_none rfl ?_
      have kz : Kb w9 (w9.alloc (.cells #[.pointer none, .pointer none, .pointer none] 178 (0, 0))) := (Kb.refl w9).alloc _
      exact o_val (v := .pointer (some ⟨w9.heap.size, 0, none⟩)) (w' := w9.alloc (.cells #[.pointer none, .pointer none, .pointer none] 178 (0, 0))) (by simp [execOp, go_sem]) rfl ⟨_, rfl, (by have := hG.2.2.2.1; simp only [World.size_drew] at *; (try simp only [World.size_alloc] at *); omega), .inl (Is.made w9 _ _)⟩ kz.gn
    · intro T w9 hG hD hO Q
      have d0 := hD.1
      have d1 := hD.2.1
      have e0 : (oF 17 T).eval (.tmp 4) = T 4 := oF_eval (by decide)
      have p0 : (An w.heap.size #[.pointer none, .pointer none, .pointer none] #[.pointer (some ⟨b, 0, none⟩), .pointer (some ⟨b, 1, none⟩), .pointer (some ⟨b, 2, none⟩)] 178) (T 4) w9 := d0
      have e1 : (oF 17 T).eval (.tmp 14) = .agg #[.pointer (some ⟨b, 0, none⟩), .pointer (some ⟨b, 1, none⟩), .pointer (some ⟨b, 2, none⟩)] := (oF_eval (by decide)).trans (show T 14 = _ from d1)
      refine og_none rfl ?_
      obtain ⟨g, hg, hge, io⟩ := p0
      rw [hg] at e0
      rcases io with io | io
      · have zn := io
        replace zn : Is (w9.setCell ⟨g, 0, none⟩ (.pointer (some ⟨b, 0, none⟩))) (g) #[.pointer (some ⟨b, 0, none⟩), .pointer none, .pointer none] 178 := zn.set 0 _
        replace zn : Is ((w9.setCell ⟨g, 0, none⟩ (.pointer (some ⟨b, 0, none⟩))).setCell ⟨g, 1, none⟩ (.pointer (some ⟨b, 1, none⟩))) (g) #[.pointer (some ⟨b, 0, none⟩), .pointer (some ⟨b, 1, none⟩), .pointer none] 178 := zn.set 1 _
        replace zn : Is (((w9.setCell ⟨g, 0, none⟩ (.pointer (some ⟨b, 0, none⟩))).setCell ⟨g, 1, none⟩ (.pointer (some ⟨b, 1, none⟩))).setCell ⟨g, 2, none⟩ (.pointer (some ⟨b, 2, none⟩))) (g) #[.pointer (some ⟨b, 0, none⟩), .pointer (some ⟨b, 1, none⟩), .pointer (some ⟨b, 2, none⟩)] 178 := zn.set 2 _
        have pt := ((((Pt.refl g w9).set 0 (.pointer (some ⟨b, 0, none⟩))).set 1 (.pointer (some ⟨b, 1, none⟩))).set 2 (.pointer (some ⟨b, 2, none⟩)))
        have gn : Gn w.heap.size #[.pointer none, .pointer none, .pointer none] #[.pointer (some ⟨b, 0, none⟩), .pointer (some ⟨b, 1, none⟩), .pointer (some ⟨b, 2, none⟩)] 178 w9 _ := pt.gn zn (.inl io) hge
        have m0 := io.c (i := 0) rfl
        have f0 := io.f 0
        have m1 := io.c (i := 1) rfl
        have f1 := io.f 1
        have m2 := io.c (i := 2) rfl
        have f2 := io.f 2
        clear io
        exact o_skip (w' := (((w9.setCell ⟨g, 0, none⟩ (.pointer (some ⟨b, 0, none⟩))).setCell ⟨g, 1, none⟩ (.pointer (some ⟨b, 1, none⟩))).setCell ⟨g, 2, none⟩ (.pointer (some ⟨b, 2, none⟩)))) (by generalize (oF 17 T).eval = rr at *; simp [execOp, go_sem, e0, e1, m0, f0, m1, f1, m2, f2]) rfl ⟨g, hg, hge, zn⟩ gn
      · have zn := io
        replace zn : Is (w9.setCell ⟨g, 0, none⟩ (.pointer (some ⟨b, 0, none⟩))) (g) #[.pointer (some ⟨b, 0, none⟩), .pointer (some ⟨b, 1, none⟩), .pointer (some ⟨b, 2, none⟩)] 178 := zn.set 0 _
        replace zn : Is ((w9.setCell ⟨g, 0, none⟩ (.pointer (some ⟨b, 0, none⟩))).setCell ⟨g, 1, none⟩ (.pointer (some ⟨b, 1, none⟩))) (g) #[.pointer (some ⟨b, 0, none⟩), .pointer (some ⟨b, 1, none⟩), .pointer (some ⟨b, 2, none⟩)] 178 := zn.set 1 _
        replace zn : Is (((w9.setCell ⟨g, 0, none⟩ (.pointer (some ⟨b, 0, none⟩))).setCell ⟨g, 1, none⟩ (.pointer (some ⟨b, 1, none⟩))).setCell ⟨g, 2, none⟩ (.pointer (some ⟨b, 2, none⟩))) (g) #[.pointer (some ⟨b, 0, none⟩), .pointer (some ⟨b, 1, none⟩), .pointer (some ⟨b, 2, none⟩)] 178 := zn.set 2 _
        have pt := ((((Pt.refl g w9).set 0 (.pointer (some ⟨b, 0, none⟩))).set 1 (.pointer (some ⟨b, 1, none⟩))).set 2 (.pointer (some ⟨b, 2, none⟩)))
        have gn : Gn w.heap.size #[.pointer none, .pointer none, .pointer none] #[.pointer (some ⟨b, 0, none⟩), .pointer (some ⟨b, 1, none⟩), .pointer (some ⟨b, 2, none⟩)] 178 w9 _ := pt.gn zn (.inr io) hge
        have m0 := io.c (i := 0) rfl
        have f0 := io.f 0
        have m1 := io.c (i := 1) rfl
        have f1 := io.f 1
        have m2 := io.c (i := 2) rfl
        have f2 := io.f 2
        clear io
        exact o_skip (w' := (((w9.setCell ⟨g, 0, none⟩ (.pointer (some ⟨b, 0, none⟩))).setCell ⟨g, 1, none⟩ (.pointer (some ⟨b, 1, none⟩))).setCell ⟨g, 2, none⟩ (.pointer (some ⟨b, 2, none⟩)))) (by generalize (oF 17 T).eval = rr at *; simp [execOp, go_sem, e0, e1, m0, f0, m1, f1, m2, f2]) rfl ⟨g, hg, hge, zn⟩ gn
  case fin =>
    intro T w1 hout hval hG
    have s1 := hG.2.2.2.1
    simp only [World.size_drew] at s1
    rw [show oF 17 T = (⟨#[T 0, T 1, T 2, T 3, T 4, T 5, T 6, T 7, T 8, T 9, T 10, T 11, T 12, T 13, T 14, T 15, T 16], []⟩ : Act) from oF_list 17 T]
    rw [show T 2 = .nilFunc from hout 2 rfl]
    rw [show T 3 = .nilFunc from hout 3 rfl]
    obtain ⟨g1, eg, hg1, b4⟩ := hval 11 (by decide)
    replace eg : T 4 = _ := eg
    rw [eg]
    replace kx := hG.old kx.drew kx.size
    clear hout hval hG eg
    go_wp2
    go_ret2
    exact ⟨_, rfl, b4, by omega, kx⟩
set_option maxRecDepth 100000 in
theorem cRead_0 (g : Nat) (p0 p1 p2 : Addr) (v : Int) (w : World) (hg : Is w g #[.pointer (some p0), .pointer (some p1), .pointer (some p2)] 178) (hc : w.cell? p0 = some (.int .i64 v)) : Calls Tryz.prog 139 #[.int .i64 0, .pointer (some ⟨g, 0, none⟩)] w fun r W' => r = .returned (.int .i64 v) ∧ Kb w W' := by
  have kx := Kb.refl w
  have f0 := hg.c (i := 0) rfl
  clear hg
  go_enter Tryz.func139, Tryz.ntmps139
  go_wp2
  go_ret
  exact ⟨rfl, kx⟩
set_option maxRecDepth 100000 in
theorem cRead_1 (g : Nat) (p0 p1 p2 : Addr) (v : Int) (w : World) (hg : Is w g #[.pointer (some p0), .pointer (some p1), .pointer (some p2)] 178) (hc : w.cell? p1 = some (.int .i64 v)) : Calls Tryz.prog 139 #[.int .i64 1, .pointer (some ⟨g, 0, none⟩)] w fun r W' => r = .returned (.int .i64 v) ∧ Kb w W' := by
  have kx := Kb.refl w
  have f0 := hg.c (i := 1) rfl
  clear hg
  go_enter Tryz.func139, Tryz.ntmps139
  go_wp2
  go_ret
  exact ⟨rfl, kx⟩
set_option maxRecDepth 100000 in
theorem cRead_2 (g : Nat) (p0 p1 p2 : Addr) (v : Int) (w : World) (hg : Is w g #[.pointer (some p0), .pointer (some p1), .pointer (some p2)] 178) (hc : w.cell? p2 = some (.int .i64 v)) : Calls Tryz.prog 139 #[.int .i64 2, .pointer (some ⟨g, 0, none⟩)] w fun r W' => r = .returned (.int .i64 v) ∧ Kb w W' := by
  have kx := Kb.refl w
  have f0 := hg.c (i := 2) rfl
  clear hg
  go_enter Tryz.func139, Tryz.ntmps139
  go_wp2
  go_ret
  exact ⟨rfl, kx⟩
end Go.Proofs.YtlimjohnimgnhaaGreatDoor
