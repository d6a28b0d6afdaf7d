/- Texts Ucp: each says in its own first comment what it proves. -/
import Derived.Test.YtlimjohnimgnhaaGreatDoorM32
/- Frames: Plain. -/
namespace Go.Proofs.YtlimjohnimgnhaaGreatDoor
open Go.RowKit

set_option maxRecDepth 100000 in
set_option maxHeartbeats 4000000 in
theorem fckDat0_1 (dp : Option Addr) (dc : Nat) (w : World)  : Calls Tryz.prog 51 #[.slice dp 0 dc] w fun r W' => r = .returned (.int .i64 0) ∧ Kb w W' := by
  have kx := Kb.refl w
  go_enter Tryz.func51, Tryz.ntmps51
  go_wp2_with fail
  refine wp_loop_rounds 1 ?_
  rw [rounds_succ]
  go_wp2
  go_ret
  exact ⟨rfl, kx⟩
theorem fckDatums {w0 : World} (dp : Option Addr) (dl dc : Nat) (ds : List DatT) (hd : DatS w0 (.slice dp dl dc) ds) (hcd : dl ≤ dc) (hn : dl ≤ 100000) (hz : ∀ d ∈ ds, d.1.size ≤ 1000000) : Cf w0 51 #[.slice dp dl dc] (.int .i64 (dsE ds)) := Lib.hid fun w gl => by
  by_cases h0 : dl = 0
  · subst h0
    have hl := hd.len
    obtain rfl : ds = [] := List.length_eq_zero_iff.1 hl.symm
    exact fckDat0_1 dp dc w
  · obtain ⟨b, off, rfl, _⟩ := hd.at (by omega)
    exact fckDat_1 w0 b off dl dc ds (Lib.hid hd) hcd hn (Lib.hid hz) w gl
set_option maxRecDepth 100000 in
set_option maxHeartbeats 4000000 in
theorem fPlain1_1 (w0 : World) (fk : Int) (fd : Bool) (ft : Int) (fm : Int) (dp : Option Addr) (dl : Nat) (dc : Nat) (b : Nat) (r1 : Int)   (q1 : Cf w0 51 #[.slice dp dl dc] (.int .i64 r1)) (w : World) (gl : Gf w0 w) (b0 : Is w b #[.int .i64 fk, .bool fd, .int .i64 ft, .int .i64 fm, .slice dp dl dc] 31)  : Calls Tryz.prog 50 #[.pointer (some ⟨b, 0, none⟩)] w fun r W' => r = .returned (.int .i64 r1) ∧ Kb w W' := by
  have kx := Kb.refl w
  unfold Cf at q1
  have gl0 := Lib.hid gl
  have f1 := b0.c (i := 4) rfl
  go_enter Tryz.func50, Tryz.ntmps50
  go_wp2_with fail
  clear f1
  (with_reducible refine ((q1.out _ gl)).mono ?_)
  rintro r w1 ⟨rfl, k1⟩
  replace b0 := b0.kb k1
  replace gl := gl.kb k1
  replace kx := kx.trans k1
  have s1 := k1.size
  skip
  clear k1
  go_wp2
  go_ret
  exact ⟨rfl, kx⟩
theorem ckPlain {w0 w : World} {fk : Int} {fd : Bool} {ft fm : Int} {dp : Option Addr} {dl dc b : Nat} {e : Int} (gl : Gf w0 w) (is : Is w b #[.int .i64 fk, .bool fd, .int .i64 ft, .int .i64 fm, .slice dp dl dc] 31) (q : Cf w0 51 #[.slice dp dl dc] (.int .i64 e)) : Ck [] (.func (.func 50) #[] #[.pointer (some ⟨b, 0, none⟩)]) e w :=
  ⟨_, _, rfl, enters_of Tryz.func50 (by kernel_rfl) rfl, fun W hW => fPlain1_1 w0 fk fd ft fm dp dl dc b e q W (gl.kx hW) (is.kx hW (by simp))⟩
set_option maxRecDepth 100000 in
set_option maxHeartbeats 4000000 in
theorem fPlain_1 (w0 : World) (fk : Int) (fd : Bool) (ft : Int) (fm : Int) (dp : Option Addr) (dl : Nat) (dc : Nat) (r1 : Int)   (q1 : Cf w0 51 #[.slice dp dl dc] (.int .i64 r1)) (w : World) (gl : Gf w0 w)  : Calls Tryz.prog 15 #[.agg #[.int .i64 fk, .bool fd, .int .i64 ft, .int .i64 fm, .slice dp dl dc]] w fun r W' => r = .returned (.int .i64 (firstE [fE ((decide (fk < 0)) || (decide (9 ≤ fk))) 1, firstE [(cmE fm)], fE ((decide (ft < 0)) || (decide (100000 < ft))) 2, fE (decide (3 < (dl : Int))) 5, r1])) ∧ Kb w W' := by
  have kx := Kb.refl w
  unfold Cf at q1
  have gl0 := Lib.hid gl
  go_enter Tryz.func15, Tryz.ntmps15
  go_wp2_with fail
  have b1 := Is.made w #[.int .i64 fk, .bool fd, .int .i64 ft, .int .i64 fm, .slice dp dl dc] 31
  replace kx := kx.alloc (.cells #[.int .i64 fk, .bool fd, .int .i64 ft, .int .i64 fm, .slice dp dl dc] 31 (0, 0))
  replace gl := gl0.out.kb kx
  replace gl := gl.drew
  replace b1 := b1.drew
  rw [oF_lit]
  refine o_law (⟨33, [some 3, some 4, some 5, some 6, some 7, some 8, some 9, some 10, some 11, some 12, some 13, some 14, some 15, some 16, some 17, some 18, some 19, some 20, some 21, some 22, some 23, some 24, some 25, some 26, some 27, some 28, some 29, some 30, some 31, some 32, some 2], [3, 4, 5, 6, 7, 8, 9, 10, 11, 12, 13, 14, 15, 16, 17, 18, 19, 20, 21, 22, 23, 24, 25, 26, 27, 28, 29, 30, 31, 32, 2], [[], [0], [1], [2], [3], [4, 3], [5, 3], [3, 6], [7], [], [9], [10], [11], [], [13], [14], [15], [16], [17, 16], [18, 16], [16, 19], [20], [], [22], [23], [24], [25], [], [8, 12, 21, 26, 27], [28], [29]], [[1], [], [], [], [1], [], [], [], [], [1], [], [], [], [1], [], [], [], [1], [], [], [], [], [1], [], [], [], [], [1], [], [], []]⟩ : OT) (Kx []) (RL [fun vv _ => vv = .pointer (some ⟨w.heap.size, 0, none⟩), fun vv _ => vv = .int .i64 fk, fun vv _ => vv = .bool (decide (fk < 0)), fun vv _ => vv = .bool (decide (fk < 0)), fun vv _ => (decide (fk < 0)) = false → vv = .pointer (some ⟨w.heap.size, 0, none⟩), fun vv _ => (decide (fk < 0)) = false → vv = .int .i64 fk, fun vv _ => (decide (fk < 0)) = false → vv = .bool (decide (9 ≤ fk)), fun vv _ => vv = .bool ((decide (fk < 0)) || (decide (9 ≤ fk))), fun vv ww => Ck [] vv (fE ((decide (fk < 0)) || (decide (9 ≤ fk))) 1) ww, fun vv _ => vv = .pointer (some ⟨w.heap.size, 3, none⟩), fun vv _ => vv = .int .i64 fm, fun vv ww => Sl [] 1 ww vv [[.int .i64 fm]], fun vv ww => Ck [] vv (firstE [(cmE fm)]) ww, fun vv _ => vv = .pointer (some ⟨w.heap.size, 2, none⟩), fun vv _ => vv = .int .i64 ft, fun vv _ => vv = .bool (decide (ft < 0)), fun vv _ => vv = .bool (decide (ft < 0)), fun vv _ => (decide (ft < 0)) = false → vv = .pointer (some ⟨w.heap.size, 2, none⟩), fun vv _ => (decide (ft < 0)) = false → vv = .int .i64 ft, fun vv _ => (decide (ft < 0)) = false → vv = .bool (decide (100000 < ft)), fun vv _ => vv = .bool ((decide (ft < 0)) || (decide (100000 < ft))), fun vv ww => Ck [] vv (fE ((decide (ft < 0)) || (decide (100000 < ft))) 2) ww, fun vv _ => vv = .pointer (some ⟨w.heap.size, 4, none⟩), fun vv _ => vv = .slice dp dl dc, fun vv _ => vv = .int .i64 (dl : Int), fun vv _ => vv = .bool (decide (3 < (dl : Int))), fun vv ww => Ck [] vv (fE (decide (3 < (dl : Int))) 5) ww, fun vv ww => Ck [] vv r1 ww, fun vv ww => SlC [] [fE ((decide (fk < 0)) || (decide (9 ≤ fk))) 1, firstE [(cmE fm)], fE ((decide (ft < 0)) || (decide (100000 < ft))) 2, fE (decide (3 < (dl : Int))) 5, r1] vv ww, fun vv _ => vv = .int .i64 (firstE [fE ((decide (fk < 0)) || (decide (9 ≤ fk))) 1, firstE [(cmE fm)], fE ((decide (ft < 0)) || (decide (100000 < ft))) 2, fE (decide (3 < (dl : Int))) 5, r1]), fun vv _ => vv = .int .i64 (firstE [fE ((decide (fk < 0)) || (decide (9 ≤ fk))) 1, firstE [(cmE fm)], fE ((decide (ft < 0)) || (decide (100000 < ft))) 2, fE (decide (3 < (dl : Int))) 5, r1])]) (by kernel_rfl) ?hk ?hR ?fin
  case hk => kernel_rfl
  case hR =>
    refine ⟨fun _ => (Kx.refl _ _), fun _ _ _ => Kx.trans, rl_stab ⟨fun _ _ _ _ h => h, fun _ _ _ _ h => h, fun _ _ _ _ h => h, fun _ _ _ _ h => h, fun _ _ _ _ h => h, fun _ _ _ _ h => h, fun _ _ _ _ h => h, fun _ _ _ _ h => h, (fun v w w' k h => h.kx k), fun _ _ _ _ h => h, fun _ _ _ _ h => h, (fun v w w' k h => h.kx k), (fun v w w' k h => h.kx k), fun _ _ _ _ h => h, fun _ _ _ _ h => h, fun _ _ _ _ h => h, fun _ _ _ _ h => h, fun _ _ _ _ h => h, fun _ _ _ _ h => h, fun _ _ _ _ h => h, fun _ _ _ _ h => h, (fun v w w' k h => h.kx k), fun _ _ _ _ h => h, fun _ _ _ _ h => h, fun _ _ _ _ h => h, fun _ _ _ _ h => h, (fun v w w' k h => h.kx k), (fun v w w' k h => h.kx k), (fun v w w' k h => h.kx k), fun _ _ _ _ h => h, fun _ _ _ _ h => h, trivial⟩, ?_⟩
    refine allO_cons ?_ (allO_cons ?_ (allO_cons ?_ (allO_cons ?_ (allO_cons ?_ (allO_cons ?_ (allO_cons ?_ (allO_cons ?_ (allO_cons ?_ (allO_cons ?_ (allO_cons ?_ (allO_cons ?_ (allO_cons ?_ (allO_cons ?_ (allO_cons ?_ (allO_cons ?_ (allO_cons ?_ (allO_cons ?_ (allO_cons ?_ (allO_cons ?_ (allO_cons ?_ (allO_cons ?_ (allO_cons ?_ (allO_cons ?_ (allO_cons ?_ (allO_cons ?_ (allO_cons ?_ (allO_cons ?_ (allO_cons ?_ (allO_cons ?_ (allO_cons ?_ (allO_nil)))))))))))))))))))))))))))))))
    · intro T w9 hG hD hO Q
      have q0 := hO.1
      have e0 : (oF 33 T).eval (.tmp 1) = .pointer (some ⟨w.heap.size, 0, none⟩) := (oF_eval (by decide)).trans (show T 1 = _ from q0)
      refine og_none rfl ?_
      exact o_val (v := .pointer (some ⟨w.heap.size, 0, none⟩)) (w' := w9) (by generalize (oF 33 T).eval = rr at *; simp [execOp, go_sem, e0]) rfl rfl (Kx.refl _ _)
    · intro T w9 hG hD hO Q
      have d0 := hD.1
      have e0 : (oF 33 T).eval (.tmp 3) = .pointer (some ⟨w.heap.size, 0, none⟩) := (oF_eval (by decide)).trans (show T 3 = _ from d0)
      refine og_none rfl ?_
      have im := b1.kx hG (by simp)
      have m0 := im.c (i := 0) rfl
      clear im
      exact o_val (v := .int .i64 fk) (w' := w9) (by generalize (oF 33 T).eval = rr at *; simp [execOp, go_sem, e0, m0]) rfl rfl (Kx.refl _ _)
    · intro T w9 hG hD hO Q
      have d0 := hD.1
      have e0 : (oF 33 T).eval (.tmp 4) = .int .i64 fk := (oF_eval (by decide)).trans (show T 4 = _ from d0)
      have e1 : (oF 33 T).eval (.const (.int .i64 0)) = .int .i64 0 := rfl
      refine og_none rfl ?_
      exact o_val (v := .bool (decide (fk < 0))) (w' := w9) (by generalize (oF 33 T).eval = rr at *; simp [execOp, go_sem, e0, e1]) rfl rfl (Kx.refl _ _)
    · intro T w9 hG hD hO Q
      have d0 := hD.1
      have e0 : (oF 33 T).eval (.tmp 5) = .bool (decide (fk < 0)) := (oF_eval (by decide)).trans (show T 5 = _ from d0)
      refine og_none rfl ?_
      exact o_val (v := .bool (decide (fk < 0))) (w' := w9) (by generalize (oF 33 T).eval = rr at *; simp [execOp, go_sem, e0]) rfl rfl (Kx.refl _ _)
    · intro T w9 hG hD hO Q
      have d0 := hD.1
      have q0 := hO.1
      have e0 : (oF 33 T).eval (.tmp 1) = .pointer (some ⟨w.heap.size, 0, none⟩) := (oF_eval (by decide)).trans (show T 1 = _ from q0)
      refine og_some (b := false) (c := (decide (fk < 0))) rfl (show T 6 = _ from d0) (fun hc => ?_) (fun hc h => absurd h hc)
      exact o_val (v := .pointer (some ⟨w.heap.size, 0, none⟩)) (w' := w9) (by generalize (oF 33 T).eval = rr at *; simp [execOp, go_sem, e0]) rfl (fun _ => rfl) (Kx.refl _ _)
    · intro T w9 hG hD hO Q
      have d0 := hD.1
      have d1 := hD.2.1
      have G0 : (decide (fk < 0)) = false → T 7 = .pointer (some ⟨w.heap.size, 0, none⟩) := d0
      refine og_some (b := false) (c := (decide (fk < 0))) rfl (show T 6 = _ from d1) (fun hc => ?_) (fun hc h => absurd h hc)
      have e0 : (oF 33 T).eval (.tmp 7) = .pointer (some ⟨w.heap.size, 0, none⟩) := (oF_eval (by decide)).trans (G0 hc)
      have im := b1.kx hG (by simp)
      have m0 := im.c (i := 0) rfl
      clear im
      exact o_val (v := .int .i64 fk) (w' := w9) (by generalize (oF 33 T).eval = rr at *; simp [execOp, go_sem, e0, m0]) rfl (fun _ => rfl) (Kx.refl _ _)
    · intro T w9 hG hD hO Q
      have d0 := hD.1
      have d1 := hD.2.1
      have G0 : (decide (fk < 0)) = false → T 8 = .int .i64 fk := d0
      have e1 : (oF 33 T).eval (.const (.int .i64 9)) = .int .i64 9 := rfl
      refine og_some (b := false) (c := (decide (fk < 0))) rfl (show T 6 = _ from d1) (fun hc => ?_) (fun hc h => absurd h hc)
      have e0 : (oF 33 T).eval (.tmp 8) = .int .i64 fk := (oF_eval (by decide)).trans (G0 hc)
      exact o_val (v := .bool (decide (9 ≤ fk))) (w' := w9) (by generalize (oF 33 T).eval = rr at *; simp [execOp, go_sem, e0, e1]) rfl (fun _ => rfl) (Kx.refl _ _)
    · intro T w9 hG hD hO Q
      have d0 := hD.1
      have d1 := hD.2.1
      have e0 : (oF 33 T).eval (.tmp 6) = .bool (decide (fk < 0)) := (oF_eval (by decide)).trans (show T 6 = _ from d0)
      have e1 : (oF 33 T).eval (.const (.bool true)) = .bool true := rfl
      have G2 : (decide (fk < 0)) = false → T 9 = .bool (decide (9 ≤ fk)) := d1
      have e2 : (oF 33 T).eval (.tmp 9) = T 9 := oF_eval (by decide)
      refine og_none rfl ?_
      rcases Bool.eq_false_or_eq_true (decide (fk < 0)) with hb | hb
      · refine o_val (w' := w9) (v := .bool true) (by rw [hb] at e0; generalize (oF 33 T).eval = rr at *; simp [execOp, go_sem, e0, e1, e2]) rfl (by simp [RL, hb]) (Kx.refl _ _)
      · refine o_val (w' := w9) (v := .bool (decide (9 ≤ fk))) (by rw [G2 hb] at e2; rw [hb] at e0; generalize (oF 33 T).eval = rr at *; simp [execOp, go_sem, e0, e1, e2]) rfl (by simp [RL, hb]) (Kx.refl _ _)
    · intro T w9 hG hD hO Q
      have d0 := hD.1
      have e0 : (oF 33 T).eval (.func 47) = .func (.func 47) #[] #[] := rfl
      have e1 : (oF 33 T).eval (.tmp 10) = .bool ((decide (fk < 0)) || (decide (9 ≤ fk))) := (oF_eval (by decide)).trans (show T 10 = _ from d0)
      have e2 : (oF 33 T).eval (.const (.int .i64 1)) = .int .i64 1 := rfl
      refine og_none rfl ?_
      refine o_call (oc2 (enters_of Tryz.func47 (by kernel_rfl) rfl) rfl rfl e1 e2) rfl ?_
      exact (cWhen [] ((decide (fk < 0)) || (decide (9 ≤ fk))) 1 w9 (by simp)).mono fun r W' ⟨v, h1, h2, h3⟩ => ⟨v, h1, h2, h3.kx⟩
    · intro T w9 hG hD hO Q
      have q0 := hO.1
      have e0 : (oF 33 T).eval (.tmp 1) = .pointer (some ⟨w.heap.size, 0, none⟩) := (oF_eval (by decide)).trans (show T 1 = _ from q0)
      refine og_none rfl ?_
      exact o_val (v := .pointer (some ⟨w.heap.size, 3, none⟩)) (w' := w9) (by generalize (oF 33 T).eval = rr at *; simp [execOp, go_sem, e0]) rfl rfl (Kx.refl _ _)
    · intro T w9 hG hD hO Q
      have d0 := hD.1
      have e0 : (oF 33 T).eval (.tmp 12) = .pointer (some ⟨w.heap.size, 3, none⟩) := (oF_eval (by decide)).trans (show T 12 = _ from d0)
      refine og_none rfl ?_
      have im := b1.kx hG (by simp)
      have m0 := im.c (i := 3) rfl
      clear im
      exact o_val (v := .int .i64 fm) (w' := w9) (by generalize (oF 33 T).eval = rr at *; simp [execOp, go_sem, e0, m0]) rfl rfl (Kx.refl _ _)
    · intro T w9 hG hD hO Q
      have d0 := hD.1
      have e0 : (oF 33 T).eval (.tmp 13) = .int .i64 fm := (oF_eval (by decide)).trans (show T 13 = _ from d0)
      refine og_none rfl ?_
      have kz : Kb w9 (w9.alloc (.cells #[.int .i64 fm] 3 (0, 0))) := (Kb.refl w9).alloc _
      exact o_val (v := .slice (some ⟨w9.heap.size, 0, none⟩) 1 1) (w' := w9.alloc (.cells #[.int .i64 fm] 3 (0, 0))) (by generalize (oF 33 T).eval = rr at *; simp [execOp, go_sem, e0]) rfl (sl_is (Is.made w9 _ _) (by simp) rfl (rows_ok rfl rfl)) kz.kx
    · intro T w9 hG hD hO Q
      have d0 := hD.1
      have e0 : (oF 33 T).eval (.func 48) = .func (.func 48) #[] #[] := rfl
      have e1 : (oF 33 T).eval (.func 49) = .func (.func 49) #[] #[] := rfl
      have e2 : (oF 33 T).eval (.tmp 14) = T 14 := oF_eval (by decide)
      have p2 : (fun vv ww => Sl [] 1 ww vv [[.int .i64 fm]]) (T 14) w9 := d0
      refine og_none rfl ?_
      refine o_call (oc2 (enters_of Tryz.func48 (by kernel_rfl) rfl) rfl rfl e1 e2) rfl ?_
      exact (cEach_Int [] _ 0 [fm] [(cmE fm)] _ w9 (by simp) (by simp) rfl p2 (enters_of Tryz.func49 (by kernel_rfl) rfl) (each_ok ⟨(fmat fm), trivial⟩ rfl)).mono fun r W' ⟨v, h1, h2, h3⟩ => ⟨v, h1, h2, h3.kx⟩
    · intro T w9 hG hD hO Q
      have q0 := hO.1
      have e0 : (oF 33 T).eval (.tmp 1) = .pointer (some ⟨w.heap.size, 0, none⟩) := (oF_eval (by decide)).trans (show T 1 = _ from q0)
      refine og_none rfl ?_
      exact o_val (v := .pointer (some ⟨w.heap.size, 2, none⟩)) (w' := w9) (by generalize (oF 33 T).eval = rr at *; simp [execOp, go_sem, e0]) rfl rfl (Kx.refl _ _)
    · intro T w9 hG hD hO Q
      have d0 := hD.1
      have e0 : (oF 33 T).eval (.tmp 16) = .pointer (some ⟨w.heap.size, 2, none⟩) := (oF_eval (by decide)).trans (show T 16 = _ from d0)
      refine og_none rfl ?_
      have im := b1.kx hG (by simp)
      have m0 := im.c (i := 2) rfl
      clear im
      exact o_val (v := .int .i64 ft) (w' := w9) (by generalize (oF 33 T).eval = rr at *; simp [execOp, go_sem, e0, m0]) rfl rfl (Kx.refl _ _)
    · intro T w9 hG hD hO Q
      have d0 := hD.1
      have e0 : (oF 33 T).eval (.tmp 17) = .int .i64 ft := (oF_eval (by decide)).trans (show T 17 = _ from d0)
      have e1 : (oF 33 T).eval (.const (.int .i64 0)) = .int .i64 0 := rfl
      refine og_none rfl ?_
      exact o_val (v := .bool (decide (ft < 0))) (w' := w9) (by generalize (oF 33 T).eval = rr at *; simp [execOp, go_sem, e0, e1]) rfl rfl (Kx.refl _ _)
    · intro T w9 hG hD hO Q
      have d0 := hD.1
      have e0 : (oF 33 T).eval (.tmp 18) = .bool (decide (ft < 0)) := (oF_eval (by decide)).trans (show T 18 = _ from d0)
      refine og_none rfl ?_
      exact o_val (v := .bool (decide (ft < 0))) (w' := w9) (by generalize (oF 33 T).eval = rr at *; simp [execOp, go_sem, e0]) rfl rfl (Kx.refl _ _)
    · intro T w9 hG hD hO Q
      have d0 := hD.1
      have q0 := hO.1
      have e0 : (oF 33 T).eval (.tmp 1) = .pointer (some ⟨w.heap.size, 0, none⟩) := (oF_eval (by decide)).trans (show T 1 = _ from q0)
      refine og_some (b := false) (c := (decide (ft < 0))) rfl (show T 19 = _ from d0) (fun hc => ?_) (fun hc h => absurd h hc)
      exact o_val (v := .pointer (some ⟨w.heap.size, 2, none⟩)) (w' := w9) (by generalize (oF 33 T).eval = rr at *; simp [execOp, go_sem, e0]) rfl (fun _ => rfl) (Kx.refl _ _)
    · intro T w9 hG hD hO Q
      have d0 := hD.1
      have d1 := hD.2.1
      have G0 : (decide (ft < 0)) = false → T 20 = .pointer (some ⟨w.heap.size, 2, none⟩) := d0
      refine og_some (b := false) (c := (decide (ft < 0))) rfl (show T 19 = _ from d1) (fun hc => ?_) (fun hc h => absurd h hc)
      have e0 : (oF 33 T).eval (.tmp 20) = .pointer (some ⟨w.heap.size, 2, none⟩) := (oF_eval (by decide)).trans (G0 hc)
      have im := b1.kx hG (by simp)
      have m0 := im.c (i := 2) rfl
      clear im
      exact o_val (v := .int .i64 ft) (w' := w9) (by generalize (oF 33 T).eval = rr at *; simp [execOp, go_sem, e0, m0]) rfl (fun _ => rfl) (Kx.refl _ _)
    · intro T w9 hG hD hO Q
      have d0 := hD.1
      have d1 := hD.2.1
      have G0 : (decide (ft < 0)) = false → T 21 = .int .i64 ft := d0
      have e1 : (oF 33 T).eval (.const (.int .i64 100000)) = .int .i64 100000 := rfl
      refine og_some (b := false) (c := (decide (ft < 0))) rfl (show T 19 = _ from d1) (fun hc => ?_) (fun hc h => absurd h hc)
      have e0 : (oF 33 T).eval (.tmp 21) = .int .i64 ft := (oF_eval (by decide)).trans (G0 hc)
      exact o_val (v := .bool (decide (100000 < ft))) (w' := w9) (by generalize (oF 33 T).eval = rr at *; simp [execOp, go_sem, e0, e1]) rfl (fun _ => rfl) (Kx.refl _ _)
    · intro T w9 hG hD hO Q
      have d0 := hD.1
      have d1 := hD.2.1
      have e0 : (oF 33 T).eval (.tmp 19) = .bool (decide (ft < 0)) := (oF_eval (by decide)).trans (show T 19 = _ from d0)
      have e1 : (oF 33 T).eval (.const (.bool true)) = .bool true := rfl
      have G2 : (decide (ft < 0)) = false → T 22 = .bool (decide (100000 < ft)) := d1
      have e2 : (oF 33 T).eval (.tmp 22) = T 22 := oF_eval (by decide)
      refine og_none rfl ?_
      rcases Bool.eq_false_or_eq_true (decide (ft < 0)) with hb | hb
      · refine o_val (w' := w9) (v := .bool true) (by rw [hb] at e0; generalize (oF 33 T).eval = rr at *; simp [execOp, go_sem, e0, e1, e2]) rfl (by simp [RL, hb]) (Kx.refl _ _)
      · refine o_val (w' := w9) (v := .bool (decide (100000 < ft))) (by rw [G2 hb] at e2; rw [hb] at e0; generalize (oF 33 T).eval = rr at *; simp [execOp, go_sem, e0, e1, e2]) rfl (by simp [RL, hb]) (Kx.refl _ _)
    · intro T w9 hG hD hO Q
      have d0 := hD.1
      have e0 : (oF 33 T).eval (.func 47) = .func (.func 47) #[] #[] := rfl
      have e1 : (oF 33 T).eval (.tmp 23) = .bool ((decide (ft < 0)) || (decide (100000 < ft))) := (oF_eval (by decide)).trans (show T 23 = _ from d0)
      have e2 : (oF 33 T).eval (.const (.int .i64 2)) = .int .i64 2 := rfl
      refine og_none rfl ?_
      refine o_call (oc2 (enters_of Tryz.func47 (by kernel_rfl) rfl) rfl rfl e1 e2) rfl ?_
      exact (cWhen [] ((decide (ft < 0)) || (decide (100000 < ft))) 2 w9 (by simp)).mono fun r W' ⟨v, h1, h2, h3⟩ => ⟨v, h1, h2, h3.kx⟩
    · intro T w9 hG hD hO Q
      have q0 := hO.1
      have e0 : (oF 33 T).eval (.tmp 1) = .pointer (some ⟨w.heap.size, 0, none⟩) := (oF_eval (by decide)).trans (show T 1 = _ from q0)
      refine og_none rfl ?_
      exact o_val (v := .pointer (some ⟨w.heap.size, 4, none⟩)) (w' := w9) (by generalize (oF 33 T).eval = rr at *; simp [execOp, go_sem, e0]) rfl rfl (Kx.refl _ _)
    · intro T w9 hG hD hO Q
      have d0 := hD.1
      have e0 : (oF 33 T).eval (.tmp 25) = .pointer (some ⟨w.heap.size, 4, none⟩) := (oF_eval (by decide)).trans (show T 25 = _ from d0)
      refine og_none rfl ?_
      have im := b1.kx hG (by simp)
      have m0 := im.c (i := 4) rfl
      clear im
      exact o_val (v := .slice dp dl dc) (w' := w9) (by generalize (oF 33 T).eval = rr at *; simp [execOp, go_sem, e0, m0]) rfl rfl (Kx.refl _ _)
    · intro T w9 hG hD hO Q
      have d0 := hD.1
      have e0 : (oF 33 T).eval (.tmp 26) = .slice dp dl dc := (oF_eval (by decide)).trans (show T 26 = _ from d0)
      refine og_none rfl ?_
      exact o_val (v := .int .i64 (dl : Int)) (w' := w9) (by generalize (oF 33 T).eval = rr at *; simp [go_sem, e0]) rfl rfl (Kx.refl _ _)
    · intro T w9 hG hD hO Q
      have d0 := hD.1
      have e0 : (oF 33 T).eval (.tmp 27) = .int .i64 (dl : Int) := (oF_eval (by decide)).trans (show T 27 = _ from d0)
      have e1 : (oF 33 T).eval (.const (.int .i64 3)) = .int .i64 3 := rfl
      refine og_none rfl ?_
      exact o_val (v := .bool (decide (3 < (dl : Int)))) (w' := w9) (by generalize (oF 33 T).eval = rr at *; simp [execOp, go_sem, e0, e1]) rfl rfl (Kx.refl _ _)
    · intro T w9 hG hD hO Q
      have d0 := hD.1
      have e0 : (oF 33 T).eval (.func 47) = .func (.func 47) #[] #[] := rfl
      have e1 : (oF 33 T).eval (.tmp 28) = .bool (decide (3 < (dl : Int))) := (oF_eval (by decide)).trans (show T 28 = _ from d0)
      have e2 : (oF 33 T).eval (.const (.int .i64 5)) = .int .i64 5 := rfl
      refine og_none rfl ?_
      refine o_call (oc2 (enters_of Tryz.func47 (by kernel_rfl) rfl) rfl rfl e1 e2) rfl ?_
      exact (cWhen [] (decide (3 < (dl : Int))) 5 w9 (by simp)).mono fun r W' ⟨v, h1, h2, h3⟩ => ⟨v, h1, h2, h3.kx⟩
    · intro T w9 hG hD hO Q
      have q0 := hO.1
      have e0 : (oF 33 T).eval (.tmp 1) = .pointer (some ⟨w.heap.size, 0, none⟩) := (oF_eval (by decide)).trans (show T 1 = _ from q0)
      refine og_none rfl ?_
      have im := b1.kx hG (by simp)
      exact o_val (v := .func (.func 50) #[] #[.pointer (some ⟨w.heap.size, 0, none⟩)]) (w' := w9) (by generalize (oF 33 T).eval = rr at *; simp [execOp, go_sem, e0]) rfl (ckPlain (gl.kx hG) im q1) (Kx.refl _ _)
    · intro T w9 hG hD hO Q
      have d0 := hD.1
      have d1 := hD.2.1
      have d2 := hD.2.2.1
      have d3 := hD.2.2.2.1
      have d4 := hD.2.2.2.2.1
      have e0 : (oF 33 T).eval (.tmp 11) = T 11 := oF_eval (by decide)
      have p0 : (fun vv ww => Ck [] vv (fE ((decide (fk < 0)) || (decide (9 ≤ fk))) 1) ww) (T 11) w9 := d0
      have e1 : (oF 33 T).eval (.tmp 15) = T 15 := oF_eval (by decide)
      have p1 : (fun vv ww => Ck [] vv (firstE [(cmE fm)]) ww) (T 15) w9 := d1
      have e2 : (oF 33 T).eval (.tmp 24) = T 24 := oF_eval (by decide)
      have p2 : (fun vv ww => Ck [] vv (fE ((decide (ft < 0)) || (decide (100000 < ft))) 2) ww) (T 24) w9 := d2
      have e3 : (oF 33 T).eval (.tmp 29) = T 29 := oF_eval (by decide)
      have p3 : (fun vv ww => Ck [] vv (fE (decide (3 < (dl : Int))) 5) ww) (T 29) w9 := d3
      have e4 : (oF 33 T).eval (.tmp 30) = T 30 := oF_eval (by decide)
      have p4 : (fun vv ww => Ck [] vv r1 ww) (T 30) w9 := d4
      refine og_none rfl ?_
      obtain ⟨F0, c0, f0, g0, h0⟩ := p0
      obtain ⟨F1, c1, f1, g1, h1⟩ := p1
      obtain ⟨F2, c2, f2, g2, h2⟩ := p2
      obtain ⟨F3, c3, f3, g3, h3⟩ := p3
      obtain ⟨F4, c4, f4, g4, h4⟩ := p4
      rw [f0] at e0
      rw [f1] at e1
      rw [f2] at e2
      rw [f3] at e3
      rw [f4] at e4
      have kz : Kb w9 (w9.alloc (.cells #[.func (.func F0) #[] c0, .func (.func F1) #[] c1, .func (.func F2) #[] c2, .func (.func F3) #[] c3, .func (.func F4) #[] c4] 80 (0, 0))) := (Kb.refl w9).alloc _
      exact o_val (v := .slice (some ⟨w9.heap.size, 0, none⟩) 5 5) (w' := w9.alloc (.cells #[.func (.func F0) #[] c0, .func (.func F1) #[] c1, .func (.func F2) #[] c2, .func (.func F3) #[] c3, .func (.func F4) #[] c4] 80 (0, 0))) (by generalize (oF 33 T).eval = rr at *; simp [execOp, go_sem, e0, e1, e2, e3, e4]) rfl ⟨[.func (.func F0) #[] c0, .func (.func F1) #[] c1, .func (.func F2) #[] c2, .func (.func F3) #[] c3, .func (.func F4) #[] c4], rfl, sl_is (Is.made w9 _ _) (by simp) rfl (rows_ok rfl rfl), cks_ok ⟨(Ck.kx ⟨F0, c0, rfl, g0, h0⟩ kz.kx), (Ck.kx ⟨F1, c1, rfl, g1, h1⟩ kz.kx), (Ck.kx ⟨F2, c2, rfl, g2, h2⟩ kz.kx), (Ck.kx ⟨F3, c3, rfl, g3, h3⟩ kz.kx), (Ck.kx ⟨F4, c4, rfl, g4, h4⟩ kz.kx), trivial⟩ rfl⟩ kz.kx
    · intro T w9 hG hD hO Q
      have d0 := hD.1
      have e0 : (oF 33 T).eval (.func 39) = .func (.func 39) #[] #[] := rfl
      have e1 : (oF 33 T).eval (.tmp 31) = T 31 := oF_eval (by decide)
      have p1 : (fun vv ww => SlC [] [fE ((decide (fk < 0)) || (decide (9 ≤ fk))) 1, firstE [(cmE fm)], fE ((decide (ft < 0)) || (decide (100000 < ft))) 2, fE (decide (3 < (dl : Int))) 5, r1] vv ww) (T 31) w9 := d0
      refine og_none rfl ?_
      refine o_call (oc1 (enters_of Tryz.func39 (by kernel_rfl) rfl) rfl rfl e1) rfl ?_
      exact (cFirst [] _ _ w9 p1 (by simp)).mono fun r W' h => ⟨_, h.1, rfl, h.2.kx⟩
    · intro T w9 hG hD hO Q
      have d0 := hD.1
      have e0 : (oF 33 T).eval (.tmp 32) = .int .i64 (firstE [fE ((decide (fk < 0)) || (decide (9 ≤ fk))) 1, firstE [(cmE fm)], fE ((decide (ft < 0)) || (decide (100000 < ft))) 2, fE (decide (3 < (dl : Int))) 5, r1]) := (oF_eval (by decide)).trans (show T 32 = _ from d0)
      refine og_none rfl ?_
      exact o_val (v := .int .i64 (firstE [fE ((decide (fk < 0)) || (decide (9 ≤ fk))) 1, firstE [(cmE fm)], fE ((decide (ft < 0)) || (decide (100000 < ft))) 2, fE (decide (3 < (dl : Int))) 5, r1])) (w' := w9) (by generalize (oF 33 T).eval = rr at *; simp [execOp, go_sem, e0]) rfl rfl (Kx.refl _ _)
  case fin =>
    intro T w1 hout hval hG
    have s1 := hG.2.2.2.1
    simp only [World.size_drew, World.size_alloc] at s1
    rw [show oF 33 T = (⟨#[T 0, T 1, T 2, T 3, T 4, T 5, T 6, T 7, T 8, T 9, T 10, T 11, T 12, T 13, T 14, T 15, T 16, T 17, T 18, T 19, T 20, T 21, T 22, T 23, T 24, T 25, T 26, T 27, T 28, T 29, T 30, T 31, T 32], []⟩ : Act) from oF_list 33 T]
    rw [show T 0 = .agg #[.int .i64 fk, .bool fd, .int .i64 ft, .int .i64 fm, .slice dp dl dc] from hout 0 rfl]
    rw [show T 2 = .int .i64 (firstE [fE ((decide (fk < 0)) || (decide (9 ≤ fk))) 1, firstE [(cmE fm)], fE ((decide (ft < 0)) || (decide (100000 < ft))) 2, fE (decide (3 < (dl : Int))) 5, r1]) from hval 30 (by decide : 30 < 31)]
    replace b1 := b1.kx hG (by simp)
    replace kx := (show Kb _ _ from kx.drew).trans hG.nil
    replace gl := gl0.out.kb kx
    clear hout hval hG
    go_wp2
    go_ret
    exact ⟨rfl, kx⟩
set_option maxRecDepth 100000 in
theorem fPlain_any (w0 : World) (fk : Int) (fd : Bool) (ft : Int) (fm : Int) (dp : Option Addr) (dl : Nat) (dc : Nat) (r1 : Int) (q1 : Cf w0 51 #[.slice dp dl dc] (.int .i64 r1))  : Cf w0 15 #[.agg #[.int .i64 fk, .bool fd, .int .i64 ft, .int .i64 fm, .slice dp dl dc]] (.int .i64 (firstE [fE ((decide (fk < 0)) || (decide (9 ≤ fk))) 1, firstE [(cmE fm)], fE ((decide (ft < 0)) || (decide (100000 < ft))) 2, fE (decide (3 < (dl : Int))) 5, r1])) := Lib.hid fun w gl => by
  exact fPlain_1 w0 fk fd ft fm dp dl dc r1 q1 w gl
end Go.Proofs.YtlimjohnimgnhaaGreatDoor
