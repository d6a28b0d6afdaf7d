/- Texts Uh: each says in its own first comment what it proves. -/
import Derived.Test.YtlimjohnimgnhaaGreatDoorM33
/- Frames: the examples of the chapter hold. -/
namespace Go.Proofs.YtlimjohnimgnhaaGreatDoor
open Go.RowKit

theorem fHoleC : Ca 38 #[] (.agg #[.string ⟨#[72]⟩, .int .i64 1, .int .i64 2, .int .i64 5000, .int .i64 0, .int .i64 0, .int .i64 1000, .int .i64 1011, .slice none 0 0]) := Lib.hid fun w => fHole_1 w
theorem wpList_makeMap_own {P : Program} (w : World) {ops : Array Oper} {rest : List Oper} {o : Oper} {a : Act} {Q : Exit → Act → World → Prop} (hg : o.guard = none) (t : TypeId) (hop : o.op = Op.makeMap t none)
    (hK : wpList P ops Q rest (a.put o.dst (.map (some w.heap.size))) (w.alloc (.map #[] 0))) : wpList P ops Q (o :: rest) a w := by
  refine wpList_plain hg fun K' hK' => ?_
  unfold Oper.wp
  simp [execOp, hop, run_makeMap, Result.andThen]
  exact hK' _ _ hK
/-- a range over the map of the examples is under way -/
def Rg6 (b r : Nat) (left : Lit → Bool) (cnt : Nat) (w : World) : Prop := w.ranges Tryz.prog 9 (plainElem (H := Unit) Tryz.prog 35) b r 6 mapD6 left cnt
section
variable {b r cnt : Nat} {left : Lit → Bool} {a w : World}
theorem Rg6.kb (h : Rg6 b r left cnt a) (k : Kb a w) : Rg6 b r left cnt w := World.ranges.kept h k.grownN (by simp) (by simp)
theorem Rg6.alloc (h : Rg6 b r left cnt w) (o : Obj) : Rg6 b r left cnt (w.alloc o) := h.kb ((Kb.refl w).alloc o)
theorem Rg6.drew (h : Rg6 b r left cnt w) : Rg6 b r left cnt w.drew := h.kb (show Kb w w.drew from (Kb.refl w).drew)
theorem Rg6.leq (h : Rg6 b r left cnt w) : w.rangeLeft b r = cnt := World.ranges.left_eq h
end
theorem kb_none {a w x : World} (k : Kb a w) (g : w.grownBy x none) : Kb a x := k.grown g (fun j hj => by cases hj)
theorem kb_some {a w x : World} {b : Nat} (k : Kb a w) (g : w.grownBy x (some b)) (hb : a.heap.size ≤ b) : Kb a x := k.grown g (fun j hj => by cases hj; exact hb)
theorem Gf.grown {w0 a x : World} {b : Nat} (h : Gf w0 a) (g : a.grownBy x (some b)) (hb : w0.heap.size ≤ b) : Gf w0 x := ⟨kb_some h.at0 g hb, h.oa, h.ob, h.oc, h.on⟩
set_option maxRecDepth 100000 in
set_option maxHeartbeats 4000000 in
theorem fawake_1 (w0 : World) (w : World) (gl : Gf w0 w)  : Calls Tryz.prog 12 #[] w fun r W' => r = .returned (.bool true) ∧ Kb w W' := by
  have kx := Kb.refl w
  have gl0 := Lib.hid gl
  go_enter Tryz.func12, Tryz.ntmps12
  go_wp2_with fail
  (with_reducible refine ((Ca.o (fHoleC) _)).mono ?_)
  rintro r w1 ⟨rfl, k1⟩
  replace gl := gl.kb k1
  replace kx := kx.trans k1
  have s1 := k1.size
  skip
  clear k1
  go_wp2_with fail
  (with_reducible refine ((Ca.o (fHoleC) _)).mono ?_)
  rintro r w2 ⟨rfl, k2⟩
  replace gl := gl.kb k2
  replace kx := kx.trans k2
  have s2 := k2.size
  skip
  clear k2
  go_wp2_with fail
  have b1 := Is.made w2 #[.string ⟨#[72]⟩, .int .i64 1, .int .i64 2, .int .i64 5000, .int .i64 0, .int .i64 0, .int .i64 1000, .int .i64 1011, .slice none 0 0] 28
  replace b1 := (b1.alloc (.cells #[.string ⟨#[72]⟩, .int .i64 2, .int .i64 2, .int .i64 5000, .int .i64 0, .int .i64 0, .int .i64 1000, .int .i64 1011, .slice none 0 0] 28 (0, 0)))
  have b2 := Is.made (w2.alloc (.cells #[.string ⟨#[72]⟩, .int .i64 1, .int .i64 2, .int .i64 5000, .int .i64 0, .int .i64 0, .int .i64 1000, .int .i64 1011, .slice none 0 0] 28 (0, 0))) #[.string ⟨#[72]⟩, .int .i64 2, .int .i64 2, .int .i64 5000, .int .i64 0, .int .i64 0, .int .i64 1000, .int .i64 1011, .slice none 0 0] 28
  simp only [World.size_alloc] at b2
  replace kx := (kx.alloc (.cells #[.string ⟨#[72]⟩, .int .i64 1, .int .i64 2, .int .i64 5000, .int .i64 0, .int .i64 0, .int .i64 1000, .int .i64 1011, .slice none 0 0] 28 (0, 0))).alloc (.cells #[.string ⟨#[72]⟩, .int .i64 2, .int .i64 2, .int .i64 5000, .int .i64 0, .int .i64 0, .int .i64 1000, .int .i64 1011, .slice none 0 0] 28 (0, 0))
  replace gl := gl0.out.kb kx
  (with_reducible refine (pz0 gl).mono ?_)
  rintro r w3 ⟨⟨dp1, dc1, rfl, hd1, hc1⟩, k3⟩
  replace gl := gl.kb k3
  replace b1 := b1.kb k3
  replace b2 := b2.kb k3
  replace kx := kx.trans k3
  have s3 := k3.size
  simp only [World.size_alloc] at s3
  clear k3
  have gp1 := gl.me
  obtain ⟨bo, off, rfl, hat1⟩ := hd1.at (by decide)
  clear hat1
  have j1 := (b1.alloc (.cells #[.int .i64 8, .bool true, .int .i64 50, .int .i64 1, .slice (some ⟨bo, off, none⟩) 2 dc1] 31 (0, 0)))
  have f2 := j1.c (i := 0) rfl
  have f3 := j1.c (i := 1) rfl
  have f4 := j1.c (i := 2) rfl
  have f5 := j1.c (i := 3) rfl
  have f6 := j1.c (i := 4) rfl
  have f7 := j1.c (i := 5) rfl
  have f8 := j1.c (i := 6) rfl
  have f9 := j1.c (i := 7) rfl
  have f10 := j1.c (i := 8) rfl
  have j11 := (Is.made w3 #[.int .i64 8, .bool true, .int .i64 50, .int .i64 1, .slice (some ⟨bo, off, none⟩) 2 dc1] 31)
  have f12 := j11.c (i := 0) rfl
  have f13 := j11.c (i := 1) rfl
  have f14 := j11.c (i := 2) rfl
  have f15 := j11.c (i := 3) rfl
  have f16 := j11.c (i := 4) rfl
  go_wp2_with fail
  clear f2 f3 f4 f5 f6 f7 f8 f9 f10 f12 f13 f14 f15 f16
  replace b1 := j1
  replace b2 := (b2.alloc (.cells #[.int .i64 8, .bool true, .int .i64 50, .int .i64 1, .slice (some ⟨bo, off, none⟩) 2 dc1] 31 (0, 0)))
  replace gp1 := (gp1.alloc (.cells #[.int .i64 8, .bool true, .int .i64 50, .int .i64 1, .slice (some ⟨bo, off, none⟩) 2 dc1] 31 (0, 0)))
  have b3 := j11
  replace kx := kx.alloc (.cells #[.int .i64 8, .bool true, .int .i64 50, .int .i64 1, .slice (some ⟨bo, off, none⟩) 2 dc1] 31 (0, 0))
  clear j1 j11
  replace gl := gl0.out.kb kx
  (with_reducible refine (cv_h hd1 hc1 gp1).mono ?_)
  rintro r w4 ⟨rfl, k4⟩
  replace gl := gl.kb k4
  replace b1 := b1.kb k4
  replace b2 := b2.kb k4
  replace gp1 := gp1.kb k4
  replace b3 := b3.kb k4
  replace kx := kx.trans k4
  have s4 := k4.size
  simp only [World.size_alloc] at s4
  clear k4
  have f17 := b2.c (i := 0) rfl
  have f18 := b2.c (i := 1) rfl
  have f19 := b2.c (i := 2) rfl
  have f20 := b2.c (i := 3) rfl
  have f21 := b2.c (i := 4) rfl
  have f22 := b2.c (i := 5) rfl
  have f23 := b2.c (i := 6) rfl
  have f24 := b2.c (i := 7) rfl
  have f25 := b2.c (i := 8) rfl
  have f26 := b3.c (i := 0) rfl
  have f27 := b3.c (i := 1) rfl
  have f28 := b3.c (i := 2) rfl
  have f29 := b3.c (i := 3) rfl
  have f30 := b3.c (i := 4) rfl
  go_wp2_with fail
  clear f17 f18 f19 f20 f21 f22 f23 f24 f25 f26 f27 f28 f29 f30
  (with_reducible refine (cv_p hd1 hc1 gp1).mono ?_)
  rintro r w5 ⟨rfl, k5⟩
  replace gl := gl.kb k5
  replace b1 := b1.kb k5
  replace b2 := b2.kb k5
  replace gp1 := gp1.kb k5
  replace b3 := b3.kb k5
  replace kx := kx.trans k5
  have s5 := k5.size
  skip
  clear k5
  have f31 := b1.c (i := 0) rfl
  have f32 := b1.c (i := 1) rfl
  have f33 := b1.c (i := 2) rfl
  have f34 := b1.c (i := 3) rfl
  have f35 := b1.c (i := 4) rfl
  have f36 := b1.c (i := 5) rfl
  have f37 := b1.c (i := 6) rfl
  have f38 := b1.c (i := 7) rfl
  have f39 := b1.c (i := 8) rfl
  have f40 := b3.c (i := 0) rfl
  have f41 := b3.c (i := 1) rfl
  have f42 := b3.c (i := 2) rfl
  have f43 := b3.c (i := 3) rfl
  have f44 := b3.c (i := 4) rfl
  go_wp2_with fail
  clear f31 f32 f33 f34 f35 f36 f37 f38 f39 f40 f41 f42 f43 f44
  (with_reducible refine (cb_h hd1 hc1 gp1).mono ?_)
  rintro r w6 ⟨rfl, k6⟩
  replace gl := gl.kb k6
  replace b1 := b1.kb k6
  replace b2 := b2.kb k6
  replace gp1 := gp1.kb k6
  replace b3 := b3.kb k6
  replace kx := kx.trans k6
  have s6 := k6.size
  skip
  clear k6
  have f45 := b2.c (i := 0) rfl
  have f46 := b2.c (i := 1) rfl
  have f47 := b2.c (i := 2) rfl
  have f48 := b2.c (i := 3) rfl
  have f49 := b2.c (i := 4) rfl
  have f50 := b2.c (i := 5) rfl
  have f51 := b2.c (i := 6) rfl
  have f52 := b2.c (i := 7) rfl
  have f53 := b2.c (i := 8) rfl
  have f54 := b3.c (i := 0) rfl
  have f55 := b3.c (i := 1) rfl
  have f56 := b3.c (i := 2) rfl
  have f57 := b3.c (i := 3) rfl
  have f58 := b3.c (i := 4) rfl
  go_wp2_with fail
  clear f45 f46 f47 f48 f49 f50 f51 f52 f53 f54 f55 f56 f57 f58
  (with_reducible refine (cb_p hd1 hc1 gp1).mono ?_)
  rintro r w7 ⟨rfl, k7⟩
  replace gl := gl.kb k7
  replace b1 := b1.kb k7
  replace b2 := b2.kb k7
  replace gp1 := gp1.kb k7
  replace b3 := b3.kb k7
  replace kx := kx.trans k7
  have s7 := k7.size
  skip
  clear k7
  have f59 := b3.c (i := 1) rfl
  have f60 := b3.c (i := 4) rfl
  obtain ⟨yb0, yb1⟩ := hd1.cell (gp1).at0 (show ([(⟨#[65]⟩, 0), (⟨#[66]⟩, 1)] : List DatT)[1]? = some (⟨#[66]⟩, 1) from rfl)
  dsimp only at yb0 yb1
  have ho0 : (w7.alloc (.map #[] 0)).ownsMap Tryz.prog 9 (plainElem (H := Unit) Tryz.prog 35) w7.heap.size 0 mapD0 := World.ownsMap_made _ _ _ _
  have la_b1 := b1.lt
  have la_b2 := b2.lt
  have la_gp1 := gp1.size
  have la_b3 := b3.lt
  have sw0 := kx.size
  go_wp2_with (first | (refine wpList_makeMap_own _ rfl _ rfl ?_) | (refine wpList_insert_own _ rfl _ _ _ 78 rfl 9 35 law_str Tryz.underlying78 _ w7.heap.size 0 mapD0 rfl ho0 (by unfold maxLen; omega) (.string ⟨#[102, 108, 97, 116, 32, 51, 48]⟩) (.int .i64 14) (.string [102, 108, 97, 116, 32, 51, 48]) rfl rfl (Go.WideMaps.keyOf_string_mk Tryz.underlying9 (by decide)) (.lit (.int .i64 14)) [] (plainElem_int errno_int (show (Lit.int .i64 14).wf = true by decide)) ?_) | fail)
  intro m1 ho1 hg1
  clear f59 f60
  go_wp2_with (first | (refine wpList_insert_own _ rfl _ _ _ 78 rfl 9 35 law_str Tryz.underlying78 _ w7.heap.size 1 mapD1 rfl ho1 (by unfold maxLen; omega) (.string ⟨#[102, 108, 97, 116, 32, 100, 105, 115, 99, 32, 51, 48]⟩) (.int .i64 14) (.string [102, 108, 97, 116, 32, 100, 105, 115, 99, 32, 51, 48]) rfl rfl (Go.WideMaps.keyOf_string_mk Tryz.underlying9 (by decide)) (.lit (.int .i64 14)) [] (plainElem_int errno_int (show (Lit.int .i64 14).wf = true by decide)) ?_) | fail)
  intro m2 ho2 hg2
  clear ho1
  go_wp2_with (first | (refine wpList_insert_own _ rfl _ _ _ 78 rfl 9 35 law_str Tryz.underlying78 _ w7.heap.size 2 mapD2 rfl ho2 (by unfold maxLen; omega) (.string ⟨#[112, 111, 115, 105, 116, 105, 111, 110, 32, 48]⟩) (.int .i64 10) (.string [112, 111, 115, 105, 116, 105, 111, 110, 32, 48]) rfl rfl (Go.WideMaps.keyOf_string_mk Tryz.underlying9 (by decide)) (.lit (.int .i64 10)) [] (plainElem_int errno_int (show (Lit.int .i64 10).wf = true by decide)) ?_) | fail)
  intro m3 ho3 hg3
  clear ho2
  go_wp2_with (first | (refine wpList_insert_own _ rfl _ _ _ 78 rfl 9 35 law_str Tryz.underlying78 _ w7.heap.size 3 mapD3 rfl ho3 (by unfold maxLen; omega) (.string ⟨#[112, 111, 115, 105, 116, 105, 111, 110, 32, 48, 40, 77, 41, 32, 65]⟩) (.int .i64 0) (.string [112, 111, 115, 105, 116, 105, 111, 110, 32, 48, 40, 77, 41, 32, 65]) rfl rfl (Go.WideMaps.keyOf_string_mk Tryz.underlying9 (by decide)) (.lit (.int .i64 0)) [] (plainElem_int errno_int (show (Lit.int .i64 0).wf = true by decide)) ?_) | fail)
  intro m4 ho4 hg4
  clear ho3
  go_wp2_with (first | (refine wpList_insert_own _ rfl _ _ _ 78 rfl 9 35 law_str Tryz.underlying78 _ w7.heap.size 4 mapD4 rfl ho4 (by unfold maxLen; omega) (.string ⟨#[115, 113, 117, 97, 114, 101, 32, 50, 48]⟩) (.int .i64 13) (.string [115, 113, 117, 97, 114, 101, 32, 50, 48]) rfl rfl (Go.WideMaps.keyOf_string_mk Tryz.underlying9 (by decide)) (.lit (.int .i64 13)) [] (plainElem_int errno_int (show (Lit.int .i64 13).wf = true by decide)) ?_) | fail)
  intro m5 ho5 hg5
  clear ho4
  go_wp2_with (first | (refine wpList_insert_own _ rfl _ _ _ 78 rfl 9 35 law_str Tryz.underlying78 _ w7.heap.size 5 mapD5 rfl ho5 (by unfold maxLen; omega) (.string ⟨#[114, 117, 110, 111, 117, 116, 32, 50, 48, 32, 65, 32, 66]⟩) (.int .i64 5) (.string [114, 117, 110, 111, 117, 116, 32, 50, 48, 32, 65, 32, 66]) rfl rfl (Go.WideMaps.keyOf_string_mk Tryz.underlying9 (by decide)) (.lit (.int .i64 5)) [] (plainElem_int errno_int (show (Lit.int .i64 5).wf = true by decide)) ?_) | fail)
  intro m6 ho6 hg6
  clear ho5
  go_wp2_with (first | (refine wpList_range_own _ rfl _ 78 rfl 9 35 law_str Tryz.underlying78 _ w7.heap.size 6 mapD6 rfl ho6 ?_) | fail)
  intro mr hrg hgr hsr
  have km := kb_none (kb_some (kb_some (kb_some (kb_some (kb_some (kb_some ((Kb.refl w7).alloc (.map #[] 0)) hg1 (Nat.le_refl _)) hg2 (Nat.le_refl _)) hg3 (Nat.le_refl _)) hg4 (Nat.le_refl _)) hg5 (Nat.le_refl _)) hg6 (Nat.le_refl _)) hgr
  have sm6 : w7.heap.size ≤ m6.heap.size := (show Kb w7 m6 from (kb_some (kb_some (kb_some (kb_some (kb_some (kb_some ((Kb.refl w7).alloc (.map #[] 0)) hg1 (Nat.le_refl _)) hg2 (Nat.le_refl _)) hg3 (Nat.le_refl _)) hg4 (Nat.le_refl _)) hg5 (Nat.le_refl _)) hg6 (Nat.le_refl _))).size
  replace b1 := b1.kb km
  replace b2 := b2.kb km
  replace gp1 := gp1.kb km
  replace b3 := b3.kb km
  replace kx := kx.trans km
  replace gl := gl0.out.kb kx
  have hr1 : Rg6 w7.heap.size m6.heap.size (Maps.has mapD6) (Maps.size mapD6) mr := hrg
  clear hrg hgr hsr ho6 km hg1 hg2 hg3 hg4 hg5 hg6
  generalize w7.heap.size = mb at *
  generalize m6.heap.size = rr at *
  go_wp2_with fail
  go_loopw [13] (fun _ wr => ∃ (left : Lit → Bool) (cnt : Nat), Rg6 mb rr left cnt wr ∧ (∀ kl, left kl = true → Maps.has mapD6 kl = true) ∧ Is wr (w2.heap.size) #[.string ⟨#[72]⟩, .int .i64 1, .int .i64 2, .int .i64 5000, .int .i64 0, .int .i64 0, .int .i64 1000, .int .i64 1011, .slice none 0 0] 28 ∧ Is wr (w2.heap.size + 1) #[.string ⟨#[72]⟩, .int .i64 2, .int .i64 2, .int .i64 5000, .int .i64 0, .int .i64 0, .int .i64 1000, .int .i64 1011, .slice none 0 0] 28 ∧ Gf w3 wr ∧ Is wr (w3.heap.size) #[.int .i64 8, .bool true, .int .i64 50, .int .i64 1, .slice (some ⟨bo, off, none⟩) 2 dc1] 31 ∧ Kb w wr) (fun _ wr => wr.rangeLeft mb rr)
  case atStart => exact ⟨_, _, hr1, fun _ h => h, b1, b2, gp1, b3, kx⟩
  case round =>
    clear hr1 kx b1 b2 gp1 b3
    obtain ⟨left, cnt, hr1, hsub, b1, b2, gp1, b3, kx⟩ := hrel
    replace gl := gl0.out.kb kx
    have HM := Lib.hid hr1.leq
    go_wp2_with (first | (refine wpList_next_si _ rfl _ rfl mb rr 6 _ _ _ rfl hr1 ?_ ?_) | fail)
    · intro _ hl0
      clear hr1 hsub HM hl0
      go_wp2_with fail
      replace b1 := (b1.alloc (.cells #[.string ⟨#[80]⟩, .int .i64 0, .int .i64 0, .int .i64 0, .int .i64 0, .int .i64 0, .int .i64 0, .int .i64 0, .slice none 0 0] 28 (0, 0)))
      replace b2 := (b2.alloc (.cells #[.string ⟨#[80]⟩, .int .i64 0, .int .i64 0, .int .i64 0, .int .i64 0, .int .i64 0, .int .i64 0, .int .i64 0, .slice none 0 0] 28 (0, 0)))
      replace gp1 := (gp1.alloc (.cells #[.string ⟨#[80]⟩, .int .i64 0, .int .i64 0, .int .i64 0, .int .i64 0, .int .i64 0, .int .i64 0, .int .i64 0, .slice none 0 0] 28 (0, 0)))
      replace b3 := (b3.alloc (.cells #[.string ⟨#[80]⟩, .int .i64 0, .int .i64 0, .int .i64 0, .int .i64 0, .int .i64 0, .int .i64 0, .int .i64 0, .slice none 0 0] 28 (0, 0)))
      have b4 := Is.made wr #[.string ⟨#[80]⟩, .int .i64 0, .int .i64 0, .int .i64 0, .int .i64 0, .int .i64 0, .int .i64 0, .int .i64 0, .slice none 0 0] 28
      replace kx := kx.alloc (.cells #[.string ⟨#[80]⟩, .int .i64 0, .int .i64 0, .int .i64 0, .int .i64 0, .int .i64 0, .int .i64 0, .int .i64 0, .slice none 0 0] 28 (0, 0))
      replace gl := gl0.out.kb kx
      (with_reducible refine (pz1 gl).mono ?_)
      rintro r w8 ⟨⟨dp2, dc2, rfl, hd2, hc2⟩, k8⟩
      replace gl := gl.kb k8
      replace b1 := b1.kb k8
      replace b2 := b2.kb k8
      replace gp1 := gp1.kb k8
      replace b3 := b3.kb k8
      replace b4 := b4.kb k8
      replace kx := kx.trans k8
      have s8 := k8.size
      simp only [World.size_alloc] at s8
      clear k8
      have gp2 := gl.me
      go_wp2_with fail
      replace b1 := (b1.alloc (.cells #[.int .i64 1, .bool false, .int .i64 30, .int .i64 0, .slice dp2 0 dc2] 31 (0, 0)))
      replace b2 := (b2.alloc (.cells #[.int .i64 1, .bool false, .int .i64 30, .int .i64 0, .slice dp2 0 dc2] 31 (0, 0)))
      replace gp1 := (gp1.alloc (.cells #[.int .i64 1, .bool false, .int .i64 30, .int .i64 0, .slice dp2 0 dc2] 31 (0, 0)))
      replace b3 := (b3.alloc (.cells #[.int .i64 1, .bool false, .int .i64 30, .int .i64 0, .slice dp2 0 dc2] 31 (0, 0)))
      replace b4 := (b4.alloc (.cells #[.int .i64 1, .bool false, .int .i64 30, .int .i64 0, .slice dp2 0 dc2] 31 (0, 0)))
      replace gp2 := (gp2.alloc (.cells #[.int .i64 1, .bool false, .int .i64 30, .int .i64 0, .slice dp2 0 dc2] 31 (0, 0)))
      have b5 := Is.made w8 #[.int .i64 1, .bool false, .int .i64 30, .int .i64 0, .slice dp2 0 dc2] 31
      replace kx := kx.alloc (.cells #[.int .i64 1, .bool false, .int .i64 30, .int .i64 0, .slice dp2 0 dc2] 31 (0, 0))
      replace gl := gl0.out.kb kx
      (with_reducible refine (pz2 gl).mono ?_)
      rintro r w9 ⟨⟨dp3, dc3, rfl, hd3, hc3⟩, k9⟩
      replace gl := gl.kb k9
      replace b1 := b1.kb k9
      replace b2 := b2.kb k9
      replace gp1 := gp1.kb k9
      replace b3 := b3.kb k9
      replace b4 := b4.kb k9
      replace gp2 := gp2.kb k9
      replace b5 := b5.kb k9
      replace kx := kx.trans k9
      have s9 := k9.size
      simp only [World.size_alloc] at s9
      clear k9
      have gp3 := gl.me
      have j61 := (b4.alloc (.cells #[.int .i64 1, .bool true, .int .i64 30, .int .i64 0, .slice dp3 0 dc3] 31 (0, 0)))
      have f62 := j61.c (i := 0) rfl
      have f63 := j61.c (i := 1) rfl
      have f64 := j61.c (i := 2) rfl
      have f65 := j61.c (i := 3) rfl
      have f66 := j61.c (i := 4) rfl
      have f67 := j61.c (i := 5) rfl
      have f68 := j61.c (i := 6) rfl
      have f69 := j61.c (i := 7) rfl
      have f70 := j61.c (i := 8) rfl
      have j71 := (b5.alloc (.cells #[.int .i64 1, .bool true, .int .i64 30, .int .i64 0, .slice dp3 0 dc3] 31 (0, 0)))
      have f72 := j71.c (i := 0) rfl
      have f73 := j71.c (i := 1) rfl
      have f74 := j71.c (i := 2) rfl
      have f75 := j71.c (i := 3) rfl
      have f76 := j71.c (i := 4) rfl
      go_wp2_with fail
      clear f62 f63 f64 f65 f66 f67 f68 f69 f70 f72 f73 f74 f75 f76
      replace b1 := (b1.alloc (.cells #[.int .i64 1, .bool true, .int .i64 30, .int .i64 0, .slice dp3 0 dc3] 31 (0, 0)))
      replace b2 := (b2.alloc (.cells #[.int .i64 1, .bool true, .int .i64 30, .int .i64 0, .slice dp3 0 dc3] 31 (0, 0)))
      replace gp1 := (gp1.alloc (.cells #[.int .i64 1, .bool true, .int .i64 30, .int .i64 0, .slice dp3 0 dc3] 31 (0, 0)))
      replace b3 := (b3.alloc (.cells #[.int .i64 1, .bool true, .int .i64 30, .int .i64 0, .slice dp3 0 dc3] 31 (0, 0)))
      replace b4 := j61
      replace gp2 := (gp2.alloc (.cells #[.int .i64 1, .bool true, .int .i64 30, .int .i64 0, .slice dp3 0 dc3] 31 (0, 0)))
      replace b5 := j71
      replace gp3 := (gp3.alloc (.cells #[.int .i64 1, .bool true, .int .i64 30, .int .i64 0, .slice dp3 0 dc3] 31 (0, 0)))
      have b6 := Is.made w9 #[.int .i64 1, .bool true, .int .i64 30, .int .i64 0, .slice dp3 0 dc3] 31
      replace kx := kx.alloc (.cells #[.int .i64 1, .bool true, .int .i64 30, .int .i64 0, .slice dp3 0 dc3] 31 (0, 0))
      clear j61 j71
      replace gl := gl0.out.kb kx
      (with_reducible refine (cq0 hd2 hc2 gp2).mono ?_)
      rintro r w10 ⟨rfl, k10⟩
      replace gl := gl.kb k10
      replace b1 := b1.kb k10
      replace b2 := b2.kb k10
      replace gp1 := gp1.kb k10
      replace b3 := b3.kb k10
      replace b4 := b4.kb k10
      replace gp2 := gp2.kb k10
      replace b5 := b5.kb k10
      replace gp3 := gp3.kb k10
      replace b6 := b6.kb k10
      replace kx := kx.trans k10
      have s10 := k10.size
      simp only [World.size_alloc] at s10
      clear k10
      have f77 := b4.c (i := 0) rfl
      have f78 := b4.c (i := 1) rfl
      have f79 := b4.c (i := 2) rfl
      have f80 := b4.c (i := 3) rfl
      have f81 := b4.c (i := 4) rfl
      have f82 := b4.c (i := 5) rfl
      have f83 := b4.c (i := 6) rfl
      have f84 := b4.c (i := 7) rfl
      have f85 := b4.c (i := 8) rfl
      have f86 := b6.c (i := 0) rfl
      have f87 := b6.c (i := 1) rfl
      have f88 := b6.c (i := 2) rfl
      have f89 := b6.c (i := 3) rfl
      have f90 := b6.c (i := 4) rfl
      go_wp2_with fail
      clear f77 f78 f79 f80 f81 f82 f83 f84 f85 f86 f87 f88 f89 f90
      (with_reducible refine (cq1 hd3 hc3 gp3).mono ?_)
      rintro r w11 ⟨rfl, k11⟩
      replace gl := gl.kb k11
      replace b1 := b1.kb k11
      replace b2 := b2.kb k11
      replace gp1 := gp1.kb k11
      replace b3 := b3.kb k11
      replace b4 := b4.kb k11
      replace gp2 := gp2.kb k11
      replace b5 := b5.kb k11
      replace gp3 := gp3.kb k11
      replace b6 := b6.kb k11
      replace kx := kx.trans k11
      have s11 := k11.size
      skip
      clear k11
      go_wp2
      go_ret
      exact ⟨rfl, kx⟩
    · intro x c w1 cnt1 hlx hat hrg1 hlt hg1 hs1 hen
      have hr2 : Rg6 mb rr _ cnt1 w1 := hrg1
      replace b1 := b1.grown hg1 (by intro e; injection e with e; omega)
      replace b2 := b2.grown hg1 (by intro e; injection e with e; omega)
      replace gp1 := gp1.grown hg1 (by omega)
      replace b3 := b3.grown hg1 (by intro e; injection e with e; omega)
      replace kx := kb_some kx hg1 (by omega)
      replace gl := gl0.out.kb kx
      have hk := map_has (hsub _ hlx)
      clear hr1 hlx hg1 hrg1
      rcases hk with h | h | h | h | h | h
      · obtain rfl := ba_of h
        obtain rfl : c = 14 := by
          have h2 := hat mapD0
          rw [map_at0] at h2
          injection h2 with h2
          injection h2 with h3 h4
          exact h4.symm
        clear h hat
        go_wp2_with fail
        (with_reducible refine (pz1 gl).mono ?_)
        rintro r w8 ⟨⟨dp2, dc2, rfl, hd2, hc2⟩, k8⟩
        replace gl := gl.kb k8
        replace b1 := b1.kb k8
        replace b2 := b2.kb k8
        replace gp1 := gp1.kb k8
        replace b3 := b3.kb k8
        replace hr2 := hr2.kb k8
        replace kx := kx.trans k8
        have s8 := k8.size
        skip
        clear k8
        have gp2 := gl.me
        have j61 := (b1.alloc (.cells #[.int .i64 1, .bool false, .int .i64 30, .int .i64 0, .slice dp2 0 dc2] 31 (0, 0)))
        have f62 := j61.c (i := 0) rfl
        have f63 := j61.c (i := 1) rfl
        have f64 := j61.c (i := 2) rfl
        have f65 := j61.c (i := 3) rfl
        have f66 := j61.c (i := 4) rfl
        have f67 := j61.c (i := 5) rfl
        have f68 := j61.c (i := 6) rfl
        have f69 := j61.c (i := 7) rfl
        have f70 := j61.c (i := 8) rfl
        have j71 := (Is.made w8 #[.int .i64 1, .bool false, .int .i64 30, .int .i64 0, .slice dp2 0 dc2] 31)
        have f72 := j71.c (i := 0) rfl
        have f73 := j71.c (i := 1) rfl
        have f74 := j71.c (i := 2) rfl
        have f75 := j71.c (i := 3) rfl
        have f76 := j71.c (i := 4) rfl
        go_wp2_with fail
        clear f62 f63 f64 f65 f66 f67 f68 f69 f70 f72 f73 f74 f75 f76
        replace b1 := j61
        replace b2 := (b2.alloc (.cells #[.int .i64 1, .bool false, .int .i64 30, .int .i64 0, .slice dp2 0 dc2] 31 (0, 0)))
        replace gp1 := (gp1.alloc (.cells #[.int .i64 1, .bool false, .int .i64 30, .int .i64 0, .slice dp2 0 dc2] 31 (0, 0)))
        replace b3 := (b3.alloc (.cells #[.int .i64 1, .bool false, .int .i64 30, .int .i64 0, .slice dp2 0 dc2] 31 (0, 0)))
        replace hr2 := (hr2.alloc (.cells #[.int .i64 1, .bool false, .int .i64 30, .int .i64 0, .slice dp2 0 dc2] 31 (0, 0)))
        replace gp2 := (gp2.alloc (.cells #[.int .i64 1, .bool false, .int .i64 30, .int .i64 0, .slice dp2 0 dc2] 31 (0, 0)))
        have b4 := j71
        replace kx := kx.alloc (.cells #[.int .i64 1, .bool false, .int .i64 30, .int .i64 0, .slice dp2 0 dc2] 31 (0, 0))
        clear j61 j71
        replace gl := gl0.out.kb kx
        (with_reducible refine (cc0 hd2 hc2 gp2).mono ?_)
        rintro r w9 ⟨rfl, k9⟩
        replace gl := gl.kb k9
        replace b1 := b1.kb k9
        replace b2 := b2.kb k9
        replace gp1 := gp1.kb k9
        replace b3 := b3.kb k9
        replace hr2 := hr2.kb k9
        replace gp2 := gp2.kb k9
        replace b4 := b4.kb k9
        replace kx := kx.trans k9
        have s9 := k9.size
        simp only [World.size_alloc] at s9
        clear k9
        go_wp2_with fail
        go_roundw
        case rel => exact ⟨_, cnt1, hr2, fun kl hl => hsub kl (Bool.and_eq_true_iff.1 hl).1, b1, b2, gp1, b3, kx⟩
        case measure => rw [hr2.leq, HM.out]; exact hlt
      · obtain rfl := ba_of h
        obtain rfl : c = 14 := by
          have h2 := hat mapD0
          rw [map_at1] at h2
          injection h2 with h2
          injection h2 with h3 h4
          exact h4.symm
        clear h hat
        go_wp2_with fail
        (with_reducible refine (pz2 gl).mono ?_)
        rintro r w8 ⟨⟨dp2, dc2, rfl, hd2, hc2⟩, k8⟩
        replace gl := gl.kb k8
        replace b1 := b1.kb k8
        replace b2 := b2.kb k8
        replace gp1 := gp1.kb k8
        replace b3 := b3.kb k8
        replace hr2 := hr2.kb k8
        replace kx := kx.trans k8
        have s8 := k8.size
        skip
        clear k8
        have gp2 := gl.me
        have j61 := (b1.alloc (.cells #[.int .i64 1, .bool true, .int .i64 30, .int .i64 0, .slice dp2 0 dc2] 31 (0, 0)))
        have f62 := j61.c (i := 0) rfl
        have f63 := j61.c (i := 1) rfl
        have f64 := j61.c (i := 2) rfl
        have f65 := j61.c (i := 3) rfl
        have f66 := j61.c (i := 4) rfl
        have f67 := j61.c (i := 5) rfl
        have f68 := j61.c (i := 6) rfl
        have f69 := j61.c (i := 7) rfl
        have f70 := j61.c (i := 8) rfl
        have j71 := (Is.made w8 #[.int .i64 1, .bool true, .int .i64 30, .int .i64 0, .slice dp2 0 dc2] 31)
        have f72 := j71.c (i := 0) rfl
        have f73 := j71.c (i := 1) rfl
        have f74 := j71.c (i := 2) rfl
        have f75 := j71.c (i := 3) rfl
        have f76 := j71.c (i := 4) rfl
        go_wp2_with fail
        clear f62 f63 f64 f65 f66 f67 f68 f69 f70 f72 f73 f74 f75 f76
        replace b1 := j61
        replace b2 := (b2.alloc (.cells #[.int .i64 1, .bool true, .int .i64 30, .int .i64 0, .slice dp2 0 dc2] 31 (0, 0)))
        replace gp1 := (gp1.alloc (.cells #[.int .i64 1, .bool true, .int .i64 30, .int .i64 0, .slice dp2 0 dc2] 31 (0, 0)))
        replace b3 := (b3.alloc (.cells #[.int .i64 1, .bool true, .int .i64 30, .int .i64 0, .slice dp2 0 dc2] 31 (0, 0)))
        replace hr2 := (hr2.alloc (.cells #[.int .i64 1, .bool true, .int .i64 30, .int .i64 0, .slice dp2 0 dc2] 31 (0, 0)))
        replace gp2 := (gp2.alloc (.cells #[.int .i64 1, .bool true, .int .i64 30, .int .i64 0, .slice dp2 0 dc2] 31 (0, 0)))
        have b4 := j71
        replace kx := kx.alloc (.cells #[.int .i64 1, .bool true, .int .i64 30, .int .i64 0, .slice dp2 0 dc2] 31 (0, 0))
        clear j61 j71
        replace gl := gl0.out.kb kx
        (with_reducible refine (cc1 hd2 hc2 gp2).mono ?_)
        rintro r w9 ⟨rfl, k9⟩
        replace gl := gl.kb k9
        replace b1 := b1.kb k9
        replace b2 := b2.kb k9
        replace gp1 := gp1.kb k9
        replace b3 := b3.kb k9
        replace hr2 := hr2.kb k9
        replace gp2 := gp2.kb k9
        replace b4 := b4.kb k9
        replace kx := kx.trans k9
        have s9 := k9.size
        simp only [World.size_alloc] at s9
        clear k9
        go_wp2_with fail
        go_roundw
        case rel => exact ⟨_, cnt1, hr2, fun kl hl => hsub kl (Bool.and_eq_true_iff.1 hl).1, b1, b2, gp1, b3, kx⟩
        case measure => rw [hr2.leq, HM.out]; exact hlt
      · obtain rfl := ba_of h
        obtain rfl : c = 10 := by
          have h2 := hat mapD0
          rw [map_at2] at h2
          injection h2 with h2
          injection h2 with h3 h4
          exact h4.symm
        clear h hat
        go_wp2_with fail
        (with_reducible refine (pz3 gl).mono ?_)
        rintro r w8 ⟨⟨dp2, dc2, rfl, hd2, hc2⟩, k8⟩
        replace gl := gl.kb k8
        replace b1 := b1.kb k8
        replace b2 := b2.kb k8
        replace gp1 := gp1.kb k8
        replace b3 := b3.kb k8
        replace hr2 := hr2.kb k8
        replace kx := kx.trans k8
        have s8 := k8.size
        skip
        clear k8
        have gp2 := gl.me
        have j61 := (b1.alloc (.cells #[.int .i64 8, .bool false, .int .i64 0, .int .i64 0, .slice dp2 0 dc2] 31 (0, 0)))
        have f62 := j61.c (i := 0) rfl
        have f63 := j61.c (i := 1) rfl
        have f64 := j61.c (i := 2) rfl
        have f65 := j61.c (i := 3) rfl
        have f66 := j61.c (i := 4) rfl
        have f67 := j61.c (i := 5) rfl
        have f68 := j61.c (i := 6) rfl
        have f69 := j61.c (i := 7) rfl
        have f70 := j61.c (i := 8) rfl
        have j71 := (Is.made w8 #[.int .i64 8, .bool false, .int .i64 0, .int .i64 0, .slice dp2 0 dc2] 31)
        have f72 := j71.c (i := 0) rfl
        have f73 := j71.c (i := 1) rfl
        have f74 := j71.c (i := 2) rfl
        have f75 := j71.c (i := 3) rfl
        have f76 := j71.c (i := 4) rfl
        go_wp2_with fail
        clear f62 f63 f64 f65 f66 f67 f68 f69 f70 f72 f73 f74 f75 f76
        replace b1 := j61
        replace b2 := (b2.alloc (.cells #[.int .i64 8, .bool false, .int .i64 0, .int .i64 0, .slice dp2 0 dc2] 31 (0, 0)))
        replace gp1 := (gp1.alloc (.cells #[.int .i64 8, .bool false, .int .i64 0, .int .i64 0, .slice dp2 0 dc2] 31 (0, 0)))
        replace b3 := (b3.alloc (.cells #[.int .i64 8, .bool false, .int .i64 0, .int .i64 0, .slice dp2 0 dc2] 31 (0, 0)))
        replace hr2 := (hr2.alloc (.cells #[.int .i64 8, .bool false, .int .i64 0, .int .i64 0, .slice dp2 0 dc2] 31 (0, 0)))
        replace gp2 := (gp2.alloc (.cells #[.int .i64 8, .bool false, .int .i64 0, .int .i64 0, .slice dp2 0 dc2] 31 (0, 0)))
        have b4 := j71
        replace kx := kx.alloc (.cells #[.int .i64 8, .bool false, .int .i64 0, .int .i64 0, .slice dp2 0 dc2] 31 (0, 0))
        clear j61 j71
        replace gl := gl0.out.kb kx
        (with_reducible refine (cc2 hd2 hc2 gp2).mono ?_)
        rintro r w9 ⟨rfl, k9⟩
        replace gl := gl.kb k9
        replace b1 := b1.kb k9
        replace b2 := b2.kb k9
        replace gp1 := gp1.kb k9
        replace b3 := b3.kb k9
        replace hr2 := hr2.kb k9
        replace gp2 := gp2.kb k9
        replace b4 := b4.kb k9
        replace kx := kx.trans k9
        have s9 := k9.size
        simp only [World.size_alloc] at s9
        clear k9
        go_wp2_with fail
        go_roundw
        case rel => exact ⟨_, cnt1, hr2, fun kl hl => hsub kl (Bool.and_eq_true_iff.1 hl).1, b1, b2, gp1, b3, kx⟩
        case measure => rw [hr2.leq, HM.out]; exact hlt
      · obtain rfl := ba_of h
        obtain rfl : c = 0 := by
          have h2 := hat mapD0
          rw [map_at3] at h2
          injection h2 with h2
          injection h2 with h3 h4
          exact h4.symm
        clear h hat
        go_wp2_with fail
        (with_reducible refine (pz4 gl).mono ?_)
        rintro r w8 ⟨⟨dp2, dc2, rfl, hd2, hc2⟩, k8⟩
        replace gl := gl.kb k8
        replace b1 := b1.kb k8
        replace b2 := b2.kb k8
        replace gp1 := gp1.kb k8
        replace b3 := b3.kb k8
        replace hr2 := hr2.kb k8
        replace kx := kx.trans k8
        have s8 := k8.size
        skip
        clear k8
        have gp2 := gl.me
        have j61 := (b1.alloc (.cells #[.int .i64 8, .bool false, .int .i64 0, .int .i64 1, .slice dp2 1 dc2] 31 (0, 0)))
        have f62 := j61.c (i := 0) rfl
        have f63 := j61.c (i := 1) rfl
        have f64 := j61.c (i := 2) rfl
        have f65 := j61.c (i := 3) rfl
        have f66 := j61.c (i := 4) rfl
        have f67 := j61.c (i := 5) rfl
        have f68 := j61.c (i := 6) rfl
        have f69 := j61.c (i := 7) rfl
        have f70 := j61.c (i := 8) rfl
        have j71 := (Is.made w8 #[.int .i64 8, .bool false, .int .i64 0, .int .i64 1, .slice dp2 1 dc2] 31)
        have f72 := j71.c (i := 0) rfl
        have f73 := j71.c (i := 1) rfl
        have f74 := j71.c (i := 2) rfl
        have f75 := j71.c (i := 3) rfl
        have f76 := j71.c (i := 4) rfl
        go_wp2_with fail
        clear f62 f63 f64 f65 f66 f67 f68 f69 f70 f72 f73 f74 f75 f76
        replace b1 := j61
        replace b2 := (b2.alloc (.cells #[.int .i64 8, .bool false, .int .i64 0, .int .i64 1, .slice dp2 1 dc2] 31 (0, 0)))
        replace gp1 := (gp1.alloc (.cells #[.int .i64 8, .bool false, .int .i64 0, .int .i64 1, .slice dp2 1 dc2] 31 (0, 0)))
        replace b3 := (b3.alloc (.cells #[.int .i64 8, .bool false, .int .i64 0, .int .i64 1, .slice dp2 1 dc2] 31 (0, 0)))
        replace hr2 := (hr2.alloc (.cells #[.int .i64 8, .bool false, .int .i64 0, .int .i64 1, .slice dp2 1 dc2] 31 (0, 0)))
        replace gp2 := (gp2.alloc (.cells #[.int .i64 8, .bool false, .int .i64 0, .int .i64 1, .slice dp2 1 dc2] 31 (0, 0)))
        have b4 := j71
        replace kx := kx.alloc (.cells #[.int .i64 8, .bool false, .int .i64 0, .int .i64 1, .slice dp2 1 dc2] 31 (0, 0))
        clear j61 j71
        replace gl := gl0.out.kb kx
        (with_reducible refine (cc3 hd2 hc2 gp2).mono ?_)
        rintro r w9 ⟨rfl, k9⟩
        replace gl := gl.kb k9
        replace b1 := b1.kb k9
        replace b2 := b2.kb k9
        replace gp1 := gp1.kb k9
        replace b3 := b3.kb k9
        replace hr2 := hr2.kb k9
        replace gp2 := gp2.kb k9
        replace b4 := b4.kb k9
        replace kx := kx.trans k9
        have s9 := k9.size
        simp only [World.size_alloc] at s9
        clear k9
        go_wp2_with fail
        go_roundw
        case rel => exact ⟨_, cnt1, hr2, fun kl hl => hsub kl (Bool.and_eq_true_iff.1 hl).1, b1, b2, gp1, b3, kx⟩
        case measure => rw [hr2.leq, HM.out]; exact hlt
      · obtain rfl := ba_of h
        obtain rfl : c = 13 := by
          have h2 := hat mapD0
          rw [map_at4] at h2
          injection h2 with h2
          injection h2 with h3 h4
          exact h4.symm
        clear h hat
        go_wp2_with fail
        (with_reducible refine (pz5 gl).mono ?_)
        rintro r w8 ⟨⟨dp2, dc2, rfl, hd2, hc2⟩, k8⟩
        replace gl := gl.kb k8
        replace b1 := b1.kb k8
        replace b2 := b2.kb k8
        replace gp1 := gp1.kb k8
        replace b3 := b3.kb k8
        replace hr2 := hr2.kb k8
        replace kx := kx.trans k8
        have s8 := k8.size
        skip
        clear k8
        have gp2 := gl.me
        have j61 := (b1.alloc (.cells #[.int .i64 3, .bool false, .int .i64 20, .int .i64 0, .slice dp2 0 dc2] 31 (0, 0)))
        have f62 := j61.c (i := 0) rfl
        have f63 := j61.c (i := 1) rfl
        have f64 := j61.c (i := 2) rfl
        have f65 := j61.c (i := 3) rfl
        have f66 := j61.c (i := 4) rfl
        have f67 := j61.c (i := 5) rfl
        have f68 := j61.c (i := 6) rfl
        have f69 := j61.c (i := 7) rfl
        have f70 := j61.c (i := 8) rfl
        have j71 := (Is.made w8 #[.int .i64 3, .bool false, .int .i64 20, .int .i64 0, .slice dp2 0 dc2] 31)
        have f72 := j71.c (i := 0) rfl
        have f73 := j71.c (i := 1) rfl
        have f74 := j71.c (i := 2) rfl
        have f75 := j71.c (i := 3) rfl
        have f76 := j71.c (i := 4) rfl
        go_wp2_with fail
        clear f62 f63 f64 f65 f66 f67 f68 f69 f70 f72 f73 f74 f75 f76
        replace b1 := j61
        replace b2 := (b2.alloc (.cells #[.int .i64 3, .bool false, .int .i64 20, .int .i64 0, .slice dp2 0 dc2] 31 (0, 0)))
        replace gp1 := (gp1.alloc (.cells #[.int .i64 3, .bool false, .int .i64 20, .int .i64 0, .slice dp2 0 dc2] 31 (0, 0)))
        replace b3 := (b3.alloc (.cells #[.int .i64 3, .bool false, .int .i64 20, .int .i64 0, .slice dp2 0 dc2] 31 (0, 0)))
        replace hr2 := (hr2.alloc (.cells #[.int .i64 3, .bool false, .int .i64 20, .int .i64 0, .slice dp2 0 dc2] 31 (0, 0)))
        replace gp2 := (gp2.alloc (.cells #[.int .i64 3, .bool false, .int .i64 20, .int .i64 0, .slice dp2 0 dc2] 31 (0, 0)))
        have b4 := j71
        replace kx := kx.alloc (.cells #[.int .i64 3, .bool false, .int .i64 20, .int .i64 0, .slice dp2 0 dc2] 31 (0, 0))
        clear j61 j71
        replace gl := gl0.out.kb kx
        (with_reducible refine (cc4 hd2 hc2 gp2).mono ?_)
        rintro r w9 ⟨rfl, k9⟩
        replace gl := gl.kb k9
        replace b1 := b1.kb k9
        replace b2 := b2.kb k9
        replace gp1 := gp1.kb k9
        replace b3 := b3.kb k9
        replace hr2 := hr2.kb k9
        replace gp2 := gp2.kb k9
        replace b4 := b4.kb k9
        replace kx := kx.trans k9
        have s9 := k9.size
        simp only [World.size_alloc] at s9
        clear k9
        go_wp2_with fail
        go_roundw
        case rel => exact ⟨_, cnt1, hr2, fun kl hl => hsub kl (Bool.and_eq_true_iff.1 hl).1, b1, b2, gp1, b3, kx⟩
        case measure => rw [hr2.leq, HM.out]; exact hlt
      · obtain rfl := ba_of h
        obtain rfl : c = 5 := by
          have h2 := hat mapD0
          rw [map_at5] at h2
          injection h2 with h2
          injection h2 with h3 h4
          exact h4.symm
        clear h hat
        go_wp2_with fail
        (with_reducible refine (pz6 gl).mono ?_)
        rintro r w8 ⟨⟨dp2, dc2, rfl, hd2, hc2⟩, k8⟩
        replace gl := gl.kb k8
        replace b1 := b1.kb k8
        replace b2 := b2.kb k8
        replace gp1 := gp1.kb k8
        replace b3 := b3.kb k8
        replace hr2 := hr2.kb k8
        replace kx := kx.trans k8
        have s8 := k8.size
        skip
        clear k8
        have gp2 := gl.me
        have j61 := (b1.alloc (.cells #[.int .i64 7, .bool false, .int .i64 20, .int .i64 0, .slice dp2 2 dc2] 31 (0, 0)))
        have f62 := j61.c (i := 0) rfl
        have f63 := j61.c (i := 1) rfl
        have f64 := j61.c (i := 2) rfl
        have f65 := j61.c (i := 3) rfl
        have f66 := j61.c (i := 4) rfl
        have f67 := j61.c (i := 5) rfl
        have f68 := j61.c (i := 6) rfl
        have f69 := j61.c (i := 7) rfl
        have f70 := j61.c (i := 8) rfl
        have j71 := (Is.made w8 #[.int .i64 7, .bool false, .int .i64 20, .int .i64 0, .slice dp2 2 dc2] 31)
        have f72 := j71.c (i := 0) rfl
        have f73 := j71.c (i := 1) rfl
        have f74 := j71.c (i := 2) rfl
        have f75 := j71.c (i := 3) rfl
        have f76 := j71.c (i := 4) rfl
        go_wp2_with fail
        clear f62 f63 f64 f65 f66 f67 f68 f69 f70 f72 f73 f74 f75 f76
        replace b1 := j61
        replace b2 := (b2.alloc (.cells #[.int .i64 7, .bool false, .int .i64 20, .int .i64 0, .slice dp2 2 dc2] 31 (0, 0)))
        replace gp1 := (gp1.alloc (.cells #[.int .i64 7, .bool false, .int .i64 20, .int .i64 0, .slice dp2 2 dc2] 31 (0, 0)))
        replace b3 := (b3.alloc (.cells #[.int .i64 7, .bool false, .int .i64 20, .int .i64 0, .slice dp2 2 dc2] 31 (0, 0)))
        replace hr2 := (hr2.alloc (.cells #[.int .i64 7, .bool false, .int .i64 20, .int .i64 0, .slice dp2 2 dc2] 31 (0, 0)))
        replace gp2 := (gp2.alloc (.cells #[.int .i64 7, .bool false, .int .i64 20, .int .i64 0, .slice dp2 2 dc2] 31 (0, 0)))
        have b4 := j71
        replace kx := kx.alloc (.cells #[.int .i64 7, .bool false, .int .i64 20, .int .i64 0, .slice dp2 2 dc2] 31 (0, 0))
        clear j61 j71
        replace gl := gl0.out.kb kx
        (with_reducible refine (cc5 hd2 hc2 gp2).mono ?_)
        rintro r w9 ⟨rfl, k9⟩
        replace gl := gl.kb k9
        replace b1 := b1.kb k9
        replace b2 := b2.kb k9
        replace gp1 := gp1.kb k9
        replace b3 := b3.kb k9
        replace hr2 := hr2.kb k9
        replace gp2 := gp2.kb k9
        replace b4 := b4.kb k9
        replace kx := kx.trans k9
        have s9 := k9.size
        simp only [World.size_alloc] at s9
        clear k9
        go_wp2_with fail
        go_roundw
        case rel => exact ⟨_, cnt1, hr2, fun kl hl => hsub kl (Bool.and_eq_true_iff.1 hl).1, b1, b2, gp1, b3, kx⟩
        case measure => rw [hr2.leq, HM.out]; exact hlt
end Go.Proofs.YtlimjohnimgnhaaGreatDoor
