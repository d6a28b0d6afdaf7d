/- Texts Qj4: each says in its own first comment what it proves. -/
import Derived.Test.YtlimjohnimgnhaaGreatDoorM47
import Derived.Test.YtlimjohnimgnhaaGreatDoorM16
import Derived.BigQuiet
/- Features: the reference: equal frames. -/
namespace Go.Proofs.YtlimjohnimgnhaaGreatDoor
open Go.RowKit

set_option maxRecDepth 100000 in
set_option maxHeartbeats 4000000 in
theorem rSameFr (pa pb : Option Addr) (la ca lb cb : Nat) (us vs : List FrT) (w : World) (hA : FrS w (.slice pa la ca) us) (hB : FrS w (.slice pb lb cb) vs) (hlim : la ≤ 1000000) (hall : Hid (∀ f ∈ us, f.ds.length ≤ 1000000)) : Calls Tryz.prog 74 #[.slice pa la ca, .slice pb lb cb] w fun r W' => r = .returned (.bool (eqL frB us vs)) ∧ Kb w W' := by
  have hla := hA.len
  have hlb := hB.len
  by_cases hne : la = lb
  · subst hne
    have H0 : Hid (eqL frB us vs = eqL frB (us.drop 0) (vs.drop 0)) := rfl
    have HE : Hid (eqL frB (us.drop la) (vs.drop la) = true) := eqL_end hla.symm hlb.symm
    have HA := Lib.hid hA
    have HB := Lib.hid hB
    have HLA := Lib.hid hla
    have HLB := Lib.hid hlb
    have HLIM := Lib.hid hlim
    clear hA hB hla hlb hlim
    go_enter Tryz.func74, Tryz.ntmps74
    go_wp2
    go_loopg [5] la (fun gk s5 wr => ∃ i : Nat, s5 = .int .i64 i ∧ i + gk = la ∧ Hid (eqL frB us vs = eqL frB (us.drop i) (vs.drop i)) ∧ Kb w wr)
    case atStart => exact ⟨0, rfl, by omega, H0, Kb.refl _⟩
    case round =>
      obtain ⟨i, rfl, hi, hE, kx⟩ := hrel
      have hi0 : (0 : Int) ≤ (i : Int) := by omega
      by_cases hlt : i < la
      · have hltz : (i : Int) < (la : Int) := by omega
        have hA1 := HA.out.kb kx
        have hB1 := HB.out.kb kx
        obtain ⟨b, off, rfl, hat⟩ := hA1.at (by omega)
        obtain ⟨b2, off2, rfl, hat2⟩ := hB1.at (by omega)
        obtain ⟨x, hx⟩ : ∃ x, us[i]? = some x := ⟨_, List.getElem?_eq_getElem (by have := HLA.out; omega)⟩
        obtain ⟨y, hy⟩ : ∃ y, vs[i]? = some y := ⟨_, List.getElem?_eq_getElem (by have := HLB.out; omega)⟩
        obtain ⟨qa, ma, ea, x0, x1, x2, x3, x4, dx⟩ := hat i x hx
        obtain ⟨qb, mb, eb, y0, y1, y2, y3, y4, dy⟩ := hat2 i y hy
        have hD := eqL_drop (p := frB) hx hy
        have Hi := Lib.hid hi
        have HM := Lib.hid (show ma ≤ 1000000 by have := hall.out _ (List.mem_of_getElem? hx); have := dx.len; omega)
        clear hat hat2 hx hy hA1 hB1 hi
        go_wp2
        rw [oF_lit]
        refine o_law2 (⟨81, [some 20, some 21, some 22, some 23, some 24, some 25, some 26, some 27, some 6, some 7, none, none], [20, 21, 22, 23, 24, 25, 26, 27, 6, 7, 6, 7], [[], [], [0, 1], [2], [], [], [4, 5], [6], [], [], [8, 3], [9, 7]], [[0], [5], [], [], [1], [5], [], [], [], [], [], []]⟩ : OT) (RL [fun vv _ => vv = .slice (some ⟨b, off, none⟩) la ca, fun vv _ => vv = .int .i64 (i : Int), fun vv _ => vv = .pointer (some ⟨b, off + i * 5, none⟩), fun vv _ => vv = .agg #[.int .i64 x.k, .bool x.d, .int .i64 x.t, .int .i64 x.m, .slice qa ma ea], fun vv _ => vv = .slice (some ⟨b2, off2, none⟩) la cb, fun vv _ => vv = .int .i64 (i : Int), fun vv _ => vv = .pointer (some ⟨b2, off2 + i * 5, none⟩), fun vv _ => vv = .agg #[.int .i64 y.k, .bool y.d, .int .i64 y.t, .int .i64 y.m, .slice qb mb eb], fun _ _ => True, fun _ _ => True, fun _ _ => True, fun _ _ => True]) ⟨8, 10, 6, #[.int .i64 0, .bool false, .int .i64 0, .int .i64 0, .slice none 0 0], #[.int .i64 x.k, .bool x.d, .int .i64 x.t, .int .i64 x.m, .slice qa ma ea], 31⟩ ⟨9, 11, 7, #[.int .i64 0, .bool false, .int .i64 0, .int .i64 0, .slice none 0 0], #[.int .i64 y.k, .bool y.d, .int .i64 y.t, .int .i64 y.m, .slice qb mb eb], 31⟩ (by kernel_rfl) (by kernel_rfl) (by kernel_rfl) (rl_free ⟨(fun _ _ _ h => h), (fun _ _ _ h => h), (fun _ _ _ h => h), (fun _ _ _ h => h), (fun _ _ _ h => h), (fun _ _ _ h => h), (fun _ _ _ h => h), (fun _ _ _ h => h), (fun _ _ _ h => h), (fun _ _ _ h => h), (fun _ _ _ h => h), (fun _ _ _ h => h), trivial⟩) ?hR ?fin
        case hR =>
          refine allO_cons ?_ (allO_cons ?_ (allO_cons ?_ (allO_cons ?_ (allO_cons ?_ (allO_cons ?_ (allO_cons ?_ (allO_cons ?_ (allO_cons ?_ (allO_cons ?_ (allO_cons ?_ (allO_cons ?_ (allO_nil))))))))))))
          · refine .val (by kernel_rfl) ?_
            intro T w9 hG hD hO Q
            have q0 := hO.1
            have e0 : (oF 81 T).eval (.tmp 0) = .slice (some ⟨b, off, none⟩) la ca := (oF_eval (by decide)).trans (show T 0 = _ from q0)
            refine og_none rfl ?_
            exact o_val (v := .slice (some ⟨b, off, none⟩) la ca) (w' := w9) (by generalize (oF 81 T).eval = rr at *; simp [execOp, go_sem, e0]) rfl rfl (Kb.refl _)
          · refine .val (by kernel_rfl) ?_
            intro T w9 hG hD hO Q
            have q0 := hO.1
            have e0 : (oF 81 T).eval (.tmp 5) = .int .i64 (i : Int) := (oF_eval (by decide)).trans (show T 5 = _ from q0)
            refine og_none rfl ?_
            exact o_val (v := .int .i64 (i : Int)) (w' := w9) (by generalize (oF 81 T).eval = rr at *; simp [execOp, go_sem, e0]) rfl rfl (Kb.refl _)
          · refine .val (by kernel_rfl) ?_
            intro T w9 hG hD hO Q
            have d0 := hD.1
            have d1 := hD.2.1
            have e0 : (oF 81 T).eval (.tmp 20) = .slice (some ⟨b, off, none⟩) la ca := (oF_eval (by decide)).trans (show T 20 = _ from d0)
            have e1 : (oF 81 T).eval (.tmp 21) = .int .i64 (i : Int) := (oF_eval (by decide)).trans (show T 21 = _ from d1)
            refine og_none rfl ?_
            exact o_val (v := .pointer (some ⟨b, off + i * 5, none⟩)) (w' := w9) (by generalize (oF 81 T).eval = rr at *; simp [execOp, go_sem, e0, e1, hi0, hltz]) rfl rfl (Kb.refl _)
          · refine .val (by kernel_rfl) ?_
            intro T w9 hG hD hO Q
            have d0 := hD.1
            have e0 : (oF 81 T).eval (.tmp 22) = .pointer (some ⟨b, off + i * 5, none⟩) := (oF_eval (by decide)).trans (show T 22 = _ from d0)
            refine og_none rfl ?_
            have m0 := hG.nil.cell (show wr.drew.cell? _ = _ from x0)
            have m1 := hG.nil.cell (show wr.drew.cell? _ = _ from x1)
            have m2 := hG.nil.cell (show wr.drew.cell? _ = _ from x2)
            have m3 := hG.nil.cell (show wr.drew.cell? _ = _ from x3)
            have m4 := hG.nil.cell (show wr.drew.cell? _ = _ from x4)
            exact o_val (v := .agg #[.int .i64 x.k, .bool x.d, .int .i64 x.t, .int .i64 x.m, .slice qa ma ea]) (w' := w9) (by generalize (oF 81 T).eval = rr at *; simp [execOp, go_sem, e0, m0, m1, m2, m3, m4]) rfl rfl (Kb.refl _)
          · refine .val (by kernel_rfl) ?_
            intro T w9 hG hD hO Q
            have q0 := hO.1
            have e0 : (oF 81 T).eval (.tmp 1) = .slice (some ⟨b2, off2, none⟩) la cb := (oF_eval (by decide)).trans (show T 1 = _ from q0)
            refine og_none rfl ?_
            exact o_val (v := .slice (some ⟨b2, off2, none⟩) la cb) (w' := w9) (by generalize (oF 81 T).eval = rr at *; simp [execOp, go_sem, e0]) rfl rfl (Kb.refl _)
          · refine .val (by kernel_rfl) ?_
            intro T w9 hG hD hO Q
            have q0 := hO.1
            have e0 : (oF 81 T).eval (.tmp 5) = .int .i64 (i : Int) := (oF_eval (by decide)).trans (show T 5 = _ from q0)
            refine og_none rfl ?_
            exact o_val (v := .int .i64 (i : Int)) (w' := w9) (by generalize (oF 81 T).eval = rr at *; simp [execOp, go_sem, e0]) rfl rfl (Kb.refl _)
          · refine .val (by kernel_rfl) ?_
            intro T w9 hG hD hO Q
            have d0 := hD.1
            have d1 := hD.2.1
            have e0 : (oF 81 T).eval (.tmp 24) = .slice (some ⟨b2, off2, none⟩) la cb := (oF_eval (by decide)).trans (show T 24 = _ from d0)
            have e1 : (oF 81 T).eval (.tmp 25) = .int .i64 (i : Int) := (oF_eval (by decide)).trans (show T 25 = _ from d1)
            refine og_none rfl ?_
            exact o_val (v := .pointer (some ⟨b2, off2 + i * 5, none⟩)) (w' := w9) (by generalize (oF 81 T).eval = rr at *; simp [execOp, go_sem, e0, e1, hi0, hltz]) rfl rfl (Kb.refl _)
          · refine .val (by kernel_rfl) ?_
            intro T w9 hG hD hO Q
            have d0 := hD.1
            have e0 : (oF 81 T).eval (.tmp 26) = .pointer (some ⟨b2, off2 + i * 5, none⟩) := (oF_eval (by decide)).trans (show T 26 = _ from d0)
            refine og_none rfl ?_
            have m0 := hG.nil.cell (show wr.drew.cell? _ = _ from y0)
            have m1 := hG.nil.cell (show wr.drew.cell? _ = _ from y1)
            have m2 := hG.nil.cell (show wr.drew.cell? _ = _ from y2)
            have m3 := hG.nil.cell (show wr.drew.cell? _ = _ from y3)
            have m4 := hG.nil.cell (show wr.drew.cell? _ = _ from y4)
            exact o_val (v := .agg #[.int .i64 y.k, .bool y.d, .int .i64 y.t, .int .i64 y.m, .slice qb mb eb]) (w' := w9) (by generalize (oF 81 T).eval = rr at *; simp [execOp, go_sem, e0, m0, m1, m2, m3, m4]) rfl rfl (Kb.refl _)
          · refine .alloc _ (.inl rfl) rfl rfl (fun T w9 => ?_) (fun _ _ => trivial)
            simp [execOp, go_sem]
          · refine .alloc _ (.inr rfl) rfl rfl (fun T w9 => ?_) (fun _ _ => trivial)
            simp [execOp, go_sem]
          · refine .store _ (.inl rfl) rfl rfl ?_ (fun _ _ => trivial)
            intro T w9 g hD hO hT io
            have d0 := hD.1
            have d1 := hD.2.1
            have e0 : (oF 81 T).eval (.tmp 6) = .pointer (some ⟨g, 0, none⟩) := (oF_eval (by decide)).trans hT
            have e1 : (oF 81 T).eval (.tmp 23) = .agg #[.int .i64 x.k, .bool x.d, .int .i64 x.t, .int .i64 x.m, .slice qa ma ea] := (oF_eval (by decide)).trans (show T 23 = _ from d1)
            have zn := io
            replace zn : Is (w9.setCell ⟨g, 0, none⟩ (.int .i64 x.k)) (g) #[.int .i64 x.k, .bool false, .int .i64 0, .int .i64 0, .slice none 0 0] 31 := zn.set 0 _
            replace zn : Is ((w9.setCell ⟨g, 0, none⟩ (.int .i64 x.k)).setCell ⟨g, 1, none⟩ (.bool x.d)) (g) #[.int .i64 x.k, .bool x.d, .int .i64 0, .int .i64 0, .slice none 0 0] 31 := zn.set 1 _
            replace zn : Is (((w9.setCell ⟨g, 0, none⟩ (.int .i64 x.k)).setCell ⟨g, 1, none⟩ (.bool x.d)).setCell ⟨g, 2, none⟩ (.int .i64 x.t)) (g) #[.int .i64 x.k, .bool x.d, .int .i64 x.t, .int .i64 0, .slice none 0 0] 31 := zn.set 2 _
            replace zn : Is ((((w9.setCell ⟨g, 0, none⟩ (.int .i64 x.k)).setCell ⟨g, 1, none⟩ (.bool x.d)).setCell ⟨g, 2, none⟩ (.int .i64 x.t)).setCell ⟨g, 3, none⟩ (.int .i64 x.m)) (g) #[.int .i64 x.k, .bool x.d, .int .i64 x.t, .int .i64 x.m, .slice none 0 0] 31 := zn.set 3 _
            replace zn : Is (((((w9.setCell ⟨g, 0, none⟩ (.int .i64 x.k)).setCell ⟨g, 1, none⟩ (.bool x.d)).setCell ⟨g, 2, none⟩ (.int .i64 x.t)).setCell ⟨g, 3, none⟩ (.int .i64 x.m)).setCell ⟨g, 4, none⟩ (.slice qa ma ea)) (g) #[.int .i64 x.k, .bool x.d, .int .i64 x.t, .int .i64 x.m, .slice qa ma ea] 31 := zn.set 4 _
            have pt := ((((((Pt.refl g w9).set 0 (.int .i64 x.k)).set 1 (.bool x.d)).set 2 (.int .i64 x.t)).set 3 (.int .i64 x.m)).set 4 (.slice qa ma ea))
            have m0 := io.c (i := 0) rfl
            have f0 := io.f 0
            have m1 := io.c (i := 1) rfl
            have f1 := io.f 1
            have m2 := io.c (i := 2) rfl
            have f2 := io.f 2
            have m3 := io.c (i := 3) rfl
            have f3 := io.f 3
            have m4 := io.c (i := 4) rfl
            have f4 := io.f 4
            clear io
            exact ⟨_, (by generalize (oF 81 T).eval = rr at *; simp [execOp, go_sem, e0, e1, m0, f0, m1, f1, m2, f2, m3, f3, m4, f4] : _ = Result.ok Next.skip (((((w9.setCell ⟨g, 0, none⟩ (.int .i64 x.k)).setCell ⟨g, 1, none⟩ (.bool x.d)).setCell ⟨g, 2, none⟩ (.int .i64 x.t)).setCell ⟨g, 3, none⟩ (.int .i64 x.m)).setCell ⟨g, 4, none⟩ (.slice qa ma ea))), zn, pt⟩
          · refine .store _ (.inr rfl) rfl rfl ?_ (fun _ _ => trivial)
            intro T w9 g hD hO hT io
            have d0 := hD.1
            have d1 := hD.2.1
            have e0 : (oF 81 T).eval (.tmp 7) = .pointer (some ⟨g, 0, none⟩) := (oF_eval (by decide)).trans hT
            have e1 : (oF 81 T).eval (.tmp 27) = .agg #[.int .i64 y.k, .bool y.d, .int .i64 y.t, .int .i64 y.m, .slice qb mb eb] := (oF_eval (by decide)).trans (show T 27 = _ from d1)
            have zn := io
            replace zn : Is (w9.setCell ⟨g, 0, none⟩ (.int .i64 y.k)) (g) #[.int .i64 y.k, .bool false, .int .i64 0, .int .i64 0, .slice none 0 0] 31 := zn.set 0 _
            replace zn : Is ((w9.setCell ⟨g, 0, none⟩ (.int .i64 y.k)).setCell ⟨g, 1, none⟩ (.bool y.d)) (g) #[.int .i64 y.k, .bool y.d, .int .i64 0, .int .i64 0, .slice none 0 0] 31 := zn.set 1 _
            replace zn : Is (((w9.setCell ⟨g, 0, none⟩ (.int .i64 y.k)).setCell ⟨g, 1, none⟩ (.bool y.d)).setCell ⟨g, 2, none⟩ (.int .i64 y.t)) (g) #[.int .i64 y.k, .bool y.d, .int .i64 y.t, .int .i64 0, .slice none 0 0] 31 := zn.set 2 _
            replace zn : Is ((((w9.setCell ⟨g, 0, none⟩ (.int .i64 y.k)).setCell ⟨g, 1, none⟩ (.bool y.d)).setCell ⟨g, 2, none⟩ (.int .i64 y.t)).setCell ⟨g, 3, none⟩ (.int .i64 y.m)) (g) #[.int .i64 y.k, .bool y.d, .int .i64 y.t, .int .i64 y.m, .slice none 0 0] 31 := zn.set 3 _
            replace zn : Is (((((w9.setCell ⟨g, 0, none⟩ (.int .i64 y.k)).setCell ⟨g, 1, none⟩ (.bool y.d)).setCell ⟨g, 2, none⟩ (.int .i64 y.t)).setCell ⟨g, 3, none⟩ (.int .i64 y.m)).setCell ⟨g, 4, none⟩ (.slice qb mb eb)) (g) #[.int .i64 y.k, .bool y.d, .int .i64 y.t, .int .i64 y.m, .slice qb mb eb] 31 := zn.set 4 _
            have pt := ((((((Pt.refl g w9).set 0 (.int .i64 y.k)).set 1 (.bool y.d)).set 2 (.int .i64 y.t)).set 3 (.int .i64 y.m)).set 4 (.slice qb mb eb))
            have m0 := io.c (i := 0) rfl
            have f0 := io.f 0
            have m1 := io.c (i := 1) rfl
            have f1 := io.f 1
            have m2 := io.c (i := 2) rfl
            have f2 := io.f 2
            have m3 := io.c (i := 3) rfl
            have f3 := io.f 3
            have m4 := io.c (i := 4) rfl
            have f4 := io.f 4
            clear io
            exact ⟨_, (by generalize (oF 81 T).eval = rr at *; simp [execOp, go_sem, e0, e1, m0, f0, m1, f1, m2, f2, m3, f3, m4, f4] : _ = Result.ok Next.skip (((((w9.setCell ⟨g, 0, none⟩ (.int .i64 y.k)).setCell ⟨g, 1, none⟩ (.bool y.d)).setCell ⟨g, 2, none⟩ (.int .i64 y.t)).setCell ⟨g, 3, none⟩ (.int .i64 y.m)).setCell ⟨g, 4, none⟩ (.slice qb mb eb))), zn, pt⟩
        case fin =>
          intro T w1 hout hval hG hp hq hne
          have s1 := hG.2.2.2.1
          simp only [World.size_drew] at s1
          rw [show oF 81 T = (⟨#[T 0, T 1, T 2, T 3, T 4, T 5, T 6, T 7, T 8, T 9, T 10, T 11, T 12, T 13, T 14, T 15, T 16, T 17, T 18, T 19, T 20, T 21, T 22, T 23, T 24, T 25, T 26, T 27, T 28, T 29, T 30, T 31, T 32, T 33, T 34, T 35, T 36, T 37, T 38, T 39, T 40, T 41, T 42, T 43, T 44, T 45, T 46, T 47, T 48, T 49, T 50, T 51, T 52, T 53, T 54, T 55, T 56, T 57, T 58, T 59, T 60, T 61, T 62, T 63, T 64, T 65, T 66, T 67, T 68, T 69, T 70, T 71, T 72, T 73, T 74, T 75, T 76, T 77, T 78, T 79, T 80], []⟩ : Act) from oF_list 81 T]
          rw [show T 0 = .slice (some ⟨b, off, none⟩) la ca from hout 0 rfl]
          rw [show T 1 = .slice (some ⟨b2, off2, none⟩) la cb from hout 1 rfl]
          rw [show T 2 = undef from hout 2 rfl]
          rw [show T 3 = undef from hout 3 rfl]
          rw [show T 5 = .int .i64 (i : Int) from hout 5 rfl]
          rw [show T 9 = .slice (some ⟨b, off, none⟩) la ca from hout 9 rfl]
          rw [show T 10 = .int .i64 (la : Int) from hout 10 rfl]
          rw [show T 11 = .slice (some ⟨b2, off2, none⟩) la cb from hout 11 rfl]
          rw [show T 12 = .int .i64 (la : Int) from hout 12 rfl]
          rw [show T 13 = .bool false from hout 13 rfl]
          have DX := Lib.hid ((dx.drew).kx hG)
          have DY := Lib.hid ((dy.drew).kx hG)
          replace kx := (show Kb _ _ from kx.drew).trans hG.nil
          obtain ⟨gx, egx, hgx, b0⟩ := hp
          replace egx : T 6 = _ := egx; rw [egx]
          obtain ⟨gy, egy, hgy, b1⟩ := hq
          replace egy : T 7 = _ := egy; rw [egy]
          clear hout hval hG hne egx egy x0 x1 x2 x3 x4 y0 y1 y2 y3 y4 dx dy
          have c0 := b0.c (i := 0) rfl
          have c1 := b0.c (i := 1) rfl
          have c2 := b0.c (i := 2) rfl
          have c3 := b0.c (i := 3) rfl
          have c4 := b0.c (i := 4) rfl
          have d0 := b1.c (i := 0) rfl
          have d1 := b1.c (i := 1) rfl
          have d2 := b1.c (i := 2) rfl
          have d3 := b1.c (i := 3) rfl
          have d4 := b1.c (i := 4) rfl
          have hi := Hi.out
          have hxl := DX.out.len
          have hyl := DY.out.len
          rcases Bool.eq_false_or_eq_true (x.k != y.k) with h1 | h1
          · have hp : frB x y = false := by rw [bne_iff_ne] at h1; simp [frB, h1]
            have hE2 : Hid (eqL frB us vs = false) := hE.out.trans (hD.trans (by rw [hp, Bool.false_and]))
            clear hD hE hi hp
            go_wp2
            go_ret
            exact ⟨by rw [hE2.out]; rfl, kx⟩
          rcases (Bool.eq_false_or_eq_true (x.d == y.d)).symm with h2 | h2
          · have hp : frB x y = false := by unfold frB; rw [h2]; simp
            have hE2 : Hid (eqL frB us vs = false) := hE.out.trans (hD.trans (by rw [hp, Bool.false_and]))
            clear hD hE hi hp
            go_wp2
            go_ret
            exact ⟨by rw [hE2.out]; rfl, kx⟩
          rcases Bool.eq_false_or_eq_true (x.t != y.t) with h3 | h3
          · have hp : frB x y = false := by rw [bne_iff_ne] at h3; simp [frB, h3]
            have hE2 : Hid (eqL frB us vs = false) := hE.out.trans (hD.trans (by rw [hp, Bool.false_and]))
            clear hD hE hi hp
            go_wp2
            go_ret
            exact ⟨by rw [hE2.out]; rfl, kx⟩
          rcases Bool.eq_false_or_eq_true (x.m != y.m) with h4 | h4
          · have hp : frB x y = false := by rw [bne_iff_ne] at h4; simp [frB, h4]
            have hE2 : Hid (eqL frB us vs = false) := hE.out.trans (hD.trans (by rw [hp, Bool.false_and]))
            clear hD hE hi hp
            go_wp2
            go_ret
            exact ⟨by rw [hE2.out]; rfl, kx⟩
          rcases Bool.eq_false_or_eq_true ((ma : Int) != (mb : Int)) with h5 | h5
          · have hp : frB x y = false := by rw [bne_iff_ne] at h5; simp [frB, eqL_len (p := datB) (l := x.ds) (m := y.ds) (by omega)]
            have hE2 : Hid (eqL frB us vs = false) := hE.out.trans (hD.trans (by rw [hp, Bool.false_and]))
            clear hD hE hi hp
            go_wp2
            go_ret
            exact ⟨by rw [hE2.out]; rfl, kx⟩
          obtain rfl : ma = mb := by have := bne_eq_false_iff_eq.1 h5; omega
          have hp : frB x y = eqL datB (x.ds.drop 0) (y.ds.drop 0) := by
            have e1 := bne_eq_false_iff_eq.1 h1; have e2 := eq_of_beq h2; have ea := bne_eq_false_iff_eq.1 h3; have eb := bne_eq_false_iff_eq.1 h4
            simp [frB, e1, e2, ea, eb]
          have hE2 : Hid (eqL frB us vs = (eqL datB (x.ds.drop 0) (y.ds.drop 0) && eqL frB (us.drop (i + 1)) (vs.drop (i + 1)))) := hE.out.trans (hD.trans (by rw [hp]))
          have HE3 : Hid (eqL datB (x.ds.drop ma) (y.ds.drop ma) = true) := eqL_end hxl.symm hyl.symm
          have HXL := Lib.hid hxl
          have HYL := Lib.hid hyl
          have hm0 : (ma : Int) ≤ 1000000 := by have := HM.out; omega
          clear hD hE hi hp hxl hyl
          go_wp2
          clear c0 c1 c2 c3 d0 d1 d2 d3 b0 b1 h1 h2 h3 h4 h5
          have C4 := Lib.hid c4
          have D4 := Lib.hid d4
          clear c4 d4
          have KX := Lib.hid kx
          clear kx
          go_loopg [8] ma (fun gk s8 wr => ∃ j : Nat, s8 = .int .i64 j ∧ j + gk = ma ∧ Hid (eqL frB us vs = (eqL datB (x.ds.drop j) (y.ds.drop j) && eqL frB (us.drop (i + 1)) (vs.drop (i + 1)))) ∧ Kb w1 wr)
          case atStart => exact ⟨0, rfl, by omega, hE2, Kb.refl _⟩
          case round =>
            obtain ⟨j, rfl, hj, hE4, ky⟩ := hrel
            have hj0 : (0 : Int) ≤ (j : Int) := by omega
            have c4 := ky.cell C4.out
            have d4 := ky.cell D4.out
            by_cases hjl : j < ma
            · have hjlz : (j : Int) < (ma : Int) := by omega
              obtain ⟨ba, oa, rfl, ha⟩ := (DX.out.kb ky).at (by omega)
              obtain ⟨bb, ob, rfl, hb⟩ := (DY.out.kb ky).at (by omega)
              obtain ⟨d, hd⟩ : ∃ d, x.ds[j]? = some d := ⟨_, List.getElem?_eq_getElem (by have := HXL.out; omega)⟩
              obtain ⟨e, he⟩ : ∃ e, y.ds[j]? = some e := ⟨_, List.getElem?_eq_getElem (by have := HYL.out; omega)⟩
              obtain ⟨z0, z1⟩ := ha j d hd
              obtain ⟨v0, v1⟩ := hb j e he
              have hD2 := eqL_drop (p := datB) hd he
              have Hj := Lib.hid hj
              clear ha hb hd he hj
              rcases Bool.eq_false_or_eq_true (d.1.toList == e.1.toList) with g1 | g1
              · rcases Bool.eq_false_or_eq_true (d.2 == e.2) with g2 | g2
                · have hE5 : Hid (eqL frB us vs = (eqL datB (x.ds.drop (j + 1)) (y.ds.drop (j + 1)) && eqL frB (us.drop (i + 1)) (vs.drop (i + 1)))) := hE4.out.trans (by rw [hD2]; unfold datB; rw [g1, g2]; rfl)
                  clear hD2 hE4
                  go_wp2
                  go_quiet (fail)
                  go_wp2
                  have hj := Hj.out
                  go_roundg (gk - 1)
                  case measure => omega
                  case rel => exact ⟨j + 1, by go_num, by omega, hE5, ky.drewN _⟩
                · have hE5 : Hid (eqL frB us vs = false) := hE4.out.trans (by rw [hD2]; unfold datB; rw [g1, g2]; rfl)
                  clear hD2 hE4
                  go_wp2
                  go_quiet (fail)
                  go_wp2
                  go_ret
                  exact ⟨by rw [hE5.out]; rfl, KX.out.trans (ky.drewN _)⟩
              · have hE5 : Hid (eqL frB us vs = false) := hE4.out.trans (by rw [hD2]; unfold datB; rw [g1]; rfl)
                clear hD2 hE4
                go_wp2
                go_quiet (fail)
                go_wp2
                go_ret
                exact ⟨by rw [hE5.out]; rfl, KX.out.trans (ky.drewN _)⟩
            · obtain rfl : j = ma := by omega
              have hE5 : Hid (eqL frB us vs = eqL frB (us.drop (i + 1)) (vs.drop (i + 1))) := hE4.out.trans (by rw [HE3.out]; rfl)
              clear hE4 HE3 hj
              have hlim := HLIM.out
              go_wp2
              have hi := Hi.out
              go_roundg (la - i - 1)
              case measure => omega
              case rel => exact ⟨i + 1, by go_num, by omega, hE5, KX.out.trans ky⟩
      · obtain rfl : i = la := by omega
        have hE2 : Hid (eqL frB us vs = true) := hE.out.trans HE.out
        clear hi hE HE
        go_wp2
        go_ret
        exact ⟨by rw [hE2.out]; rfl, kx⟩
  · have hE : Hid (eqL frB us vs = false) := eqL_len (by omega)
    have hn : ((la : Int) != (lb : Int)) = true := by simp; omega
    clear hA hB hla hlb
    go_enter Tryz.func74, Tryz.ntmps74
    go_wp2
    go_ret
    exact ⟨by rw [hE.out]; rfl, Kb.refl _⟩
end Go.Proofs.YtlimjohnimgnhaaGreatDoor
