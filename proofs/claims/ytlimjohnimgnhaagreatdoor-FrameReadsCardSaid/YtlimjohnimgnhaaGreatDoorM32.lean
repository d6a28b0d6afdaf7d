/- Texts Ucd: each says in its own first comment what it proves. -/
import Derived.Test.YtlimjohnimgnhaaGreatDoorM47
/- Frames: checkDatums. -/
namespace Go.Proofs.YtlimjohnimgnhaaGreatDoor
open Go.RowKit

set_option maxRecDepth 100000 in
set_option maxHeartbeats 4000000 in
theorem fckDat_1 (w0 : World) (b : Nat) (off : Nat) (dl : Nat) (dc : Nat) (ds : List DatT)     (hd : Hid (DatS w0 (.slice (some ⟨b, off, none⟩) dl dc) ds)) (hcd : dl ≤ dc) (hn : dl ≤ 100000) (hz : Hid (∀ d ∈ ds, d.1.size ≤ 1000000)) (w : World) (gl : Gf w0 w)  : Calls Tryz.prog 51 #[.slice (some ⟨b, off, none⟩) dl dc] w fun r W' => r = .returned (.int .i64 (dsE ds)) ∧ Kb w W' := by
  have kx := Kb.refl w
  have gl0 := Lib.hid gl
  have HL := Lib.hid hd.out.len
  go_enter Tryz.func51, Tryz.ntmps51
  go_wp2_with fail
  go_loopg [8] dl (fun gk s8 wr => ∃ i : Nat, s8 = .int .i64 i ∧ i + gk = dl ∧ Hid (dsE ds = dsF (ds.take i) (ds.drop i)) ∧ Kb w wr)
  case atStart => exact ⟨0, rfl, by omega, Lib.hid rfl, kx⟩
  case round =>
    obtain ⟨i, rfl, hqi, Ei, kx⟩ := hrel
    replace gl := gl0.out.kb kx
    have hqi0 : (0 : Int) ≤ (i : Int) := by omega
    have Hi := Lib.hid hqi
    have hidc : (i : Int) ≤ (dc : Int) := by omega
    have hidc2 : i ≤ dc := by omega
    clear hqi
    by_cases h1 : (i : Int) < (dl : Int)
    · skip
      have h1n : i < (dl : Int) := by omega
      obtain ⟨⟨s, m⟩, hdi⟩ : ∃ d, ds[i]? = some d := ⟨_, List.getElem?_eq_getElem (by have := HL.out; omega)⟩
      have hz1 : s.size ≤ 1000000 := hz.out _ (List.mem_of_getElem? hdi)
      obtain ⟨y0, y1⟩ := hd.out.cell gl.at0 hdi
      dsimp only at y0 y1
      rcases Bool.eq_false_or_eq_true ((firstE [firstE [(nmE s)], fE (dnB (ds.take i) s) 7, firstE [(cmE m)]]) != 0) with h2 | h2
      · skip
        go_wp2_with fail
        have b1 := Is.made wr #[.string s, .int .i64 m] 76
        replace kx := kx.alloc (.cells #[.string s, .int .i64 m] 76 (0, 0))
        replace gl := gl0.out.kb kx
        replace gl := gl.drew
        replace b1 := b1.drew
        rw [oF_lit]
        refine o_law (⟨34, [some 13, some 14, some 15, some 16, some 17, some 18, some 19, some 20, some 21, some 22, some 23, some 24, some 25, some 26, some 27, some 28, some 29, some 5], [13, 14, 15, 16, 17, 18, 19, 20, 21, 22, 23, 24, 25, 26, 27, 28, 29, 5], [[], [0], [1], [2], [], [], [4, 5], [], [7], [6, 8], [9], [], [11], [12], [13], [3, 10, 14], [15], [16]], [[4], [], [], [], [0], [3], [], [4], [], [], [], [4], [], [], [], [], [], []]⟩ : OT) (Kx []) (RL [fun vv _ => vv = .pointer (some ⟨wr.heap.size, 0, none⟩), fun vv _ => vv = .string s, fun vv ww => Sl [] 1 ww vv [[.string s]], fun vv ww => Ck [] vv (firstE [(nmE s)]) ww, fun vv _ => vv = .slice (some ⟨b, off, none⟩) dl dc, fun vv _ => vv = .int .i64 (i : Int), fun vv _ => vv = .slice (some ⟨b, off, none⟩) i dc, fun vv _ => vv = .pointer (some ⟨wr.heap.size, 0, none⟩), fun vv _ => vv = .string s, fun vv _ => vv = .bool (dnB (ds.take i) s), fun vv ww => Ck [] vv (fE (dnB (ds.take i) s) 7) ww, fun vv _ => vv = .pointer (some ⟨wr.heap.size, 1, none⟩), fun vv _ => vv = .int .i64 m, fun vv ww => Sl [] 1 ww vv [[.int .i64 m]], fun vv ww => Ck [] vv (firstE [(cmE m)]) ww, fun vv ww => SlC [] [firstE [(nmE s)], fE (dnB (ds.take i) s) 7, firstE [(cmE m)]] vv ww, fun vv _ => vv = .int .i64 (firstE [firstE [(nmE s)], fE (dnB (ds.take i) s) 7, firstE [(cmE m)]]), fun vv _ => vv = .int .i64 (firstE [firstE [(nmE s)], fE (dnB (ds.take i) s) 7, firstE [(cmE m)]])]) (by kernel_rfl) ?hk ?hR ?fin
        case hk => kernel_rfl
        case hR =>
          refine ⟨fun _ => (Kx.refl _ _), fun _ _ _ => Kx.trans, rl_stab ⟨fun _ _ _ _ h => h, fun _ _ _ _ h => h, (fun v w w' k h => h.kx k), (fun v w w' k h => h.kx k), fun _ _ _ _ h => h, fun _ _ _ _ h => h, fun _ _ _ _ h => h, fun _ _ _ _ h => h, fun _ _ _ _ h => h, fun _ _ _ _ h => h, (fun v w w' k h => h.kx k), fun _ _ _ _ h => h, fun _ _ _ _ h => h, (fun v w w' k h => h.kx k), (fun v w w' k h => h.kx k), (fun v w w' k h => h.kx k), fun _ _ _ _ h => h, fun _ _ _ _ h => h, trivial⟩, ?_⟩
          refine allO_cons ?_ (allO_cons ?_ (allO_cons ?_ (allO_cons ?_ (allO_cons ?_ (allO_cons ?_ (allO_cons ?_ (allO_cons ?_ (allO_cons ?_ (allO_cons ?_ (allO_cons ?_ (allO_cons ?_ (allO_cons ?_ (allO_cons ?_ (allO_cons ?_ (allO_cons ?_ (allO_cons ?_ (allO_cons ?_ (allO_nil))))))))))))))))))
          · intro T w9 hG hD hO Q
            have q0 := hO.1
            have e0 : (oF 34 T).eval (.tmp 4) = .pointer (some ⟨wr.heap.size, 0, none⟩) := (oF_eval (by decide)).trans (show T 4 = _ from q0)
            refine og_none rfl ?_
            exact o_val (v := .pointer (some ⟨wr.heap.size, 0, none⟩)) (w' := w9) (by generalize (oF 34 T).eval = rr at *; simp [execOp, go_sem, e0]) rfl rfl (Kx.refl _ _)
          · intro T w9 hG hD hO Q
            have d0 := hD.1
            have e0 : (oF 34 T).eval (.tmp 13) = .pointer (some ⟨wr.heap.size, 0, none⟩) := (oF_eval (by decide)).trans (show T 13 = _ from d0)
            refine og_none rfl ?_
            have im := b1.kx hG (by simp)
            have m0 := im.c (i := 0) rfl
            clear im
            exact o_val (v := .string s) (w' := w9) (by generalize (oF 34 T).eval = rr at *; simp [execOp, go_sem, e0, m0]) rfl rfl (Kx.refl _ _)
          · intro T w9 hG hD hO Q
            have d0 := hD.1
            have e0 : (oF 34 T).eval (.tmp 14) = .string s := (oF_eval (by decide)).trans (show T 14 = _ from d0)
            refine og_none rfl ?_
            have kz : Kb w9 (w9.alloc (.cells #[.string s] 9 (0, 0))) := (Kb.refl w9).alloc _
            exact o_val (v := .slice (some ⟨w9.heap.size, 0, none⟩) 1 1) (w' := w9.alloc (.cells #[.string s] 9 (0, 0))) (by generalize (oF 34 T).eval = rr at *; simp [execOp, go_sem, e0]) rfl (sl_is (Is.made w9 _ _) (by simp) rfl (rows_ok rfl rfl)) kz.kx
          · intro T w9 hG hD hO Q
            have d0 := hD.1
            have e0 : (oF 34 T).eval (.func 79) = .func (.func 79) #[] #[] := rfl
            have e1 : (oF 34 T).eval (.func 80) = .func (.func 80) #[] #[] := rfl
            have e2 : (oF 34 T).eval (.tmp 15) = T 15 := oF_eval (by decide)
            have p2 : (fun vv ww => Sl [] 1 ww vv [[.string s]]) (T 15) w9 := d0
            refine og_none rfl ?_
            refine o_call (oc2 (enters_of Tryz.func79 (by kernel_rfl) rfl) rfl rfl e1 e2) rfl ?_
            exact (cEach_Txt [] _ ⟨#[]⟩ [s] [(nmE s)] _ w9 (by simp) (by simp) rfl p2 (enters_of Tryz.func80 (by kernel_rfl) rfl) (each_ok ⟨(dName s hz1), trivial⟩ rfl)).mono fun r W' ⟨v, h1, h2, h3⟩ => ⟨v, h1, h2, h3.kx⟩
          · intro T w9 hG hD hO Q
            have q0 := hO.1
            have e0 : (oF 34 T).eval (.tmp 0) = .slice (some ⟨b, off, none⟩) dl dc := (oF_eval (by decide)).trans (show T 0 = _ from q0)
            refine og_none rfl ?_
            exact o_val (v := .slice (some ⟨b, off, none⟩) dl dc) (w' := w9) (by generalize (oF 34 T).eval = rr at *; simp [execOp, go_sem, e0]) rfl rfl (Kx.refl _ _)
          · intro T w9 hG hD hO Q
            have q0 := hO.1
            have e0 : (oF 34 T).eval (.tmp 3) = .int .i64 (i : Int) := (oF_eval (by decide)).trans (show T 3 = _ from q0)
            refine og_none rfl ?_
            exact o_val (v := .int .i64 (i : Int)) (w' := w9) (by generalize (oF 34 T).eval = rr at *; simp [execOp, go_sem, e0]) rfl rfl (Kx.refl _ _)
          · intro T w9 hG hD hO Q
            have d0 := hD.1
            have d1 := hD.2.1
            have e0 : (oF 34 T).eval (.tmp 17) = .slice (some ⟨b, off, none⟩) dl dc := (oF_eval (by decide)).trans (show T 17 = _ from d0)
            have e1 : (oF 34 T).eval (.tmp 18) = .int .i64 (i : Int) := (oF_eval (by decide)).trans (show T 18 = _ from d1)
            refine og_none rfl ?_
            exact o_val (v := .slice (some ⟨b, off, none⟩) i dc) (w' := w9) (by generalize (oF 34 T).eval = rr at *; simp [execOp, go_sem, e0, e1, hqi0, hidc]) rfl rfl (Kx.refl _ _)
          · intro T w9 hG hD hO Q
            have q0 := hO.1
            have e0 : (oF 34 T).eval (.tmp 4) = .pointer (some ⟨wr.heap.size, 0, none⟩) := (oF_eval (by decide)).trans (show T 4 = _ from q0)
            refine og_none rfl ?_
            exact o_val (v := .pointer (some ⟨wr.heap.size, 0, none⟩)) (w' := w9) (by generalize (oF 34 T).eval = rr at *; simp [execOp, go_sem, e0]) rfl rfl (Kx.refl _ _)
          · intro T w9 hG hD hO Q
            have d0 := hD.1
            have e0 : (oF 34 T).eval (.tmp 20) = .pointer (some ⟨wr.heap.size, 0, none⟩) := (oF_eval (by decide)).trans (show T 20 = _ from d0)
            refine og_none rfl ?_
            have im := b1.kx hG (by simp)
            have m0 := im.c (i := 0) rfl
            clear im
            exact o_val (v := .string s) (w' := w9) (by generalize (oF 34 T).eval = rr at *; simp [execOp, go_sem, e0, m0]) rfl rfl (Kx.refl _ _)
          · intro T w9 hG hD hO Q
            have d0 := hD.1
            have d1 := hD.2.1
            have e0 : (oF 34 T).eval (.func 87) = .func (.func 87) #[] #[] := rfl
            have e1 : (oF 34 T).eval (.tmp 19) = .slice (some ⟨b, off, none⟩) i dc := (oF_eval (by decide)).trans (show T 19 = _ from d0)
            have e2 : (oF 34 T).eval (.tmp 21) = .string s := (oF_eval (by decide)).trans (show T 21 = _ from d1)
            refine og_none rfl ?_
            refine o_call (oc2 (enters_of Tryz.func87 (by kernel_rfl) rfl) rfl rfl e1 e2) rfl ?_
            exact (Cw.out (fnamed (w0 := w0) (ds.take i) s _ i dc (hd.out.take i (by omega)) (by omega)) w9 (gl.kx hG (by simp)).at0).mono fun r W' h => ⟨_, h.1, rfl, h.2.kx⟩
          · intro T w9 hG hD hO Q
            have d0 := hD.1
            have e0 : (oF 34 T).eval (.func 47) = .func (.func 47) #[] #[] := rfl
            have e1 : (oF 34 T).eval (.tmp 22) = .bool (dnB (ds.take i) s) := (oF_eval (by decide)).trans (show T 22 = _ from d0)
            have e2 : (oF 34 T).eval (.const (.int .i64 7)) = .int .i64 7 := rfl
            refine og_none rfl ?_
            refine o_call (oc2 (enters_of Tryz.func47 (by kernel_rfl) rfl) rfl rfl e1 e2) rfl ?_
            exact (cWhen [] (dnB (ds.take i) s) 7 w9 (by simp)).mono fun r W' ⟨v, h1, h2, h3⟩ => ⟨v, h1, h2, h3.kx⟩
          · intro T w9 hG hD hO Q
            have q0 := hO.1
            have e0 : (oF 34 T).eval (.tmp 4) = .pointer (some ⟨wr.heap.size, 0, none⟩) := (oF_eval (by decide)).trans (show T 4 = _ from q0)
            refine og_none rfl ?_
            exact o_val (v := .pointer (some ⟨wr.heap.size, 1, none⟩)) (w' := w9) (by generalize (oF 34 T).eval = rr at *; simp [execOp, go_sem, e0]) rfl rfl (Kx.refl _ _)
          · intro T w9 hG hD hO Q
            have d0 := hD.1
            have e0 : (oF 34 T).eval (.tmp 24) = .pointer (some ⟨wr.heap.size, 1, none⟩) := (oF_eval (by decide)).trans (show T 24 = _ from d0)
            refine og_none rfl ?_
            have im := b1.kx hG (by simp)
            have m0 := im.c (i := 1) rfl
            clear im
            exact o_val (v := .int .i64 m) (w' := w9) (by generalize (oF 34 T).eval = rr at *; simp [execOp, go_sem, e0, m0]) rfl rfl (Kx.refl _ _)
          · intro T w9 hG hD hO Q
            have d0 := hD.1
            have e0 : (oF 34 T).eval (.tmp 25) = .int .i64 m := (oF_eval (by decide)).trans (show T 25 = _ from d0)
            refine og_none rfl ?_
            have kz : Kb w9 (w9.alloc (.cells #[.int .i64 m] 3 (0, 0))) := (Kb.refl w9).alloc _
            exact o_val (v := .slice (some ⟨w9.heap.size, 0, none⟩) 1 1) (w' := w9.alloc (.cells #[.int .i64 m] 3 (0, 0))) (by generalize (oF 34 T).eval = rr at *; simp [execOp, go_sem, e0]) rfl (sl_is (Is.made w9 _ _) (by simp) rfl (rows_ok rfl rfl)) kz.kx
          · intro T w9 hG hD hO Q
            have d0 := hD.1
            have e0 : (oF 34 T).eval (.func 48) = .func (.func 48) #[] #[] := rfl
            have e1 : (oF 34 T).eval (.func 49) = .func (.func 49) #[] #[] := rfl
            have e2 : (oF 34 T).eval (.tmp 26) = T 26 := oF_eval (by decide)
            have p2 : (fun vv ww => Sl [] 1 ww vv [[.int .i64 m]]) (T 26) w9 := d0
            refine og_none rfl ?_
            refine o_call (oc2 (enters_of Tryz.func48 (by kernel_rfl) rfl) rfl rfl e1 e2) rfl ?_
            exact (cEach_Int [] _ 0 [m] [(cmE m)] _ w9 (by simp) (by simp) rfl p2 (enters_of Tryz.func49 (by kernel_rfl) rfl) (each_ok ⟨(fmat m), trivial⟩ rfl)).mono fun r W' ⟨v, h1, h2, h3⟩ => ⟨v, h1, h2, h3.kx⟩
          · intro T w9 hG hD hO Q
            have d0 := hD.1
            have d1 := hD.2.1
            have d2 := hD.2.2.1
            have e0 : (oF 34 T).eval (.tmp 16) = T 16 := oF_eval (by decide)
            have p0 : (fun vv ww => Ck [] vv (firstE [(nmE s)]) ww) (T 16) w9 := d0
            have e1 : (oF 34 T).eval (.tmp 23) = T 23 := oF_eval (by decide)
            have p1 : (fun vv ww => Ck [] vv (fE (dnB (ds.take i) s) 7) ww) (T 23) w9 := d1
            have e2 : (oF 34 T).eval (.tmp 27) = T 27 := oF_eval (by decide)
            have p2 : (fun vv ww => Ck [] vv (firstE [(cmE m)]) ww) (T 27) w9 := d2
            refine og_none rfl ?_
            obtain ⟨F0, c0, f0, g0, h0⟩ := p0
            obtain ⟨F1, c1, f1, g1, h1⟩ := p1
            obtain ⟨F2, c2, f2, g2, h2⟩ := p2
            rw [f0] at e0
            rw [f1] at e1
            rw [f2] at e2
            have kz : Kb w9 (w9.alloc (.cells #[.func (.func F0) #[] c0, .func (.func F1) #[] c1, .func (.func F2) #[] c2] 80 (0, 0))) := (Kb.refl w9).alloc _
            exact o_val (v := .slice (some ⟨w9.heap.size, 0, none⟩) 3 3) (w' := w9.alloc (.cells #[.func (.func F0) #[] c0, .func (.func F1) #[] c1, .func (.func F2) #[] c2] 80 (0, 0))) (by generalize (oF 34 T).eval = rr at *; simp [execOp, go_sem, e0, e1, e2]) rfl ⟨[.func (.func F0) #[] c0, .func (.func F1) #[] c1, .func (.func F2) #[] c2], rfl, sl_is (Is.made w9 _ _) (by simp) rfl (rows_ok rfl rfl), cks_ok ⟨(Ck.kx ⟨F0, c0, rfl, g0, h0⟩ kz.kx), (Ck.kx ⟨F1, c1, rfl, g1, h1⟩ kz.kx), (Ck.kx ⟨F2, c2, rfl, g2, h2⟩ kz.kx), trivial⟩ rfl⟩ kz.kx
          · intro T w9 hG hD hO Q
            have d0 := hD.1
            have e0 : (oF 34 T).eval (.func 39) = .func (.func 39) #[] #[] := rfl
            have e1 : (oF 34 T).eval (.tmp 28) = T 28 := oF_eval (by decide)
            have p1 : (fun vv ww => SlC [] [firstE [(nmE s)], fE (dnB (ds.take i) s) 7, firstE [(cmE m)]] vv ww) (T 28) w9 := d0
            refine og_none rfl ?_
            refine o_call (oc1 (enters_of Tryz.func39 (by kernel_rfl) rfl) rfl rfl e1) rfl ?_
            exact (cFirst [] _ _ w9 p1 (by simp)).mono fun r W' h => ⟨_, h.1, rfl, h.2.kx⟩
          · intro T w9 hG hD hO Q
            have d0 := hD.1
            have e0 : (oF 34 T).eval (.tmp 29) = .int .i64 (firstE [firstE [(nmE s)], fE (dnB (ds.take i) s) 7, firstE [(cmE m)]]) := (oF_eval (by decide)).trans (show T 29 = _ from d0)
            refine og_none rfl ?_
            exact o_val (v := .int .i64 (firstE [firstE [(nmE s)], fE (dnB (ds.take i) s) 7, firstE [(cmE m)]])) (w' := w9) (by generalize (oF 34 T).eval = rr at *; simp [execOp, go_sem, e0]) rfl rfl (Kx.refl _ _)
        case fin =>
          intro T w1 hout hval hG
          have s1 := hG.2.2.2.1
          simp only [World.size_drew, World.size_alloc] at s1
          rw [show oF 34 T = (⟨#[T 0, T 1, T 2, T 3, T 4, T 5, T 6, T 7, T 8, T 9, T 10, T 11, T 12, T 13, T 14, T 15, T 16, T 17, T 18, T 19, T 20, T 21, T 22, T 23, T 24, T 25, T 26, T 27, T 28, T 29, T 30, T 31, T 32, T 33], []⟩ : Act) from oF_list 34 T]
          rw [show T 0 = .slice (some ⟨b, off, none⟩) dl dc from hout 0 rfl]
          rw [show T 3 = .int .i64 (i : Int) from hout 3 rfl]
          rw [show T 4 = .pointer (some ⟨wr.heap.size, 0, none⟩) from hout 4 rfl]
          rw [show T 5 = .int .i64 (firstE [firstE [(nmE s)], fE (dnB (ds.take i) s) 7, firstE [(cmE m)]]) from hval 17 (by decide : 17 < 18)]
          rw [show T 6 = .slice (some ⟨b, off, none⟩) dl dc from hout 6 rfl]
          rw [show T 7 = .int .i64 (dl : Int) from hout 7 rfl]
          rw [show T 8 = .int .i64 (i : Int) from hout 8 rfl]
          rw [show T 9 = .bool true from hout 9 rfl]
          rw [show T 10 = .int .i64 (i : Int) from hout 10 rfl]
          rw [show T 11 = .pointer (some ⟨b, off + i * 2, none⟩) from hout 11 rfl]
          rw [show T 12 = .agg #[.string s, .int .i64 m] from hout 12 rfl]
          rw [show T 1 = undef from hout 1 rfl]
          replace b1 := b1.kx hG (by simp)
          replace kx := (show Kb _ _ from kx.drew).trans hG.nil
          replace gl := gl0.out.kb kx
          clear hout hval hG
          go_wp2
          go_ret
          exact ⟨by rw [Ei.out, dsF_drop hdi, if_neg (show ¬ dtE (ds.take i) (s, m) = 0 from ne_b2 h2)]; rfl, kx⟩
      · skip
        go_wp2_with fail
        have b1 := Is.made wr #[.string s, .int .i64 m] 76
        replace kx := kx.alloc (.cells #[.string s, .int .i64 m] 76 (0, 0))
        replace gl := gl0.out.kb kx
        replace gl := gl.drew
        replace b1 := b1.drew
        rw [oF_lit]
        refine o_law (⟨34, [some 13, some 14, some 15, some 16, some 17, some 18, some 19, some 20, some 21, some 22, some 23, some 24, some 25, some 26, some 27, some 28, some 29, some 5], [13, 14, 15, 16, 17, 18, 19, 20, 21, 22, 23, 24, 25, 26, 27, 28, 29, 5], [[], [0], [1], [2], [], [], [4, 5], [], [7], [6, 8], [9], [], [11], [12], [13], [3, 10, 14], [15], [16]], [[4], [], [], [], [0], [3], [], [4], [], [], [], [4], [], [], [], [], [], []]⟩ : OT) (Kx []) (RL [fun vv _ => vv = .pointer (some ⟨wr.heap.size, 0, none⟩), fun vv _ => vv = .string s, fun vv ww => Sl [] 1 ww vv [[.string s]], fun vv ww => Ck [] vv (firstE [(nmE s)]) ww, fun vv _ => vv = .slice (some ⟨b, off, none⟩) dl dc, fun vv _ => vv = .int .i64 (i : Int), fun vv _ => vv = .slice (some ⟨b, off, none⟩) i dc, fun vv _ => vv = .pointer (some ⟨wr.heap.size, 0, none⟩), fun vv _ => vv = .string s, fun vv _ => vv = .bool (dnB (ds.take i) s), fun vv ww => Ck [] vv (fE (dnB (ds.take i) s) 7) ww, fun vv _ => vv = .pointer (some ⟨wr.heap.size, 1, none⟩), fun vv _ => vv = .int .i64 m, fun vv ww => Sl [] 1 ww vv [[.int .i64 m]], fun vv ww => Ck [] vv (firstE [(cmE m)]) ww, fun vv ww => SlC [] [firstE [(nmE s)], fE (dnB (ds.take i) s) 7, firstE [(cmE m)]] vv ww, fun vv _ => vv = .int .i64 (firstE [firstE [(nmE s)], fE (dnB (ds.take i) s) 7, firstE [(cmE m)]]), fun vv _ => vv = .int .i64 (firstE [firstE [(nmE s)], fE (dnB (ds.take i) s) 7, firstE [(cmE m)]])]) (by kernel_rfl) ?hk ?hR ?fin
        case hk => kernel_rfl
        case hR =>
          refine ⟨fun _ => (Kx.refl _ _), fun _ _ _ => Kx.trans, rl_stab ⟨fun _ _ _ _ h => h, fun _ _ _ _ h => h, (fun v w w' k h => h.kx k), (fun v w w' k h => h.kx k), fun _ _ _ _ h => h, fun _ _ _ _ h => h, fun _ _ _ _ h => h, fun _ _ _ _ h => h, fun _ _ _ _ h => h, fun _ _ _ _ h => h, (fun v w w' k h => h.kx k), fun _ _ _ _ h => h, fun _ _ _ _ h => h, (fun v w w' k h => h.kx k), (fun v w w' k h => h.kx k), (fun v w w' k h => h.kx k), fun _ _ _ _ h => h, fun _ _ _ _ h => h, trivial⟩, ?_⟩
          refine allO_cons ?_ (allO_cons ?_ (allO_cons ?_ (allO_cons ?_ (allO_cons ?_ (allO_cons ?_ (allO_cons ?_ (allO_cons ?_ (allO_cons ?_ (allO_cons ?_ (allO_cons ?_ (allO_cons ?_ (allO_cons ?_ (allO_cons ?_ (allO_cons ?_ (allO_cons ?_ (allO_cons ?_ (allO_cons ?_ (allO_nil))))))))))))))))))
          · intro T w9 hG hD hO Q
            have q0 := hO.1
            have e0 : (oF 34 T).eval (.tmp 4) = .pointer (some ⟨wr.heap.size, 0, none⟩) := (oF_eval (by decide)).trans (show T 4 = _ from q0)
            refine og_none rfl ?_
            exact o_val (v := .pointer (some ⟨wr.heap.size, 0, none⟩)) (w' := w9) (by generalize (oF 34 T).eval = rr at *; simp [execOp, go_sem, e0]) rfl rfl (Kx.refl _ _)
          · intro T w9 hG hD hO Q
            have d0 := hD.1
            have e0 : (oF 34 T).eval (.tmp 13) = .pointer (some ⟨wr.heap.size, 0, none⟩) := (oF_eval (by decide)).trans (show T 13 = _ from d0)
            refine og_none rfl ?_
            have im := b1.kx hG (by simp)
            have m0 := im.c (i := 0) rfl
            clear im
            exact o_val (v := .string s) (w' := w9) (by generalize (oF 34 T).eval = rr at *; simp [execOp, go_sem, e0, m0]) rfl rfl (Kx.refl _ _)
          · intro T w9 hG hD hO Q
            have d0 := hD.1
            have e0 : (oF 34 T).eval (.tmp 14) = .string s := (oF_eval (by decide)).trans (show T 14 = _ from d0)
            refine og_none rfl ?_
            have kz : Kb w9 (w9.alloc (.cells #[.string s] 9 (0, 0))) := (Kb.refl w9).alloc _
            exact o_val (v := .slice (some ⟨w9.heap.size, 0, none⟩) 1 1) (w' := w9.alloc (.cells #[.string s] 9 (0, 0))) (by generalize (oF 34 T).eval = rr at *; simp [execOp, go_sem, e0]) rfl (sl_is (Is.made w9 _ _) (by simp) rfl (rows_ok rfl rfl)) kz.kx
          · intro T w9 hG hD hO Q
            have d0 := hD.1
            have e0 : (oF 34 T).eval (.func 79) = .func (.func 79) #[] #[] := rfl
            have e1 : (oF 34 T).eval (.func 80) = .func (.func 80) #[] #[] := rfl
            have e2 : (oF 34 T).eval (.tmp 15) = T 15 := oF_eval (by decide)
            have p2 : (fun vv ww => Sl [] 1 ww vv [[.string s]]) (T 15) w9 := d0
            refine og_none rfl ?_
            refine o_call (oc2 (enters_of Tryz.func79 (by kernel_rfl) rfl) rfl rfl e1 e2) rfl ?_
            exact (cEach_Txt [] _ ⟨#[]⟩ [s] [(nmE s)] _ w9 (by simp) (by simp) rfl p2 (enters_of Tryz.func80 (by kernel_rfl) rfl) (each_ok ⟨(dName s hz1), trivial⟩ rfl)).mono fun r W' ⟨v, h1, h2, h3⟩ => ⟨v, h1, h2, h3.kx⟩
          · intro T w9 hG hD hO Q
            have q0 := hO.1
            have e0 : (oF 34 T).eval (.tmp 0) = .slice (some ⟨b, off, none⟩) dl dc := (oF_eval (by decide)).trans (show T 0 = _ from q0)
            refine og_none rfl ?_
            exact o_val (v := .slice (some ⟨b, off, none⟩) dl dc) (w' := w9) (by generalize (oF 34 T).eval = rr at *; simp [execOp, go_sem, e0]) rfl rfl (Kx.refl _ _)
          · intro T w9 hG hD hO Q
            have q0 := hO.1
            have e0 : (oF 34 T).eval (.tmp 3) = .int .i64 (i : Int) := (oF_eval (by decide)).trans (show T 3 = _ from q0)
            refine og_none rfl ?_
            exact o_val (v := .int .i64 (i : Int)) (w' := w9) (by generalize (oF 34 T).eval = rr at *; simp [execOp, go_sem, e0]) rfl rfl (Kx.refl _ _)
          · intro T w9 hG hD hO Q
            have d0 := hD.1
            have d1 := hD.2.1
            have e0 : (oF 34 T).eval (.tmp 17) = .slice (some ⟨b, off, none⟩) dl dc := (oF_eval (by decide)).trans (show T 17 = _ from d0)
            have e1 : (oF 34 T).eval (.tmp 18) = .int .i64 (i : Int) := (oF_eval (by decide)).trans (show T 18 = _ from d1)
            refine og_none rfl ?_
            exact o_val (v := .slice (some ⟨b, off, none⟩) i dc) (w' := w9) (by generalize (oF 34 T).eval = rr at *; simp [execOp, go_sem, e0, e1, hqi0, hidc]) rfl rfl (Kx.refl _ _)
          · intro T w9 hG hD hO Q
            have q0 := hO.1
            have e0 : (oF 34 T).eval (.tmp 4) = .pointer (some ⟨wr.heap.size, 0, none⟩) := (oF_eval (by decide)).trans (show T 4 = _ from q0)
            refine og_none rfl ?_
            exact o_val (v := .pointer (some ⟨wr.heap.size, 0, none⟩)) (w' := w9) (by generalize (oF 34 T).eval = rr at *; simp [execOp, go_sem, e0]) rfl rfl (Kx.refl _ _)
          · intro T w9 hG hD hO Q
            have d0 := hD.1
            have e0 : (oF 34 T).eval (.tmp 20) = .pointer (some ⟨wr.heap.size, 0, none⟩) := (oF_eval (by decide)).trans (show T 20 = _ from d0)
            refine og_none rfl ?_
            have im := b1.kx hG (by simp)
            have m0 := im.c (i := 0) rfl
            clear im
            exact o_val (v := .string s) (w' := w9) (by generalize (oF 34 T).eval = rr at *; simp [execOp, go_sem, e0, m0]) rfl rfl (Kx.refl _ _)
          · intro T w9 hG hD hO Q
            have d0 := hD.1
            have d1 := hD.2.1
            have e0 : (oF 34 T).eval (.func 87) = .func (.func 87) #[] #[] := rfl
            have e1 : (oF 34 T).eval (.tmp 19) = .slice (some ⟨b, off, none⟩) i dc := (oF_eval (by decide)).trans (show T 19 = _ from d0)
            have e2 : (oF 34 T).eval (.tmp 21) = .string s := (oF_eval (by decide)).trans (show T 21 = _ from d1)
            refine og_none rfl ?_
            refine o_call (oc2 (enters_of Tryz.func87 (by kernel_rfl) rfl) rfl rfl e1 e2) rfl ?_
            exact (Cw.out (fnamed (w0 := w0) (ds.take i) s _ i dc (hd.out.take i (by omega)) (by omega)) w9 (gl.kx hG (by simp)).at0).mono fun r W' h => ⟨_, h.1, rfl, h.2.kx⟩
          · intro T w9 hG hD hO Q
            have d0 := hD.1
            have e0 : (oF 34 T).eval (.func 47) = .func (.func 47) #[] #[] := rfl
            have e1 : (oF 34 T).eval (.tmp 22) = .bool (dnB (ds.take i) s) := (oF_eval (by decide)).trans (show T 22 = _ from d0)
            have e2 : (oF 34 T).eval (.const (.int .i64 7)) = .int .i64 7 := rfl
            refine og_none rfl ?_
            refine o_call (oc2 (enters_of Tryz.func47 (by kernel_rfl) rfl) rfl rfl e1 e2) rfl ?_
            exact (cWhen [] (dnB (ds.take i) s) 7 w9 (by simp)).mono fun r W' ⟨v, h1, h2, h3⟩ => ⟨v, h1, h2, h3.kx⟩
          · intro T w9 hG hD hO Q
            have q0 := hO.1
            have e0 : (oF 34 T).eval (.tmp 4) = .pointer (some ⟨wr.heap.size, 0, none⟩) := (oF_eval (by decide)).trans (show T 4 = _ from q0)
            refine og_none rfl ?_
            exact o_val (v := .pointer (some ⟨wr.heap.size, 1, none⟩)) (w' := w9) (by generalize (oF 34 T).eval = rr at *; simp [execOp, go_sem, e0]) rfl rfl (Kx.refl _ _)
          · intro T w9 hG hD hO Q
            have d0 := hD.1
            have e0 : (oF 34 T).eval (.tmp 24) = .pointer (some ⟨wr.heap.size, 1, none⟩) := (oF_eval (by decide)).trans (show T 24 = _ from d0)
            refine og_none rfl ?_
            have im := b1.kx hG (by simp)
            have m0 := im.c (i := 1) rfl
            clear im
            exact o_val (v := .int .i64 m) (w' := w9) (by generalize (oF 34 T).eval = rr at *; simp [execOp, go_sem, e0, m0]) rfl rfl (Kx.refl _ _)
          · intro T w9 hG hD hO Q
            have d0 := hD.1
            have e0 : (oF 34 T).eval (.tmp 25) = .int .i64 m := (oF_eval (by decide)).trans (show T 25 = _ from d0)
            refine og_none rfl ?_
            have kz : Kb w9 (w9.alloc (.cells #[.int .i64 m] 3 (0, 0))) := (Kb.refl w9).alloc _
            exact o_val (v := .slice (some ⟨w9.heap.size, 0, none⟩) 1 1) (w' := w9.alloc (.cells #[.int .i64 m] 3 (0, 0))) (by generalize (oF 34 T).eval = rr at *; simp [execOp, go_sem, e0]) rfl (sl_is (Is.made w9 _ _) (by simp) rfl (rows_ok rfl rfl)) kz.kx
          · intro T w9 hG hD hO Q
            have d0 := hD.1
            have e0 : (oF 34 T).eval (.func 48) = .func (.func 48) #[] #[] := rfl
            have e1 : (oF 34 T).eval (.func 49) = .func (.func 49) #[] #[] := rfl
            have e2 : (oF 34 T).eval (.tmp 26) = T 26 := oF_eval (by decide)
            have p2 : (fun vv ww => Sl [] 1 ww vv [[.int .i64 m]]) (T 26) w9 := d0
            refine og_none rfl ?_
            refine o_call (oc2 (enters_of Tryz.func48 (by kernel_rfl) rfl) rfl rfl e1 e2) rfl ?_
            exact (cEach_Int [] _ 0 [m] [(cmE m)] _ w9 (by simp) (by simp) rfl p2 (enters_of Tryz.func49 (by kernel_rfl) rfl) (each_ok ⟨(fmat m), trivial⟩ rfl)).mono fun r W' ⟨v, h1, h2, h3⟩ => ⟨v, h1, h2, h3.kx⟩
          · intro T w9 hG hD hO Q
            have d0 := hD.1
            have d1 := hD.2.1
            have d2 := hD.2.2.1
            have e0 : (oF 34 T).eval (.tmp 16) = T 16 := oF_eval (by decide)
            have p0 : (fun vv ww => Ck [] vv (firstE [(nmE s)]) ww) (T 16) w9 := d0
            have e1 : (oF 34 T).eval (.tmp 23) = T 23 := oF_eval (by decide)
            have p1 : (fun vv ww => Ck [] vv (fE (dnB (ds.take i) s) 7) ww) (T 23) w9 := d1
            have e2 : (oF 34 T).eval (.tmp 27) = T 27 := oF_eval (by decide)
            have p2 : (fun vv ww => Ck [] vv (firstE [(cmE m)]) ww) (T 27) w9 := d2
            refine og_none rfl ?_
            obtain ⟨F0, c0, f0, g0, h0⟩ := p0
            obtain ⟨F1, c1, f1, g1, h1⟩ := p1
            obtain ⟨F2, c2, f2, g2, h2⟩ := p2
            rw [f0] at e0
            rw [f1] at e1
            rw [f2] at e2
            have kz : Kb w9 (w9.alloc (.cells #[.func (.func F0) #[] c0, .func (.func F1) #[] c1, .func (.func F2) #[] c2] 80 (0, 0))) := (Kb.refl w9).alloc _
            exact o_val (v := .slice (some ⟨w9.heap.size, 0, none⟩) 3 3) (w' := w9.alloc (.cells #[.func (.func F0) #[] c0, .func (.func F1) #[] c1, .func (.func F2) #[] c2] 80 (0, 0))) (by generalize (oF 34 T).eval = rr at *; simp [execOp, go_sem, e0, e1, e2]) rfl ⟨[.func (.func F0) #[] c0, .func (.func F1) #[] c1, .func (.func F2) #[] c2], rfl, sl_is (Is.made w9 _ _) (by simp) rfl (rows_ok rfl rfl), cks_ok ⟨(Ck.kx ⟨F0, c0, rfl, g0, h0⟩ kz.kx), (Ck.kx ⟨F1, c1, rfl, g1, h1⟩ kz.kx), (Ck.kx ⟨F2, c2, rfl, g2, h2⟩ kz.kx), trivial⟩ rfl⟩ kz.kx
          · intro T w9 hG hD hO Q
            have d0 := hD.1
            have e0 : (oF 34 T).eval (.func 39) = .func (.func 39) #[] #[] := rfl
            have e1 : (oF 34 T).eval (.tmp 28) = T 28 := oF_eval (by decide)
            have p1 : (fun vv ww => SlC [] [firstE [(nmE s)], fE (dnB (ds.take i) s) 7, firstE [(cmE m)]] vv ww) (T 28) w9 := d0
            refine og_none rfl ?_
            refine o_call (oc1 (enters_of Tryz.func39 (by kernel_rfl) rfl) rfl rfl e1) rfl ?_
            exact (cFirst [] _ _ w9 p1 (by simp)).mono fun r W' h => ⟨_, h.1, rfl, h.2.kx⟩
          · intro T w9 hG hD hO Q
            have d0 := hD.1
            have e0 : (oF 34 T).eval (.tmp 29) = .int .i64 (firstE [firstE [(nmE s)], fE (dnB (ds.take i) s) 7, firstE [(cmE m)]]) := (oF_eval (by decide)).trans (show T 29 = _ from d0)
            refine og_none rfl ?_
            exact o_val (v := .int .i64 (firstE [firstE [(nmE s)], fE (dnB (ds.take i) s) 7, firstE [(cmE m)]])) (w' := w9) (by generalize (oF 34 T).eval = rr at *; simp [execOp, go_sem, e0]) rfl rfl (Kx.refl _ _)
        case fin =>
          intro T w1 hout hval hG
          have s1 := hG.2.2.2.1
          simp only [World.size_drew, World.size_alloc] at s1
          rw [show oF 34 T = (⟨#[T 0, T 1, T 2, T 3, T 4, T 5, T 6, T 7, T 8, T 9, T 10, T 11, T 12, T 13, T 14, T 15, T 16, T 17, T 18, T 19, T 20, T 21, T 22, T 23, T 24, T 25, T 26, T 27, T 28, T 29, T 30, T 31, T 32, T 33], []⟩ : Act) from oF_list 34 T]
          rw [show T 0 = .slice (some ⟨b, off, none⟩) dl dc from hout 0 rfl]
          rw [show T 3 = .int .i64 (i : Int) from hout 3 rfl]
          rw [show T 4 = .pointer (some ⟨wr.heap.size, 0, none⟩) from hout 4 rfl]
          rw [show T 5 = .int .i64 (firstE [firstE [(nmE s)], fE (dnB (ds.take i) s) 7, firstE [(cmE m)]]) from hval 17 (by decide : 17 < 18)]
          rw [show T 6 = .slice (some ⟨b, off, none⟩) dl dc from hout 6 rfl]
          rw [show T 7 = .int .i64 (dl : Int) from hout 7 rfl]
          rw [show T 8 = .int .i64 (i : Int) from hout 8 rfl]
          rw [show T 9 = .bool true from hout 9 rfl]
          rw [show T 10 = .int .i64 (i : Int) from hout 10 rfl]
          rw [show T 11 = .pointer (some ⟨b, off + i * 2, none⟩) from hout 11 rfl]
          rw [show T 12 = .agg #[.string s, .int .i64 m] from hout 12 rfl]
          rw [show T 1 = undef from hout 1 rfl]
          replace b1 := b1.kx hG (by simp)
          replace kx := (show Kb _ _ from kx.drew).trans hG.nil
          replace gl := gl0.out.kb kx
          clear hout hval hG
          go_wp2_with fail
          have hqi := Hi.out
          go_roundg (gk - 1)
          case measure => omega
          case rel => exact ⟨i + 1, by go_num, by omega, Lib.hid (Ei.out.trans ((dsF_drop hdi).trans (if_pos (b_ne h2)))), kx⟩
    · skip
      have h1n : ¬ i < (dl : Int) := by omega
      go_wp2
      go_ret
      exact ⟨by rw [Ei.out, List.drop_of_length_le (by have := HL.out; omega)]; rfl, kx⟩
end Go.Proofs.YtlimjohnimgnhaaGreatDoor
