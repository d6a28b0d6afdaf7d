/- Texts Ud: each says in its own first comment what it proves. -/
import Derived.Test.YtlimjohnimgnhaaGreatDoorM15
/- Frames: checkTogether. -/
namespace Go.Proofs.YtlimjohnimgnhaaGreatDoor
open Go.RowKit

set_option maxRecDepth 100000 in
set_option maxHeartbeats 4000000 in
theorem fTog_1 (w0 : World) (n : ByteArray) (k : Int) (a : Int) (x : Int) (y : Int) (z : Int) (lo : Int) (hi : Int) (fp : Option Addr) (fl : Nat) (fc : Nat) (fk : Nat) (fd : Bool) (ft : Int) (fm : Int) (dp : Option Addr) (dl : Nat) (dc : Nat) (sv : Int) (ds : List DatT)     (hd : DatS w0 (.slice dp dl dc) ds) (hn : dl ≤ 100000) (hk : fk < 9) (hf0 : 0 ≤ k) (hf64 : k ≤ 64) (hsv : IntKind.i64.wrap (2 ^ k.toNat) = sv) (w : World) (gl : Gf w0 w)  : Calls Tryz.prog 44 #[.agg #[.string n, .int .i64 k, .int .i64 a, .int .i64 x, .int .i64 y, .int .i64 z, .int .i64 lo, .int .i64 hi, .slice fp fl fc], .agg #[.int .i64 (fk : Int), .bool fd, .int .i64 ft, .int .i64 fm, .slice dp dl dc]] w fun r W' => r = .returned (.int .i64 (firstE [fE ((bits .and .i64 (kF fk) sv) == 0) 14, fE (fd && ((bits .and .i64 (kD fk) sv) == 0)) 3, fE ((ft == 0) && (fm != 1)) 10, fE ((fm != 0) && ((bits .and .i64 (kM fk) sv) == 0)) 3, fE (decide ((dl : Int) < (kL fk))) 13, fE (decide ((kT fk) < (dl : Int))) 5, fE (dnB ds n) 7])) ∧ Kb w W' := by
  have gta := gl.ta
  have gtb := gl.tb
  have gtc := gl.tc
  have kx := Kb.refl w
  have gl0 := Lib.hid gl
  have gta0 := Lib.hid gta
  have gtb0 := Lib.hid gtb
  have gtc0 := Lib.hid gtc
  have hk0 : (0 : Int) ≤ (fk : Int) := by omega
  have hk9 : (fk : Int) < 9 := by omega
  go_enter Tryz.func44, Tryz.ntmps44
  go_wp2_with fail
  have b1 := Is.made w #[.string n, .int .i64 k, .int .i64 a, .int .i64 x, .int .i64 y, .int .i64 z, .int .i64 lo, .int .i64 hi, .slice fp fl fc] 28
  replace b1 := (b1.alloc (.cells #[.int .i64 (fk : Int), .bool fd, .int .i64 ft, .int .i64 fm, .slice dp dl dc] 31 (0, 0)))
  have b2 := Is.made (w.alloc (.cells #[.string n, .int .i64 k, .int .i64 a, .int .i64 x, .int .i64 y, .int .i64 z, .int .i64 lo, .int .i64 hi, .slice fp fl fc] 28 (0, 0))) #[.int .i64 (fk : Int), .bool fd, .int .i64 ft, .int .i64 fm, .slice dp dl dc] 31
  simp only [World.size_alloc] at b2
  replace kx := (kx.alloc (.cells #[.string n, .int .i64 k, .int .i64 a, .int .i64 x, .int .i64 y, .int .i64 z, .int .i64 lo, .int .i64 hi, .slice fp fl fc] 28 (0, 0))).alloc (.cells #[.int .i64 (fk : Int), .bool fd, .int .i64 ft, .int .i64 fm, .slice dp dl dc] 31 (0, 0))
  replace gl := gl0.out.kb kx
  replace gta := gta0.out.kb kx
  replace gtb := gtb0.out.kb kx
  replace gtc := gtc0.out.kb kx
  replace gl := gl.drew
  replace gta := gta.drew
  replace gtb := gtb.drew
  replace gtc := gtc.drew
  replace b1 := b1.drew
  replace b2 := b2.drew
  rw [oF_lit]
  refine o_law (⟨72, [some 7, some 8, some 9, some 10, some 11, some 12, some 13, some 5, none, some 6], [7, 8, 9, 10, 11, 12, 13, 5, 5, 6], [[], [0], [1], [2], [], [4], [5], [], [7, 3], [6]], [[3], [], [], [], [2], [], [], [], [], []]⟩ : OT) (Gn (((w.alloc (.cells #[.string n, .int .i64 k, .int .i64 a, .int .i64 x, .int .i64 y, .int .i64 z, .int .i64 lo, .int .i64 hi, .slice fp fl fc] 28 (0, 0))).alloc (.cells #[.int .i64 (fk : Int), .bool fd, .int .i64 ft, .int .i64 fm, .slice dp dl dc] 31 (0, 0))).heap.size) #[.string ⟨#[]⟩, .int .i64 0, .int .i64 0, .int .i64 0, .int .i64 0, .int .i64 0] #[.string (kW fk), .int .i64 (kF fk), .int .i64 (kD fk), .int .i64 (kM fk), .int .i64 (kL fk), .int .i64 (kT fk)] 128) (RL [fun vv _ => vv = .pointer (some ⟨w.heap.size + 1, 0, none⟩), fun vv _ => vv = .int .i64 (fk : Int), fun vv _ => vv = .pointer (some ⟨2, fk * 6, none⟩), fun vv _ => vv = .agg #[.string (kW fk), .int .i64 (kF fk), .int .i64 (kD fk), .int .i64 (kM fk), .int .i64 (kL fk), .int .i64 (kT fk)], fun vv _ => vv = .pointer (some ⟨w.heap.size, 1, none⟩), fun vv _ => vv = .int .i64 k, fun vv _ => vv = .int .i64 sv, An (((w.alloc (.cells #[.string n, .int .i64 k, .int .i64 a, .int .i64 x, .int .i64 y, .int .i64 z, .int .i64 lo, .int .i64 hi, .slice fp fl fc] 28 (0, 0))).alloc (.cells #[.int .i64 (fk : Int), .bool fd, .int .i64 ft, .int .i64 fm, .slice dp dl dc] 31 (0, 0))).heap.size) #[.string ⟨#[]⟩, .int .i64 0, .int .i64 0, .int .i64 0, .int .i64 0, .int .i64 0] #[.string (kW fk), .int .i64 (kF fk), .int .i64 (kD fk), .int .i64 (kM fk), .int .i64 (kL fk), .int .i64 (kT fk)] 128, Sn (((w.alloc (.cells #[.string n, .int .i64 k, .int .i64 a, .int .i64 x, .int .i64 y, .int .i64 z, .int .i64 lo, .int .i64 hi, .slice fp fl fc] 28 (0, 0))).alloc (.cells #[.int .i64 (fk : Int), .bool fd, .int .i64 ft, .int .i64 fm, .slice dp dl dc] 31 (0, 0))).heap.size) #[.string (kW fk), .int .i64 (kF fk), .int .i64 (kD fk), .int .i64 (kM fk), .int .i64 (kL fk), .int .i64 (kT fk)] 128, fun vv _ => vv = .int .i64 sv]) (by kernel_rfl) ?hk ?hR ?fin
  case hk => kernel_rfl
  case hR =>
    refine ⟨fun _ => (Gn.refl _ _ _ _ _), fun _ _ _ => Gn.trans, rl_stab ⟨fun _ _ _ _ h => h, fun _ _ _ _ h => h, fun _ _ _ _ h => h, fun _ _ _ _ h => h, fun _ _ _ _ h => h, fun _ _ _ _ h => h, fun _ _ _ _ h => h, (fun v w w' k h => h.gn k), (fun v w w' k h => h.gn k), fun _ _ _ _ h => h, trivial⟩, ?_⟩
    refine allO_cons ?_ (allO_cons ?_ (allO_cons ?_ (allO_cons ?_ (allO_cons ?_ (allO_cons ?_ (allO_cons ?_ (allO_cons ?_ (allO_cons ?_ (allO_cons ?_ (allO_nil))))))))))
    · intro T w9 hG hD hO Q
      have q0 := hO.1
      have e0 : (oF 72 T).eval (.tmp 3) = .pointer (some ⟨w.heap.size + 1, 0, none⟩) := (oF_eval (by decide)).trans (show T 3 = _ from q0)
      refine og_none rfl ?_
      exact o_val (v := .pointer (some ⟨w.heap.size + 1, 0, none⟩)) (w' := w9) (by generalize (oF 72 T).eval = rr at *; simp [execOp, go_sem, e0]) rfl rfl (Gn.refl _ _ _ _ _)
    · intro T w9 hG hD hO Q
      have d0 := hD.1
      have e0 : (oF 72 T).eval (.tmp 7) = .pointer (some ⟨w.heap.size + 1, 0, none⟩) := (oF_eval (by decide)).trans (show T 7 = _ from d0)
      refine og_none rfl ?_
      have im := b2.gn hG b2.lt
      have m0 := im.c (i := 0) rfl
      clear im
      exact o_val (v := .int .i64 (fk : Int)) (w' := w9) (by generalize (oF 72 T).eval = rr at *; simp [execOp, go_sem, e0, m0]) rfl rfl (Gn.refl _ _ _ _ _)
    · intro T w9 hG hD hO Q
      have d0 := hD.1
      have e0 : (oF 72 T).eval (.global 2) = .pointer (some ⟨2, 0, none⟩) := rfl
      have e1 : (oF 72 T).eval (.tmp 8) = .int .i64 (fk : Int) := (oF_eval (by decide)).trans (show T 8 = _ from d0)
      refine og_none rfl ?_
      exact o_val (v := .pointer (some ⟨2, fk * 6, none⟩)) (w' := w9) (by generalize (oF 72 T).eval = rr at *; simp [execOp, go_sem, e0, e1, hk0, hk9]) rfl rfl (Gn.refl _ _ _ _ _)
    · intro T w9 hG hD hO Q
      have d0 := hD.1
      have e0 : (oF 72 T).eval (.tmp 9) = .pointer (some ⟨2, fk * 6, none⟩) := (oF_eval (by decide)).trans (show T 9 = _ from d0)
      refine og_none rfl ?_
      obtain ⟨m0, m1, m2, m3, m4, m5⟩ := (gtb.gn hG gtb.lt).row hk
      exact o_val (v := .agg #[.string (kW fk), .int .i64 (kF fk), .int .i64 (kD fk), .int .i64 (kM fk), .int .i64 (kL fk), .int .i64 (kT fk)]) (w' := w9) (by generalize (oF 72 T).eval = rr at *; simp [execOp, go_sem, e0, m0, m1, m2, m3, m4, m5]) rfl rfl (Gn.refl _ _ _ _ _)
    · intro T w9 hG hD hO Q
      have q0 := hO.1
      have e0 : (oF 72 T).eval (.tmp 2) = .pointer (some ⟨w.heap.size, 0, none⟩) := (oF_eval (by decide)).trans (show T 2 = _ from q0)
      refine og_none rfl ?_
      exact o_val (v := .pointer (some ⟨w.heap.size, 1, none⟩)) (w' := w9) (by generalize (oF 72 T).eval = rr at *; simp [execOp, go_sem, e0]) rfl rfl (Gn.refl _ _ _ _ _)
    · intro T w9 hG hD hO Q
      have d0 := hD.1
      have e0 : (oF 72 T).eval (.tmp 11) = .pointer (some ⟨w.heap.size, 1, none⟩) := (oF_eval (by decide)).trans (show T 11 = _ from d0)
      refine og_none rfl ?_
      have im := b1.gn hG b1.lt
      have m0 := im.c (i := 1) rfl
      clear im
      exact o_val (v := .int .i64 k) (w' := w9) (by generalize (oF 72 T).eval = rr at *; simp [execOp, go_sem, e0, m0]) rfl rfl (Gn.refl _ _ _ _ _)
    · intro T w9 hG hD hO Q
      have d0 := hD.1
      have e0 : (oF 72 T).eval (.const (.int .i64 1)) = .int .i64 1 := rfl
      have e1 : (oF 72 T).eval (.tmp 12) = .int .i64 k := (oF_eval (by decide)).trans (show T 12 = _ from d0)
      refine og_none rfl ?_
      exact o_val (v := .int .i64 sv) (w' := w9) (by generalize (oF 72 T).eval = rr at *; simp [execOp, go_sem, e0, e1, hsv]) rfl rfl (Gn.refl _ _ _ _ _)
    · intro T w9 hG hD hO Q
      refine og_none rfl ?_
      have kz : Kb w9 (w9.alloc (.cells #[.string ⟨#[]⟩, .int .i64 0, .int .i64 0, .int .i64 0, .int .i64 0, .int .i64 0] 128 (0, 0))) := (Kb.refl w9).alloc _
      exact o_val (v := .pointer (some ⟨w9.heap.size, 0, none⟩)) (w' := w9.alloc (.cells #[.string ⟨#[]⟩, .int .i64 0, .int .i64 0, .int .i64 0, .int .i64 0, .int .i64 0] 128 (0, 0))) (by simp [execOp, go_sem]) rfl ⟨_, rfl, (by have := hG.2.2.2.1; simp only [World.size_drew] at *; (try simp only [World.size_alloc] at *); omega), .inl (Is.made w9 _ _)⟩ kz.gn
    · intro T w9 hG hD hO Q
      have d0 := hD.1
      have d1 := hD.2.1
      have e0 : (oF 72 T).eval (.tmp 5) = T 5 := oF_eval (by decide)
      have p0 : (An (((w.alloc (.cells #[.string n, .int .i64 k, .int .i64 a, .int .i64 x, .int .i64 y, .int .i64 z, .int .i64 lo, .int .i64 hi, .slice fp fl fc] 28 (0, 0))).alloc (.cells #[.int .i64 (fk : Int), .bool fd, .int .i64 ft, .int .i64 fm, .slice dp dl dc] 31 (0, 0))).heap.size) #[.string ⟨#[]⟩, .int .i64 0, .int .i64 0, .int .i64 0, .int .i64 0, .int .i64 0] #[.string (kW fk), .int .i64 (kF fk), .int .i64 (kD fk), .int .i64 (kM fk), .int .i64 (kL fk), .int .i64 (kT fk)] 128) (T 5) w9 := d0
      have e1 : (oF 72 T).eval (.tmp 10) = .agg #[.string (kW fk), .int .i64 (kF fk), .int .i64 (kD fk), .int .i64 (kM fk), .int .i64 (kL fk), .int .i64 (kT fk)] := (oF_eval (by decide)).trans (show T 10 = _ from d1)
      refine og_none rfl ?_
      obtain ⟨g, hg, hge, io⟩ := p0
      rw [hg] at e0
      rcases io with io | io
      · have zn := io
        replace zn : Is (w9.setCell ⟨g, 0, none⟩ (.string (kW fk))) (g) #[.string (kW fk), .int .i64 0, .int .i64 0, .int .i64 0, .int .i64 0, .int .i64 0] 128 := zn.set 0 _
        replace zn : Is ((w9.setCell ⟨g, 0, none⟩ (.string (kW fk))).setCell ⟨g, 1, none⟩ (.int .i64 (kF fk))) (g) #[.string (kW fk), .int .i64 (kF fk), .int .i64 0, .int .i64 0, .int .i64 0, .int .i64 0] 128 := zn.set 1 _
        replace zn : Is (((w9.setCell ⟨g, 0, none⟩ (.string (kW fk))).setCell ⟨g, 1, none⟩ (.int .i64 (kF fk))).setCell ⟨g, 2, none⟩ (.int .i64 (kD fk))) (g) #[.string (kW fk), .int .i64 (kF fk), .int .i64 (kD fk), .int .i64 0, .int .i64 0, .int .i64 0] 128 := zn.set 2 _
        replace zn : Is ((((w9.setCell ⟨g, 0, none⟩ (.string (kW fk))).setCell ⟨g, 1, none⟩ (.int .i64 (kF fk))).setCell ⟨g, 2, none⟩ (.int .i64 (kD fk))).setCell ⟨g, 3, none⟩ (.int .i64 (kM fk))) (g) #[.string (kW fk), .int .i64 (kF fk), .int .i64 (kD fk), .int .i64 (kM fk), .int .i64 0, .int .i64 0] 128 := zn.set 3 _
        replace zn : Is (((((w9.setCell ⟨g, 0, none⟩ (.string (kW fk))).setCell ⟨g, 1, none⟩ (.int .i64 (kF fk))).setCell ⟨g, 2, none⟩ (.int .i64 (kD fk))).setCell ⟨g, 3, none⟩ (.int .i64 (kM fk))).setCell ⟨g, 4, none⟩ (.int .i64 (kL fk))) (g) #[.string (kW fk), .int .i64 (kF fk), .int .i64 (kD fk), .int .i64 (kM fk), .int .i64 (kL fk), .int .i64 0] 128 := zn.set 4 _
        replace zn : Is ((((((w9.setCell ⟨g, 0, none⟩ (.string (kW fk))).setCell ⟨g, 1, none⟩ (.int .i64 (kF fk))).setCell ⟨g, 2, none⟩ (.int .i64 (kD fk))).setCell ⟨g, 3, none⟩ (.int .i64 (kM fk))).setCell ⟨g, 4, none⟩ (.int .i64 (kL fk))).setCell ⟨g, 5, none⟩ (.int .i64 (kT fk))) (g) #[.string (kW fk), .int .i64 (kF fk), .int .i64 (kD fk), .int .i64 (kM fk), .int .i64 (kL fk), .int .i64 (kT fk)] 128 := zn.set 5 _
        have pt := (((((((Pt.refl g w9).set 0 (.string (kW fk))).set 1 (.int .i64 (kF fk))).set 2 (.int .i64 (kD fk))).set 3 (.int .i64 (kM fk))).set 4 (.int .i64 (kL fk))).set 5 (.int .i64 (kT fk)))
        have gn : Gn (((w.alloc (.cells #[.string n, .int .i64 k, .int .i64 a, .int .i64 x, .int .i64 y, .int .i64 z, .int .i64 lo, .int .i64 hi, .slice fp fl fc] 28 (0, 0))).alloc (.cells #[.int .i64 (fk : Int), .bool fd, .int .i64 ft, .int .i64 fm, .slice dp dl dc] 31 (0, 0))).heap.size) #[.string ⟨#[]⟩, .int .i64 0, .int .i64 0, .int .i64 0, .int .i64 0, .int .i64 0] #[.string (kW fk), .int .i64 (kF fk), .int .i64 (kD fk), .int .i64 (kM fk), .int .i64 (kL fk), .int .i64 (kT fk)] 128 w9 _ := pt.gn zn (.inl io) hge
        have m0 := io.c (i := 0) rfl
        have f0 := io.f 0
        have m1 := io.c (i := 1) rfl
        have f1 := io.f 1
        have m2 := io.c (i := 2) rfl
        have f2 := io.f 2
        have m3 := io.c (i := 3) rfl
        have f3 := io.f 3
        have m4 := io.c (i := 4) rfl
        have f4 := io.f 4
        have m5 := io.c (i := 5) rfl
        have f5 := io.f 5
        clear io
        exact o_skip (w' := ((((((w9.setCell ⟨g, 0, none⟩ (.string (kW fk))).setCell ⟨g, 1, none⟩ (.int .i64 (kF fk))).setCell ⟨g, 2, none⟩ (.int .i64 (kD fk))).setCell ⟨g, 3, none⟩ (.int .i64 (kM fk))).setCell ⟨g, 4, none⟩ (.int .i64 (kL fk))).setCell ⟨g, 5, none⟩ (.int .i64 (kT fk)))) (by generalize (oF 72 T).eval = rr at *; simp [execOp, go_sem, e0, e1, m0, f0, m1, f1, m2, f2, m3, f3, m4, f4, m5, f5]) rfl ⟨g, hg, hge, zn⟩ gn
      · have zn := io
        replace zn : Is (w9.setCell ⟨g, 0, none⟩ (.string (kW fk))) (g) #[.string (kW fk), .int .i64 (kF fk), .int .i64 (kD fk), .int .i64 (kM fk), .int .i64 (kL fk), .int .i64 (kT fk)] 128 := zn.set 0 _
        replace zn : Is ((w9.setCell ⟨g, 0, none⟩ (.string (kW fk))).setCell ⟨g, 1, none⟩ (.int .i64 (kF fk))) (g) #[.string (kW fk), .int .i64 (kF fk), .int .i64 (kD fk), .int .i64 (kM fk), .int .i64 (kL fk), .int .i64 (kT fk)] 128 := zn.set 1 _
        replace zn : Is (((w9.setCell ⟨g, 0, none⟩ (.string (kW fk))).setCell ⟨g, 1, none⟩ (.int .i64 (kF fk))).setCell ⟨g, 2, none⟩ (.int .i64 (kD fk))) (g) #[.string (kW fk), .int .i64 (kF fk), .int .i64 (kD fk), .int .i64 (kM fk), .int .i64 (kL fk), .int .i64 (kT fk)] 128 := zn.set 2 _
        replace zn : Is ((((w9.setCell ⟨g, 0, none⟩ (.string (kW fk))).setCell ⟨g, 1, none⟩ (.int .i64 (kF fk))).setCell ⟨g, 2, none⟩ (.int .i64 (kD fk))).setCell ⟨g, 3, none⟩ (.int .i64 (kM fk))) (g) #[.string (kW fk), .int .i64 (kF fk), .int .i64 (kD fk), .int .i64 (kM fk), .int .i64 (kL fk), .int .i64 (kT fk)] 128 := zn.set 3 _
        replace zn : Is (((((w9.setCell ⟨g, 0, none⟩ (.string (kW fk))).setCell ⟨g, 1, none⟩ (.int .i64 (kF fk))).setCell ⟨g, 2, none⟩ (.int .i64 (kD fk))).setCell ⟨g, 3, none⟩ (.int .i64 (kM fk))).setCell ⟨g, 4, none⟩ (.int .i64 (kL fk))) (g) #[.string (kW fk), .int .i64 (kF fk), .int .i64 (kD fk), .int .i64 (kM fk), .int .i64 (kL fk), .int .i64 (kT fk)] 128 := zn.set 4 _
        replace zn : Is ((((((w9.setCell ⟨g, 0, none⟩ (.string (kW fk))).setCell ⟨g, 1, none⟩ (.int .i64 (kF fk))).setCell ⟨g, 2, none⟩ (.int .i64 (kD fk))).setCell ⟨g, 3, none⟩ (.int .i64 (kM fk))).setCell ⟨g, 4, none⟩ (.int .i64 (kL fk))).setCell ⟨g, 5, none⟩ (.int .i64 (kT fk))) (g) #[.string (kW fk), .int .i64 (kF fk), .int .i64 (kD fk), .int .i64 (kM fk), .int .i64 (kL fk), .int .i64 (kT fk)] 128 := zn.set 5 _
        have pt := (((((((Pt.refl g w9).set 0 (.string (kW fk))).set 1 (.int .i64 (kF fk))).set 2 (.int .i64 (kD fk))).set 3 (.int .i64 (kM fk))).set 4 (.int .i64 (kL fk))).set 5 (.int .i64 (kT fk)))
        have gn : Gn (((w.alloc (.cells #[.string n, .int .i64 k, .int .i64 a, .int .i64 x, .int .i64 y, .int .i64 z, .int .i64 lo, .int .i64 hi, .slice fp fl fc] 28 (0, 0))).alloc (.cells #[.int .i64 (fk : Int), .bool fd, .int .i64 ft, .int .i64 fm, .slice dp dl dc] 31 (0, 0))).heap.size) #[.string ⟨#[]⟩, .int .i64 0, .int .i64 0, .int .i64 0, .int .i64 0, .int .i64 0] #[.string (kW fk), .int .i64 (kF fk), .int .i64 (kD fk), .int .i64 (kM fk), .int .i64 (kL fk), .int .i64 (kT fk)] 128 w9 _ := pt.gn zn (.inr io) hge
        have m0 := io.c (i := 0) rfl
        have f0 := io.f 0
        have m1 := io.c (i := 1) rfl
        have f1 := io.f 1
        have m2 := io.c (i := 2) rfl
        have f2 := io.f 2
        have m3 := io.c (i := 3) rfl
        have f3 := io.f 3
        have m4 := io.c (i := 4) rfl
        have f4 := io.f 4
        have m5 := io.c (i := 5) rfl
        have f5 := io.f 5
        clear io
        exact o_skip (w' := ((((((w9.setCell ⟨g, 0, none⟩ (.string (kW fk))).setCell ⟨g, 1, none⟩ (.int .i64 (kF fk))).setCell ⟨g, 2, none⟩ (.int .i64 (kD fk))).setCell ⟨g, 3, none⟩ (.int .i64 (kM fk))).setCell ⟨g, 4, none⟩ (.int .i64 (kL fk))).setCell ⟨g, 5, none⟩ (.int .i64 (kT fk)))) (by generalize (oF 72 T).eval = rr at *; simp [execOp, go_sem, e0, e1, m0, f0, m1, f1, m2, f2, m3, f3, m4, f4, m5, f5]) rfl ⟨g, hg, hge, zn⟩ gn
    · intro T w9 hG hD hO Q
      have d0 := hD.1
      have e0 : (oF 72 T).eval (.tmp 13) = .int .i64 sv := (oF_eval (by decide)).trans (show T 13 = _ from d0)
      refine og_none rfl ?_
      exact o_val (v := .int .i64 sv) (w' := w9) (by generalize (oF 72 T).eval = rr at *; simp [execOp, go_sem, e0]) rfl rfl (Gn.refl _ _ _ _ _)
  case fin =>
    intro T w1 hout hval hG
    have s1 := hG.2.2.2.1
    simp only [World.size_drew, World.size_alloc] at s1
    rw [show oF 72 T = (⟨#[T 0, T 1, T 2, T 3, T 4, T 5, T 6, T 7, T 8, T 9, T 10, T 11, T 12, T 13, T 14, T 15, T 16, T 17, T 18, T 19, T 20, T 21, T 22, T 23, T 24, T 25, T 26, T 27, T 28, T 29, T 30, T 31, T 32, T 33, T 34, T 35, T 36, T 37, T 38, T 39, T 40, T 41, T 42, T 43, T 44, T 45, T 46, T 47, T 48, T 49, T 50, T 51, T 52, T 53, T 54, T 55, T 56, T 57, T 58, T 59, T 60, T 61, T 62, T 63, T 64, T 65, T 66, T 67, T 68, T 69, T 70, T 71], []⟩ : Act) from oF_list 72 T]
    rw [show T 0 = .agg #[.string n, .int .i64 k, .int .i64 a, .int .i64 x, .int .i64 y, .int .i64 z, .int .i64 lo, .int .i64 hi, .slice fp fl fc] from hout 0 rfl]
    rw [show T 1 = .agg #[.int .i64 (fk : Int), .bool fd, .int .i64 ft, .int .i64 fm, .slice dp dl dc] from hout 1 rfl]
    rw [show T 2 = .pointer (some ⟨w.heap.size, 0, none⟩) from hout 2 rfl]
    rw [show T 3 = .pointer (some ⟨w.heap.size + 1, 0, none⟩) from hout 3 rfl]
    rw [show T 4 = .int .i64 0 from hout 4 rfl]
    rw [show T 6 = .int .i64 sv from hval 9 (by decide : 9 < 10)]
    obtain ⟨g1, eg, hg1, b3⟩ := hval 8 (by decide)
    replace eg : T 5 = _ := eg
    rw [eg]
    simp only [World.size_alloc] at hg1
    replace b1 := b1.gn hG b1.lt
    replace b2 := b2.gn hG b2.lt
    replace kx := hG.old kx.drew kx.size
    replace gl := gl0.out.kb kx
    replace gta := gta0.out.kb kx
    replace gtb := gtb0.out.kb kx
    replace gtc := gtc0.out.kb kx
    clear hout hval hG eg
    go_wp2_with fail
    replace gl := gl.drew
    replace gta := gta.drew
    replace gtb := gtb.drew
    replace gtc := gtc.drew
    replace b1 := b1.drew
    replace b2 := b2.drew
    replace b3 := b3.drew
    rw [oF_lit]
    refine o_law (⟨72, [some 14, some 15, some 16, some 17, some 18, some 19, some 20, some 21, some 22, some 23, some 24, some 25, some 26, some 27, some 28, some 29, some 30, some 31, some 32, some 33, some 34, some 35, some 36, some 37, some 38, some 39, some 40, some 41, some 42, some 43, some 44, some 45, some 46, some 47, some 48, some 49, some 50, some 51, some 52, some 53, some 54, some 55, some 56, some 57, some 58, some 59, some 60, some 61, some 62, some 63, some 64, some 65, some 66, some 67, some 68, some 69, some 70, some 71, some 4], [14, 15, 16, 17, 18, 19, 20, 21, 22, 23, 24, 25, 26, 27, 28, 29, 30, 31, 32, 33, 34, 35, 36, 37, 38, 39, 40, 41, 42, 43, 44, 45, 46, 47, 48, 49, 50, 51, 52, 53, 54, 55, 56, 57, 58, 59, 60, 61, 62, 63, 64, 65, 66, 67, 68, 69, 70, 71, 4], [[], [0], [], [1, 2], [3], [4], [], [6], [7], [8], [9, 8], [8], [10, 11, 8], [12, 8], [8, 13], [14], [], [16], [17], [18], [19], [20, 19], [21, 19], [19, 22], [23], [], [25], [26], [27], [28], [29, 28], [28], [30, 31, 28], [32, 28], [28, 33], [34], [], [36], [37], [], [39], [38, 40], [41], [], [43], [44], [], [46], [45, 47], [48], [], [50], [], [52], [51, 53], [54], [5, 15, 24, 35, 42, 49, 55], [56], [57]], [[5], [], [6], [], [], [], [3], [], [], [5], [], [6], [], [], [], [], [3], [], [], [], [3], [], [], [], [], [3], [], [], [], [5], [], [6], [], [], [], [], [3], [], [], [5], [], [], [], [3], [], [], [5], [], [], [], [3], [], [2], [], [], [], [], [], []]⟩ : OT) (Kx []) (RL [fun vv _ => vv = .pointer (some ⟨g1, 1, none⟩), fun vv _ => vv = .int .i64 (kF fk), fun vv _ => vv = .int .i64 sv, fun vv _ => vv = .int .i64 (bits .and .i64 (kF fk) sv), fun vv _ => vv = .bool ((bits .and .i64 (kF fk) sv) == 0), fun vv ww => Ck [] vv (fE ((bits .and .i64 (kF fk) sv) == 0) 14) ww, fun vv _ => vv = .pointer (some ⟨w.heap.size + 1, 1, none⟩), fun vv _ => vv = .bool fd, fun vv _ => vv = .bool fd, fun vv _ => fd = true → vv = .pointer (some ⟨g1, 2, none⟩), fun vv _ => fd = true → vv = .int .i64 (kD fk), fun vv _ => fd = true → vv = .int .i64 sv, fun vv _ => fd = true → vv = .int .i64 (bits .and .i64 (kD fk) sv), fun vv _ => fd = true → vv = .bool ((bits .and .i64 (kD fk) sv) == 0), fun vv _ => vv = .bool (fd && ((bits .and .i64 (kD fk) sv) == 0)), fun vv ww => Ck [] vv (fE (fd && ((bits .and .i64 (kD fk) sv) == 0)) 3) ww, fun vv _ => vv = .pointer (some ⟨w.heap.size + 1, 2, none⟩), fun vv _ => vv = .int .i64 ft, fun vv _ => vv = .bool (ft == 0), fun vv _ => vv = .bool (ft == 0), fun vv _ => (ft == 0) = true → vv = .pointer (some ⟨w.heap.size + 1, 3, none⟩), fun vv _ => (ft == 0) = true → vv = .int .i64 fm, fun vv _ => (ft == 0) = true → vv = .bool (fm != 1), fun vv _ => vv = .bool ((ft == 0) && (fm != 1)), fun vv ww => Ck [] vv (fE ((ft == 0) && (fm != 1)) 10) ww, fun vv _ => vv = .pointer (some ⟨w.heap.size + 1, 3, none⟩), fun vv _ => vv = .int .i64 fm, fun vv _ => vv = .bool (fm != 0), fun vv _ => vv = .bool (fm != 0), fun vv _ => (fm != 0) = true → vv = .pointer (some ⟨g1, 3, none⟩), fun vv _ => (fm != 0) = true → vv = .int .i64 (kM fk), fun vv _ => (fm != 0) = true → vv = .int .i64 sv, fun vv _ => (fm != 0) = true → vv = .int .i64 (bits .and .i64 (kM fk) sv), fun vv _ => (fm != 0) = true → vv = .bool ((bits .and .i64 (kM fk) sv) == 0), fun vv _ => vv = .bool ((fm != 0) && ((bits .and .i64 (kM fk) sv) == 0)), fun vv ww => Ck [] vv (fE ((fm != 0) && ((bits .and .i64 (kM fk) sv) == 0)) 3) ww, fun vv _ => vv = .pointer (some ⟨w.heap.size + 1, 4, none⟩), fun vv _ => vv = .slice dp dl dc, fun vv _ => vv = .int .i64 (dl : Int), fun vv _ => vv = .pointer (some ⟨g1, 4, none⟩), fun vv _ => vv = .int .i64 (kL fk), fun vv _ => vv = .bool (decide ((dl : Int) < (kL fk))), fun vv ww => Ck [] vv (fE (decide ((dl : Int) < (kL fk))) 13) ww, fun vv _ => vv = .pointer (some ⟨w.heap.size + 1, 4, none⟩), fun vv _ => vv = .slice dp dl dc, fun vv _ => vv = .int .i64 (dl : Int), fun vv _ => vv = .pointer (some ⟨g1, 5, none⟩), fun vv _ => vv = .int .i64 (kT fk), fun vv _ => vv = .bool (decide ((kT fk) < (dl : Int))), fun vv ww => Ck [] vv (fE (decide ((kT fk) < (dl : Int))) 5) ww, fun vv _ => vv = .pointer (some ⟨w.heap.size + 1, 4, none⟩), fun vv _ => vv = .slice dp dl dc, fun vv _ => vv = .pointer (some ⟨w.heap.size, 0, none⟩), fun vv _ => vv = .string n, fun vv _ => vv = .bool (dnB ds n), fun vv ww => Ck [] vv (fE (dnB ds n) 7) ww, fun vv ww => SlC [] [fE ((bits .and .i64 (kF fk) sv) == 0) 14, fE (fd && ((bits .and .i64 (kD fk) sv) == 0)) 3, fE ((ft == 0) && (fm != 1)) 10, fE ((fm != 0) && ((bits .and .i64 (kM fk) sv) == 0)) 3, fE (decide ((dl : Int) < (kL fk))) 13, fE (decide ((kT fk) < (dl : Int))) 5, fE (dnB ds n) 7] vv ww, fun vv _ => vv = .int .i64 (firstE [fE ((bits .and .i64 (kF fk) sv) == 0) 14, fE (fd && ((bits .and .i64 (kD fk) sv) == 0)) 3, fE ((ft == 0) && (fm != 1)) 10, fE ((fm != 0) && ((bits .and .i64 (kM fk) sv) == 0)) 3, fE (decide ((dl : Int) < (kL fk))) 13, fE (decide ((kT fk) < (dl : Int))) 5, fE (dnB ds n) 7]), fun vv _ => vv = .int .i64 (firstE [fE ((bits .and .i64 (kF fk) sv) == 0) 14, fE (fd && ((bits .and .i64 (kD fk) sv) == 0)) 3, fE ((ft == 0) && (fm != 1)) 10, fE ((fm != 0) && ((bits .and .i64 (kM fk) sv) == 0)) 3, fE (decide ((dl : Int) < (kL fk))) 13, fE (decide ((kT fk) < (dl : Int))) 5, fE (dnB ds n) 7])]) (by kernel_rfl) ?hk ?hR ?fin
    case hk => kernel_rfl
    case hR =>
      refine ⟨fun _ => (Kx.refl _ _), fun _ _ _ => Kx.trans, rl_stab ⟨fun _ _ _ _ h => h, fun _ _ _ _ h => h, fun _ _ _ _ h => h, fun _ _ _ _ h => h, fun _ _ _ _ h => h, (fun v w w' k h => h.kx k), fun _ _ _ _ h => h, fun _ _ _ _ h => h, fun _ _ _ _ h => h, fun _ _ _ _ h => h, fun _ _ _ _ h => h, fun _ _ _ _ h => h, fun _ _ _ _ h => h, fun _ _ _ _ h => h, fun _ _ _ _ h => h, (fun v w w' k h => h.kx k), fun _ _ _ _ h => h, fun _ _ _ _ h => h, fun _ _ _ _ h => h, fun _ _ _ _ h => h, fun _ _ _ _ h => h, fun _ _ _ _ h => h, fun _ _ _ _ h => h, fun _ _ _ _ h => h, (fun v w w' k h => h.kx k), fun _ _ _ _ h => h, fun _ _ _ _ h => h, fun _ _ _ _ h => h, fun _ _ _ _ h => h, fun _ _ _ _ h => h, fun _ _ _ _ h => h, fun _ _ _ _ h => h, fun _ _ _ _ h => h, fun _ _ _ _ h => h, fun _ _ _ _ h => h, (fun v w w' k h => h.kx k), fun _ _ _ _ h => h, fun _ _ _ _ h => h, fun _ _ _ _ h => h, fun _ _ _ _ h => h, fun _ _ _ _ h => h, fun _ _ _ _ h => h, (fun v w w' k h => h.kx k), fun _ _ _ _ h => h, fun _ _ _ _ h => h, fun _ _ _ _ h => h, fun _ _ _ _ h => h, fun _ _ _ _ h => h, fun _ _ _ _ h => h, (fun v w w' k h => h.kx k), fun _ _ _ _ h => h, fun _ _ _ _ h => h, fun _ _ _ _ h => h, fun _ _ _ _ h => h, fun _ _ _ _ h => h, (fun v w w' k h => h.kx k), (fun v w w' k h => h.kx k), fun _ _ _ _ h => h, fun _ _ _ _ h => h, trivial⟩, ?_⟩
      refine allO_cons ?_ (allO_cons ?_ (allO_cons ?_ (allO_cons ?_ (allO_cons ?_ (allO_cons ?_ (allO_cons ?_ (allO_cons ?_ (allO_cons ?_ (allO_cons ?_ (allO_cons ?_ (allO_cons ?_ (allO_cons ?_ (allO_cons ?_ (allO_cons ?_ (allO_cons ?_ (allO_cons ?_ (allO_cons ?_ (allO_cons ?_ (allO_cons ?_ (allO_cons ?_ (allO_cons ?_ (allO_cons ?_ (allO_cons ?_ (allO_cons ?_ (allO_cons ?_ (allO_cons ?_ (allO_cons ?_ (allO_cons ?_ (allO_cons ?_ (allO_cons ?_ (allO_cons ?_ (allO_cons ?_ (allO_cons ?_ (allO_cons ?_ (allO_cons ?_ (allO_cons ?_ (allO_cons ?_ (allO_cons ?_ (allO_cons ?_ (allO_cons ?_ (allO_cons ?_ (allO_cons ?_ (allO_cons ?_ (allO_cons ?_ (allO_cons ?_ (allO_cons ?_ (allO_cons ?_ (allO_cons ?_ (allO_cons ?_ (allO_cons ?_ (allO_cons ?_ (allO_cons ?_ (allO_cons ?_ (allO_cons ?_ (allO_cons ?_ (allO_cons ?_ (allO_cons ?_ (allO_cons ?_ (allO_nil)))))))))))))))))))))))))))))))))))))))))))))))))))))))))))
      · intro T w9 hG hD hO Q
        have q0 := hO.1
        have e0 : (oF 72 T).eval (.tmp 5) = .pointer (some ⟨g1, 0, none⟩) := (oF_eval (by decide)).trans (show T 5 = _ from q0)
        refine og_none rfl ?_
        exact o_val (v := .pointer (some ⟨g1, 1, none⟩)) (w' := w9) (by generalize (oF 72 T).eval = rr at *; simp [execOp, go_sem, e0]) rfl rfl (Kx.refl _ _)
      · intro T w9 hG hD hO Q
        have d0 := hD.1
        have e0 : (oF 72 T).eval (.tmp 14) = .pointer (some ⟨g1, 1, none⟩) := (oF_eval (by decide)).trans (show T 14 = _ from d0)
        refine og_none rfl ?_
        have im := b3.kx hG (by simp)
        have m0 := im.c (i := 1) rfl
        clear im
        exact o_val (v := .int .i64 (kF fk)) (w' := w9) (by generalize (oF 72 T).eval = rr at *; simp [execOp, go_sem, e0, m0]) rfl rfl (Kx.refl _ _)
      · intro T w9 hG hD hO Q
        have q0 := hO.1
        have e0 : (oF 72 T).eval (.tmp 6) = .int .i64 sv := (oF_eval (by decide)).trans (show T 6 = _ from q0)
        refine og_none rfl ?_
        exact o_val (v := .int .i64 sv) (w' := w9) (by generalize (oF 72 T).eval = rr at *; simp [execOp, go_sem, e0]) rfl rfl (Kx.refl _ _)
      · intro T w9 hG hD hO Q
        have d0 := hD.1
        have d1 := hD.2.1
        have e0 : (oF 72 T).eval (.tmp 15) = .int .i64 (kF fk) := (oF_eval (by decide)).trans (show T 15 = _ from d0)
        have e1 : (oF 72 T).eval (.tmp 16) = .int .i64 sv := (oF_eval (by decide)).trans (show T 16 = _ from d1)
        refine og_none rfl ?_
        exact o_val (v := .int .i64 (bits .and .i64 (kF fk) sv)) (w' := w9) (by generalize (oF 72 T).eval = rr at *; simp [execOp, go_sem, e0, e1]) rfl rfl (Kx.refl _ _)
      · intro T w9 hG hD hO Q
        have d0 := hD.1
        have e0 : (oF 72 T).eval (.tmp 17) = .int .i64 (bits .and .i64 (kF fk) sv) := (oF_eval (by decide)).trans (show T 17 = _ from d0)
        have e1 : (oF 72 T).eval (.const (.int .i64 0)) = .int .i64 0 := rfl
        refine og_none rfl ?_
        exact o_val (v := .bool ((bits .and .i64 (kF fk) sv) == 0)) (w' := w9) (by generalize (oF 72 T).eval = rr at *; simp [execOp, go_sem, e0, e1]) rfl rfl (Kx.refl _ _)
      · intro T w9 hG hD hO Q
        have d0 := hD.1
        have e0 : (oF 72 T).eval (.func 47) = .func (.func 47) #[] #[] := rfl
        have e1 : (oF 72 T).eval (.tmp 18) = .bool ((bits .and .i64 (kF fk) sv) == 0) := (oF_eval (by decide)).trans (show T 18 = _ from d0)
        have e2 : (oF 72 T).eval (.const (.int .i64 14)) = .int .i64 14 := rfl
        refine og_none rfl ?_
        refine o_call (oc2 (enters_of Tryz.func47 (by kernel_rfl) rfl) rfl rfl e1 e2) rfl ?_
        exact (cWhen [] ((bits .and .i64 (kF fk) sv) == 0) 14 w9 (by simp)).mono fun r W' ⟨v, h1, h2, h3⟩ => ⟨v, h1, h2, h3.kx⟩
      · intro T w9 hG hD hO Q
        have q0 := hO.1
        have e0 : (oF 72 T).eval (.tmp 3) = .pointer (some ⟨w.heap.size + 1, 0, none⟩) := (oF_eval (by decide)).trans (show T 3 = _ from q0)
        refine og_none rfl ?_
        exact o_val (v := .pointer (some ⟨w.heap.size + 1, 1, none⟩)) (w' := w9) (by generalize (oF 72 T).eval = rr at *; simp [execOp, go_sem, e0]) rfl rfl (Kx.refl _ _)
      · intro T w9 hG hD hO Q
        have d0 := hD.1
        have e0 : (oF 72 T).eval (.tmp 20) = .pointer (some ⟨w.heap.size + 1, 1, none⟩) := (oF_eval (by decide)).trans (show T 20 = _ from d0)
        refine og_none rfl ?_
        have im := b2.kx hG (by simp)
        have m0 := im.c (i := 1) rfl
        clear im
        exact o_val (v := .bool fd) (w' := w9) (by generalize (oF 72 T).eval = rr at *; simp [execOp, go_sem, e0, m0]) rfl rfl (Kx.refl _ _)
      · intro T w9 hG hD hO Q
        have d0 := hD.1
        have e0 : (oF 72 T).eval (.tmp 21) = .bool fd := (oF_eval (by decide)).trans (show T 21 = _ from d0)
        refine og_none rfl ?_
        exact o_val (v := .bool fd) (w' := w9) (by generalize (oF 72 T).eval = rr at *; simp [execOp, go_sem, e0]) rfl rfl (Kx.refl _ _)
      · intro T w9 hG hD hO Q
        have d0 := hD.1
        have q0 := hO.1
        have e0 : (oF 72 T).eval (.tmp 5) = .pointer (some ⟨g1, 0, none⟩) := (oF_eval (by decide)).trans (show T 5 = _ from q0)
        refine og_some (b := true) (c := fd) rfl (show T 22 = _ from d0) (fun hc => ?_) (fun hc h => absurd h hc)
        exact o_val (v := .pointer (some ⟨g1, 2, none⟩)) (w' := w9) (by generalize (oF 72 T).eval = rr at *; simp [execOp, go_sem, e0]) rfl (fun _ => rfl) (Kx.refl _ _)
      · intro T w9 hG hD hO Q
        have d0 := hD.1
        have d1 := hD.2.1
        have G0 : fd = true → T 23 = .pointer (some ⟨g1, 2, none⟩) := d0
        refine og_some (b := true) (c := fd) rfl (show T 22 = _ from d1) (fun hc => ?_) (fun hc h => absurd h hc)
        have e0 : (oF 72 T).eval (.tmp 23) = .pointer (some ⟨g1, 2, none⟩) := (oF_eval (by decide)).trans (G0 hc)
        have im := b3.kx hG (by simp)
        have m0 := im.c (i := 2) rfl
        clear im
        exact o_val (v := .int .i64 (kD fk)) (w' := w9) (by generalize (oF 72 T).eval = rr at *; simp [execOp, go_sem, e0, m0]) rfl (fun _ => rfl) (Kx.refl _ _)
      · intro T w9 hG hD hO Q
        have d0 := hD.1
        have q0 := hO.1
        have e0 : (oF 72 T).eval (.tmp 6) = .int .i64 sv := (oF_eval (by decide)).trans (show T 6 = _ from q0)
        refine og_some (b := true) (c := fd) rfl (show T 22 = _ from d0) (fun hc => ?_) (fun hc h => absurd h hc)
        exact o_val (v := .int .i64 sv) (w' := w9) (by generalize (oF 72 T).eval = rr at *; simp [execOp, go_sem, e0]) rfl (fun _ => rfl) (Kx.refl _ _)
      · intro T w9 hG hD hO Q
        have d0 := hD.1
        have d1 := hD.2.1
        have d2 := hD.2.2.1
        have G0 : fd = true → T 24 = .int .i64 (kD fk) := d0
        have G1 : fd = true → T 25 = .int .i64 sv := d1
        refine og_some (b := true) (c := fd) rfl (show T 22 = _ from d2) (fun hc => ?_) (fun hc h => absurd h hc)
        have e0 : (oF 72 T).eval (.tmp 24) = .int .i64 (kD fk) := (oF_eval (by decide)).trans (G0 hc)
        have e1 : (oF 72 T).eval (.tmp 25) = .int .i64 sv := (oF_eval (by decide)).trans (G1 hc)
        exact o_val (v := .int .i64 (bits .and .i64 (kD fk) sv)) (w' := w9) (by generalize (oF 72 T).eval = rr at *; simp [execOp, go_sem, e0, e1]) rfl (fun _ => rfl) (Kx.refl _ _)
      · intro T w9 hG hD hO Q
        have d0 := hD.1
        have d1 := hD.2.1
        have G0 : fd = true → T 26 = .int .i64 (bits .and .i64 (kD fk) sv) := d0
        have e1 : (oF 72 T).eval (.const (.int .i64 0)) = .int .i64 0 := rfl
        refine og_some (b := true) (c := fd) rfl (show T 22 = _ from d1) (fun hc => ?_) (fun hc h => absurd h hc)
        have e0 : (oF 72 T).eval (.tmp 26) = .int .i64 (bits .and .i64 (kD fk) sv) := (oF_eval (by decide)).trans (G0 hc)
        exact o_val (v := .bool ((bits .and .i64 (kD fk) sv) == 0)) (w' := w9) (by generalize (oF 72 T).eval = rr at *; simp [execOp, go_sem, e0, e1]) rfl (fun _ => rfl) (Kx.refl _ _)
      · intro T w9 hG hD hO Q
        have d0 := hD.1
        have d1 := hD.2.1
        have e0 : (oF 72 T).eval (.tmp 22) = .bool fd := (oF_eval (by decide)).trans (show T 22 = _ from d0)
        have G1 : fd = true → T 27 = .bool ((bits .and .i64 (kD fk) sv) == 0) := d1
        have e1 : (oF 72 T).eval (.tmp 27) = T 27 := oF_eval (by decide)
        have e2 : (oF 72 T).eval (.const (.bool false)) = .bool false := rfl
        refine og_none rfl ?_
        rcases Bool.eq_false_or_eq_true fd with hb | hb
        · refine o_val (w' := w9) (v := .bool ((bits .and .i64 (kD fk) sv) == 0)) (by rw [G1 hb] at e1; rw [hb] at e0; generalize (oF 72 T).eval = rr at *; simp [execOp, go_sem, e0, e1, e2]) rfl (by simp [RL, hb]) (Kx.refl _ _)
        · refine o_val (w' := w9) (v := .bool false) (by rw [hb] at e0; generalize (oF 72 T).eval = rr at *; simp [execOp, go_sem, e0, e1, e2]) rfl (by simp [RL, hb]) (Kx.refl _ _)
      · intro T w9 hG hD hO Q
        have d0 := hD.1
        have e0 : (oF 72 T).eval (.func 47) = .func (.func 47) #[] #[] := rfl
        have e1 : (oF 72 T).eval (.tmp 28) = .bool (fd && ((bits .and .i64 (kD fk) sv) == 0)) := (oF_eval (by decide)).trans (show T 28 = _ from d0)
        have e2 : (oF 72 T).eval (.const (.int .i64 3)) = .int .i64 3 := rfl
        refine og_none rfl ?_
        refine o_call (oc2 (enters_of Tryz.func47 (by kernel_rfl) rfl) rfl rfl e1 e2) rfl ?_
        exact (cWhen [] (fd && ((bits .and .i64 (kD fk) sv) == 0)) 3 w9 (by simp)).mono fun r W' ⟨v, h1, h2, h3⟩ => ⟨v, h1, h2, h3.kx⟩
      · intro T w9 hG hD hO Q
        have q0 := hO.1
        have e0 : (oF 72 T).eval (.tmp 3) = .pointer (some ⟨w.heap.size + 1, 0, none⟩) := (oF_eval (by decide)).trans (show T 3 = _ from q0)
        refine og_none rfl ?_
        exact o_val (v := .pointer (some ⟨w.heap.size + 1, 2, none⟩)) (w' := w9) (by generalize (oF 72 T).eval = rr at *; simp [execOp, go_sem, e0]) rfl rfl (Kx.refl _ _)
      · intro T w9 hG hD hO Q
        have d0 := hD.1
        have e0 : (oF 72 T).eval (.tmp 30) = .pointer (some ⟨w.heap.size + 1, 2, none⟩) := (oF_eval (by decide)).trans (show T 30 = _ from d0)
        refine og_none rfl ?_
        have im := b2.kx hG (by simp)
        have m0 := im.c (i := 2) rfl
        clear im
        exact o_val (v := .int .i64 ft) (w' := w9) (by generalize (oF 72 T).eval = rr at *; simp [execOp, go_sem, e0, m0]) rfl rfl (Kx.refl _ _)
      · intro T w9 hG hD hO Q
        have d0 := hD.1
        have e0 : (oF 72 T).eval (.tmp 31) = .int .i64 ft := (oF_eval (by decide)).trans (show T 31 = _ from d0)
        have e1 : (oF 72 T).eval (.const (.int .i64 0)) = .int .i64 0 := rfl
        refine og_none rfl ?_
        exact o_val (v := .bool (ft == 0)) (w' := w9) (by generalize (oF 72 T).eval = rr at *; simp [execOp, go_sem, e0, e1]) rfl rfl (Kx.refl _ _)
      · intro T w9 hG hD hO Q
        have d0 := hD.1
        have e0 : (oF 72 T).eval (.tmp 32) = .bool (ft == 0) := (oF_eval (by decide)).trans (show T 32 = _ from d0)
        refine og_none rfl ?_
        exact o_val (v := .bool (ft == 0)) (w' := w9) (by generalize (oF 72 T).eval = rr at *; simp [execOp, go_sem, e0]) rfl rfl (Kx.refl _ _)
      · intro T w9 hG hD hO Q
        have d0 := hD.1
        have q0 := hO.1
        have e0 : (oF 72 T).eval (.tmp 3) = .pointer (some ⟨w.heap.size + 1, 0, none⟩) := (oF_eval (by decide)).trans (show T 3 = _ from q0)
        refine og_some (b := true) (c := (ft == 0)) rfl (show T 33 = _ from d0) (fun hc => ?_) (fun hc h => absurd h hc)
        exact o_val (v := .pointer (some ⟨w.heap.size + 1, 3, none⟩)) (w' := w9) (by generalize (oF 72 T).eval = rr at *; simp [execOp, go_sem, e0]) rfl (fun _ => rfl) (Kx.refl _ _)
      · intro T w9 hG hD hO Q
        have d0 := hD.1
        have d1 := hD.2.1
        have G0 : (ft == 0) = true → T 34 = .pointer (some ⟨w.heap.size + 1, 3, none⟩) := d0
        refine og_some (b := true) (c := (ft == 0)) rfl (show T 33 = _ from d1) (fun hc => ?_) (fun hc h => absurd h hc)
        have e0 : (oF 72 T).eval (.tmp 34) = .pointer (some ⟨w.heap.size + 1, 3, none⟩) := (oF_eval (by decide)).trans (G0 hc)
        have im := b2.kx hG (by simp)
        have m0 := im.c (i := 3) rfl
        clear im
        exact o_val (v := .int .i64 fm) (w' := w9) (by generalize (oF 72 T).eval = rr at *; simp [execOp, go_sem, e0, m0]) rfl (fun _ => rfl) (Kx.refl _ _)
      · intro T w9 hG hD hO Q
        have d0 := hD.1
        have d1 := hD.2.1
        have G0 : (ft == 0) = true → T 35 = .int .i64 fm := d0
        have e1 : (oF 72 T).eval (.const (.int .i64 1)) = .int .i64 1 := rfl
        refine og_some (b := true) (c := (ft == 0)) rfl (show T 33 = _ from d1) (fun hc => ?_) (fun hc h => absurd h hc)
        have e0 : (oF 72 T).eval (.tmp 35) = .int .i64 fm := (oF_eval (by decide)).trans (G0 hc)
        exact o_val (v := .bool (fm != 1)) (w' := w9) (by generalize (oF 72 T).eval = rr at *; simp [execOp, go_sem, e0, e1]) rfl (fun _ => rfl) (Kx.refl _ _)
      · intro T w9 hG hD hO Q
        have d0 := hD.1
        have d1 := hD.2.1
        have e0 : (oF 72 T).eval (.tmp 33) = .bool (ft == 0) := (oF_eval (by decide)).trans (show T 33 = _ from d0)
        have G1 : (ft == 0) = true → T 36 = .bool (fm != 1) := d1
        have e1 : (oF 72 T).eval (.tmp 36) = T 36 := oF_eval (by decide)
        have e2 : (oF 72 T).eval (.const (.bool false)) = .bool false := rfl
        refine og_none rfl ?_
        rcases Bool.eq_false_or_eq_true (ft == 0) with hb | hb
        · refine o_val (w' := w9) (v := .bool (fm != 1)) (by rw [G1 hb] at e1; rw [hb] at e0; generalize (oF 72 T).eval = rr at *; simp [execOp, go_sem, e0, e1, e2]) rfl (by simp [RL, hb]) (Kx.refl _ _)
        · refine o_val (w' := w9) (v := .bool false) (by rw [hb] at e0; generalize (oF 72 T).eval = rr at *; simp [execOp, go_sem, e0, e1, e2]) rfl (by simp [RL, hb]) (Kx.refl _ _)
      · intro T w9 hG hD hO Q
        have d0 := hD.1
        have e0 : (oF 72 T).eval (.func 47) = .func (.func 47) #[] #[] := rfl
        have e1 : (oF 72 T).eval (.tmp 37) = .bool ((ft == 0) && (fm != 1)) := (oF_eval (by decide)).trans (show T 37 = _ from d0)
        have e2 : (oF 72 T).eval (.const (.int .i64 10)) = .int .i64 10 := rfl
        refine og_none rfl ?_
        refine o_call (oc2 (enters_of Tryz.func47 (by kernel_rfl) rfl) rfl rfl e1 e2) rfl ?_
        exact (cWhen [] ((ft == 0) && (fm != 1)) 10 w9 (by simp)).mono fun r W' ⟨v, h1, h2, h3⟩ => ⟨v, h1, h2, h3.kx⟩
      · intro T w9 hG hD hO Q
        have q0 := hO.1
        have e0 : (oF 72 T).eval (.tmp 3) = .pointer (some ⟨w.heap.size + 1, 0, none⟩) := (oF_eval (by decide)).trans (show T 3 = _ from q0)
        refine og_none rfl ?_
        exact o_val (v := .pointer (some ⟨w.heap.size + 1, 3, none⟩)) (w' := w9) (by generalize (oF 72 T).eval = rr at *; simp [execOp, go_sem, e0]) rfl rfl (Kx.refl _ _)
      · intro T w9 hG hD hO Q
        have d0 := hD.1
        have e0 : (oF 72 T).eval (.tmp 39) = .pointer (some ⟨w.heap.size + 1, 3, none⟩) := (oF_eval (by decide)).trans (show T 39 = _ from d0)
        refine og_none rfl ?_
        have im := b2.kx hG (by simp)
        have m0 := im.c (i := 3) rfl
        clear im
        exact o_val (v := .int .i64 fm) (w' := w9) (by generalize (oF 72 T).eval = rr at *; simp [execOp, go_sem, e0, m0]) rfl rfl (Kx.refl _ _)
      · intro T w9 hG hD hO Q
        have d0 := hD.1
        have e0 : (oF 72 T).eval (.tmp 40) = .int .i64 fm := (oF_eval (by decide)).trans (show T 40 = _ from d0)
        have e1 : (oF 72 T).eval (.const (.int .i64 0)) = .int .i64 0 := rfl
        refine og_none rfl ?_
        exact o_val (v := .bool (fm != 0)) (w' := w9) (by generalize (oF 72 T).eval = rr at *; simp [execOp, go_sem, e0, e1]) rfl rfl (Kx.refl _ _)
      · intro T w9 hG hD hO Q
        have d0 := hD.1
        have e0 : (oF 72 T).eval (.tmp 41) = .bool (fm != 0) := (oF_eval (by decide)).trans (show T 41 = _ from d0)
        refine og_none rfl ?_
        exact o_val (v := .bool (fm != 0)) (w' := w9) (by generalize (oF 72 T).eval = rr at *; simp [execOp, go_sem, e0]) rfl rfl (Kx.refl _ _)
      · intro T w9 hG hD hO Q
        have d0 := hD.1
        have q0 := hO.1
        have e0 : (oF 72 T).eval (.tmp 5) = .pointer (some ⟨g1, 0, none⟩) := (oF_eval (by decide)).trans (show T 5 = _ from q0)
        refine og_some (b := true) (c := (fm != 0)) rfl (show T 42 = _ from d0) (fun hc => ?_) (fun hc h => absurd h hc)
        exact o_val (v := .pointer (some ⟨g1, 3, none⟩)) (w' := w9) (by generalize (oF 72 T).eval = rr at *; simp [execOp, go_sem, e0]) rfl (fun _ => rfl) (Kx.refl _ _)
      · intro T w9 hG hD hO Q
        have d0 := hD.1
        have d1 := hD.2.1
        have G0 : (fm != 0) = true → T 43 = .pointer (some ⟨g1, 3, none⟩) := d0
        refine og_some (b := true) (c := (fm != 0)) rfl (show T 42 = _ from d1) (fun hc => ?_) (fun hc h => absurd h hc)
        have e0 : (oF 72 T).eval (.tmp 43) = .pointer (some ⟨g1, 3, none⟩) := (oF_eval (by decide)).trans (G0 hc)
        have im := b3.kx hG (by simp)
        have m0 := im.c (i := 3) rfl
        clear im
        exact o_val (v := .int .i64 (kM fk)) (w' := w9) (by generalize (oF 72 T).eval = rr at *; simp [execOp, go_sem, e0, m0]) rfl (fun _ => rfl) (Kx.refl _ _)
      · intro T w9 hG hD hO Q
        have d0 := hD.1
        have q0 := hO.1
        have e0 : (oF 72 T).eval (.tmp 6) = .int .i64 sv := (oF_eval (by decide)).trans (show T 6 = _ from q0)
        refine og_some (b := true) (c := (fm != 0)) rfl (show T 42 = _ from d0) (fun hc => ?_) (fun hc h => absurd h hc)
        exact o_val (v := .int .i64 sv) (w' := w9) (by generalize (oF 72 T).eval = rr at *; simp [execOp, go_sem, e0]) rfl (fun _ => rfl) (Kx.refl _ _)
      · intro T w9 hG hD hO Q
        have d0 := hD.1
        have d1 := hD.2.1
        have d2 := hD.2.2.1
        have G0 : (fm != 0) = true → T 44 = .int .i64 (kM fk) := d0
        have G1 : (fm != 0) = true → T 45 = .int .i64 sv := d1
        refine og_some (b := true) (c := (fm != 0)) rfl (show T 42 = _ from d2) (fun hc => ?_) (fun hc h => absurd h hc)
        have e0 : (oF 72 T).eval (.tmp 44) = .int .i64 (kM fk) := (oF_eval (by decide)).trans (G0 hc)
        have e1 : (oF 72 T).eval (.tmp 45) = .int .i64 sv := (oF_eval (by decide)).trans (G1 hc)
        exact o_val (v := .int .i64 (bits .and .i64 (kM fk) sv)) (w' := w9) (by generalize (oF 72 T).eval = rr at *; simp [execOp, go_sem, e0, e1]) rfl (fun _ => rfl) (Kx.refl _ _)
      · intro T w9 hG hD hO Q
        have d0 := hD.1
        have d1 := hD.2.1
        have G0 : (fm != 0) = true → T 46 = .int .i64 (bits .and .i64 (kM fk) sv) := d0
        have e1 : (oF 72 T).eval (.const (.int .i64 0)) = .int .i64 0 := rfl
        refine og_some (b := true) (c := (fm != 0)) rfl (show T 42 = _ from d1) (fun hc => ?_) (fun hc h => absurd h hc)
        have e0 : (oF 72 T).eval (.tmp 46) = .int .i64 (bits .and .i64 (kM fk) sv) := (oF_eval (by decide)).trans (G0 hc)
        exact o_val (v := .bool ((bits .and .i64 (kM fk) sv) == 0)) (w' := w9) (by generalize (oF 72 T).eval = rr at *; simp [execOp, go_sem, e0, e1]) rfl (fun _ => rfl) (Kx.refl _ _)
      · intro T w9 hG hD hO Q
        have d0 := hD.1
        have d1 := hD.2.1
        have e0 : (oF 72 T).eval (.tmp 42) = .bool (fm != 0) := (oF_eval (by decide)).trans (show T 42 = _ from d0)
        have G1 : (fm != 0) = true → T 47 = .bool ((bits .and .i64 (kM fk) sv) == 0) := d1
        have e1 : (oF 72 T).eval (.tmp 47) = T 47 := oF_eval (by decide)
        have e2 : (oF 72 T).eval (.const (.bool false)) = .bool false := rfl
        refine og_none rfl ?_
        rcases Bool.eq_false_or_eq_true (fm != 0) with hb | hb
        · refine o_val (w' := w9) (v := .bool ((bits .and .i64 (kM fk) sv) == 0)) (by rw [G1 hb] at e1; rw [hb] at e0; generalize (oF 72 T).eval = rr at *; simp [execOp, go_sem, e0, e1, e2]) rfl (by simp [RL, hb]) (Kx.refl _ _)
        · refine o_val (w' := w9) (v := .bool false) (by rw [hb] at e0; generalize (oF 72 T).eval = rr at *; simp [execOp, go_sem, e0, e1, e2]) rfl (by simp [RL, hb]) (Kx.refl _ _)
      · intro T w9 hG hD hO Q
        have d0 := hD.1
        have e0 : (oF 72 T).eval (.func 47) = .func (.func 47) #[] #[] := rfl
        have e1 : (oF 72 T).eval (.tmp 48) = .bool ((fm != 0) && ((bits .and .i64 (kM fk) sv) == 0)) := (oF_eval (by decide)).trans (show T 48 = _ from d0)
        have e2 : (oF 72 T).eval (.const (.int .i64 3)) = .int .i64 3 := rfl
        refine og_none rfl ?_
        refine o_call (oc2 (enters_of Tryz.func47 (by kernel_rfl) rfl) rfl rfl e1 e2) rfl ?_
        exact (cWhen [] ((fm != 0) && ((bits .and .i64 (kM fk) sv) == 0)) 3 w9 (by simp)).mono fun r W' ⟨v, h1, h2, h3⟩ => ⟨v, h1, h2, h3.kx⟩
      · intro T w9 hG hD hO Q
        have q0 := hO.1
        have e0 : (oF 72 T).eval (.tmp 3) = .pointer (some ⟨w.heap.size + 1, 0, none⟩) := (oF_eval (by decide)).trans (show T 3 = _ from q0)
        refine og_none rfl ?_
        exact o_val (v := .pointer (some ⟨w.heap.size + 1, 4, none⟩)) (w' := w9) (by generalize (oF 72 T).eval = rr at *; simp [execOp, go_sem, e0]) rfl rfl (Kx.refl _ _)
      · intro T w9 hG hD hO Q
        have d0 := hD.1
        have e0 : (oF 72 T).eval (.tmp 50) = .pointer (some ⟨w.heap.size + 1, 4, none⟩) := (oF_eval (by decide)).trans (show T 50 = _ from d0)
        refine og_none rfl ?_
        have im := b2.kx hG (by simp)
        have m0 := im.c (i := 4) rfl
        clear im
        exact o_val (v := .slice dp dl dc) (w' := w9) (by generalize (oF 72 T).eval = rr at *; simp [execOp, go_sem, e0, m0]) rfl rfl (Kx.refl _ _)
      · intro T w9 hG hD hO Q
        have d0 := hD.1
        have e0 : (oF 72 T).eval (.tmp 51) = .slice dp dl dc := (oF_eval (by decide)).trans (show T 51 = _ from d0)
        refine og_none rfl ?_
        exact o_val (v := .int .i64 (dl : Int)) (w' := w9) (by generalize (oF 72 T).eval = rr at *; simp [go_sem, e0]) rfl rfl (Kx.refl _ _)
      · intro T w9 hG hD hO Q
        have q0 := hO.1
        have e0 : (oF 72 T).eval (.tmp 5) = .pointer (some ⟨g1, 0, none⟩) := (oF_eval (by decide)).trans (show T 5 = _ from q0)
        refine og_none rfl ?_
        exact o_val (v := .pointer (some ⟨g1, 4, none⟩)) (w' := w9) (by generalize (oF 72 T).eval = rr at *; simp [execOp, go_sem, e0]) rfl rfl (Kx.refl _ _)
      · intro T w9 hG hD hO Q
        have d0 := hD.1
        have e0 : (oF 72 T).eval (.tmp 53) = .pointer (some ⟨g1, 4, none⟩) := (oF_eval (by decide)).trans (show T 53 = _ from d0)
        refine og_none rfl ?_
        have im := b3.kx hG (by simp)
        have m0 := im.c (i := 4) rfl
        clear im
        exact o_val (v := .int .i64 (kL fk)) (w' := w9) (by generalize (oF 72 T).eval = rr at *; simp [execOp, go_sem, e0, m0]) rfl rfl (Kx.refl _ _)
      · intro T w9 hG hD hO Q
        have d0 := hD.1
        have d1 := hD.2.1
        have e0 : (oF 72 T).eval (.tmp 52) = .int .i64 (dl : Int) := (oF_eval (by decide)).trans (show T 52 = _ from d0)
        have e1 : (oF 72 T).eval (.tmp 54) = .int .i64 (kL fk) := (oF_eval (by decide)).trans (show T 54 = _ from d1)
        refine og_none rfl ?_
        exact o_val (v := .bool (decide ((dl : Int) < (kL fk)))) (w' := w9) (by generalize (oF 72 T).eval = rr at *; simp [execOp, go_sem, e0, e1]) rfl rfl (Kx.refl _ _)
      · intro T w9 hG hD hO Q
        have d0 := hD.1
        have e0 : (oF 72 T).eval (.func 47) = .func (.func 47) #[] #[] := rfl
        have e1 : (oF 72 T).eval (.tmp 55) = .bool (decide ((dl : Int) < (kL fk))) := (oF_eval (by decide)).trans (show T 55 = _ from d0)
        have e2 : (oF 72 T).eval (.const (.int .i64 13)) = .int .i64 13 := rfl
        refine og_none rfl ?_
        refine o_call (oc2 (enters_of Tryz.func47 (by kernel_rfl) rfl) rfl rfl e1 e2) rfl ?_
        exact (cWhen [] (decide ((dl : Int) < (kL fk))) 13 w9 (by simp)).mono fun r W' ⟨v, h1, h2, h3⟩ => ⟨v, h1, h2, h3.kx⟩
      · intro T w9 hG hD hO Q
        have q0 := hO.1
        have e0 : (oF 72 T).eval (.tmp 3) = .pointer (some ⟨w.heap.size + 1, 0, none⟩) := (oF_eval (by decide)).trans (show T 3 = _ from q0)
        refine og_none rfl ?_
        exact o_val (v := .pointer (some ⟨w.heap.size + 1, 4, none⟩)) (w' := w9) (by generalize (oF 72 T).eval = rr at *; simp [execOp, go_sem, e0]) rfl rfl (Kx.refl _ _)
      · intro T w9 hG hD hO Q
        have d0 := hD.1
        have e0 : (oF 72 T).eval (.tmp 57) = .pointer (some ⟨w.heap.size + 1, 4, none⟩) := (oF_eval (by decide)).trans (show T 57 = _ from d0)
        refine og_none rfl ?_
        have im := b2.kx hG (by simp)
        have m0 := im.c (i := 4) rfl
        clear im
        exact o_val (v := .slice dp dl dc) (w' := w9) (by generalize (oF 72 T).eval = rr at *; simp [execOp, go_sem, e0, m0]) rfl rfl (Kx.refl _ _)
      · intro T w9 hG hD hO Q
        have d0 := hD.1
        have e0 : (oF 72 T).eval (.tmp 58) = .slice dp dl dc := (oF_eval (by decide)).trans (show T 58 = _ from d0)
        refine og_none rfl ?_
        exact o_val (v := .int .i64 (dl : Int)) (w' := w9) (by generalize (oF 72 T).eval = rr at *; simp [go_sem, e0]) rfl rfl (Kx.refl _ _)
      · intro T w9 hG hD hO Q
        have q0 := hO.1
        have e0 : (oF 72 T).eval (.tmp 5) = .pointer (some ⟨g1, 0, none⟩) := (oF_eval (by decide)).trans (show T 5 = _ from q0)
        refine og_none rfl ?_
        exact o_val (v := .pointer (some ⟨g1, 5, none⟩)) (w' := w9) (by generalize (oF 72 T).eval = rr at *; simp [execOp, go_sem, e0]) rfl rfl (Kx.refl _ _)
      · intro T w9 hG hD hO Q
        have d0 := hD.1
        have e0 : (oF 72 T).eval (.tmp 60) = .pointer (some ⟨g1, 5, none⟩) := (oF_eval (by decide)).trans (show T 60 = _ from d0)
        refine og_none rfl ?_
        have im := b3.kx hG (by simp)
        have m0 := im.c (i := 5) rfl
        clear im
        exact o_val (v := .int .i64 (kT fk)) (w' := w9) (by generalize (oF 72 T).eval = rr at *; simp [execOp, go_sem, e0, m0]) rfl rfl (Kx.refl _ _)
      · intro T w9 hG hD hO Q
        have d0 := hD.1
        have d1 := hD.2.1
        have e0 : (oF 72 T).eval (.tmp 59) = .int .i64 (dl : Int) := (oF_eval (by decide)).trans (show T 59 = _ from d0)
        have e1 : (oF 72 T).eval (.tmp 61) = .int .i64 (kT fk) := (oF_eval (by decide)).trans (show T 61 = _ from d1)
        refine og_none rfl ?_
        exact o_val (v := .bool (decide ((kT fk) < (dl : Int)))) (w' := w9) (by generalize (oF 72 T).eval = rr at *; simp [execOp, go_sem, e0, e1]) rfl rfl (Kx.refl _ _)
      · intro T w9 hG hD hO Q
        have d0 := hD.1
        have e0 : (oF 72 T).eval (.func 47) = .func (.func 47) #[] #[] := rfl
        have e1 : (oF 72 T).eval (.tmp 62) = .bool (decide ((kT fk) < (dl : Int))) := (oF_eval (by decide)).trans (show T 62 = _ from d0)
        have e2 : (oF 72 T).eval (.const (.int .i64 5)) = .int .i64 5 := rfl
        refine og_none rfl ?_
        refine o_call (oc2 (enters_of Tryz.func47 (by kernel_rfl) rfl) rfl rfl e1 e2) rfl ?_
        exact (cWhen [] (decide ((kT fk) < (dl : Int))) 5 w9 (by simp)).mono fun r W' ⟨v, h1, h2, h3⟩ => ⟨v, h1, h2, h3.kx⟩
      · intro T w9 hG hD hO Q
        have q0 := hO.1
        have e0 : (oF 72 T).eval (.tmp 3) = .pointer (some ⟨w.heap.size + 1, 0, none⟩) := (oF_eval (by decide)).trans (show T 3 = _ from q0)
        refine og_none rfl ?_
        exact o_val (v := .pointer (some ⟨w.heap.size + 1, 4, none⟩)) (w' := w9) (by generalize (oF 72 T).eval = rr at *; simp [execOp, go_sem, e0]) rfl rfl (Kx.refl _ _)
      · intro T w9 hG hD hO Q
        have d0 := hD.1
        have e0 : (oF 72 T).eval (.tmp 64) = .pointer (some ⟨w.heap.size + 1, 4, none⟩) := (oF_eval (by decide)).trans (show T 64 = _ from d0)
        refine og_none rfl ?_
        have im := b2.kx hG (by simp)
        have m0 := im.c (i := 4) rfl
        clear im
        exact o_val (v := .slice dp dl dc) (w' := w9) (by generalize (oF 72 T).eval = rr at *; simp [execOp, go_sem, e0, m0]) rfl rfl (Kx.refl _ _)
      · intro T w9 hG hD hO Q
        have q0 := hO.1
        have e0 : (oF 72 T).eval (.tmp 2) = .pointer (some ⟨w.heap.size, 0, none⟩) := (oF_eval (by decide)).trans (show T 2 = _ from q0)
        refine og_none rfl ?_
        exact o_val (v := .pointer (some ⟨w.heap.size, 0, none⟩)) (w' := w9) (by generalize (oF 72 T).eval = rr at *; simp [execOp, go_sem, e0]) rfl rfl (Kx.refl _ _)
      · intro T w9 hG hD hO Q
        have d0 := hD.1
        have e0 : (oF 72 T).eval (.tmp 66) = .pointer (some ⟨w.heap.size, 0, none⟩) := (oF_eval (by decide)).trans (show T 66 = _ from d0)
        refine og_none rfl ?_
        have im := b1.kx hG (by simp)
        have m0 := im.c (i := 0) rfl
        clear im
        exact o_val (v := .string n) (w' := w9) (by generalize (oF 72 T).eval = rr at *; simp [execOp, go_sem, e0, m0]) rfl rfl (Kx.refl _ _)
      · intro T w9 hG hD hO Q
        have d0 := hD.1
        have d1 := hD.2.1
        have e0 : (oF 72 T).eval (.func 87) = .func (.func 87) #[] #[] := rfl
        have e1 : (oF 72 T).eval (.tmp 65) = .slice dp dl dc := (oF_eval (by decide)).trans (show T 65 = _ from d0)
        have e2 : (oF 72 T).eval (.tmp 67) = .string n := (oF_eval (by decide)).trans (show T 67 = _ from d1)
        refine og_none rfl ?_
        refine o_call (oc2 (enters_of Tryz.func87 (by kernel_rfl) rfl) rfl rfl e1 e2) rfl ?_
        exact (Cw.out (fnamed (w0 := w0) ds n dp dl dc hd hn) w9 (gl.kx hG (by simp)).at0).mono fun r W' h => ⟨_, h.1, rfl, h.2.kx⟩
      · intro T w9 hG hD hO Q
        have d0 := hD.1
        have e0 : (oF 72 T).eval (.func 47) = .func (.func 47) #[] #[] := rfl
        have e1 : (oF 72 T).eval (.tmp 68) = .bool (dnB ds n) := (oF_eval (by decide)).trans (show T 68 = _ from d0)
        have e2 : (oF 72 T).eval (.const (.int .i64 7)) = .int .i64 7 := rfl
        refine og_none rfl ?_
        refine o_call (oc2 (enters_of Tryz.func47 (by kernel_rfl) rfl) rfl rfl e1 e2) rfl ?_
        exact (cWhen [] (dnB ds n) 7 w9 (by simp)).mono fun r W' ⟨v, h1, h2, h3⟩ => ⟨v, h1, h2, h3.kx⟩
      · intro T w9 hG hD hO Q
        have d0 := hD.1
        have d1 := hD.2.1
        have d2 := hD.2.2.1
        have d3 := hD.2.2.2.1
        have d4 := hD.2.2.2.2.1
        have d5 := hD.2.2.2.2.2.1
        have d6 := hD.2.2.2.2.2.2.1
        have e0 : (oF 72 T).eval (.tmp 19) = T 19 := oF_eval (by decide)
        have p0 : (fun vv ww => Ck [] vv (fE ((bits .and .i64 (kF fk) sv) == 0) 14) ww) (T 19) w9 := d0
        have e1 : (oF 72 T).eval (.tmp 29) = T 29 := oF_eval (by decide)
        have p1 : (fun vv ww => Ck [] vv (fE (fd && ((bits .and .i64 (kD fk) sv) == 0)) 3) ww) (T 29) w9 := d1
        have e2 : (oF 72 T).eval (.tmp 38) = T 38 := oF_eval (by decide)
        have p2 : (fun vv ww => Ck [] vv (fE ((ft == 0) && (fm != 1)) 10) ww) (T 38) w9 := d2
        have e3 : (oF 72 T).eval (.tmp 49) = T 49 := oF_eval (by decide)
        have p3 : (fun vv ww => Ck [] vv (fE ((fm != 0) && ((bits .and .i64 (kM fk) sv) == 0)) 3) ww) (T 49) w9 := d3
        have e4 : (oF 72 T).eval (.tmp 56) = T 56 := oF_eval (by decide)
        have p4 : (fun vv ww => Ck [] vv (fE (decide ((dl : Int) < (kL fk))) 13) ww) (T 56) w9 := d4
        have e5 : (oF 72 T).eval (.tmp 63) = T 63 := oF_eval (by decide)
        have p5 : (fun vv ww => Ck [] vv (fE (decide ((kT fk) < (dl : Int))) 5) ww) (T 63) w9 := d5
        have e6 : (oF 72 T).eval (.tmp 69) = T 69 := oF_eval (by decide)
        have p6 : (fun vv ww => Ck [] vv (fE (dnB ds n) 7) ww) (T 69) w9 := d6
        refine og_none rfl ?_
        obtain ⟨F0, c0, f0, g0, h0⟩ := p0
        obtain ⟨F1, c1, f1, g1, h1⟩ := p1
        obtain ⟨F2, c2, f2, g2, h2⟩ := p2
        obtain ⟨F3, c3, f3, g3, h3⟩ := p3
        obtain ⟨F4, c4, f4, g4, h4⟩ := p4
        obtain ⟨F5, c5, f5, g5, h5⟩ := p5
        obtain ⟨F6, c6, f6, g6, h6⟩ := p6
        rw [f0] at e0
        rw [f1] at e1
        rw [f2] at e2
        rw [f3] at e3
        rw [f4] at e4
        rw [f5] at e5
        rw [f6] at e6
        have kz : Kb w9 (w9.alloc (.cells #[.func (.func F0) #[] c0, .func (.func F1) #[] c1, .func (.func F2) #[] c2, .func (.func F3) #[] c3, .func (.func F4) #[] c4, .func (.func F5) #[] c5, .func (.func F6) #[] c6] 80 (0, 0))) := (Kb.refl w9).alloc _
        exact o_val (v := .slice (some ⟨w9.heap.size, 0, none⟩) 7 7) (w' := w9.alloc (.cells #[.func (.func F0) #[] c0, .func (.func F1) #[] c1, .func (.func F2) #[] c2, .func (.func F3) #[] c3, .func (.func F4) #[] c4, .func (.func F5) #[] c5, .func (.func F6) #[] c6] 80 (0, 0))) (by generalize (oF 72 T).eval = rr at *; simp [execOp, go_sem, e0, e1, e2, e3, e4, e5, e6]) rfl ⟨[.func (.func F0) #[] c0, .func (.func F1) #[] c1, .func (.func F2) #[] c2, .func (.func F3) #[] c3, .func (.func F4) #[] c4, .func (.func F5) #[] c5, .func (.func F6) #[] c6], rfl, sl_is (Is.made w9 _ _) (by simp) rfl (rows_ok rfl rfl), cks_ok ⟨(Ck.kx ⟨F0, c0, rfl, g0, h0⟩ kz.kx), (Ck.kx ⟨F1, c1, rfl, g1, h1⟩ kz.kx), (Ck.kx ⟨F2, c2, rfl, g2, h2⟩ kz.kx), (Ck.kx ⟨F3, c3, rfl, g3, h3⟩ kz.kx), (Ck.kx ⟨F4, c4, rfl, g4, h4⟩ kz.kx), (Ck.kx ⟨F5, c5, rfl, g5, h5⟩ kz.kx), (Ck.kx ⟨F6, c6, rfl, g6, h6⟩ kz.kx), trivial⟩ rfl⟩ kz.kx
      · intro T w9 hG hD hO Q
        have d0 := hD.1
        have e0 : (oF 72 T).eval (.func 39) = .func (.func 39) #[] #[] := rfl
        have e1 : (oF 72 T).eval (.tmp 70) = T 70 := oF_eval (by decide)
        have p1 : (fun vv ww => SlC [] [fE ((bits .and .i64 (kF fk) sv) == 0) 14, fE (fd && ((bits .and .i64 (kD fk) sv) == 0)) 3, fE ((ft == 0) && (fm != 1)) 10, fE ((fm != 0) && ((bits .and .i64 (kM fk) sv) == 0)) 3, fE (decide ((dl : Int) < (kL fk))) 13, fE (decide ((kT fk) < (dl : Int))) 5, fE (dnB ds n) 7] vv ww) (T 70) w9 := d0
        refine og_none rfl ?_
        refine o_call (oc1 (enters_of Tryz.func39 (by kernel_rfl) rfl) rfl rfl e1) rfl ?_
        exact (cFirst [] _ _ w9 p1 (by simp)).mono fun r W' h => ⟨_, h.1, rfl, h.2.kx⟩
      · intro T w9 hG hD hO Q
        have d0 := hD.1
        have e0 : (oF 72 T).eval (.tmp 71) = .int .i64 (firstE [fE ((bits .and .i64 (kF fk) sv) == 0) 14, fE (fd && ((bits .and .i64 (kD fk) sv) == 0)) 3, fE ((ft == 0) && (fm != 1)) 10, fE ((fm != 0) && ((bits .and .i64 (kM fk) sv) == 0)) 3, fE (decide ((dl : Int) < (kL fk))) 13, fE (decide ((kT fk) < (dl : Int))) 5, fE (dnB ds n) 7]) := (oF_eval (by decide)).trans (show T 71 = _ from d0)
        refine og_none rfl ?_
        exact o_val (v := .int .i64 (firstE [fE ((bits .and .i64 (kF fk) sv) == 0) 14, fE (fd && ((bits .and .i64 (kD fk) sv) == 0)) 3, fE ((ft == 0) && (fm != 1)) 10, fE ((fm != 0) && ((bits .and .i64 (kM fk) sv) == 0)) 3, fE (decide ((dl : Int) < (kL fk))) 13, fE (decide ((kT fk) < (dl : Int))) 5, fE (dnB ds n) 7])) (w' := w9) (by generalize (oF 72 T).eval = rr at *; simp [execOp, go_sem, e0]) rfl rfl (Kx.refl _ _)
    case fin =>
      intro T w2 hout hval hG
      have s2 := hG.2.2.2.1
      simp only [World.size_drew] at s2
      rw [show oF 72 T = (⟨#[T 0, T 1, T 2, T 3, T 4, T 5, T 6, T 7, T 8, T 9, T 10, T 11, T 12, T 13, T 14, T 15, T 16, T 17, T 18, T 19, T 20, T 21, T 22, T 23, T 24, T 25, T 26, T 27, T 28, T 29, T 30, T 31, T 32, T 33, T 34, T 35, T 36, T 37, T 38, T 39, T 40, T 41, T 42, T 43, T 44, T 45, T 46, T 47, T 48, T 49, T 50, T 51, T 52, T 53, T 54, T 55, T 56, T 57, T 58, T 59, T 60, T 61, T 62, T 63, T 64, T 65, T 66, T 67, T 68, T 69, T 70, T 71], []⟩ : Act) from oF_list 72 T]
      rw [show T 0 = .agg #[.string n, .int .i64 k, .int .i64 a, .int .i64 x, .int .i64 y, .int .i64 z, .int .i64 lo, .int .i64 hi, .slice fp fl fc] from hout 0 rfl]
      rw [show T 1 = .agg #[.int .i64 (fk : Int), .bool fd, .int .i64 ft, .int .i64 fm, .slice dp dl dc] from hout 1 rfl]
      rw [show T 2 = .pointer (some ⟨w.heap.size, 0, none⟩) from hout 2 rfl]
      rw [show T 3 = .pointer (some ⟨w.heap.size + 1, 0, none⟩) from hout 3 rfl]
      rw [show T 4 = .int .i64 (firstE [fE ((bits .and .i64 (kF fk) sv) == 0) 14, fE (fd && ((bits .and .i64 (kD fk) sv) == 0)) 3, fE ((ft == 0) && (fm != 1)) 10, fE ((fm != 0) && ((bits .and .i64 (kM fk) sv) == 0)) 3, fE (decide ((dl : Int) < (kL fk))) 13, fE (decide ((kT fk) < (dl : Int))) 5, fE (dnB ds n) 7]) from hval 58 (by decide : 58 < 59)]
      rw [show T 5 = .pointer (some ⟨g1, 0, none⟩) from hout 5 rfl]
      replace b1 := b1.kx hG (by simp)
      replace b2 := b2.kx hG (by simp)
      replace b3 := b3.kx hG (by simp)
      replace kx := (show Kb _ _ from kx.drew).trans hG.nil
      replace gl := gl0.out.kb kx
      replace gta := gta0.out.kb kx
      replace gtb := gtb0.out.kb kx
      replace gtc := gtc0.out.kb kx
      clear hout hval hG
      go_wp2
      go_ret
      exact ⟨rfl, kx⟩
end Go.Proofs.YtlimjohnimgnhaaGreatDoor
