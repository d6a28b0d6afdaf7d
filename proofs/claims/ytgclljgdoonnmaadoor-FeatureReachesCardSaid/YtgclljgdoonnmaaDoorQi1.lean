/- Features: the reference says whether features are apart. -/
import Derived.Test.YtgclljgdoonnmaaDoorQg4
import Derived.Test.YtgclljgdoonnmaaDoorOr2
namespace Go.Proofs.YtgclljgdoonnmaaDoor
open Go.RowKit

/-- apart along an axis -/
def apR (oa ob : Nat → Bool) (la ha lb hb : Nat → Int) (i : Nat) : Bool := oa i && ob i && (decide (ha i < lb i) || decide (hb i < la i))
def any3 (f : Nat → Bool) : Bool := f 0 || f 1 || f 2
theorem any3_t {f : Nat → Bool} {i : Nat} (hi : i < 3) (h : f i = true) : any3 f = true := by
  unfold any3
  have : i = 0 ∨ i = 1 ∨ i = 2 := by omega
  rcases this with rfl | rfl | rfl <;> simp [h]
theorem any3_f {f : Nat → Bool} {i : Nat} (hi : ¬ i < 3) (h : ∀ j, j < i → f j = false) : any3 f = false := by
  unfold any3
  simp [h 0 (by omega), h 1 (by omega), h 2 (by omega)]
theorem upto_succ {f : Nat → Bool} {i : Nat} (h : ∀ j, j < i → f j = false) (hi : f i = false) : ∀ j, j < i + 1 → f j = false := fun j hj => by
  by_cases e : j = i
  · rw [e]; exact hi
  · exact h j (by omega)
set_option maxRecDepth 100000 in
set_option maxHeartbeats 2000000 in
theorem rApart_1 (n : ByteArray) (k : Int) (a : Int) (x : Int) (y : Int) (z : Int) (lo : Int) (hi : Int) (fp : Option Addr) (fl : Nat) (fc : Nat) (n2 : ByteArray) (k2 : Int) (a2 : Int) (x2 : Int) (y2 : Int) (z2 : Int) (lo2 : Int) (hi2 : Int) (fp2 : Option Addr) (fl2 : Nat) (fc2 : Nat) (oa : Nat → Bool) (ob : Nat → Bool) (la : Nat → Int) (ha : Nat → Int) (lb : Nat → Int) (hb : Nat → Int) (qa : ∀ c : Nat, c < 3 → Ca 56 #[.agg #[.string n, .int .i64 k, .int .i64 a, .int .i64 x, .int .i64 y, .int .i64 z, .int .i64 lo, .int .i64 hi, .slice fp fl fc], .int .i64 c] (.bool (oa c))) (qal : ∀ c : Nat, c < 3 → Ca 57 #[.agg #[.string n, .int .i64 k, .int .i64 a, .int .i64 x, .int .i64 y, .int .i64 z, .int .i64 lo, .int .i64 hi, .slice fp fl fc], .int .i64 c] (.agg #[.int .i64 (la c), .int .i64 (ha c)])) (qb : ∀ c : Nat, c < 3 → Ca 56 #[.agg #[.string n2, .int .i64 k2, .int .i64 a2, .int .i64 x2, .int .i64 y2, .int .i64 z2, .int .i64 lo2, .int .i64 hi2, .slice fp2 fl2 fc2], .int .i64 c] (.bool (ob c))) (qbl : ∀ c : Nat, c < 3 → Ca 57 #[.agg #[.string n2, .int .i64 k2, .int .i64 a2, .int .i64 x2, .int .i64 y2, .int .i64 z2, .int .i64 lo2, .int .i64 hi2, .slice fp2 fl2 fc2], .int .i64 c] (.agg #[.int .i64 (lb c), .int .i64 (hb c)])) (w : World)  : Calls Tryd.prog 59 #[.agg #[.string n, .int .i64 k, .int .i64 a, .int .i64 x, .int .i64 y, .int .i64 z, .int .i64 lo, .int .i64 hi, .slice fp fl fc], .agg #[.string n2, .int .i64 k2, .int .i64 a2, .int .i64 x2, .int .i64 y2, .int .i64 z2, .int .i64 lo2, .int .i64 hi2, .slice fp2 fl2 fc2]] w fun r W' => r = .returned (.bool (any3 (apR oa ob la ha lb hb))) ∧ Kb w W' := by
  have kx := Kb.refl w
  go_enter Tryd.func59, Tryd.ntmps59
  go_wp2_with fail
  have b1 := Is.made w #[.string n, .int .i64 k, .int .i64 a, .int .i64 x, .int .i64 y, .int .i64 z, .int .i64 lo, .int .i64 hi, .slice fp fl fc] 28
  replace b1 := (b1.alloc (.cells #[.string n2, .int .i64 k2, .int .i64 a2, .int .i64 x2, .int .i64 y2, .int .i64 z2, .int .i64 lo2, .int .i64 hi2, .slice fp2 fl2 fc2] 28 (0, 0)))
  have b2 := Is.made (w.alloc (.cells #[.string n, .int .i64 k, .int .i64 a, .int .i64 x, .int .i64 y, .int .i64 z, .int .i64 lo, .int .i64 hi, .slice fp fl fc] 28 (0, 0))) #[.string n2, .int .i64 k2, .int .i64 a2, .int .i64 x2, .int .i64 y2, .int .i64 z2, .int .i64 lo2, .int .i64 hi2, .slice fp2 fl2 fc2] 28
  simp only [World.size_alloc] at b2
  replace kx := kx.alloc (.cells #[.string n, .int .i64 k, .int .i64 a, .int .i64 x, .int .i64 y, .int .i64 z, .int .i64 lo, .int .i64 hi, .slice fp fl fc] 28 (0, 0))
  replace kx := kx.alloc (.cells #[.string n2, .int .i64 k2, .int .i64 a2, .int .i64 x2, .int .i64 y2, .int .i64 z2, .int .i64 lo2, .int .i64 hi2, .slice fp2 fl2 fc2] 28 (0, 0))
  go_loopg [5] 3 (fun gk s5 wr => ∃ i : Nat, s5 = .int .i64 i ∧ i + gk = 3 ∧ Hid (∀ j, j < i → apR oa ob la ha lb hb j = false) ∧ Is wr (w.heap.size) #[.string n, .int .i64 k, .int .i64 a, .int .i64 x, .int .i64 y, .int .i64 z, .int .i64 lo, .int .i64 hi, .slice fp fl fc] 28 ∧ Is wr (w.heap.size + 1) #[.string n2, .int .i64 k2, .int .i64 a2, .int .i64 x2, .int .i64 y2, .int .i64 z2, .int .i64 lo2, .int .i64 hi2, .slice fp2 fl2 fc2] 28 ∧ Kb w wr)
  case atStart => exact ⟨0, rfl, by omega, Lib.hid (fun j hj => absurd hj (by omega)), b1, b2, kx⟩
  case round =>
    obtain ⟨i, rfl, hqi, Ei, b1, b2, kx⟩ := hrel
    have hqi0 : (0 : Int) ≤ (i : Int) := by omega
    have Hi := Lib.hid hqi
    clear hqi
    by_cases h1 : (i : Int) < 3
    · skip
      have h1n : i < 3 := by omega
      rcases Bool.eq_false_or_eq_true (oa i) with h2 | h2
      · skip
        rcases Bool.eq_false_or_eq_true (ob i) with h3 | h3
        · skip
          by_cases h4 : (ha i) < (lb i)
          · skip
            have f1 := b1.c (i := 0) rfl
            have f2 := b1.c (i := 1) rfl
            have f3 := b1.c (i := 2) rfl
            have f4 := b1.c (i := 3) rfl
            have f5 := b1.c (i := 4) rfl
            have f6 := b1.c (i := 5) rfl
            have f7 := b1.c (i := 6) rfl
            have f8 := b1.c (i := 7) rfl
            have f9 := b1.c (i := 8) rfl
            go_wp2_with fail
            clear f1 f2 f3 f4 f5 f6 f7 f8 f9
            (with_reducible refine ((Ca.o (qa i (by omega)) _)).mono ?_)
            rintro r w1 ⟨rfl, k1⟩
            replace b1 := b1.kb k1
            replace b2 := b2.kb k1
            replace kx := kx.trans k1
            have s1 := k1.size
            skip
            clear k1
            have f10 := b2.c (i := 0) rfl
            have f11 := b2.c (i := 1) rfl
            have f12 := b2.c (i := 2) rfl
            have f13 := b2.c (i := 3) rfl
            have f14 := b2.c (i := 4) rfl
            have f15 := b2.c (i := 5) rfl
            have f16 := b2.c (i := 6) rfl
            have f17 := b2.c (i := 7) rfl
            have f18 := b2.c (i := 8) rfl
            go_wp2_with fail
            clear f10 f11 f12 f13 f14 f15 f16 f17 f18
            (with_reducible refine ((Ca.o (qb i (by omega)) _)).mono ?_)
            rintro r w2 ⟨rfl, k2⟩
            replace b1 := b1.kb k2
            replace b2 := b2.kb k2
            replace kx := kx.trans k2
            have s2 := k2.size
            skip
            clear k2
            go_wp2_with fail
            replace b1 := b1.drew
            replace b2 := b2.drew
            rw [oF_lit]
            refine o_law2 (⟨40, [some 22, some 23, some 24, some 25, some 26, some 27, some 6, some 7, none, none], [22, 23, 24, 25, 26, 27, 6, 7, 6, 7], [[], [], [0, 1], [], [], [3, 4], [], [], [6, 2], [7, 5]], [[2], [5], [], [3], [5], [], [], [], [], []]⟩ : OT) (RL [fun vv _ => vv = .agg #[.string n, .int .i64 k, .int .i64 a, .int .i64 x, .int .i64 y, .int .i64 z, .int .i64 lo, .int .i64 hi, .slice fp fl fc], fun vv _ => vv = .int .i64 (i : Int), fun vv _ => vv = .agg #[.int .i64 (la i), .int .i64 (ha i)], fun vv _ => vv = .agg #[.string n2, .int .i64 k2, .int .i64 a2, .int .i64 x2, .int .i64 y2, .int .i64 z2, .int .i64 lo2, .int .i64 hi2, .slice fp2 fl2 fc2], fun vv _ => vv = .int .i64 (i : Int), fun vv _ => vv = .agg #[.int .i64 (lb i), .int .i64 (hb i)], fun _ _ => True, fun _ _ => True, fun _ _ => True, fun _ _ => True]) ⟨6, 8, 6, #[.int .i64 0, .int .i64 0], #[.int .i64 (la i), .int .i64 (ha i)], 25⟩ ⟨7, 9, 7, #[.int .i64 0, .int .i64 0], #[.int .i64 (lb i), .int .i64 (hb i)], 25⟩ (by kernel_rfl) (by kernel_rfl) (by kernel_rfl) (rl_free ⟨(fun _ _ _ h => h), (fun _ _ _ h => h), (fun _ _ _ h => h), (fun _ _ _ h => h), (fun _ _ _ h => h), (fun _ _ _ h => h), (fun _ _ _ h => h), (fun _ _ _ h => h), (fun _ _ _ h => h), (fun _ _ _ h => h), trivial⟩) ?hR ?fin
            case hR =>
              refine allO_cons ?_ (allO_cons ?_ (allO_cons ?_ (allO_cons ?_ (allO_cons ?_ (allO_cons ?_ (allO_cons ?_ (allO_cons ?_ (allO_cons ?_ (allO_cons ?_ (allO_nil))))))))))
              · refine .val (by kernel_rfl) ?_
                intro T w9 hG hD hO Q
                have q0 := hO.1
                have e0 : (oF 40 T).eval (.tmp 2) = .pointer (some ⟨w.heap.size, 0, none⟩) := (oF_eval (by decide)).trans (show T 2 = _ from q0)
                refine og_none rfl ?_
                have im := b1.kx hG (by simp)
                have m0 := im.c (i := 0) rfl
                have m1 := im.c (i := 1) rfl
                have m2 := im.c (i := 2) rfl
                have m3 := im.c (i := 3) rfl
                have m4 := im.c (i := 4) rfl
                have m5 := im.c (i := 5) rfl
                have m6 := im.c (i := 6) rfl
                have m7 := im.c (i := 7) rfl
                have m8 := im.c (i := 8) rfl
                clear im
                exact o_val (v := .agg #[.string n, .int .i64 k, .int .i64 a, .int .i64 x, .int .i64 y, .int .i64 z, .int .i64 lo, .int .i64 hi, .slice fp fl fc]) (w' := w9) (by generalize (oF 40 T).eval = rr at *; simp [execOp, go_sem, e0, m0, m1, m2, m3, m4, m5, m6, m7, m8]) rfl rfl (Kb.refl _)
              · refine .val (by kernel_rfl) ?_
                intro T w9 hG hD hO Q
                have q0 := hO.1
                have e0 : (oF 40 T).eval (.tmp 5) = .int .i64 (i : Int) := (oF_eval (by decide)).trans (show T 5 = _ from q0)
                refine og_none rfl ?_
                exact o_val (v := .int .i64 (i : Int)) (w' := w9) (by generalize (oF 40 T).eval = rr at *; simp [execOp, go_sem, e0]) rfl rfl (Kb.refl _)
              · refine .val (by kernel_rfl) ?_
                intro T w9 hG hD hO Q
                have d0 := hD.1
                have d1 := hD.2.1
                have e0 : (oF 40 T).eval (.func 57) = .func (.func 57) #[] #[] := rfl
                have e1 : (oF 40 T).eval (.tmp 22) = .agg #[.string n, .int .i64 k, .int .i64 a, .int .i64 x, .int .i64 y, .int .i64 z, .int .i64 lo, .int .i64 hi, .slice fp fl fc] := (oF_eval (by decide)).trans (show T 22 = _ from d0)
                have e2 : (oF 40 T).eval (.tmp 23) = .int .i64 (i : Int) := (oF_eval (by decide)).trans (show T 23 = _ from d1)
                refine og_none rfl ?_
                refine o_call (oc2 (enters_of Tryd.func57 (by kernel_rfl) rfl) rfl rfl e1 e2) rfl ?_
                exact (Ca.o (qal i (by omega)) w9).mono fun r W' h => ⟨_, h.1, rfl, h.2⟩
              · refine .val (by kernel_rfl) ?_
                intro T w9 hG hD hO Q
                have q0 := hO.1
                have e0 : (oF 40 T).eval (.tmp 3) = .pointer (some ⟨w.heap.size + 1, 0, none⟩) := (oF_eval (by decide)).trans (show T 3 = _ from q0)
                refine og_none rfl ?_
                have im := b2.kx hG (by simp)
                have m0 := im.c (i := 0) rfl
                have m1 := im.c (i := 1) rfl
                have m2 := im.c (i := 2) rfl
                have m3 := im.c (i := 3) rfl
                have m4 := im.c (i := 4) rfl
                have m5 := im.c (i := 5) rfl
                have m6 := im.c (i := 6) rfl
                have m7 := im.c (i := 7) rfl
                have m8 := im.c (i := 8) rfl
                clear im
                exact o_val (v := .agg #[.string n2, .int .i64 k2, .int .i64 a2, .int .i64 x2, .int .i64 y2, .int .i64 z2, .int .i64 lo2, .int .i64 hi2, .slice fp2 fl2 fc2]) (w' := w9) (by generalize (oF 40 T).eval = rr at *; simp [execOp, go_sem, e0, m0, m1, m2, m3, m4, m5, m6, m7, m8]) rfl rfl (Kb.refl _)
              · refine .val (by kernel_rfl) ?_
                intro T w9 hG hD hO Q
                have q0 := hO.1
                have e0 : (oF 40 T).eval (.tmp 5) = .int .i64 (i : Int) := (oF_eval (by decide)).trans (show T 5 = _ from q0)
                refine og_none rfl ?_
                exact o_val (v := .int .i64 (i : Int)) (w' := w9) (by generalize (oF 40 T).eval = rr at *; simp [execOp, go_sem, e0]) rfl rfl (Kb.refl _)
              · refine .val (by kernel_rfl) ?_
                intro T w9 hG hD hO Q
                have d0 := hD.1
                have d1 := hD.2.1
                have e0 : (oF 40 T).eval (.func 57) = .func (.func 57) #[] #[] := rfl
                have e1 : (oF 40 T).eval (.tmp 25) = .agg #[.string n2, .int .i64 k2, .int .i64 a2, .int .i64 x2, .int .i64 y2, .int .i64 z2, .int .i64 lo2, .int .i64 hi2, .slice fp2 fl2 fc2] := (oF_eval (by decide)).trans (show T 25 = _ from d0)
                have e2 : (oF 40 T).eval (.tmp 26) = .int .i64 (i : Int) := (oF_eval (by decide)).trans (show T 26 = _ from d1)
                refine og_none rfl ?_
                refine o_call (oc2 (enters_of Tryd.func57 (by kernel_rfl) rfl) rfl rfl e1 e2) rfl ?_
                exact (Ca.o (qbl i (by omega)) w9).mono fun r W' h => ⟨_, h.1, rfl, h.2⟩
              · refine .alloc _ (.inl rfl) rfl rfl (fun T w9 => ?_) (fun _ _ => trivial)
                simp [execOp, go_sem]
              · refine .alloc _ (.inr rfl) rfl rfl (fun T w9 => ?_) (fun _ _ => trivial)
                simp [execOp, go_sem]
              · refine .store _ (.inl rfl) rfl rfl ?_ (fun _ _ => trivial)
                intro T w9 g hD hO hT io
                have d0 := hD.1
                have d1 := hD.2.1
                have e0 : (oF 40 T).eval (.tmp 6) = .pointer (some ⟨g, 0, none⟩) := (oF_eval (by decide)).trans hT
                have e1 : (oF 40 T).eval (.tmp 24) = .agg #[.int .i64 (la i), .int .i64 (ha i)] := (oF_eval (by decide)).trans (show T 24 = _ from d1)
                have zn := io
                replace zn : Is (w9.setCell ⟨g, 0, none⟩ (.int .i64 (la i))) (g) #[.int .i64 (la i), .int .i64 0] 25 := zn.set 0 _
                replace zn : Is ((w9.setCell ⟨g, 0, none⟩ (.int .i64 (la i))).setCell ⟨g, 1, none⟩ (.int .i64 (ha i))) (g) #[.int .i64 (la i), .int .i64 (ha i)] 25 := zn.set 1 _
                have pt := (((Pt.refl g w9).set 0 (.int .i64 (la i))).set 1 (.int .i64 (ha i)))
                have m0 := io.c (i := 0) rfl
                have f0 := io.f 0
                have m1 := io.c (i := 1) rfl
                have f1 := io.f 1
                clear io
                exact ⟨_, (by generalize (oF 40 T).eval = rr at *; simp [execOp, go_sem, e0, e1, m0, f0, m1, f1] : _ = Result.ok Next.skip ((w9.setCell ⟨g, 0, none⟩ (.int .i64 (la i))).setCell ⟨g, 1, none⟩ (.int .i64 (ha i)))), zn, pt⟩
              · refine .store _ (.inr rfl) rfl rfl ?_ (fun _ _ => trivial)
                intro T w9 g hD hO hT io
                have d0 := hD.1
                have d1 := hD.2.1
                have e0 : (oF 40 T).eval (.tmp 7) = .pointer (some ⟨g, 0, none⟩) := (oF_eval (by decide)).trans hT
                have e1 : (oF 40 T).eval (.tmp 27) = .agg #[.int .i64 (lb i), .int .i64 (hb i)] := (oF_eval (by decide)).trans (show T 27 = _ from d1)
                have zn := io
                replace zn : Is (w9.setCell ⟨g, 0, none⟩ (.int .i64 (lb i))) (g) #[.int .i64 (lb i), .int .i64 0] 25 := zn.set 0 _
                replace zn : Is ((w9.setCell ⟨g, 0, none⟩ (.int .i64 (lb i))).setCell ⟨g, 1, none⟩ (.int .i64 (hb i))) (g) #[.int .i64 (lb i), .int .i64 (hb i)] 25 := zn.set 1 _
                have pt := (((Pt.refl g w9).set 0 (.int .i64 (lb i))).set 1 (.int .i64 (hb i)))
                have m0 := io.c (i := 0) rfl
                have f0 := io.f 0
                have m1 := io.c (i := 1) rfl
                have f1 := io.f 1
                clear io
                exact ⟨_, (by generalize (oF 40 T).eval = rr at *; simp [execOp, go_sem, e0, e1, m0, f0, m1, f1] : _ = Result.ok Next.skip ((w9.setCell ⟨g, 0, none⟩ (.int .i64 (lb i))).setCell ⟨g, 1, none⟩ (.int .i64 (hb i)))), zn, pt⟩
            case fin =>
              intro T w3 hout hval hG hp hq hne
              have s3 := hG.2.2.2.1
              simp only [World.size_drew] at s3
              rw [show oF 40 T = (⟨#[T 0, T 1, T 2, T 3, T 4, T 5, T 6, T 7, T 8, T 9, T 10, T 11, T 12, T 13, T 14, T 15, T 16, T 17, T 18, T 19, T 20, T 21, T 22, T 23, T 24, T 25, T 26, T 27, T 28, T 29, T 30, T 31, T 32, T 33, T 34, T 35, T 36, T 37, T 38, T 39], []⟩ : Act) from oF_list 40 T]
              rw [show T 0 = .agg #[.string n, .int .i64 k, .int .i64 a, .int .i64 x, .int .i64 y, .int .i64 z, .int .i64 lo, .int .i64 hi, .slice fp fl fc] from hout 0 rfl]
              rw [show T 1 = .agg #[.string n2, .int .i64 k2, .int .i64 a2, .int .i64 x2, .int .i64 y2, .int .i64 z2, .int .i64 lo2, .int .i64 hi2, .slice fp2 fl2 fc2] from hout 1 rfl]
              rw [show T 2 = .pointer (some ⟨w.heap.size, 0, none⟩) from hout 2 rfl]
              rw [show T 3 = .pointer (some ⟨w.heap.size + 1, 0, none⟩) from hout 3 rfl]
              rw [show T 5 = .int .i64 (i : Int) from hout 5 rfl]
              rw [show T 8 = .int .i64 (i : Int) from hout 8 rfl]
              rw [show T 9 = .bool true from hout 9 rfl]
              rw [show T 12 = .agg #[.string n, .int .i64 k, .int .i64 a, .int .i64 x, .int .i64 y, .int .i64 z, .int .i64 lo, .int .i64 hi, .slice fp fl fc] from hout 12 rfl]
              rw [show T 13 = .int .i64 (i : Int) from hout 13 rfl]
              rw [show T 14 = .bool true from hout 14 rfl]
              rw [show T 15 = .bool false from hout 15 rfl]
              rw [show T 16 = .bool false from hout 16 rfl]
              rw [show T 17 = .agg #[.string n2, .int .i64 k2, .int .i64 a2, .int .i64 x2, .int .i64 y2, .int .i64 z2, .int .i64 lo2, .int .i64 hi2, .slice fp2 fl2 fc2] from hout 17 rfl]
              rw [show T 18 = .int .i64 (i : Int) from hout 18 rfl]
              rw [show T 19 = .bool true from hout 19 rfl]
              rw [show T 20 = .bool false from hout 20 rfl]
              rw [show T 21 = .bool false from hout 21 rfl]
              replace b1 := b1.kx hG (by simp)
              replace b2 := b2.kx hG (by simp)
              replace kx := (show Kb _ _ from kx.drew).trans hG.nil
              obtain ⟨g3x, eg3x, hg3x, b3⟩ := hp
              replace eg3x : T 6 = _ := eg3x
              rw [eg3x]
              obtain ⟨g3y, eg3y, hg3y, b4⟩ := hq
              replace eg3y : T 7 = _ := eg3y
              rw [eg3y]
              have d3 : g3x ≠ g3y := fun e => hne (show T 6 = T 7 by rw [eg3x, eg3y, e])
              clear hout hval hG hne eg3x eg3y
              have f19 := b3.c (i := 1) rfl
              have f20 := b4.c (i := 0) rfl
              go_wp2
              go_ret
              clear f19 f20
              exact ⟨by rw [any3_t (i := i) (by omega) (show apR oa ob la ha lb hb i = true by simp [apR, h2, h3, h4])]; rfl, kx⟩
          · skip
            by_cases h5 : (hb i) < (la i)
            · skip
              have f1 := b1.c (i := 0) rfl
              have f2 := b1.c (i := 1) rfl
              have f3 := b1.c (i := 2) rfl
              have f4 := b1.c (i := 3) rfl
              have f5 := b1.c (i := 4) rfl
              have f6 := b1.c (i := 5) rfl
              have f7 := b1.c (i := 6) rfl
              have f8 := b1.c (i := 7) rfl
              have f9 := b1.c (i := 8) rfl
              go_wp2_with fail
              clear f1 f2 f3 f4 f5 f6 f7 f8 f9
              (with_reducible refine ((Ca.o (qa i (by omega)) _)).mono ?_)
              rintro r w1 ⟨rfl, k1⟩
              replace b1 := b1.kb k1
              replace b2 := b2.kb k1
              replace kx := kx.trans k1
              have s1 := k1.size
              skip
              clear k1
              have f10 := b2.c (i := 0) rfl
              have f11 := b2.c (i := 1) rfl
              have f12 := b2.c (i := 2) rfl
              have f13 := b2.c (i := 3) rfl
              have f14 := b2.c (i := 4) rfl
              have f15 := b2.c (i := 5) rfl
              have f16 := b2.c (i := 6) rfl
              have f17 := b2.c (i := 7) rfl
              have f18 := b2.c (i := 8) rfl
              go_wp2_with fail
              clear f10 f11 f12 f13 f14 f15 f16 f17 f18
              (with_reducible refine ((Ca.o (qb i (by omega)) _)).mono ?_)
              rintro r w2 ⟨rfl, k2⟩
              replace b1 := b1.kb k2
              replace b2 := b2.kb k2
              replace kx := kx.trans k2
              have s2 := k2.size
              skip
              clear k2
              go_wp2_with fail
              replace b1 := b1.drew
              replace b2 := b2.drew
              rw [oF_lit]
              refine o_law2 (⟨40, [some 22, some 23, some 24, some 25, some 26, some 27, some 6, some 7, none, none], [22, 23, 24, 25, 26, 27, 6, 7, 6, 7], [[], [], [0, 1], [], [], [3, 4], [], [], [6, 2], [7, 5]], [[2], [5], [], [3], [5], [], [], [], [], []]⟩ : OT) (RL [fun vv _ => vv = .agg #[.string n, .int .i64 k, .int .i64 a, .int .i64 x, .int .i64 y, .int .i64 z, .int .i64 lo, .int .i64 hi, .slice fp fl fc], fun vv _ => vv = .int .i64 (i : Int), fun vv _ => vv = .agg #[.int .i64 (la i), .int .i64 (ha i)], fun vv _ => vv = .agg #[.string n2, .int .i64 k2, .int .i64 a2, .int .i64 x2, .int .i64 y2, .int .i64 z2, .int .i64 lo2, .int .i64 hi2, .slice fp2 fl2 fc2], fun vv _ => vv = .int .i64 (i : Int), fun vv _ => vv = .agg #[.int .i64 (lb i), .int .i64 (hb i)], fun _ _ => True, fun _ _ => True, fun _ _ => True, fun _ _ => True]) ⟨6, 8, 6, #[.int .i64 0, .int .i64 0], #[.int .i64 (la i), .int .i64 (ha i)], 25⟩ ⟨7, 9, 7, #[.int .i64 0, .int .i64 0], #[.int .i64 (lb i), .int .i64 (hb i)], 25⟩ (by kernel_rfl) (by kernel_rfl) (by kernel_rfl) (rl_free ⟨(fun _ _ _ h => h), (fun _ _ _ h => h), (fun _ _ _ h => h), (fun _ _ _ h => h), (fun _ _ _ h => h), (fun _ _ _ h => h), (fun _ _ _ h => h), (fun _ _ _ h => h), (fun _ _ _ h => h), (fun _ _ _ h => h), trivial⟩) ?hR ?fin
              case hR =>
                refine allO_cons ?_ (allO_cons ?_ (allO_cons ?_ (allO_cons ?_ (allO_cons ?_ (allO_cons ?_ (allO_cons ?_ (allO_cons ?_ (allO_cons ?_ (allO_cons ?_ (allO_nil))))))))))
                · refine .val (by kernel_rfl) ?_
                  intro T w9 hG hD hO Q
                  have q0 := hO.1
                  have e0 : (oF 40 T).eval (.tmp 2) = .pointer (some ⟨w.heap.size, 0, none⟩) := (oF_eval (by decide)).trans (show T 2 = _ from q0)
                  refine og_none rfl ?_
                  have im := b1.kx hG (by simp)
                  have m0 := im.c (i := 0) rfl
                  have m1 := im.c (i := 1) rfl
                  have m2 := im.c (i := 2) rfl
                  have m3 := im.c (i := 3) rfl
                  have m4 := im.c (i := 4) rfl
                  have m5 := im.c (i := 5) rfl
                  have m6 := im.c (i := 6) rfl
                  have m7 := im.c (i := 7) rfl
                  have m8 := im.c (i := 8) rfl
                  clear im
                  exact o_val (v := .agg #[.string n, .int .i64 k, .int .i64 a, .int .i64 x, .int .i64 y, .int .i64 z, .int .i64 lo, .int .i64 hi, .slice fp fl fc]) (w' := w9) (by generalize (oF 40 T).eval = rr at *; simp [execOp, go_sem, e0, m0, m1, m2, m3, m4, m5, m6, m7, m8]) rfl rfl (Kb.refl _)
                · refine .val (by kernel_rfl) ?_
                  intro T w9 hG hD hO Q
                  have q0 := hO.1
                  have e0 : (oF 40 T).eval (.tmp 5) = .int .i64 (i : Int) := (oF_eval (by decide)).trans (show T 5 = _ from q0)
                  refine og_none rfl ?_
                  exact o_val (v := .int .i64 (i : Int)) (w' := w9) (by generalize (oF 40 T).eval = rr at *; simp [execOp, go_sem, e0]) rfl rfl (Kb.refl _)
                · refine .val (by kernel_rfl) ?_
                  intro T w9 hG hD hO Q
                  have d0 := hD.1
                  have d1 := hD.2.1
                  have e0 : (oF 40 T).eval (.func 57) = .func (.func 57) #[] #[] := rfl
                  have e1 : (oF 40 T).eval (.tmp 22) = .agg #[.string n, .int .i64 k, .int .i64 a, .int .i64 x, .int .i64 y, .int .i64 z, .int .i64 lo, .int .i64 hi, .slice fp fl fc] := (oF_eval (by decide)).trans (show T 22 = _ from d0)
                  have e2 : (oF 40 T).eval (.tmp 23) = .int .i64 (i : Int) := (oF_eval (by decide)).trans (show T 23 = _ from d1)
                  refine og_none rfl ?_
                  refine o_call (oc2 (enters_of Tryd.func57 (by kernel_rfl) rfl) rfl rfl e1 e2) rfl ?_
                  exact (Ca.o (qal i (by omega)) w9).mono fun r W' h => ⟨_, h.1, rfl, h.2⟩
                · refine .val (by kernel_rfl) ?_
                  intro T w9 hG hD hO Q
                  have q0 := hO.1
                  have e0 : (oF 40 T).eval (.tmp 3) = .pointer (some ⟨w.heap.size + 1, 0, none⟩) := (oF_eval (by decide)).trans (show T 3 = _ from q0)
                  refine og_none rfl ?_
                  have im := b2.kx hG (by simp)
                  have m0 := im.c (i := 0) rfl
                  have m1 := im.c (i := 1) rfl
                  have m2 := im.c (i := 2) rfl
                  have m3 := im.c (i := 3) rfl
                  have m4 := im.c (i := 4) rfl
                  have m5 := im.c (i := 5) rfl
                  have m6 := im.c (i := 6) rfl
                  have m7 := im.c (i := 7) rfl
                  have m8 := im.c (i := 8) rfl
                  clear im
                  exact o_val (v := .agg #[.string n2, .int .i64 k2, .int .i64 a2, .int .i64 x2, .int .i64 y2, .int .i64 z2, .int .i64 lo2, .int .i64 hi2, .slice fp2 fl2 fc2]) (w' := w9) (by generalize (oF 40 T).eval = rr at *; simp [execOp, go_sem, e0, m0, m1, m2, m3, m4, m5, m6, m7, m8]) rfl rfl (Kb.refl _)
                · refine .val (by kernel_rfl) ?_
                  intro T w9 hG hD hO Q
                  have q0 := hO.1
                  have e0 : (oF 40 T).eval (.tmp 5) = .int .i64 (i : Int) := (oF_eval (by decide)).trans (show T 5 = _ from q0)
                  refine og_none rfl ?_
                  exact o_val (v := .int .i64 (i : Int)) (w' := w9) (by generalize (oF 40 T).eval = rr at *; simp [execOp, go_sem, e0]) rfl rfl (Kb.refl _)
                · refine .val (by kernel_rfl) ?_
                  intro T w9 hG hD hO Q
                  have d0 := hD.1
                  have d1 := hD.2.1
                  have e0 : (oF 40 T).eval (.func 57) = .func (.func 57) #[] #[] := rfl
                  have e1 : (oF 40 T).eval (.tmp 25) = .agg #[.string n2, .int .i64 k2, .int .i64 a2, .int .i64 x2, .int .i64 y2, .int .i64 z2, .int .i64 lo2, .int .i64 hi2, .slice fp2 fl2 fc2] := (oF_eval (by decide)).trans (show T 25 = _ from d0)
                  have e2 : (oF 40 T).eval (.tmp 26) = .int .i64 (i : Int) := (oF_eval (by decide)).trans (show T 26 = _ from d1)
                  refine og_none rfl ?_
                  refine o_call (oc2 (enters_of Tryd.func57 (by kernel_rfl) rfl) rfl rfl e1 e2) rfl ?_
                  exact (Ca.o (qbl i (by omega)) w9).mono fun r W' h => ⟨_, h.1, rfl, h.2⟩
                · refine .alloc _ (.inl rfl) rfl rfl (fun T w9 => ?_) (fun _ _ => trivial)
                  simp [execOp, go_sem]
                · refine .alloc _ (.inr rfl) rfl rfl (fun T w9 => ?_) (fun _ _ => trivial)
                  simp [execOp, go_sem]
                · refine .store _ (.inl rfl) rfl rfl ?_ (fun _ _ => trivial)
                  intro T w9 g hD hO hT io
                  have d0 := hD.1
                  have d1 := hD.2.1
                  have e0 : (oF 40 T).eval (.tmp 6) = .pointer (some ⟨g, 0, none⟩) := (oF_eval (by decide)).trans hT
                  have e1 : (oF 40 T).eval (.tmp 24) = .agg #[.int .i64 (la i), .int .i64 (ha i)] := (oF_eval (by decide)).trans (show T 24 = _ from d1)
                  have zn := io
                  replace zn : Is (w9.setCell ⟨g, 0, none⟩ (.int .i64 (la i))) (g) #[.int .i64 (la i), .int .i64 0] 25 := zn.set 0 _
                  replace zn : Is ((w9.setCell ⟨g, 0, none⟩ (.int .i64 (la i))).setCell ⟨g, 1, none⟩ (.int .i64 (ha i))) (g) #[.int .i64 (la i), .int .i64 (ha i)] 25 := zn.set 1 _
                  have pt := (((Pt.refl g w9).set 0 (.int .i64 (la i))).set 1 (.int .i64 (ha i)))
                  have m0 := io.c (i := 0) rfl
                  have f0 := io.f 0
                  have m1 := io.c (i := 1) rfl
                  have f1 := io.f 1
                  clear io
                  exact ⟨_, (by generalize (oF 40 T).eval = rr at *; simp [execOp, go_sem, e0, e1, m0, f0, m1, f1] : _ = Result.ok Next.skip ((w9.setCell ⟨g, 0, none⟩ (.int .i64 (la i))).setCell ⟨g, 1, none⟩ (.int .i64 (ha i)))), zn, pt⟩
                · refine .store _ (.inr rfl) rfl rfl ?_ (fun _ _ => trivial)
                  intro T w9 g hD hO hT io
                  have d0 := hD.1
                  have d1 := hD.2.1
                  have e0 : (oF 40 T).eval (.tmp 7) = .pointer (some ⟨g, 0, none⟩) := (oF_eval (by decide)).trans hT
                  have e1 : (oF 40 T).eval (.tmp 27) = .agg #[.int .i64 (lb i), .int .i64 (hb i)] := (oF_eval (by decide)).trans (show T 27 = _ from d1)
                  have zn := io
                  replace zn : Is (w9.setCell ⟨g, 0, none⟩ (.int .i64 (lb i))) (g) #[.int .i64 (lb i), .int .i64 0] 25 := zn.set 0 _
                  replace zn : Is ((w9.setCell ⟨g, 0, none⟩ (.int .i64 (lb i))).setCell ⟨g, 1, none⟩ (.int .i64 (hb i))) (g) #[.int .i64 (lb i), .int .i64 (hb i)] 25 := zn.set 1 _
                  have pt := (((Pt.refl g w9).set 0 (.int .i64 (lb i))).set 1 (.int .i64 (hb i)))
                  have m0 := io.c (i := 0) rfl
                  have f0 := io.f 0
                  have m1 := io.c (i := 1) rfl
                  have f1 := io.f 1
                  clear io
                  exact ⟨_, (by generalize (oF 40 T).eval = rr at *; simp [execOp, go_sem, e0, e1, m0, f0, m1, f1] : _ = Result.ok Next.skip ((w9.setCell ⟨g, 0, none⟩ (.int .i64 (lb i))).setCell ⟨g, 1, none⟩ (.int .i64 (hb i)))), zn, pt⟩
              case fin =>
                intro T w3 hout hval hG hp hq hne
                have s3 := hG.2.2.2.1
                simp only [World.size_drew] at s3
                rw [show oF 40 T = (⟨#[T 0, T 1, T 2, T 3, T 4, T 5, T 6, T 7, T 8, T 9, T 10, T 11, T 12, T 13, T 14, T 15, T 16, T 17, T 18, T 19, T 20, T 21, T 22, T 23, T 24, T 25, T 26, T 27, T 28, T 29, T 30, T 31, T 32, T 33, T 34, T 35, T 36, T 37, T 38, T 39], []⟩ : Act) from oF_list 40 T]
                rw [show T 0 = .agg #[.string n, .int .i64 k, .int .i64 a, .int .i64 x, .int .i64 y, .int .i64 z, .int .i64 lo, .int .i64 hi, .slice fp fl fc] from hout 0 rfl]
                rw [show T 1 = .agg #[.string n2, .int .i64 k2, .int .i64 a2, .int .i64 x2, .int .i64 y2, .int .i64 z2, .int .i64 lo2, .int .i64 hi2, .slice fp2 fl2 fc2] from hout 1 rfl]
                rw [show T 2 = .pointer (some ⟨w.heap.size, 0, none⟩) from hout 2 rfl]
                rw [show T 3 = .pointer (some ⟨w.heap.size + 1, 0, none⟩) from hout 3 rfl]
                rw [show T 5 = .int .i64 (i : Int) from hout 5 rfl]
                rw [show T 8 = .int .i64 (i : Int) from hout 8 rfl]
                rw [show T 9 = .bool true from hout 9 rfl]
                rw [show T 12 = .agg #[.string n, .int .i64 k, .int .i64 a, .int .i64 x, .int .i64 y, .int .i64 z, .int .i64 lo, .int .i64 hi, .slice fp fl fc] from hout 12 rfl]
                rw [show T 13 = .int .i64 (i : Int) from hout 13 rfl]
                rw [show T 14 = .bool true from hout 14 rfl]
                rw [show T 15 = .bool false from hout 15 rfl]
                rw [show T 16 = .bool false from hout 16 rfl]
                rw [show T 17 = .agg #[.string n2, .int .i64 k2, .int .i64 a2, .int .i64 x2, .int .i64 y2, .int .i64 z2, .int .i64 lo2, .int .i64 hi2, .slice fp2 fl2 fc2] from hout 17 rfl]
                rw [show T 18 = .int .i64 (i : Int) from hout 18 rfl]
                rw [show T 19 = .bool true from hout 19 rfl]
                rw [show T 20 = .bool false from hout 20 rfl]
                rw [show T 21 = .bool false from hout 21 rfl]
                replace b1 := b1.kx hG (by simp)
                replace b2 := b2.kx hG (by simp)
                replace kx := (show Kb _ _ from kx.drew).trans hG.nil
                obtain ⟨g3x, eg3x, hg3x, b3⟩ := hp
                replace eg3x : T 6 = _ := eg3x
                rw [eg3x]
                obtain ⟨g3y, eg3y, hg3y, b4⟩ := hq
                replace eg3y : T 7 = _ := eg3y
                rw [eg3y]
                have d3 : g3x ≠ g3y := fun e => hne (show T 6 = T 7 by rw [eg3x, eg3y, e])
                clear hout hval hG hne eg3x eg3y
                have f19 := b3.c (i := 1) rfl
                have f20 := b4.c (i := 0) rfl
                have f21 := b4.c (i := 1) rfl
                have f22 := b3.c (i := 0) rfl
                go_wp2
                go_ret
                clear f19 f20 f21 f22
                exact ⟨by rw [any3_t (i := i) (by omega) (show apR oa ob la ha lb hb i = true by simp [apR, h2, h3, h5])]; rfl, kx⟩
            · skip
              have f1 := b1.c (i := 0) rfl
              have f2 := b1.c (i := 1) rfl
              have f3 := b1.c (i := 2) rfl
              have f4 := b1.c (i := 3) rfl
              have f5 := b1.c (i := 4) rfl
              have f6 := b1.c (i := 5) rfl
              have f7 := b1.c (i := 6) rfl
              have f8 := b1.c (i := 7) rfl
              have f9 := b1.c (i := 8) rfl
              go_wp2_with fail
              clear f1 f2 f3 f4 f5 f6 f7 f8 f9
              (with_reducible refine ((Ca.o (qa i (by omega)) _)).mono ?_)
              rintro r w1 ⟨rfl, k1⟩
              replace b1 := b1.kb k1
              replace b2 := b2.kb k1
              replace kx := kx.trans k1
              have s1 := k1.size
              skip
              clear k1
              have f10 := b2.c (i := 0) rfl
              have f11 := b2.c (i := 1) rfl
              have f12 := b2.c (i := 2) rfl
              have f13 := b2.c (i := 3) rfl
              have f14 := b2.c (i := 4) rfl
              have f15 := b2.c (i := 5) rfl
              have f16 := b2.c (i := 6) rfl
              have f17 := b2.c (i := 7) rfl
              have f18 := b2.c (i := 8) rfl
              go_wp2_with fail
              clear f10 f11 f12 f13 f14 f15 f16 f17 f18
              (with_reducible refine ((Ca.o (qb i (by omega)) _)).mono ?_)
              rintro r w2 ⟨rfl, k2⟩
              replace b1 := b1.kb k2
              replace b2 := b2.kb k2
              replace kx := kx.trans k2
              have s2 := k2.size
              skip
              clear k2
              go_wp2_with fail
              replace b1 := b1.drew
              replace b2 := b2.drew
              rw [oF_lit]
              refine o_law2 (⟨40, [some 22, some 23, some 24, some 25, some 26, some 27, some 6, some 7, none, none], [22, 23, 24, 25, 26, 27, 6, 7, 6, 7], [[], [], [0, 1], [], [], [3, 4], [], [], [6, 2], [7, 5]], [[2], [5], [], [3], [5], [], [], [], [], []]⟩ : OT) (RL [fun vv _ => vv = .agg #[.string n, .int .i64 k, .int .i64 a, .int .i64 x, .int .i64 y, .int .i64 z, .int .i64 lo, .int .i64 hi, .slice fp fl fc], fun vv _ => vv = .int .i64 (i : Int), fun vv _ => vv = .agg #[.int .i64 (la i), .int .i64 (ha i)], fun vv _ => vv = .agg #[.string n2, .int .i64 k2, .int .i64 a2, .int .i64 x2, .int .i64 y2, .int .i64 z2, .int .i64 lo2, .int .i64 hi2, .slice fp2 fl2 fc2], fun vv _ => vv = .int .i64 (i : Int), fun vv _ => vv = .agg #[.int .i64 (lb i), .int .i64 (hb i)], fun _ _ => True, fun _ _ => True, fun _ _ => True, fun _ _ => True]) ⟨6, 8, 6, #[.int .i64 0, .int .i64 0], #[.int .i64 (la i), .int .i64 (ha i)], 25⟩ ⟨7, 9, 7, #[.int .i64 0, .int .i64 0], #[.int .i64 (lb i), .int .i64 (hb i)], 25⟩ (by kernel_rfl) (by kernel_rfl) (by kernel_rfl) (rl_free ⟨(fun _ _ _ h => h), (fun _ _ _ h => h), (fun _ _ _ h => h), (fun _ _ _ h => h), (fun _ _ _ h => h), (fun _ _ _ h => h), (fun _ _ _ h => h), (fun _ _ _ h => h), (fun _ _ _ h => h), (fun _ _ _ h => h), trivial⟩) ?hR ?fin
              case hR =>
                refine allO_cons ?_ (allO_cons ?_ (allO_cons ?_ (allO_cons ?_ (allO_cons ?_ (allO_cons ?_ (allO_cons ?_ (allO_cons ?_ (allO_cons ?_ (allO_cons ?_ (allO_nil))))))))))
                · refine .val (by kernel_rfl) ?_
                  intro T w9 hG hD hO Q
                  have q0 := hO.1
                  have e0 : (oF 40 T).eval (.tmp 2) = .pointer (some ⟨w.heap.size, 0, none⟩) := (oF_eval (by decide)).trans (show T 2 = _ from q0)
                  refine og_none rfl ?_
                  have im := b1.kx hG (by simp)
                  have m0 := im.c (i := 0) rfl
                  have m1 := im.c (i := 1) rfl
                  have m2 := im.c (i := 2) rfl
                  have m3 := im.c (i := 3) rfl
                  have m4 := im.c (i := 4) rfl
                  have m5 := im.c (i := 5) rfl
                  have m6 := im.c (i := 6) rfl
                  have m7 := im.c (i := 7) rfl
                  have m8 := im.c (i := 8) rfl
                  clear im
                  exact o_val (v := .agg #[.string n, .int .i64 k, .int .i64 a, .int .i64 x, .int .i64 y, .int .i64 z, .int .i64 lo, .int .i64 hi, .slice fp fl fc]) (w' := w9) (by generalize (oF 40 T).eval = rr at *; simp [execOp, go_sem, e0, m0, m1, m2, m3, m4, m5, m6, m7, m8]) rfl rfl (Kb.refl _)
                · refine .val (by kernel_rfl) ?_
                  intro T w9 hG hD hO Q
                  have q0 := hO.1
                  have e0 : (oF 40 T).eval (.tmp 5) = .int .i64 (i : Int) := (oF_eval (by decide)).trans (show T 5 = _ from q0)
                  refine og_none rfl ?_
                  exact o_val (v := .int .i64 (i : Int)) (w' := w9) (by generalize (oF 40 T).eval = rr at *; simp [execOp, go_sem, e0]) rfl rfl (Kb.refl _)
                · refine .val (by kernel_rfl) ?_
                  intro T w9 hG hD hO Q
                  have d0 := hD.1
                  have d1 := hD.2.1
                  have e0 : (oF 40 T).eval (.func 57) = .func (.func 57) #[] #[] := rfl
                  have e1 : (oF 40 T).eval (.tmp 22) = .agg #[.string n, .int .i64 k, .int .i64 a, .int .i64 x, .int .i64 y, .int .i64 z, .int .i64 lo, .int .i64 hi, .slice fp fl fc] := (oF_eval (by decide)).trans (show T 22 = _ from d0)
                  have e2 : (oF 40 T).eval (.tmp 23) = .int .i64 (i : Int) := (oF_eval (by decide)).trans (show T 23 = _ from d1)
                  refine og_none rfl ?_
                  refine o_call (oc2 (enters_of Tryd.func57 (by kernel_rfl) rfl) rfl rfl e1 e2) rfl ?_
                  exact (Ca.o (qal i (by omega)) w9).mono fun r W' h => ⟨_, h.1, rfl, h.2⟩
                · refine .val (by kernel_rfl) ?_
                  intro T w9 hG hD hO Q
                  have q0 := hO.1
                  have e0 : (oF 40 T).eval (.tmp 3) = .pointer (some ⟨w.heap.size + 1, 0, none⟩) := (oF_eval (by decide)).trans (show T 3 = _ from q0)
                  refine og_none rfl ?_
                  have im := b2.kx hG (by simp)
                  have m0 := im.c (i := 0) rfl
                  have m1 := im.c (i := 1) rfl
                  have m2 := im.c (i := 2) rfl
                  have m3 := im.c (i := 3) rfl
                  have m4 := im.c (i := 4) rfl
                  have m5 := im.c (i := 5) rfl
                  have m6 := im.c (i := 6) rfl
                  have m7 := im.c (i := 7) rfl
                  have m8 := im.c (i := 8) rfl
                  clear im
                  exact o_val (v := .agg #[.string n2, .int .i64 k2, .int .i64 a2, .int .i64 x2, .int .i64 y2, .int .i64 z2, .int .i64 lo2, .int .i64 hi2, .slice fp2 fl2 fc2]) (w' := w9) (by generalize (oF 40 T).eval = rr at *; simp [execOp, go_sem, e0, m0, m1, m2, m3, m4, m5, m6, m7, m8]) rfl rfl (Kb.refl _)
                · refine .val (by kernel_rfl) ?_
                  intro T w9 hG hD hO Q
                  have q0 := hO.1
                  have e0 : (oF 40 T).eval (.tmp 5) = .int .i64 (i : Int) := (oF_eval (by decide)).trans (show T 5 = _ from q0)
                  refine og_none rfl ?_
                  exact o_val (v := .int .i64 (i : Int)) (w' := w9) (by generalize (oF 40 T).eval = rr at *; simp [execOp, go_sem, e0]) rfl rfl (Kb.refl _)
                · refine .val (by kernel_rfl) ?_
                  intro T w9 hG hD hO Q
                  have d0 := hD.1
                  have d1 := hD.2.1
                  have e0 : (oF 40 T).eval (.func 57) = .func (.func 57) #[] #[] := rfl
                  have e1 : (oF 40 T).eval (.tmp 25) = .agg #[.string n2, .int .i64 k2, .int .i64 a2, .int .i64 x2, .int .i64 y2, .int .i64 z2, .int .i64 lo2, .int .i64 hi2, .slice fp2 fl2 fc2] := (oF_eval (by decide)).trans (show T 25 = _ from d0)
                  have e2 : (oF 40 T).eval (.tmp 26) = .int .i64 (i : Int) := (oF_eval (by decide)).trans (show T 26 = _ from d1)
                  refine og_none rfl ?_
                  refine o_call (oc2 (enters_of Tryd.func57 (by kernel_rfl) rfl) rfl rfl e1 e2) rfl ?_
                  exact (Ca.o (qbl i (by omega)) w9).mono fun r W' h => ⟨_, h.1, rfl, h.2⟩
                · refine .alloc _ (.inl rfl) rfl rfl (fun T w9 => ?_) (fun _ _ => trivial)
                  simp [execOp, go_sem]
                · refine .alloc _ (.inr rfl) rfl rfl (fun T w9 => ?_) (fun _ _ => trivial)
                  simp [execOp, go_sem]
                · refine .store _ (.inl rfl) rfl rfl ?_ (fun _ _ => trivial)
                  intro T w9 g hD hO hT io
                  have d0 := hD.1
                  have d1 := hD.2.1
                  have e0 : (oF 40 T).eval (.tmp 6) = .pointer (some ⟨g, 0, none⟩) := (oF_eval (by decide)).trans hT
                  have e1 : (oF 40 T).eval (.tmp 24) = .agg #[.int .i64 (la i), .int .i64 (ha i)] := (oF_eval (by decide)).trans (show T 24 = _ from d1)
                  have zn := io
                  replace zn : Is (w9.setCell ⟨g, 0, none⟩ (.int .i64 (la i))) (g) #[.int .i64 (la i), .int .i64 0] 25 := zn.set 0 _
                  replace zn : Is ((w9.setCell ⟨g, 0, none⟩ (.int .i64 (la i))).setCell ⟨g, 1, none⟩ (.int .i64 (ha i))) (g) #[.int .i64 (la i), .int .i64 (ha i)] 25 := zn.set 1 _
                  have pt := (((Pt.refl g w9).set 0 (.int .i64 (la i))).set 1 (.int .i64 (ha i)))
                  have m0 := io.c (i := 0) rfl
                  have f0 := io.f 0
                  have m1 := io.c (i := 1) rfl
                  have f1 := io.f 1
                  clear io
                  exact ⟨_, (by generalize (oF 40 T).eval = rr at *; simp [execOp, go_sem, e0, e1, m0, f0, m1, f1] : _ = Result.ok Next.skip ((w9.setCell ⟨g, 0, none⟩ (.int .i64 (la i))).setCell ⟨g, 1, none⟩ (.int .i64 (ha i)))), zn, pt⟩
                · refine .store _ (.inr rfl) rfl rfl ?_ (fun _ _ => trivial)
                  intro T w9 g hD hO hT io
                  have d0 := hD.1
                  have d1 := hD.2.1
                  have e0 : (oF 40 T).eval (.tmp 7) = .pointer (some ⟨g, 0, none⟩) := (oF_eval (by decide)).trans hT
                  have e1 : (oF 40 T).eval (.tmp 27) = .agg #[.int .i64 (lb i), .int .i64 (hb i)] := (oF_eval (by decide)).trans (show T 27 = _ from d1)
                  have zn := io
                  replace zn : Is (w9.setCell ⟨g, 0, none⟩ (.int .i64 (lb i))) (g) #[.int .i64 (lb i), .int .i64 0] 25 := zn.set 0 _
                  replace zn : Is ((w9.setCell ⟨g, 0, none⟩ (.int .i64 (lb i))).setCell ⟨g, 1, none⟩ (.int .i64 (hb i))) (g) #[.int .i64 (lb i), .int .i64 (hb i)] 25 := zn.set 1 _
                  have pt := (((Pt.refl g w9).set 0 (.int .i64 (lb i))).set 1 (.int .i64 (hb i)))
                  have m0 := io.c (i := 0) rfl
                  have f0 := io.f 0
                  have m1 := io.c (i := 1) rfl
                  have f1 := io.f 1
                  clear io
                  exact ⟨_, (by generalize (oF 40 T).eval = rr at *; simp [execOp, go_sem, e0, e1, m0, f0, m1, f1] : _ = Result.ok Next.skip ((w9.setCell ⟨g, 0, none⟩ (.int .i64 (lb i))).setCell ⟨g, 1, none⟩ (.int .i64 (hb i)))), zn, pt⟩
              case fin =>
                intro T w3 hout hval hG hp hq hne
                have s3 := hG.2.2.2.1
                simp only [World.size_drew] at s3
                rw [show oF 40 T = (⟨#[T 0, T 1, T 2, T 3, T 4, T 5, T 6, T 7, T 8, T 9, T 10, T 11, T 12, T 13, T 14, T 15, T 16, T 17, T 18, T 19, T 20, T 21, T 22, T 23, T 24, T 25, T 26, T 27, T 28, T 29, T 30, T 31, T 32, T 33, T 34, T 35, T 36, T 37, T 38, T 39], []⟩ : Act) from oF_list 40 T]
                rw [show T 0 = .agg #[.string n, .int .i64 k, .int .i64 a, .int .i64 x, .int .i64 y, .int .i64 z, .int .i64 lo, .int .i64 hi, .slice fp fl fc] from hout 0 rfl]
                rw [show T 1 = .agg #[.string n2, .int .i64 k2, .int .i64 a2, .int .i64 x2, .int .i64 y2, .int .i64 z2, .int .i64 lo2, .int .i64 hi2, .slice fp2 fl2 fc2] from hout 1 rfl]
                rw [show T 2 = .pointer (some ⟨w.heap.size, 0, none⟩) from hout 2 rfl]
                rw [show T 3 = .pointer (some ⟨w.heap.size + 1, 0, none⟩) from hout 3 rfl]
                rw [show T 5 = .int .i64 (i : Int) from hout 5 rfl]
                rw [show T 8 = .int .i64 (i : Int) from hout 8 rfl]
                rw [show T 9 = .bool true from hout 9 rfl]
                rw [show T 12 = .agg #[.string n, .int .i64 k, .int .i64 a, .int .i64 x, .int .i64 y, .int .i64 z, .int .i64 lo, .int .i64 hi, .slice fp fl fc] from hout 12 rfl]
                rw [show T 13 = .int .i64 (i : Int) from hout 13 rfl]
                rw [show T 14 = .bool true from hout 14 rfl]
                rw [show T 15 = .bool false from hout 15 rfl]
                rw [show T 16 = .bool false from hout 16 rfl]
                rw [show T 17 = .agg #[.string n2, .int .i64 k2, .int .i64 a2, .int .i64 x2, .int .i64 y2, .int .i64 z2, .int .i64 lo2, .int .i64 hi2, .slice fp2 fl2 fc2] from hout 17 rfl]
                rw [show T 18 = .int .i64 (i : Int) from hout 18 rfl]
                rw [show T 19 = .bool true from hout 19 rfl]
                rw [show T 20 = .bool false from hout 20 rfl]
                rw [show T 21 = .bool false from hout 21 rfl]
                replace b1 := b1.kx hG (by simp)
                replace b2 := b2.kx hG (by simp)
                replace kx := (show Kb _ _ from kx.drew).trans hG.nil
                obtain ⟨g3x, eg3x, hg3x, b3⟩ := hp
                replace eg3x : T 6 = _ := eg3x
                rw [eg3x]
                obtain ⟨g3y, eg3y, hg3y, b4⟩ := hq
                replace eg3y : T 7 = _ := eg3y
                rw [eg3y]
                have d3 : g3x ≠ g3y := fun e => hne (show T 6 = T 7 by rw [eg3x, eg3y, e])
                clear hout hval hG hne eg3x eg3y
                have f19 := b3.c (i := 1) rfl
                have f20 := b4.c (i := 0) rfl
                have f21 := b4.c (i := 1) rfl
                have f22 := b3.c (i := 0) rfl
                go_wp2_with fail
                clear f19 f20 f21 f22
                have hqi := Hi.out
                go_roundg (gk - 1)
                case measure => omega
                case rel => exact ⟨i + 1, by go_num, by omega, Lib.hid (upto_succ Ei.out (by simp [apR, h2, h3, h4, h5])), b1, b2, kx⟩
        · skip
          have f1 := b1.c (i := 0) rfl
          have f2 := b1.c (i := 1) rfl
          have f3 := b1.c (i := 2) rfl
          have f4 := b1.c (i := 3) rfl
          have f5 := b1.c (i := 4) rfl
          have f6 := b1.c (i := 5) rfl
          have f7 := b1.c (i := 6) rfl
          have f8 := b1.c (i := 7) rfl
          have f9 := b1.c (i := 8) rfl
          go_wp2_with fail
          clear f1 f2 f3 f4 f5 f6 f7 f8 f9
          (with_reducible refine ((Ca.o (qa i (by omega)) _)).mono ?_)
          rintro r w1 ⟨rfl, k1⟩
          replace b1 := b1.kb k1
          replace b2 := b2.kb k1
          replace kx := kx.trans k1
          have s1 := k1.size
          skip
          clear k1
          have f10 := b2.c (i := 0) rfl
          have f11 := b2.c (i := 1) rfl
          have f12 := b2.c (i := 2) rfl
          have f13 := b2.c (i := 3) rfl
          have f14 := b2.c (i := 4) rfl
          have f15 := b2.c (i := 5) rfl
          have f16 := b2.c (i := 6) rfl
          have f17 := b2.c (i := 7) rfl
          have f18 := b2.c (i := 8) rfl
          go_wp2_with fail
          clear f10 f11 f12 f13 f14 f15 f16 f17 f18
          (with_reducible refine ((Ca.o (qb i (by omega)) _)).mono ?_)
          rintro r w2 ⟨rfl, k2⟩
          replace b1 := b1.kb k2
          replace b2 := b2.kb k2
          replace kx := kx.trans k2
          have s2 := k2.size
          skip
          clear k2
          go_wp2_with fail
          have hqi := Hi.out
          go_roundg (gk - 1)
          case measure => omega
          case rel => exact ⟨i + 1, by go_num, by omega, Lib.hid (upto_succ Ei.out (by simp [apR, h2, h3])), b1, b2, kx⟩
      · skip
        have f1 := b1.c (i := 0) rfl
        have f2 := b1.c (i := 1) rfl
        have f3 := b1.c (i := 2) rfl
        have f4 := b1.c (i := 3) rfl
        have f5 := b1.c (i := 4) rfl
        have f6 := b1.c (i := 5) rfl
        have f7 := b1.c (i := 6) rfl
        have f8 := b1.c (i := 7) rfl
        have f9 := b1.c (i := 8) rfl
        go_wp2_with fail
        clear f1 f2 f3 f4 f5 f6 f7 f8 f9
        (with_reducible refine ((Ca.o (qa i (by omega)) _)).mono ?_)
        rintro r w1 ⟨rfl, k1⟩
        replace b1 := b1.kb k1
        replace b2 := b2.kb k1
        replace kx := kx.trans k1
        have s1 := k1.size
        skip
        clear k1
        go_wp2_with fail
        have hqi := Hi.out
        go_roundg (gk - 1)
        case measure => omega
        case rel => exact ⟨i + 1, by go_num, by omega, Lib.hid (upto_succ Ei.out (by simp [apR, h2])), b1, b2, kx⟩
    · skip
      have h1n : ¬ i < 3 := by omega
      go_wp2
      go_ret
      exact ⟨by rw [any3_f (i := i) (by omega) Ei.out]; rfl, kx⟩
end Go.Proofs.YtgclljgdoonnmaaDoor
