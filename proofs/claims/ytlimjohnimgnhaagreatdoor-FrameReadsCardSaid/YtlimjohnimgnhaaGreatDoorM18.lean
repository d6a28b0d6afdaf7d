/- Texts Ud2: each says in its own first comment what it proves. -/
import Derived.Test.YtlimjohnimgnhaaGreatDoorM09
/- Frames: Check. -/
namespace Go.Proofs.YtlimjohnimgnhaaGreatDoor
open Go.RowKit

/-- a check that may be called only where A holds -/
def Ckc (A : Prop) (v : Value) (e : Int) (w : World) : Prop :=
  ∃ (F : Nat) (caps : Array Value), v = .func (.func F) #[] caps ∧ (∀ args W, (callFunc F args).run Tryz.prog W = .ok (.enter F args) W) ∧ (A → ∀ W, Kx [] w W → Calls Tryz.prog F caps W fun r W' => r = .returned (.int .i64 e) ∧ Kb W W')
theorem Ckc.kx {A : Prop} {v : Value} {e : Int} {w w' : World} (h : Ckc A v e w) (k : Kx [] w w') : Ckc A v e w' := by
  obtain ⟨F, caps, h1, h2, h3⟩ := h
  exact ⟨F, caps, h1, h2, fun hA W hW => h3 hA W (k.trans hW)⟩
theorem Ckc.ck {A : Prop} {v : Value} {e : Int} {w : World} (h : Ckc A v e w) (hA : A) : Ck [] v e w := by
  obtain ⟨F, caps, h1, h2, h3⟩ := h
  exact ⟨F, caps, h1, h2, h3 hA⟩
theorem one_cwF {w : World} {n : Nat} {x d : FrmT} {e : Int} (h : Cw w n #[valFrm x] (.int .i64 e)) : ∀ i, i < ([x] : List FrmT).length → Cw w n #[valFrm (([x] : List FrmT).getD i d)] (.int .i64 (([e] : List Int).getD i 0)) := fun i hi => by
  obtain rfl : i = 0 := by simpa using hi
  exact h
/-- a slice of checks, each of which may be called behind those before it alone -/
def SlD (es : List Int) (v : Value) (w : World) : Prop := ∃ fs : List Value, fs.length = es.length ∧ Sl [] 1 w v (fs.map fun x => [x]) ∧ ∀ i, i < es.length → (∀ j, j < i → es.getD j 0 = 0) → Ck [] (fs.getD i undef) (es.getD i 0) w
theorem SlD.kx {es : List Int} {v : Value} {w w' : World} (h : SlD es v w) (hk : Kx [] w w') : SlD es v w' := by
  obtain ⟨fs, h1, h2, h3⟩ := h
  exact ⟨fs, h1, h2.kx hk, fun i hi hz => (h3 i hi hz).kx hk⟩
theorem sld3 {w : World} {v1 v2 v3 : Value} {e1 e2 e3 : Int} (h1 : Ck [] v1 e1 w) (h2 : Ck [] v2 e2 w) (h3 : Ckc (e1 = 0 ∧ e2 = 0) v3 e3 w) : ∀ i, i < [e1, e2, e3].length → (∀ j, j < i → [e1, e2, e3].getD j 0 = 0) → Ck [] ([v1, v2, v3].getD i undef) ([e1, e2, e3].getD i 0) w := fun i hi hz => by
  have hi' : i < 3 := hi
  rcases (show i = 0 ∨ i = 1 ∨ i = 2 by omega) with rfl | rfl | rfl
  · exact h1
  · exact h2
  · exact h3.ck ⟨hz 0 (by omega), hz 1 (by omega)⟩
set_option maxRecDepth 100000 in
set_option maxHeartbeats 2000000 in
theorem cFirstD (es : List Int) (v : Value) (w : World) (h : SlD es v w) (hn : es.length ≤ 1000) : Calls Tryz.prog 39 #[v] w fun r W' => r = .returned (.int .i64 (firstE es)) ∧ Kb w W' := by
  obtain ⟨fs, hl, ⟨p, cap, hv, hs⟩, hc⟩ := h
  rw [List.length_map, hl] at hv hs
  rw [hv]
  have HS := Lib.hid hs
  have HC := Lib.hid hc
  have H0 : Hid (firstE es = firstE (es.drop 0)) := rfl
  generalize hN : es.length = n at *
  have HD := Lib.hid (fun k (hk : k < n) => firstE_drop (es := es) (k := k) (by omega))
  have HE : Hid (firstE (es.drop n) = 0) := by rw [List.drop_of_length_le (by omega)]; rfl
  have HL := Lib.hid hl
  have HN := Lib.hid hN
  clear hs hc hv hl hN
  go_enter Tryz.func39, Tryz.ntmps39
  go_wp2
  go_loopg [4, 5, 8] n (fun gk s4 s5 s8 wr => ∃ k : Nat, s8 = .int .i64 k ∧ k + gk = n ∧ Hid (firstE es = firstE (es.drop k)) ∧ Hid (∀ j, j < k → es.getD j 0 = 0) ∧ Kb w wr)
  case atStart => exact ⟨0, rfl, by omega, H0, Lib.hid (fun j hj => absurd hj (by omega)), Kb.refl _⟩
  case round =>
    obtain ⟨k, rfl, hk, hE, hZ, kk⟩ := hrel
    have hk0 : (0 : Int) ≤ (k : Int) := by omega
    by_cases hlt : k < n
    · obtain ⟨b, off, rfl, hb, hbL, hcell⟩ := HS.out (by omega)
      have hx := kk.cell (hcell k hlt 0 (by omega))
      rw [Nat.mul_one, Nat.add_zero] at hx
      have hfk : ((fs.map fun x => [x]).getD k []).getD 0 undef = fs.getD k undef := by
        have : k < fs.length := by rw [HL.out]; exact hlt
        simp [List.getD_eq_getElem?_getD, this]
      rw [hfk] at hx
      obtain ⟨F, caps, hf, he, hcal⟩ := HC.out k (by omega) hZ.out
      rw [hf] at hx
      have hD := HD.out k hlt
      have hcal2 := Lib.hid (hcal wr kk.kx)
      have hZ2 : es.getD k 0 = 0 → Hid (∀ j, j < k + 1 → es.getD j 0 = 0) := fun h0 => Lib.hid fun j hj => by
        rcases Nat.lt_or_ge j k with h | h
        · exact hZ.out j h
        · obtain rfl : j = k := by omega
          exact h0
      generalize es.getD k 0 = e at hcal2 hD hZ2 hx hcal
      have Hk := Lib.hid hk
      clear hcell hfk hf hcal
      by_cases h0 : e = 0
      · have hE2 : Hid (firstE es = firstE (es.drop (k + 1))) := hE.out.trans (hD.trans (if_pos h0))
        have hZ3 := hZ2 h0
        subst h0
        clear hD hE hk hZ hZ2
        go_wp2_with (go_at_fn F; (with_reducible refine (hcal2.out).mono ?_); rintro r w1 ⟨rfl, k1⟩)
        have hk := Hk.out
        go_roundg (gk - 1)
        case measure => omega
        case rel => exact ⟨k + 1, by go_num, by omega, hE2, hZ3, kk.trans k1⟩
      · have hE2 : Hid (firstE es = e) := hE.out.trans (hD.trans (if_neg h0))
        have hne : (e != 0) = true := by simpa using h0
        clear hD hE hk h0 hZ hZ2
        go_wp2_with (go_at_fn F; (with_reducible refine (hcal2.out).mono ?_); rintro r w1 ⟨rfl, k1⟩)
        go_ret
        exact ⟨by rw [hE2.out]; rfl, kk.trans k1⟩
    · obtain rfl : k = n := by omega
      have hE2 : Hid (firstE es = 0) := hE.out.trans HE.out
      clear hk hE HE hZ
      go_wp2
      go_ret
      exact ⟨by rw [hE2.out]; rfl, kk⟩


set_option maxRecDepth 100000 in
set_option maxHeartbeats 4000000 in
theorem fChk1_1 (w0 : World) (n : ByteArray) (k : Int) (a : Int) (x : Int) (y : Int) (z : Int) (lo : Int) (hi : Int) (fp : Option Addr) (fl : Nat) (fc : Nat) (fk : Int) (fd : Bool) (ft : Int) (fm : Int) (dp : Option Addr) (dl : Nat) (dc : Nat) (b : Nat) (c : Nat) (r1 : Int)   (q1 : Cf w0 44 #[.agg #[.string n, .int .i64 k, .int .i64 a, .int .i64 x, .int .i64 y, .int .i64 z, .int .i64 lo, .int .i64 hi, .slice fp fl fc], .agg #[.int .i64 fk, .bool fd, .int .i64 ft, .int .i64 fm, .slice dp dl dc]] (.int .i64 r1)) (w : World) (gl : Gf w0 w) (b0 : Is w b #[.string n, .int .i64 k, .int .i64 a, .int .i64 x, .int .i64 y, .int .i64 z, .int .i64 lo, .int .i64 hi, .slice fp fl fc] 28) (c0 : Is w c #[.int .i64 fk, .bool fd, .int .i64 ft, .int .i64 fm, .slice dp dl dc] 31)  : Calls Tryz.prog 43 #[.pointer (some ⟨b, 0, none⟩), .pointer (some ⟨c, 0, none⟩)] w fun r W' => r = .returned (.int .i64 r1) ∧ Kb w W' := by
  have kx := Kb.refl w
  unfold Cf at q1
  have gl0 := Lib.hid gl
  have f1 := b0.c (i := 0) rfl
  have f2 := b0.c (i := 1) rfl
  have f3 := b0.c (i := 2) rfl
  have f4 := b0.c (i := 3) rfl
  have f5 := b0.c (i := 4) rfl
  have f6 := b0.c (i := 5) rfl
  have f7 := b0.c (i := 6) rfl
  have f8 := b0.c (i := 7) rfl
  have f9 := b0.c (i := 8) rfl
  have f10 := c0.c (i := 0) rfl
  have f11 := c0.c (i := 1) rfl
  have f12 := c0.c (i := 2) rfl
  have f13 := c0.c (i := 3) rfl
  have f14 := c0.c (i := 4) rfl
  go_enter Tryz.func43, Tryz.ntmps43
  go_wp2_with fail
  clear f1 f2 f3 f4 f5 f6 f7 f8 f9 f10 f11 f12 f13 f14
  (with_reducible refine ((q1.out _ gl)).mono ?_)
  rintro r w1 ⟨rfl, k1⟩
  replace b0 := b0.kb k1
  replace c0 := c0.kb k1
  replace gl := gl.kb k1
  replace kx := kx.trans k1
  have s1 := k1.size
  skip
  clear k1
  go_wp2
  go_ret
  exact ⟨rfl, kx⟩
theorem ckTog {A : Prop} {w0 w : World} {n : ByteArray} {k : Int} {a : Int} {x : Int} {y : Int} {z : Int} {lo : Int} {hi : Int} {fp : Option Addr} {fl : Nat} {fc : Nat} {fk : Int} {fd : Bool} {ft : Int} {fm : Int} {dp : Option Addr} {dl : Nat} {dc : Nat} {b c : Nat} {e : Int} (gl : Gf w0 w) (is : Is w b #[.string n, .int .i64 k, .int .i64 a, .int .i64 x, .int .i64 y, .int .i64 z, .int .i64 lo, .int .i64 hi, .slice fp fl fc] 28) (it : Is w c #[.int .i64 fk, .bool fd, .int .i64 ft, .int .i64 fm, .slice dp dl dc] 31) (q : A → Cf w0 44 #[.agg #[.string n, .int .i64 k, .int .i64 a, .int .i64 x, .int .i64 y, .int .i64 z, .int .i64 lo, .int .i64 hi, .slice fp fl fc], .agg #[.int .i64 fk, .bool fd, .int .i64 ft, .int .i64 fm, .slice dp dl dc]] (.int .i64 e)) : Ckc A (.func (.func 43) #[] #[.pointer (some ⟨b, 0, none⟩), .pointer (some ⟨c, 0, none⟩)]) e w :=
  ⟨_, _, rfl, enters_of Tryz.func43 (by kernel_rfl) rfl, fun hA W hW => fChk1_1 w0 n k a x y z lo hi fp fl fc fk fd ft fm dp dl dc b c e (q hA) W (gl.kx hW) (is.kx hW (by simp)) (it.kx hW (by simp))⟩
set_option maxRecDepth 100000 in
set_option maxHeartbeats 4000000 in
theorem fCheckF_1 (w0 : World) (n : ByteArray) (k : Int) (a : Int) (x : Int) (y : Int) (z : Int) (lo : Int) (hi : Int) (fp : Option Addr) (fl : Nat) (fc : Nat) (fk : Int) (fd : Bool) (ft : Int) (fm : Int) (dp : Option Addr) (dl : Nat) (dc : Nat) (eb : Int) (ec : Int) (ea : Int)   (q1 : Ca 41 #[.agg #[.string n, .int .i64 k, .int .i64 a, .int .i64 x, .int .i64 y, .int .i64 z, .int .i64 lo, .int .i64 hi, .slice fp fl fc]] (.int .i64 ea)) (q2 : Cf w0 15 #[.agg #[.int .i64 fk, .bool fd, .int .i64 ft, .int .i64 fm, .slice dp dl dc]] (.int .i64 eb)) (q3 : firstE [ea] = 0 ∧ firstE [eb] = 0 → Cf w0 44 #[.agg #[.string n, .int .i64 k, .int .i64 a, .int .i64 x, .int .i64 y, .int .i64 z, .int .i64 lo, .int .i64 hi, .slice fp fl fc], .agg #[.int .i64 fk, .bool fd, .int .i64 ft, .int .i64 fm, .slice dp dl dc]] (.int .i64 ec)) (w : World) (gl : Gf w0 w)  : Calls Tryz.prog 13 #[.agg #[.string n, .int .i64 k, .int .i64 a, .int .i64 x, .int .i64 y, .int .i64 z, .int .i64 lo, .int .i64 hi, .slice fp fl fc], .agg #[.int .i64 fk, .bool fd, .int .i64 ft, .int .i64 fm, .slice dp dl dc]] w fun r W' => r = .returned (.int .i64 (firstE [firstE [ea], firstE [eb], ec])) ∧ Kb w W' := by
  have kx := Kb.refl w
  unfold Ca at q1
  have gl0 := Lib.hid gl
  go_enter Tryz.func13, Tryz.ntmps13
  go_wp2_with fail
  have b1 := Is.made w #[.string n, .int .i64 k, .int .i64 a, .int .i64 x, .int .i64 y, .int .i64 z, .int .i64 lo, .int .i64 hi, .slice fp fl fc] 28
  replace b1 := (b1.alloc (.cells #[.int .i64 fk, .bool fd, .int .i64 ft, .int .i64 fm, .slice dp dl dc] 31 (0, 0)))
  have b2 := Is.made (w.alloc (.cells #[.string n, .int .i64 k, .int .i64 a, .int .i64 x, .int .i64 y, .int .i64 z, .int .i64 lo, .int .i64 hi, .slice fp fl fc] 28 (0, 0))) #[.int .i64 fk, .bool fd, .int .i64 ft, .int .i64 fm, .slice dp dl dc] 31
  simp only [World.size_alloc] at b2
  replace kx := (kx.alloc (.cells #[.string n, .int .i64 k, .int .i64 a, .int .i64 x, .int .i64 y, .int .i64 z, .int .i64 lo, .int .i64 hi, .slice fp fl fc] 28 (0, 0))).alloc (.cells #[.int .i64 fk, .bool fd, .int .i64 ft, .int .i64 fm, .slice dp dl dc] 31 (0, 0))
  replace gl := gl0.out.kb kx
  replace gl := gl.drew
  replace b1 := b1.drew
  replace b2 := b2.drew
  rw [oF_lit]
  refine o_law (⟨14, [some 5, some 6, some 7, some 8, some 9, some 10, some 11, some 12, some 13, some 4], [5, 6, 7, 8, 9, 10, 11, 12, 13, 4], [[], [0], [1], [], [3], [4], [], [2, 5, 6], [7], [8]], [[2], [], [], [3], [], [], [2, 3], [], [], []]⟩ : OT) (Kx []) (RL [fun vv _ => vv = .agg #[.string n, .int .i64 k, .int .i64 a, .int .i64 x, .int .i64 y, .int .i64 z, .int .i64 lo, .int .i64 hi, .slice fp fl fc], fun vv ww => Sl [] 9 ww vv [[.string n, .int .i64 k, .int .i64 a, .int .i64 x, .int .i64 y, .int .i64 z, .int .i64 lo, .int .i64 hi, .slice fp fl fc]], fun vv ww => Ck [] vv (firstE [ea]) ww, fun vv _ => vv = .agg #[.int .i64 fk, .bool fd, .int .i64 ft, .int .i64 fm, .slice dp dl dc], fun vv ww => Sl [] 5 ww vv [[.int .i64 fk, .bool fd, .int .i64 ft, .int .i64 fm, .slice dp dl dc]], fun vv ww => Ck [] vv (firstE [eb]) ww, fun vv ww => Ckc (firstE [ea] = 0 ∧ firstE [eb] = 0) vv ec ww, fun vv ww => SlD [firstE [ea], firstE [eb], ec] vv ww, fun vv _ => vv = .int .i64 (firstE [firstE [ea], firstE [eb], ec]), fun vv _ => vv = .int .i64 (firstE [firstE [ea], firstE [eb], ec])]) (by kernel_rfl) ?hk ?hR ?fin
  case hk => kernel_rfl
  case hR =>
    refine ⟨fun _ => (Kx.refl _ _), fun _ _ _ => Kx.trans, rl_stab ⟨fun _ _ _ _ h => h, (fun v w w' k h => h.kx k), (fun v w w' k h => h.kx k), fun _ _ _ _ h => h, (fun v w w' k h => h.kx k), (fun v w w' k h => h.kx k), (fun v w w' k h => h.kx k), (fun v w w' k h => h.kx k), fun _ _ _ _ h => h, fun _ _ _ _ h => h, trivial⟩, ?_⟩
    refine allO_cons ?_ (allO_cons ?_ (allO_cons ?_ (allO_cons ?_ (allO_cons ?_ (allO_cons ?_ (allO_cons ?_ (allO_cons ?_ (allO_cons ?_ (allO_cons ?_ (allO_nil))))))))))
    · intro T w9 hG hD hO Q
      have q0 := hO.1
      have e0 : (oF 14 T).eval (.tmp 2) = .pointer (some ⟨w.heap.size, 0, none⟩) := (oF_eval (by decide)).trans (show T 2 = _ from q0)
      refine og_none rfl ?_
      have im := b1.kx hG (by simp)
      have m0 := im.c (i := 0) rfl
      have m1 := im.c (i := 1) rfl
      have m2 := im.c (i := 2) rfl
      have m3 := im.c (i := 3) rfl
      have m4 := im.c (i := 4) rfl
      have m5 := im.c (i := 5) rfl
      have m6 := im.c (i := 6) rfl
      have m7 := im.c (i := 7) rfl
      have m8 := im.c (i := 8) rfl
      clear im
      exact o_val (v := .agg #[.string n, .int .i64 k, .int .i64 a, .int .i64 x, .int .i64 y, .int .i64 z, .int .i64 lo, .int .i64 hi, .slice fp fl fc]) (w' := w9) (by generalize (oF 14 T).eval = rr at *; simp [execOp, go_sem, e0, m0, m1, m2, m3, m4, m5, m6, m7, m8]) rfl rfl (Kx.refl _ _)
    · intro T w9 hG hD hO Q
      have d0 := hD.1
      have e0 : (oF 14 T).eval (.tmp 5) = .agg #[.string n, .int .i64 k, .int .i64 a, .int .i64 x, .int .i64 y, .int .i64 z, .int .i64 lo, .int .i64 hi, .slice fp fl fc] := (oF_eval (by decide)).trans (show T 5 = _ from d0)
      refine og_none rfl ?_
      have kz : Kb w9 (w9.alloc (.cells #[.string n, .int .i64 k, .int .i64 a, .int .i64 x, .int .i64 y, .int .i64 z, .int .i64 lo, .int .i64 hi, .slice fp fl fc] 28 (0, 0))) := (Kb.refl w9).alloc _
      exact o_val (v := .slice (some ⟨w9.heap.size, 0, none⟩) 1 1) (w' := w9.alloc (.cells #[.string n, .int .i64 k, .int .i64 a, .int .i64 x, .int .i64 y, .int .i64 z, .int .i64 lo, .int .i64 hi, .slice fp fl fc] 28 (0, 0))) (by generalize (oF 14 T).eval = rr at *; simp [execOp, go_sem, e0]) rfl (sl_is (Is.made w9 _ _) (by simp) rfl (rows_ok rfl rfl)) kz.kx
    · intro T w9 hG hD hO Q
      have d0 := hD.1
      have e0 : (oF 14 T).eval (.func 40) = .func (.func 40) #[] #[] := rfl
      have e1 : (oF 14 T).eval (.func 41) = .func (.func 41) #[] #[] := rfl
      have e2 : (oF 14 T).eval (.tmp 6) = T 6 := oF_eval (by decide)
      have p2 : (fun vv ww => Sl [] 9 ww vv [[.string n, .int .i64 k, .int .i64 a, .int .i64 x, .int .i64 y, .int .i64 z, .int .i64 lo, .int .i64 hi, .slice fp fl fc]]) (T 6) w9 := d0
      refine og_none rfl ?_
      refine o_call (oc2 (enters_of Tryz.func40 (by kernel_rfl) rfl) rfl rfl e1 e2) rfl ?_
      exact (cEach_Ftr [] _ (⟨#[]⟩, 0, 0, 0, 0, 0, 0, 0, none, 0, 0) [(n, k, a, x, y, z, lo, hi, fp, fl, fc)] [ea] _ w9 (by simp) (by simp) rfl p2 (enters_of Tryz.func41 (by kernel_rfl) rfl) (each_ok ⟨q1, trivial⟩ rfl)).mono fun r W' ⟨v, h1, h2, h3⟩ => ⟨v, h1, h2, h3.kx⟩
    · intro T w9 hG hD hO Q
      have q0 := hO.1
      have e0 : (oF 14 T).eval (.tmp 3) = .pointer (some ⟨w.heap.size + 1, 0, none⟩) := (oF_eval (by decide)).trans (show T 3 = _ from q0)
      refine og_none rfl ?_
      have im := b2.kx hG (by simp)
      have m0 := im.c (i := 0) rfl
      have m1 := im.c (i := 1) rfl
      have m2 := im.c (i := 2) rfl
      have m3 := im.c (i := 3) rfl
      have m4 := im.c (i := 4) rfl
      clear im
      exact o_val (v := .agg #[.int .i64 fk, .bool fd, .int .i64 ft, .int .i64 fm, .slice dp dl dc]) (w' := w9) (by generalize (oF 14 T).eval = rr at *; simp [execOp, go_sem, e0, m0, m1, m2, m3, m4]) rfl rfl (Kx.refl _ _)
    · intro T w9 hG hD hO Q
      have d0 := hD.1
      have e0 : (oF 14 T).eval (.tmp 8) = .agg #[.int .i64 fk, .bool fd, .int .i64 ft, .int .i64 fm, .slice dp dl dc] := (oF_eval (by decide)).trans (show T 8 = _ from d0)
      refine og_none rfl ?_
      have kz : Kb w9 (w9.alloc (.cells #[.int .i64 fk, .bool fd, .int .i64 ft, .int .i64 fm, .slice dp dl dc] 31 (0, 0))) := (Kb.refl w9).alloc _
      exact o_val (v := .slice (some ⟨w9.heap.size, 0, none⟩) 1 1) (w' := w9.alloc (.cells #[.int .i64 fk, .bool fd, .int .i64 ft, .int .i64 fm, .slice dp dl dc] 31 (0, 0))) (by generalize (oF 14 T).eval = rr at *; simp [execOp, go_sem, e0]) rfl (sl_is (Is.made w9 _ _) (by simp) rfl (rows_ok rfl rfl)) kz.kx
    · intro T w9 hG hD hO Q
      have d0 := hD.1
      have e0 : (oF 14 T).eval (.func 42) = .func (.func 42) #[] #[] := rfl
      have e1 : (oF 14 T).eval (.func 15) = .func (.func 15) #[] #[] := rfl
      have e2 : (oF 14 T).eval (.tmp 9) = T 9 := oF_eval (by decide)
      have p2 : (fun vv ww => Sl [] 5 ww vv [[.int .i64 fk, .bool fd, .int .i64 ft, .int .i64 fm, .slice dp dl dc]]) (T 9) w9 := d0
      refine og_none rfl ?_
      refine o_call (oc2 (enters_of Tryz.func42 (by kernel_rfl) rfl) rfl rfl e1 e2) rfl ?_
      exact (cEach_Frm _ (0, false, 0, 0, none, 0, 0) [(fk, fd, ft, fm, dp, dl, dc)] [eb] _ w9 (by simp) rfl p2 (enters_of Tryz.func15 (by kernel_rfl) rfl) (one_cwF (q2.cw (gl.kx hG)))).mono fun r W' ⟨v, h1, h2, h3⟩ => ⟨v, h1, h2, h3.kx⟩
    · intro T w9 hG hD hO Q
      have q0 := hO.1
      have q1 := hO.2.1
      have e0 : (oF 14 T).eval (.tmp 2) = .pointer (some ⟨w.heap.size, 0, none⟩) := (oF_eval (by decide)).trans (show T 2 = _ from q0)
      have e1 : (oF 14 T).eval (.tmp 3) = .pointer (some ⟨w.heap.size + 1, 0, none⟩) := (oF_eval (by decide)).trans (show T 3 = _ from q1)
      refine og_none rfl ?_
      have im := b1.kx hG (by simp)
      have in_ := b2.kx hG (by simp)
      exact o_val (v := .func (.func 43) #[] #[.pointer (some ⟨w.heap.size, 0, none⟩), .pointer (some ⟨w.heap.size + 1, 0, none⟩)]) (w' := w9) (by generalize (oF 14 T).eval = rr at *; simp [execOp, go_sem, e0, e1]) rfl (ckTog (gl.kx hG) im in_ q3) (Kx.refl _ _)
    · intro T w9 hG hD hO Q
      have d0 := hD.1
      have d1 := hD.2.1
      have d2 := hD.2.2.1
      have e0 : (oF 14 T).eval (.tmp 7) = T 7 := oF_eval (by decide)
      have p0 : (fun vv ww => Ck [] vv (firstE [ea]) ww) (T 7) w9 := d0
      have e1 : (oF 14 T).eval (.tmp 10) = T 10 := oF_eval (by decide)
      have p1 : (fun vv ww => Ck [] vv (firstE [eb]) ww) (T 10) w9 := d1
      have e2 : (oF 14 T).eval (.tmp 11) = T 11 := oF_eval (by decide)
      have p2 : (fun vv ww => Ckc (firstE [ea] = 0 ∧ firstE [eb] = 0) vv ec ww) (T 11) w9 := d2
      refine og_none rfl ?_
      obtain ⟨F0, c0, f0, g0, h0⟩ := p0
      obtain ⟨F1, c1, f1, g1, h1⟩ := p1
      obtain ⟨F2, c2, f2, g2, h2⟩ := p2
      rw [f0] at e0
      rw [f1] at e1
      rw [f2] at e2
      have kz : Kb w9 (w9.alloc (.cells #[.func (.func F0) #[] c0, .func (.func F1) #[] c1, .func (.func F2) #[] c2] 80 (0, 0))) := (Kb.refl w9).alloc _
      exact o_val (v := .slice (some ⟨w9.heap.size, 0, none⟩) 3 3) (w' := w9.alloc (.cells #[.func (.func F0) #[] c0, .func (.func F1) #[] c1, .func (.func F2) #[] c2] 80 (0, 0))) (by generalize (oF 14 T).eval = rr at *; simp [execOp, go_sem, e0, e1, e2]) rfl ⟨[.func (.func F0) #[] c0, .func (.func F1) #[] c1, .func (.func F2) #[] c2], rfl, sl_is (Is.made w9 _ _) (by simp) rfl (rows_ok rfl rfl), sld3 (Ck.kx ⟨F0, c0, rfl, g0, h0⟩ kz.kx) (Ck.kx ⟨F1, c1, rfl, g1, h1⟩ kz.kx) (Ckc.kx ⟨F2, c2, rfl, g2, h2⟩ kz.kx)⟩ kz.kx
    · intro T w9 hG hD hO Q
      have d0 := hD.1
      have e0 : (oF 14 T).eval (.func 39) = .func (.func 39) #[] #[] := rfl
      have e1 : (oF 14 T).eval (.tmp 12) = T 12 := oF_eval (by decide)
      have p1 : (fun vv ww => SlD [firstE [ea], firstE [eb], ec] vv ww) (T 12) w9 := d0
      refine og_none rfl ?_
      refine o_call (oc1 (enters_of Tryz.func39 (by kernel_rfl) rfl) rfl rfl e1) rfl ?_
      exact (cFirstD _ _ w9 p1 (by simp)).mono fun r W' h => ⟨_, h.1, rfl, h.2.kx⟩
    · intro T w9 hG hD hO Q
      have d0 := hD.1
      have e0 : (oF 14 T).eval (.tmp 13) = .int .i64 (firstE [firstE [ea], firstE [eb], ec]) := (oF_eval (by decide)).trans (show T 13 = _ from d0)
      refine og_none rfl ?_
      exact o_val (v := .int .i64 (firstE [firstE [ea], firstE [eb], ec])) (w' := w9) (by generalize (oF 14 T).eval = rr at *; simp [execOp, go_sem, e0]) rfl rfl (Kx.refl _ _)
  case fin =>
    intro T w1 hout hval hG
    have s1 := hG.2.2.2.1
    simp only [World.size_drew, World.size_alloc] at s1
    rw [show oF 14 T = (⟨#[T 0, T 1, T 2, T 3, T 4, T 5, T 6, T 7, T 8, T 9, T 10, T 11, T 12, T 13], []⟩ : Act) from oF_list 14 T]
    rw [show T 0 = .agg #[.string n, .int .i64 k, .int .i64 a, .int .i64 x, .int .i64 y, .int .i64 z, .int .i64 lo, .int .i64 hi, .slice fp fl fc] from hout 0 rfl]
    rw [show T 1 = .agg #[.int .i64 fk, .bool fd, .int .i64 ft, .int .i64 fm, .slice dp dl dc] from hout 1 rfl]
    rw [show T 4 = .int .i64 (firstE [firstE [ea], firstE [eb], ec]) from hval 9 (by decide : 9 < 10)]
    replace b1 := b1.kx hG (by simp)
    replace b2 := b2.kx hG (by simp)
    replace kx := (show Kb _ _ from kx.drew).trans hG.nil
    replace gl := gl0.out.kb kx
    clear hout hval hG
    go_wp2
    go_ret
    exact ⟨rfl, kx⟩
end Go.Proofs.YtlimjohnimgnhaaGreatDoor
