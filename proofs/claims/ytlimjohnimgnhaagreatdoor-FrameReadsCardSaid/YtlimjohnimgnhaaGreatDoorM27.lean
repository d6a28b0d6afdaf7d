/- Texts Od1: each says in its own first comment what it proves. -/
import Derived.Test.YtlimjohnimgnhaaGreatDoorM39
import Derived.Laws.EntriesVeiled
/- Package dimension: limits. -/
namespace Go.Proofs.YtlimjohnimgnhaaGreatDoor
open Go.RowKit

/-- all are lengths -/
def inR (z : Int) : Bool := decide (-100000 ≤ z) && decide (z ≤ 100000)
def inAll (l : List Int) : Bool := l.all inR
theorem firstE_one (e : Int) : firstE [e] = e := by
  unfold firstE
  split
  · rename_i h; rw [h]; rfl
  · rfl
def lmE (l h : Int) : Int := firstE [fE (!inAll [l, h]) 2, fE (decide (h < l)) 9]
theorem inAll_drop {xs : List Int} {k : Nat} (h : k < xs.length) : inAll (xs.drop k) = (inR (xs.getD k 0) && inAll (xs.drop (k + 1))) := by
  rw [List.drop_eq_getElem_cons h, inAll, List.all_cons, List.getD_eq_getElem?_getD, List.getElem?_eq_getElem h]
  rfl
set_option maxRecDepth 100000 in
set_option maxHeartbeats 1000000 in
theorem dlengths (xs : List Int) (v : Value) (w : World) (h : Sl [] 1 w v (xs.map fun z => [.int .i64 z])) (hn : xs.length ≤ 1000) : Calls Tryz.prog 130 #[v] w fun r W' => r = .returned (.bool (inAll xs)) ∧ Kb w W' := by
  obtain ⟨p, cap, hv, hs⟩ := h
  rw [List.length_map] at hv hs
  rw [hv]
  have HS := Lib.hid hs
  have H0 : Hid (inAll xs = inAll (xs.drop 0)) := rfl
  have HX := Lib.hid (fun k (hk : k < xs.length) => show ((xs.map fun z => [Value.int .i64 z]).getD k []).getD 0 undef = .int .i64 (xs.getD k 0) by simp [List.getD_eq_getElem?_getD, hk])
  generalize hN : xs.length = n at *
  have HD := Lib.hid (fun k (hk : k < n) => inAll_drop (xs := xs) (k := k) (by omega))
  have HE : Hid (inAll (xs.drop n) = true) := by rw [List.drop_of_length_le (by omega)]; rfl
  clear hs hv hN
  go_enter Tryz.func130, Tryz.ntmps130
  go_wp2
  go_loopg [4, 7] n (fun gk s4 s7 wr => ∃ k : Nat, s7 = .int .i64 k ∧ k + gk = n ∧ Hid (inAll xs = inAll (xs.drop k)) ∧ w = wr)
  case atStart => exact ⟨0, rfl, by omega, H0, rfl⟩
  case round =>
    obtain ⟨k, rfl, hk, hE, rfl⟩ := hrel
    have hk0 : (0 : Int) ≤ (k : Int) := by omega
    by_cases hlt : k < n
    · obtain ⟨b, off, rfl, hb, hbL, hcell⟩ := HS.out (by omega)
      have hx := hcell k hlt 0 (by omega)
      rw [HX.out k hlt, Nat.mul_one, Nat.add_zero] at hx
      have hD := HD.out k hlt
      generalize xs.getD k 0 = z at *
      have Hk := Lib.hid hk
      clear hcell
      by_cases h1 : z < -100000
      · have hE2 : Hid (inAll xs = false) := hE.out.trans (hD.trans (by unfold inR; rw [decide_eq_false (by omega)]; rfl))
        clear hD hE hk
        go_wp2
        go_ret
        exact ⟨by rw [hE2.out]; rfl, Kb.refl _⟩
      · by_cases h2 : 100000 < z
        · have hE2 : Hid (inAll xs = false) := hE.out.trans (hD.trans (by unfold inR; rw [decide_eq_false (show ¬ z ≤ 100000 by omega), Bool.and_false]; rfl))
          clear hD hE hk
          go_wp2
          go_ret
          exact ⟨by rw [hE2.out]; rfl, Kb.refl _⟩
        · have hE2 : Hid (inAll xs = inAll (xs.drop (k + 1))) := hE.out.trans (hD.trans (by unfold inR; rw [decide_eq_true (by omega), decide_eq_true (by omega)]; rfl))
          clear hD hE hk
          go_wp2
          have hk := Hk.out
          go_roundg (gk - 1)
          case measure => omega
          case rel => exact ⟨k + 1, by go_num, by omega, hE2, rfl⟩
    · obtain rfl : k = n := by omega
      have hE2 : Hid (inAll xs = true) := hE.out.trans HE.out
      clear hk hE HE
      go_wp2
      go_ret
      exact ⟨by rw [hE2.out]; rfl, Kb.refl _⟩

set_option maxRecDepth 100000 in
set_option maxHeartbeats 1000000 in
theorem dCheck_any (l h : Int) (w : World) : Calls Tryz.prog 105 #[.agg #[.int .i64 l, .int .i64 h]] w fun r W' => r = .returned (.int .i64 (lmE l h)) ∧ Kb w W' := by
  have k0 := (Kb.refl w).alloc (.cells #[.int .i64 l, .int .i64 h] 25 (0, 0))
  have b0 : Is (World.drew (w.alloc (.cells #[.int .i64 l, .int .i64 h] 25 (0, 0)))) w.heap.size #[.int .i64 l, .int .i64 h] 25 := Is.made w _ _
  have hL : ∀ x ∈ ([] : List Nat), x < (w.alloc (.cells #[.int .i64 l, .int .i64 h] 25 (0, 0))).heap.size := by simp
  go_enter Tryz.func105, Tryz.ntmps105
  go_wp2_with fail
  rw [oF_lit]
  refine o_law (⟨19, [some 3, some 4, some 5, some 6, some 7, some 8, some 9, some 10, some 11, some 12, some 13, some 14, some 15, some 16, some 17, some 18, some 2], [3, 4, 5, 6, 7, 8, 9, 10, 11, 12, 13, 14, 15, 16, 17, 18, 2], [[], [0], [], [2], [1, 3], [4], [5], [6], [], [8], [], [10], [9, 11], [12], [7, 13], [14], [15]], [[1], [], [1], [], [], [], [], [], [1], [], [1], [], [], [], [], [], []]⟩ : OT) (Kx []) (RL [fun vv _ => vv = .pointer (some ⟨w.heap.size, 0, none⟩), fun vv _ => vv = .int .i64 l, fun vv _ => vv = .pointer (some ⟨w.heap.size, 1, none⟩), fun vv _ => vv = .int .i64 h, fun vv ww => Sl [] 1 ww vv [[.int .i64 l], [.int .i64 h]], fun vv _ => vv = .bool (inAll [l, h]), fun vv _ => vv = .bool (!(inAll [l, h])), fun vv ww => Ck [] vv (fE (!inAll [l, h]) 2) ww, fun vv _ => vv = .pointer (some ⟨w.heap.size, 0, none⟩), fun vv _ => vv = .int .i64 l, fun vv _ => vv = .pointer (some ⟨w.heap.size, 1, none⟩), fun vv _ => vv = .int .i64 h, fun vv _ => vv = .bool (decide (h < l)), fun vv ww => Ck [] vv (fE (decide (h < l)) 9) ww, fun vv ww => SlC [] [fE (!inAll [l, h]) 2, fE (decide (h < l)) 9] vv ww, fun vv _ => vv = .int .i64 (firstE [fE (!inAll [l, h]) 2, fE (decide (h < l)) 9]), fun vv _ => vv = .int .i64 (firstE [fE (!inAll [l, h]) 2, fE (decide (h < l)) 9])]) (by kernel_rfl) ?hk ?hR ?fin
  case hk => kernel_rfl
  case hR =>
    refine ⟨fun _ => (Kx.refl _ _), fun _ _ _ => Kx.trans, rl_stab ⟨fun _ _ _ _ h => h, fun _ _ _ _ h => h, fun _ _ _ _ h => h, fun _ _ _ _ h => h, (fun v w w' k h => h.kx k), fun _ _ _ _ h => h, fun _ _ _ _ h => h, (fun v w w' k h => h.kx k), fun _ _ _ _ h => h, fun _ _ _ _ h => h, fun _ _ _ _ h => h, fun _ _ _ _ h => h, fun _ _ _ _ h => h, (fun v w w' k h => h.kx k), (fun v w w' k h => h.kx k), fun _ _ _ _ h => h, fun _ _ _ _ h => h, trivial⟩, ?_⟩
    refine allO_cons ?_ (allO_cons ?_ (allO_cons ?_ (allO_cons ?_ (allO_cons ?_ (allO_cons ?_ (allO_cons ?_ (allO_cons ?_ (allO_cons ?_ (allO_cons ?_ (allO_cons ?_ (allO_cons ?_ (allO_cons ?_ (allO_cons ?_ (allO_cons ?_ (allO_cons ?_ (allO_cons ?_ (allO_nil)))))))))))))))))
    · intro T w9 hG hD hO Q
      have q0 := hO.1
      have e0 : (oF 19 T).eval (.tmp 1) = .pointer (some ⟨w.heap.size, 0, none⟩) := (oF_eval (by decide)).trans (show T 1 = _ from q0)
      refine og_none rfl ?_
      exact o_val (v := .pointer (some ⟨w.heap.size, 0, none⟩)) (w' := w9) (by generalize (oF 19 T).eval = rr at *; simp [execOp, go_sem, e0]) rfl rfl (Kx.refl _ _)
    · intro T w9 hG hD hO Q
      have d0 := hD.1
      have e0 : (oF 19 T).eval (.tmp 3) = .pointer (some ⟨w.heap.size, 0, none⟩) := (oF_eval (by decide)).trans (show T 3 = _ from d0)
      refine og_none rfl ?_
      have im := b0.kx hG (by simp)
      have m0 := im.c (i := 0) rfl
      clear im
      exact o_val (v := .int .i64 l) (w' := w9) (by generalize (oF 19 T).eval = rr at *; simp [execOp, go_sem, e0, m0]) rfl rfl (Kx.refl _ _)
    · intro T w9 hG hD hO Q
      have q0 := hO.1
      have e0 : (oF 19 T).eval (.tmp 1) = .pointer (some ⟨w.heap.size, 0, none⟩) := (oF_eval (by decide)).trans (show T 1 = _ from q0)
      refine og_none rfl ?_
      exact o_val (v := .pointer (some ⟨w.heap.size, 1, none⟩)) (w' := w9) (by generalize (oF 19 T).eval = rr at *; simp [execOp, go_sem, e0]) rfl rfl (Kx.refl _ _)
    · intro T w9 hG hD hO Q
      have d0 := hD.1
      have e0 : (oF 19 T).eval (.tmp 5) = .pointer (some ⟨w.heap.size, 1, none⟩) := (oF_eval (by decide)).trans (show T 5 = _ from d0)
      refine og_none rfl ?_
      have im := b0.kx hG (by simp)
      have m0 := im.c (i := 1) rfl
      clear im
      exact o_val (v := .int .i64 h) (w' := w9) (by generalize (oF 19 T).eval = rr at *; simp [execOp, go_sem, e0, m0]) rfl rfl (Kx.refl _ _)
    · intro T w9 hG hD hO Q
      have d0 := hD.1
      have d1 := hD.2.1
      have e0 : (oF 19 T).eval (.tmp 4) = .int .i64 l := (oF_eval (by decide)).trans (show T 4 = _ from d0)
      have e1 : (oF 19 T).eval (.tmp 6) = .int .i64 h := (oF_eval (by decide)).trans (show T 6 = _ from d1)
      refine og_none rfl ?_
      have kz : Kb w9 (w9.alloc (.cells #[.int .i64 l, .int .i64 h] 3 (0, 0))) := (Kb.refl w9).alloc _
      exact o_val (v := .slice (some ⟨w9.heap.size, 0, none⟩) 2 2) (w' := w9.alloc (.cells #[.int .i64 l, .int .i64 h] 3 (0, 0))) (by generalize (oF 19 T).eval = rr at *; simp [execOp, go_sem, e0, e1]) rfl (sl_is (Is.made w9 _ _) (fun hx => by have := hL _ hx; have := hG.2.2.2.1; simp only [World.size_drew] at *; omega) rfl (rows_ok rfl rfl)) kz.kx
    · intro T w9 hG hD hO Q
      have d0 := hD.1
      have e0 : (oF 19 T).eval (.func 130) = .func (.func 130) #[] #[] := rfl
      have e1 : (oF 19 T).eval (.tmp 7) = T 7 := oF_eval (by decide)
      have p1 : (fun vv ww => Sl [] 1 ww vv [[.int .i64 l], [.int .i64 h]]) (T 7) w9 := d0
      refine og_none rfl ?_
      refine o_call (oc1 (enters_of Tryz.func130 (by kernel_rfl) rfl) rfl rfl e1) rfl ?_
      exact (dlengths [l, h] _ w9 (p1.none) (by simp)).mono fun r W' h => ⟨_, h.1, rfl, h.2.kx⟩
    · intro T w9 hG hD hO Q
      have d0 := hD.1
      have e0 : (oF 19 T).eval (.tmp 8) = .bool (inAll [l, h]) := (oF_eval (by decide)).trans (show T 8 = _ from d0)
      refine og_none rfl ?_
      exact o_val (v := .bool (!(inAll [l, h]))) (w' := w9) (by generalize (oF 19 T).eval = rr at *; simp [execOp, go_sem, e0]) rfl rfl (Kx.refl _ _)
    · intro T w9 hG hD hO Q
      have d0 := hD.1
      have e0 : (oF 19 T).eval (.func 47) = .func (.func 47) #[] #[] := rfl
      have e1 : (oF 19 T).eval (.tmp 9) = .bool (!(inAll [l, h])) := (oF_eval (by decide)).trans (show T 9 = _ from d0)
      have e2 : (oF 19 T).eval (.const (.int .i64 2)) = .int .i64 2 := rfl
      refine og_none rfl ?_
      refine o_call (oc2 (enters_of Tryz.func47 (by kernel_rfl) rfl) rfl rfl e1 e2) rfl ?_
      exact (cWhen [] (!inAll [l, h]) 2 w9 (fun x hx => by have := hL x hx; have := hG.2.2.2.1; simp only [World.size_drew] at *; omega)).mono fun r W' ⟨v, h1, h2, h3⟩ => ⟨v, h1, h2, h3.kx⟩
    · intro T w9 hG hD hO Q
      have q0 := hO.1
      have e0 : (oF 19 T).eval (.tmp 1) = .pointer (some ⟨w.heap.size, 0, none⟩) := (oF_eval (by decide)).trans (show T 1 = _ from q0)
      refine og_none rfl ?_
      exact o_val (v := .pointer (some ⟨w.heap.size, 0, none⟩)) (w' := w9) (by generalize (oF 19 T).eval = rr at *; simp [execOp, go_sem, e0]) rfl rfl (Kx.refl _ _)
    · intro T w9 hG hD hO Q
      have d0 := hD.1
      have e0 : (oF 19 T).eval (.tmp 11) = .pointer (some ⟨w.heap.size, 0, none⟩) := (oF_eval (by decide)).trans (show T 11 = _ from d0)
      refine og_none rfl ?_
      have im := b0.kx hG (by simp)
      have m0 := im.c (i := 0) rfl
      clear im
      exact o_val (v := .int .i64 l) (w' := w9) (by generalize (oF 19 T).eval = rr at *; simp [execOp, go_sem, e0, m0]) rfl rfl (Kx.refl _ _)
    · intro T w9 hG hD hO Q
      have q0 := hO.1
      have e0 : (oF 19 T).eval (.tmp 1) = .pointer (some ⟨w.heap.size, 0, none⟩) := (oF_eval (by decide)).trans (show T 1 = _ from q0)
      refine og_none rfl ?_
      exact o_val (v := .pointer (some ⟨w.heap.size, 1, none⟩)) (w' := w9) (by generalize (oF 19 T).eval = rr at *; simp [execOp, go_sem, e0]) rfl rfl (Kx.refl _ _)
    · intro T w9 hG hD hO Q
      have d0 := hD.1
      have e0 : (oF 19 T).eval (.tmp 13) = .pointer (some ⟨w.heap.size, 1, none⟩) := (oF_eval (by decide)).trans (show T 13 = _ from d0)
      refine og_none rfl ?_
      have im := b0.kx hG (by simp)
      have m0 := im.c (i := 1) rfl
      clear im
      exact o_val (v := .int .i64 h) (w' := w9) (by generalize (oF 19 T).eval = rr at *; simp [execOp, go_sem, e0, m0]) rfl rfl (Kx.refl _ _)
    · intro T w9 hG hD hO Q
      have d0 := hD.1
      have d1 := hD.2.1
      have e0 : (oF 19 T).eval (.tmp 12) = .int .i64 l := (oF_eval (by decide)).trans (show T 12 = _ from d0)
      have e1 : (oF 19 T).eval (.tmp 14) = .int .i64 h := (oF_eval (by decide)).trans (show T 14 = _ from d1)
      refine og_none rfl ?_
      exact o_val (v := .bool (decide (h < l))) (w' := w9) (by generalize (oF 19 T).eval = rr at *; simp [execOp, go_sem, e0, e1]) rfl rfl (Kx.refl _ _)
    · intro T w9 hG hD hO Q
      have d0 := hD.1
      have e0 : (oF 19 T).eval (.func 47) = .func (.func 47) #[] #[] := rfl
      have e1 : (oF 19 T).eval (.tmp 15) = .bool (decide (h < l)) := (oF_eval (by decide)).trans (show T 15 = _ from d0)
      have e2 : (oF 19 T).eval (.const (.int .i64 9)) = .int .i64 9 := rfl
      refine og_none rfl ?_
      refine o_call (oc2 (enters_of Tryz.func47 (by kernel_rfl) rfl) rfl rfl e1 e2) rfl ?_
      exact (cWhen [] (decide (h < l)) 9 w9 (fun x hx => by have := hL x hx; have := hG.2.2.2.1; simp only [World.size_drew] at *; omega)).mono fun r W' ⟨v, h1, h2, h3⟩ => ⟨v, h1, h2, h3.kx⟩
    · intro T w9 hG hD hO Q
      have d0 := hD.1
      have d1 := hD.2.1
      have e0 : (oF 19 T).eval (.tmp 10) = T 10 := oF_eval (by decide)
      have p0 : (fun vv ww => Ck [] vv (fE (!inAll [l, h]) 2) ww) (T 10) w9 := d0
      have e1 : (oF 19 T).eval (.tmp 16) = T 16 := oF_eval (by decide)
      have p1 : (fun vv ww => Ck [] vv (fE (decide (h < l)) 9) ww) (T 16) w9 := d1
      refine og_none rfl ?_
      obtain ⟨F0, c0, f0, g0, h0⟩ := p0
      obtain ⟨F1, c1, f1, g1, h1⟩ := p1
      rw [f0] at e0
      rw [f1] at e1
      have kz : Kb w9 (w9.alloc (.cells #[.func (.func F0) #[] c0, .func (.func F1) #[] c1] 80 (0, 0))) := (Kb.refl w9).alloc _
      exact o_val (v := .slice (some ⟨w9.heap.size, 0, none⟩) 2 2) (w' := w9.alloc (.cells #[.func (.func F0) #[] c0, .func (.func F1) #[] c1] 80 (0, 0))) (by generalize (oF 19 T).eval = rr at *; simp [execOp, go_sem, e0, e1]) rfl ⟨[.func (.func F0) #[] c0, .func (.func F1) #[] c1], rfl, sl_is (Is.made w9 _ _) (fun hx => by have := hL _ hx; have := hG.2.2.2.1; simp only [World.size_drew] at *; omega) rfl (rows_ok rfl rfl), cks_ok ⟨(Ck.kx ⟨F0, c0, rfl, g0, h0⟩ kz.kx), (Ck.kx ⟨F1, c1, rfl, g1, h1⟩ kz.kx), trivial⟩ rfl⟩ kz.kx
    · intro T w9 hG hD hO Q
      have d0 := hD.1
      have e0 : (oF 19 T).eval (.func 39) = .func (.func 39) #[] #[] := rfl
      have e1 : (oF 19 T).eval (.tmp 17) = T 17 := oF_eval (by decide)
      have p1 : (fun vv ww => SlC [] [fE (!inAll [l, h]) 2, fE (decide (h < l)) 9] vv ww) (T 17) w9 := d0
      refine og_none rfl ?_
      refine o_call (oc1 (enters_of Tryz.func39 (by kernel_rfl) rfl) rfl rfl e1) rfl ?_
      exact (cFirst [] _ _ w9 p1 (by simp)).mono fun r W' h => ⟨_, h.1, rfl, h.2.kx⟩
    · intro T w9 hG hD hO Q
      have d0 := hD.1
      have e0 : (oF 19 T).eval (.tmp 18) = .int .i64 (firstE [fE (!inAll [l, h]) 2, fE (decide (h < l)) 9]) := (oF_eval (by decide)).trans (show T 18 = _ from d0)
      refine og_none rfl ?_
      exact o_val (v := .int .i64 (firstE [fE (!inAll [l, h]) 2, fE (decide (h < l)) 9])) (w' := w9) (by generalize (oF 19 T).eval = rr at *; simp [execOp, go_sem, e0]) rfl rfl (Kx.refl _ _)
  case fin =>
    intro T w7 hout hval hG
    rw [show oF 19 T = (⟨#[T 0, T 1, T 2, T 3, T 4, T 5, T 6, T 7, T 8, T 9, T 10, T 11, T 12, T 13, T 14, T 15, T 16, T 17, T 18], []⟩ : Act) from oF_list 19 T]
    rw [show T 2 = .int .i64 (firstE [fE (!inAll [l, h]) 2, fE (decide (h < l)) 9]) from hval 16 (by decide : 16 < 17)]
    go_wp2
    go_ret
    exact ⟨rfl, k0.trans (Kb.undrew hG.nil)⟩
theorem dCheck (l h : Int) : Ca 105 #[.agg #[.int .i64 l, .int .i64 h]] (.int .i64 (lmE l h)) := Lib.hid fun w => dCheck_any l h w
set_option maxRecDepth 100000 in
set_option maxHeartbeats 1000000 in
theorem dContains_any (l h v : Int) (w : World) : Calls Tryz.prog 63 #[.agg #[.int .i64 l, .int .i64 h], .int .i64 v] w fun r W' => r = .returned (.tuple #[.bool (zB (lmE l h) (decide (l ≤ v) && decide (v ≤ h))), .int .i64 (lmE l h)]) ∧ Kb w W' := by
  have k0 := ((Kb.refl w).alloc (.cells #[.int .i64 l, .int .i64 h] 25 (0, 0)))
  have b0 := (Is.made w #[.int .i64 l, .int .i64 h] 25)
  replace b0 : Is (World.drew (w.alloc (.cells #[.int .i64 l, .int .i64 h] 25 (0, 0)))) (w.heap.size) #[.int .i64 l, .int .i64 h] 25 := b0
  have hL : ∀ x ∈ ([] : List Nat), x < (w.alloc (.cells #[.int .i64 l, .int .i64 h] 25 (0, 0))).heap.size := by (simp; try omega)
  go_enter Tryz.func63, Tryz.ntmps63
  go_wp2_with fail
  rw [oF_lit]
  refine o_law (⟨23, [some 6, some 7, some 8, some 9, some 10, some 11, some 12, some 13, some 14, some 15, some 16, some 17, some 18, some 19, some 20, some 21, some 22, some 4, some 5], [6, 7, 8, 9, 10, 11, 12, 13, 14, 15, 16, 17, 18, 19, 20, 21, 22, 4, 5], [[], [0], [], [1, 2], [3], [4], [4], [6, 4], [5, 7, 4], [4, 8], [], [10], [11], [12], [9, 13], [14], [14], [15], [16]], [[2], [], [1], [], [], [1], [2], [], [], [], [2], [], [], [], [], [], [], [], []]⟩ : OT) (Kx []) (RL [fun vv _ => vv = .pointer (some ⟨w.heap.size, 0, none⟩), fun vv _ => vv = .int .i64 l, fun vv _ => vv = .int .i64 v, fun vv _ => vv = .bool (decide (l ≤ v)), fun vv _ => vv = .bool (decide (l ≤ v)), fun vv _ => (decide (l ≤ v)) = true → vv = .int .i64 v, fun vv _ => (decide (l ≤ v)) = true → vv = .pointer (some ⟨w.heap.size, 1, none⟩), fun vv _ => (decide (l ≤ v)) = true → vv = .int .i64 h, fun vv _ => (decide (l ≤ v)) = true → vv = .bool (decide (v ≤ h)), fun vv _ => vv = .bool ((decide (l ≤ v)) && (decide (v ≤ h))), fun vv _ => vv = .agg #[.int .i64 l, .int .i64 h], fun vv ww => Sl [] 2 ww vv [[.int .i64 l, .int .i64 h]], fun vv ww => Ck [] vv (firstE [lmE l h]) ww, fun vv ww => SlC [] [firstE [lmE l h]] vv ww, fun vv _ => vv = .tuple #[.bool (zB (firstE [firstE [lmE l h]]) (decide (l ≤ v) && decide (v ≤ h))), .int .i64 (firstE [firstE [lmE l h]])], fun vv _ => vv = .bool (zB (firstE [firstE [lmE l h]]) (decide (l ≤ v) && decide (v ≤ h))), fun vv _ => vv = .int .i64 (firstE [firstE [lmE l h]]), fun vv _ => vv = .bool (zB (firstE [firstE [lmE l h]]) (decide (l ≤ v) && decide (v ≤ h))), fun vv _ => vv = .int .i64 (firstE [firstE [lmE l h]])]) (by kernel_rfl) ?hk ?hR ?fin
  case hk => kernel_rfl
  case hR =>
    refine ⟨fun _ => (Kx.refl _ _), fun _ _ _ => Kx.trans, rl_stab ⟨fun _ _ _ _ h => h, fun _ _ _ _ h => h, fun _ _ _ _ h => h, fun _ _ _ _ h => h, fun _ _ _ _ h => h, fun _ _ _ _ h => h, fun _ _ _ _ h => h, fun _ _ _ _ h => h, fun _ _ _ _ h => h, fun _ _ _ _ h => h, fun _ _ _ _ h => h, (fun v w w' k h => h.kx k), (fun v w w' k h => h.kx k), (fun v w w' k h => h.kx k), fun _ _ _ _ h => h, fun _ _ _ _ h => h, fun _ _ _ _ h => h, fun _ _ _ _ h => h, fun _ _ _ _ h => h, trivial⟩, ?_⟩
    refine allO_cons ?_ (allO_cons ?_ (allO_cons ?_ (allO_cons ?_ (allO_cons ?_ (allO_cons ?_ (allO_cons ?_ (allO_cons ?_ (allO_cons ?_ (allO_cons ?_ (allO_cons ?_ (allO_cons ?_ (allO_cons ?_ (allO_cons ?_ (allO_cons ?_ (allO_cons ?_ (allO_cons ?_ (allO_cons ?_ (allO_cons ?_ (allO_nil)))))))))))))))))))
    · intro T w9 hG hD hO Q
      have q0 := hO.1
      have e0 : (oF 23 T).eval (.tmp 2) = .pointer (some ⟨w.heap.size, 0, none⟩) := (oF_eval (by decide)).trans (show T 2 = _ from q0)
      refine og_none rfl ?_
      exact o_val (v := .pointer (some ⟨w.heap.size, 0, none⟩)) (w' := w9) (by generalize (oF 23 T).eval = rr at *; simp [execOp, go_sem, e0]) rfl rfl (Kx.refl _ _)
    · intro T w9 hG hD hO Q
      have d0 := hD.1
      have e0 : (oF 23 T).eval (.tmp 6) = .pointer (some ⟨w.heap.size, 0, none⟩) := (oF_eval (by decide)).trans (show T 6 = _ from d0)
      refine og_none rfl ?_
      have im := b0.kx hG (by simp)
      have m0 := im.c (i := 0) rfl
      clear im
      exact o_val (v := .int .i64 l) (w' := w9) (by generalize (oF 23 T).eval = rr at *; simp [execOp, go_sem, e0, m0]) rfl rfl (Kx.refl _ _)
    · intro T w9 hG hD hO Q
      have q0 := hO.1
      have e0 : (oF 23 T).eval (.tmp 1) = .int .i64 v := (oF_eval (by decide)).trans (show T 1 = _ from q0)
      refine og_none rfl ?_
      exact o_val (v := .int .i64 v) (w' := w9) (by generalize (oF 23 T).eval = rr at *; simp [execOp, go_sem, e0]) rfl rfl (Kx.refl _ _)
    · intro T w9 hG hD hO Q
      have d0 := hD.1
      have d1 := hD.2.1
      have e0 : (oF 23 T).eval (.tmp 7) = .int .i64 l := (oF_eval (by decide)).trans (show T 7 = _ from d0)
      have e1 : (oF 23 T).eval (.tmp 8) = .int .i64 v := (oF_eval (by decide)).trans (show T 8 = _ from d1)
      refine og_none rfl ?_
      exact o_val (v := .bool (decide (l ≤ v))) (w' := w9) (by generalize (oF 23 T).eval = rr at *; simp [execOp, go_sem, e0, e1]) rfl rfl (Kx.refl _ _)
    · intro T w9 hG hD hO Q
      have d0 := hD.1
      have e0 : (oF 23 T).eval (.tmp 9) = .bool (decide (l ≤ v)) := (oF_eval (by decide)).trans (show T 9 = _ from d0)
      refine og_none rfl ?_
      exact o_val (v := .bool (decide (l ≤ v))) (w' := w9) (by generalize (oF 23 T).eval = rr at *; simp [execOp, go_sem, e0]) rfl rfl (Kx.refl _ _)
    · intro T w9 hG hD hO Q
      have d0 := hD.1
      have q0 := hO.1
      have e0 : (oF 23 T).eval (.tmp 1) = .int .i64 v := (oF_eval (by decide)).trans (show T 1 = _ from q0)
      refine og_some (b := true) (c := (decide (l ≤ v))) rfl (show T 10 = _ from d0) (fun hc => ?_) (fun hc h => absurd h hc)
      exact o_val (v := .int .i64 v) (w' := w9) (by generalize (oF 23 T).eval = rr at *; simp [execOp, go_sem, e0]) rfl (fun _ => rfl) (Kx.refl _ _)
    · intro T w9 hG hD hO Q
      have d0 := hD.1
      have q0 := hO.1
      have e0 : (oF 23 T).eval (.tmp 2) = .pointer (some ⟨w.heap.size, 0, none⟩) := (oF_eval (by decide)).trans (show T 2 = _ from q0)
      refine og_some (b := true) (c := (decide (l ≤ v))) rfl (show T 10 = _ from d0) (fun hc => ?_) (fun hc h => absurd h hc)
      exact o_val (v := .pointer (some ⟨w.heap.size, 1, none⟩)) (w' := w9) (by generalize (oF 23 T).eval = rr at *; simp [execOp, go_sem, e0]) rfl (fun _ => rfl) (Kx.refl _ _)
    · intro T w9 hG hD hO Q
      have d0 := hD.1
      have d1 := hD.2.1
      have G0 : (decide (l ≤ v)) = true → T 12 = .pointer (some ⟨w.heap.size, 1, none⟩) := d0
      refine og_some (b := true) (c := (decide (l ≤ v))) rfl (show T 10 = _ from d1) (fun hc => ?_) (fun hc h => absurd h hc)
      have e0 : (oF 23 T).eval (.tmp 12) = .pointer (some ⟨w.heap.size, 1, none⟩) := (oF_eval (by decide)).trans (G0 hc)
      have im := b0.kx hG (by simp)
      have m0 := im.c (i := 1) rfl
      clear im
      exact o_val (v := .int .i64 h) (w' := w9) (by generalize (oF 23 T).eval = rr at *; simp [execOp, go_sem, e0, m0]) rfl (fun _ => rfl) (Kx.refl _ _)
    · intro T w9 hG hD hO Q
      have d0 := hD.1
      have d1 := hD.2.1
      have d2 := hD.2.2.1
      have G0 : (decide (l ≤ v)) = true → T 11 = .int .i64 v := d0
      have G1 : (decide (l ≤ v)) = true → T 13 = .int .i64 h := d1
      refine og_some (b := true) (c := (decide (l ≤ v))) rfl (show T 10 = _ from d2) (fun hc => ?_) (fun hc h => absurd h hc)
      have e0 : (oF 23 T).eval (.tmp 11) = .int .i64 v := (oF_eval (by decide)).trans (G0 hc)
      have e1 : (oF 23 T).eval (.tmp 13) = .int .i64 h := (oF_eval (by decide)).trans (G1 hc)
      exact o_val (v := .bool (decide (v ≤ h))) (w' := w9) (by generalize (oF 23 T).eval = rr at *; simp [execOp, go_sem, e0, e1]) rfl (fun _ => rfl) (Kx.refl _ _)
    · intro T w9 hG hD hO Q
      have d0 := hD.1
      have d1 := hD.2.1
      have e0 : (oF 23 T).eval (.tmp 10) = .bool (decide (l ≤ v)) := (oF_eval (by decide)).trans (show T 10 = _ from d0)
      have G1 : (decide (l ≤ v)) = true → T 14 = .bool (decide (v ≤ h)) := d1
      have e1 : (oF 23 T).eval (.tmp 14) = T 14 := oF_eval (by decide)
      have e2 : (oF 23 T).eval (.const (.bool false)) = .bool false := rfl
      refine og_none rfl ?_
      rcases Bool.eq_false_or_eq_true (decide (l ≤ v)) with hb | hb
      · refine o_val (w' := w9) (v := .bool (decide (v ≤ h))) (by rw [G1 hb] at e1; rw [hb] at e0; generalize (oF 23 T).eval = rr at *; simp [execOp, go_sem, e0, e1, e2]) rfl (by simp [RL, hb]) (Kx.refl _ _)
      · refine o_val (w' := w9) (v := .bool false) (by rw [hb] at e0; generalize (oF 23 T).eval = rr at *; simp [execOp, go_sem, e0, e1, e2]) rfl (by simp [RL, hb]) (Kx.refl _ _)
    · intro T w9 hG hD hO Q
      have q0 := hO.1
      have e0 : (oF 23 T).eval (.tmp 2) = .pointer (some ⟨w.heap.size, 0, none⟩) := (oF_eval (by decide)).trans (show T 2 = _ from q0)
      refine og_none rfl ?_
      have im := b0.kx hG (by simp)
      have m0 := im.c (i := 0) rfl
      have m1 := im.c (i := 1) rfl
      clear im
      exact o_val (v := .agg #[.int .i64 l, .int .i64 h]) (w' := w9) (by generalize (oF 23 T).eval = rr at *; simp [execOp, go_sem, e0, m0, m1]) rfl rfl (Kx.refl _ _)
    · intro T w9 hG hD hO Q
      have d0 := hD.1
      have e0 : (oF 23 T).eval (.tmp 16) = .agg #[.int .i64 l, .int .i64 h] := (oF_eval (by decide)).trans (show T 16 = _ from d0)
      refine og_none rfl ?_
      have kz : Kb w9 (w9.alloc (.cells #[.int .i64 l, .int .i64 h] 25 (0, 0))) := (Kb.refl w9).alloc _
      exact o_val (v := .slice (some ⟨w9.heap.size, 0, none⟩) 1 1) (w' := w9.alloc (.cells #[.int .i64 l, .int .i64 h] 25 (0, 0))) (by generalize (oF 23 T).eval = rr at *; simp [execOp, go_sem, e0]) rfl (sl_is (Is.made w9 _ _) (fun hx => by have := hL _ hx; have := hG.2.2.2.1; simp only [World.size_drew] at *; omega) rfl (rows_ok rfl rfl)) kz.kx
    · intro T w9 hG hD hO Q
      have d0 := hD.1
      have e0 : (oF 23 T).eval (.func 104) = .func (.func 104) #[] #[] := rfl
      have e1 : (oF 23 T).eval (.func 105) = .func (.func 105) #[] #[] := rfl
      have e2 : (oF 23 T).eval (.tmp 17) = T 17 := oF_eval (by decide)
      have p2 : (fun vv ww => Sl [] 2 ww vv [[.int .i64 l, .int .i64 h]]) (T 17) w9 := d0
      refine og_none rfl ?_
      refine o_call (oc2 (enters_of Tryz.func104 (by kernel_rfl) rfl) rfl rfl e1 e2) rfl ?_
      exact (cEach_Lim [] _ (0, 0) [(l, h)] [lmE l h] _ w9 (fun x hx => by have := hL x hx; have := hG.2.2.2.1; simp only [World.size_drew] at *; omega) (by simp) rfl p2 (enters_of Tryz.func105 (by kernel_rfl) rfl) (each_ok ⟨dCheck l h, trivial⟩ rfl)).mono fun r W' ⟨v, h1, h2, h3⟩ => ⟨v, h1, h2, h3.kx⟩
    · intro T w9 hG hD hO Q
      have d0 := hD.1
      have e0 : (oF 23 T).eval (.tmp 18) = T 18 := oF_eval (by decide)
      have p0 : (fun vv ww => Ck [] vv (firstE [lmE l h]) ww) (T 18) w9 := d0
      refine og_none rfl ?_
      obtain ⟨F0, c0, f0, g0, h0⟩ := p0
      rw [f0] at e0
      have kz : Kb w9 (w9.alloc (.cells #[.func (.func F0) #[] c0] 80 (0, 0))) := (Kb.refl w9).alloc _
      exact o_val (v := .slice (some ⟨w9.heap.size, 0, none⟩) 1 1) (w' := w9.alloc (.cells #[.func (.func F0) #[] c0] 80 (0, 0))) (by generalize (oF 23 T).eval = rr at *; simp [execOp, go_sem, e0]) rfl ⟨[.func (.func F0) #[] c0], rfl, sl_is (Is.made w9 _ _) (fun hx => by have := hL _ hx; have := hG.2.2.2.1; simp only [World.size_drew] at *; omega) rfl (rows_ok rfl rfl), cks_ok ⟨(Ck.kx ⟨F0, c0, rfl, g0, h0⟩ kz.kx), trivial⟩ rfl⟩ kz.kx
    · intro T w9 hG hD hO Q
      have d0 := hD.1
      have d1 := hD.2.1
      have e0 : (oF 23 T).eval (.func 103) = .func (.func 103) #[] #[] := rfl
      have e1 : (oF 23 T).eval (.tmp 15) = .bool ((decide (l ≤ v)) && (decide (v ≤ h))) := (oF_eval (by decide)).trans (show T 15 = _ from d0)
      have e2 : (oF 23 T).eval (.tmp 19) = T 19 := oF_eval (by decide)
      have p2 : (fun vv ww => SlC [] [firstE [lmE l h]] vv ww) (T 19) w9 := d1
      refine og_none rfl ?_
      refine o_call (oc2 (enters_of Tryz.func103 (by kernel_rfl) rfl) rfl rfl e1 e2) rfl ?_
      exact (cResult_Bool [] [firstE [lmE l h]] _ (decide (l ≤ v) && decide (v ≤ h)) w9 p2 (by simp)).mono fun r W' h => ⟨_, h.1, rfl, h.2.kx⟩
    · intro T w9 hG hD hO Q
      have d0 := hD.1
      have e0 : (oF 23 T).eval (.tmp 20) = .tuple #[.bool (zB (firstE [firstE [lmE l h]]) (decide (l ≤ v) && decide (v ≤ h))), .int .i64 (firstE [firstE [lmE l h]])] := (oF_eval (by decide)).trans (show T 20 = _ from d0)
      refine og_none rfl ?_
      exact o_val (v := .bool (zB (firstE [firstE [lmE l h]]) (decide (l ≤ v) && decide (v ≤ h)))) (w' := w9) (by generalize (oF 23 T).eval = rr at *; simp [execOp, go_sem, e0]) rfl rfl (Kx.refl _ _)
    · intro T w9 hG hD hO Q
      have d0 := hD.1
      have e0 : (oF 23 T).eval (.tmp 20) = .tuple #[.bool (zB (firstE [firstE [lmE l h]]) (decide (l ≤ v) && decide (v ≤ h))), .int .i64 (firstE [firstE [lmE l h]])] := (oF_eval (by decide)).trans (show T 20 = _ from d0)
      refine og_none rfl ?_
      exact o_val (v := .int .i64 (firstE [firstE [lmE l h]])) (w' := w9) (by generalize (oF 23 T).eval = rr at *; simp [execOp, go_sem, e0]) rfl rfl (Kx.refl _ _)
    · intro T w9 hG hD hO Q
      have d0 := hD.1
      have e0 : (oF 23 T).eval (.tmp 21) = .bool (zB (firstE [firstE [lmE l h]]) (decide (l ≤ v) && decide (v ≤ h))) := (oF_eval (by decide)).trans (show T 21 = _ from d0)
      refine og_none rfl ?_
      exact o_val (v := .bool (zB (firstE [firstE [lmE l h]]) (decide (l ≤ v) && decide (v ≤ h)))) (w' := w9) (by generalize (oF 23 T).eval = rr at *; simp [execOp, go_sem, e0]) rfl rfl (Kx.refl _ _)
    · intro T w9 hG hD hO Q
      have d0 := hD.1
      have e0 : (oF 23 T).eval (.tmp 22) = .int .i64 (firstE [firstE [lmE l h]]) := (oF_eval (by decide)).trans (show T 22 = _ from d0)
      refine og_none rfl ?_
      exact o_val (v := .int .i64 (firstE [firstE [lmE l h]])) (w' := w9) (by generalize (oF 23 T).eval = rr at *; simp [execOp, go_sem, e0]) rfl rfl (Kx.refl _ _)
  case fin =>
    intro T w7 hout hval hG
    rw [show oF 23 T = (⟨#[T 0, T 1, T 2, T 3, T 4, T 5, T 6, T 7, T 8, T 9, T 10, T 11, T 12, T 13, T 14, T 15, T 16, T 17, T 18, T 19, T 20, T 21, T 22], []⟩ : Act) from oF_list 23 T]
    rw [show T 4 = .bool (zB (firstE [firstE [lmE l h]]) (decide (l ≤ v) && decide (v ≤ h))) from hval 17 (by decide : 17 < 19)]
    rw [show T 5 = .int .i64 (firstE [firstE [lmE l h]]) from hval 18 (by decide : 18 < 19)]
    clear hout hval
    go_wp2
    go_ret2
    exact ⟨by rw [firstE_one, firstE_one]; rfl, k0.trans (Kb.undrew hG.nil)⟩
































































































































































































































































































































































































































































































































































































































































































































































































































































































































































end Go.Proofs.YtlimjohnimgnhaaGreatDoor
