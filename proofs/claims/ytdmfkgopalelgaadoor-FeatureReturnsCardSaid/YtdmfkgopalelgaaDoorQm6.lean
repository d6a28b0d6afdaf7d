/- Features: the law Returns. -/
import Derived.Test.YtdmfkgopalelgaaDoorQm5
import Derived.Test.YtdmfkgopalelgaaDoorM86
import Derived.Test.YtdmfkgopalelgaaDoorQh2
namespace Go.Proofs.YtdmfkgopalelgaaDoor
open Go.RowKit

theorem firstE_zero : ∀ {l : List Int}, (∀ e ∈ l, e = 0) → firstE l = 0
  | [], _ => rfl
  | u :: l, h => by
    unfold firstE
    rw [if_pos (h u (by simp))]
    exact firstE_zero fun e he => h e (by simp [he])
theorem ft_of {n : ByteArray} {k a x y z lo hi b u v w : Int} (h : ftE n k a x y z lo hi = 0) (h1 : b = 0 ∨ b = 1 ∨ b = 2) (h2 : k = 4 → b = a) (h3 : -100000 ≤ u ∧ u ≤ 100000) (h4 : -100000 ≤ v ∧ v ≤ 100000) (h5 : -100000 ≤ w ∧ w ≤ 100000) : ftE n k b u v w lo hi = 0 := by
  unfold ftE at h ⊢
  refine firstE_zero fun e he => ?_
  have g := firstE_all h
  simp only [List.mem_cons, List.not_mem_nil, or_false] at he g
  rcases he with rfl | rfl | rfl | rfl | rfl | rfl
  · exact g _ (.inl rfl)
  · exact g _ (.inr (.inl rfl))
  · rw [firstE_one]; rcases h1 with rfl | rfl | rfl <;> rfl
  · by_cases hk : k = 4
    · rw [h2 hk]; exact g _ (.inr (.inr (.inr (.inl rfl))))
    · rw [show (k == 4) = false by simpa using hk]; rfl
  · rw [firstE_one, plE_t]
    · unfold inR; simp; omega
    · unfold inR; simp; omega
    · unfold inR; simp; omega
  · exact g _ (.inr (.inr (.inr (.inr (.inr rfl)))))
theorem trA_in {c k a : Int} (hc : c = 0 ∨ c = 1 ∨ c = 2) (ha : a = 0 ∨ a = 1 ∨ a = 2) : trA c k a = 0 ∨ trA c k a = 1 ∨ trA c k a = 2 := by
  unfold trA
  split <;> omega
theorem ft_tr {n : ByteArray} {k a x y z lo hi c : Int} (h : ftE n k a x y z lo hi = 0) (hc : c = 0 ∨ c = 1 ∨ c = 2) : ftE n k (trA c k a) (tr1 c x y z) (tr2 c x y z) (tr3 c x y z) lo hi = 0 := by
  obtain ⟨hx, hy, hz⟩ := ft_pl h
  refine ft_of h (trA_in hc (ft_ax h)) (fun hk => if_pos (.inl hk)) ?_ ?_ ?_
  · unfold tr1; (repeat' split) <;> omega
  · unfold tr2; (repeat' split) <;> omega
  · unfold tr3; (repeat' split) <;> omega
theorem ft_mr {n : ByteArray} {k a x y z lo hi c : Int} (h : ftE n k a x y z lo hi = 0) : ftE n k a (mr1 c x) (mr2 c y) (mr3 c z) lo hi = 0 := by
  obtain ⟨hx, hy, hz⟩ := ft_pl h
  refine ft_of h (ft_ax h) (fun _ => rfl) ?_ ?_ ?_
  · unfold mr1; split <;> omega
  · unfold mr2; split <;> omega
  · unfold mr3; split <;> omega
theorem trA_tr {c k a : Int} (hc : c = 0 ∨ c = 1 ∨ c = 2) (ha : a = 0 ∨ a = 1 ∨ a = 2) : trA c k (trA c k a) = a := by
  unfold trA
  by_cases h : k = 4
  · rw [if_pos (.inl h), if_pos (.inl h)]
  · by_cases h2 : a = c
    · have e : (if k = 4 ∨ a = c then a else 3 - c - a) = a := if_pos (.inr h2)
      rw [e, e]
    · rw [if_neg (show ¬ (k = 4 ∨ a = c) from fun x => x.elim h h2), if_neg (by omega)]; omega
theorem mr1_2 (c x : Int) : mr1 c (mr1 c x) = x := by unfold mr1; split <;> omega
theorem mr2_2 (c x : Int) : mr2 c (mr2 c x) = x := by unfold mr2; split <;> omega
theorem mr3_2 (c x : Int) : mr3 c (mr3 c x) = x := by unfold mr3; split <;> omega
theorem tr_2 {c : Int} (x y z : Int) (hc : c = 0 ∨ c = 1 ∨ c = 2) : tr1 c (tr1 c x y z) (tr2 c x y z) (tr3 c x y z) = (if c = 0 then x else -x) ∧ tr2 c (tr1 c x y z) (tr2 c x y z) (tr3 c x y z) = (if c = 1 then y else -y) ∧ tr3 c (tr1 c x y z) (tr2 c x y z) (tr3 c x y z) = (if c = 2 then z else -z) := by
  rcases hc with rfl | rfl | rfl <;> simp [tr1, tr2, tr3]
theorem tr_4 {c : Int} (x y z : Int) (hc : c = 0 ∨ c = 1 ∨ c = 2) : (if c = 0 then (if c = 0 then x else -x) else -(if c = 0 then x else -x)) = x ∧ (if c = 1 then (if c = 1 then y else -y) else -(if c = 1 then y else -y)) = y ∧ (if c = 2 then (if c = 2 then z else -z) else -(if c = 2 then z else -z)) = z := by
  rcases hc with rfl | rfl | rfl <;> simp
theorem pMoveZ (nu : ByteArray) (ku au xu yu zu lou hiu : Int) (fpu : Option Addr) (flu fcu : Nat) (fs : List FrT) (du dv dw : Int) (hf : fewB nu fs = true) (h : (ftE nu ku au xu yu zu lou hiu) = 0) (h2 : ¬ (plE du dv dw = 0 ∧ plE (wrap64 (xu + du)) (wrap64 (yu + dv)) (wrap64 (zu + dw)) = 0)) : Hid (∀ W : World, FrS W (.slice fpu flu fcu) fs → Calls Tryd.prog 24 #[.agg #[.string nu, .int .i64 ku, .int .i64 au, .int .i64 xu, .int .i64 yu, .int .i64 zu, .int .i64 lou, .int .i64 hiu, .slice fpu flu fcu], .agg #[.int .i64 du, .int .i64 dv, .int .i64 dw]] W fun r W' => r = .returned (.tuple #[.agg #[.string ⟨#[]⟩, .int .i64 0, .int .i64 0, .int .i64 0, .int .i64 0, .int .i64 0, .int .i64 0, .int .i64 0, .slice none 0 0], .int .i64 2]) ∧ Kb W W') := Lib.hid fun W da => by
  have he : firstE [firstE [(ftE nu ku au xu yu zu lou hiu)], firstE [plE du dv dw, plE (wrap64 (xu + du)) (wrap64 (yu + dv)) (wrap64 (zu + dw))]] = 2 := by
    have h20 : ∀ x y z, plE x y z = 0 ∨ plE x y z = 2 := fun x y z => by unfold plE fE; split <;> simp
    rw [h, firstE_one, fst_0, firstE_one]
    rcases h20 du dv dw with e | e
    · rw [e, fst_0, firstE_one]
      rcases h20 (wrap64 (xu + du)) (wrap64 (yu + dv)) (wrap64 (zu + dw)) with e2 | e2
      · exact absurd ⟨e, e2⟩ h2
      · exact e2
    · rw [e]; exact fst_e (by decide) _
  have q := cMove_1 nu ku au xu yu zu lou hiu fpu flu fcu fs (few_s hf).1 (few_s hf).2 du dv dw _ _ _ _ _ _ rfl rfl rfl (fCheck nu ku au xu yu zu lou hiu fpu flu fcu (few_n hf)) (fcheckPlace du dv dw) (fcheckPlace _ _ _) (by rw [he]; rfl) W da
  rw [he] at q
  exact q
theorem qTurn (nu : ByteArray) (ku au xu yu zu lou hiu : Int) (fs : List FrT) (d : Int) (hf : fewB nu fs = true) (h : (ftE nu ku au xu yu zu lou hiu) = 0) (hc : d = 0 ∨ d = 1 ∨ d = 2) {b u v w : Int} (e1 : trA d ku au = b) (e2 : tr1 d xu yu zu = u) (e3 : tr2 d xu yu zu = v) (e4 : tr3 d xu yu zu = w) : Hid (∀ (W : World) (p : Option Addr) (l c : Nat), FrS W (.slice p l c) fs → Calls Tryd.prog 28 #[.agg #[.string nu, .int .i64 ku, .int .i64 au, .int .i64 xu, .int .i64 yu, .int .i64 zu, .int .i64 lou, .int .i64 hiu, .slice p l c], .int .i64 d] W fun r W' => ∃ q' l' c', r = .returned (.tuple #[.agg #[.string nu, .int .i64 ku, .int .i64 b, .int .i64 u, .int .i64 v, .int .i64 w, .int .i64 lou, .int .i64 hiu, .slice q' l' c'], .int .i64 0]) ∧ FrU W.heap.size W' (.slice q' l' c') fs ∧ Kb W W') := by
  subst e1 e2 e3 e4
  exact Lib.hid fun W p l c da => (okTurn nu ku au xu yu zu lou hiu p l c fs d hf h hc).1.out W da
theorem qMirror (nu : ByteArray) (ku au xu yu zu lou hiu : Int) (fs : List FrT) (d : Int) (hf : fewB nu fs = true) (h : (ftE nu ku au xu yu zu lou hiu) = 0) (hc : d = 0 ∨ d = 1 ∨ d = 2) {u v w : Int} (e2 : mr1 d xu = u) (e3 : mr2 d yu = v) (e4 : mr3 d zu = w) : Hid (∀ (W : World) (p : Option Addr) (l c : Nat), FrS W (.slice p l c) fs → Calls Tryd.prog 26 #[.agg #[.string nu, .int .i64 ku, .int .i64 au, .int .i64 xu, .int .i64 yu, .int .i64 zu, .int .i64 lou, .int .i64 hiu, .slice p l c], .int .i64 d] W fun r W' => ∃ q' l' c', r = .returned (.tuple #[.agg #[.string nu, .int .i64 ku, .int .i64 au, .int .i64 u, .int .i64 v, .int .i64 w, .int .i64 lou, .int .i64 hiu, .slice q' l' c'], .int .i64 0]) ∧ FrU W.heap.size W' (.slice q' l' c') fs ∧ Kb W W') := by
  subst e2 e3 e4
  exact Lib.hid fun W p l c da => (okMirror nu ku au xu yu zu lou hiu p l c fs d hf h hc).1.out W da
theorem qMove (nu : ByteArray) (ku au xu yu zu lou hiu : Int) (fs : List FrT) (du dv dw : Int) (hf : fewB nu fs = true) (h : (ftE nu ku au xu yu zu lou hiu) = 0) (h2 : plE du dv dw = 0) {u v w : Int} (e2 : wrap64 (xu + du) = u) (e3 : wrap64 (yu + dv) = v) (e4 : wrap64 (zu + dw) = w) (h3 : plE u v w = 0) : Hid (∀ (W : World) (p : Option Addr) (l c : Nat), FrS W (.slice p l c) fs → Calls Tryd.prog 24 #[.agg #[.string nu, .int .i64 ku, .int .i64 au, .int .i64 xu, .int .i64 yu, .int .i64 zu, .int .i64 lou, .int .i64 hiu, .slice p l c], .agg #[.int .i64 du, .int .i64 dv, .int .i64 dw]] W fun r W' => ∃ q' l' c', r = .returned (.tuple #[.agg #[.string nu, .int .i64 ku, .int .i64 au, .int .i64 u, .int .i64 v, .int .i64 w, .int .i64 lou, .int .i64 hiu, .slice q' l' c'], .int .i64 0]) ∧ FrU W.heap.size W' (.slice q' l' c') fs ∧ Kb W W') := by
  subst e2 e3 e4
  exact Lib.hid fun W p l c da => (pMove nu ku au xu yu zu lou hiu p l c fs du dv dw hf h h2 h3).out W da
theorem plE_in {x y z : Int} (h : plE x y z = 0) : (-100000 ≤ x ∧ x ≤ 100000) ∧ (-100000 ≤ y ∧ y ≤ 100000) ∧ (-100000 ≤ z ∧ z ≤ 100000) := by
  have := plE_0 h
  simp only [inR, Bool.and_eq_true, decide_eq_true_eq] at this
  omega
theorem plE_of {x y z : Int} (h1 : -100000 ≤ x ∧ x ≤ 100000) (h2 : -100000 ≤ y ∧ y ≤ 100000) (h3 : -100000 ≤ z ∧ z ≤ 100000) : plE x y z = 0 := by
  refine plE_t ?_ ?_ ?_ <;> (unfold inR; simp; omega)
theorem tmod3 {c : Int} (h0 : 0 ≤ c) : ∃ d : Int, c.tmod 3 = d ∧ (d = 0 ∨ d = 1 ∨ d = 2) := ⟨_, rfl, by rw [Int.tmod_eq_emod_of_nonneg h0]; omega⟩
theorem cReturns (nu : ByteArray) (ku au xu yu zu lou hiu : Int) (fpu : Option Addr) (flu fcu : Nat) (fs : List FrT) (du dv dw c : Int) (c0 : 0 ≤ c) (c1 : c ≤ 255) (w : World) (gl : Gl w) (da : FrS w (.slice fpu flu fcu) fs) : Calls Tryd.prog 8 #[.agg #[.string nu, .int .i64 ku, .int .i64 au, .int .i64 xu, .int .i64 yu, .int .i64 zu, .int .i64 lou, .int .i64 hiu, .slice fpu flu fcu], .agg #[.int .i64 du, .int .i64 dv, .int .i64 dw], .int .u8 c] w fun r W' => r = .returned (.bool true) ∧ Kb w W' := by
  have qr := cRight nu ku au xu yu zu lou hiu fpu flu fcu fs
  by_cases h : rtB nu ku au xu yu zu lou hiu fs = true
  · have hf : fewB nu fs = true ∧ (ftE nu ku au xu yu zu lou hiu) = 0 := by
      unfold rtB at h
      simpa using h
    obtain ⟨hf, he⟩ := hf
    rw [h] at qr
    obtain ⟨d, ed, hc⟩ := tmod3 c0
    have a0 := ft_ax he
    have e1 := ft_tr he hc
    have e2 := ft_tr e1 hc
    have e3 := ft_tr e2 hc
    have m1 := ft_mr (c := d) he
    obtain ⟨p1, p2, p3⟩ := tr_2 xu yu zu hc
    obtain ⟨r1, r2, r3⟩ := tr_4 xu yu zu hc
    have ea := trA_tr (k := ku) hc a0
    rw [ea, p1, p2, p3] at e2 e3
    obtain ⟨s1, s2, s3⟩ := tr_2 (if d = 0 then xu else -xu) (if d = 1 then yu else -yu) (if d = 2 then zu else -zu) hc
    have t0 := qTurn nu ku au xu yu zu lou hiu fs d hf he hc rfl rfl rfl rfl
    have t1 := qTurn nu ku _ _ _ _ lou hiu fs d hf e1 hc ea p1 p2 p3
    have t2 := qTurn nu ku _ _ _ _ lou hiu fs d hf e2 hc rfl rfl rfl rfl
    have t3 := qTurn nu ku _ _ _ _ lou hiu fs d hf e3 hc ea (s1.trans r1) (s2.trans r2) (s3.trans r3)
    have n1 := qMirror nu ku au xu yu zu lou hiu fs d hf he hc rfl rfl rfl
    have n2 := qMirror nu ku au _ _ _ lou hiu fs d hf m1 hc (mr1_2 d xu) (mr2_2 d yu) (mr3_2 d zu)
    by_cases hm : plE du dv dw = 0 ∧ plE (wrap64 (xu + du)) (wrap64 (yu + dv)) (wrap64 (zu + dw)) = 0
    · obtain ⟨hm1, hm2⟩ := hm
      obtain ⟨hx, hy, hz⟩ := ft_pl he
      obtain ⟨i1, i2, i3⟩ := plE_in hm1
      have w1 : wrap64 (xu + du) = xu + du := Go.IntWalk.wrap64_in _ (by omega)
      have w2 : wrap64 (yu + dv) = yu + dv := Go.IntWalk.wrap64_in _ (by omega)
      have w3 : wrap64 (zu + dw) = zu + dw := Go.IntWalk.wrap64_in _ (by omega)
      have n1' : wrap64 (-du) = -du := Go.IntWalk.wrap64_in _ (by omega)
      have n2' : wrap64 (-dv) = -dv := Go.IntWalk.wrap64_in _ (by omega)
      have n3' : wrap64 (-dw) = -dw := Go.IntWalk.wrap64_in _ (by omega)
      rw [w1, w2, w3] at hm2
      obtain ⟨j1, j2, j3⟩ := plE_in hm2
      have v1 := qMove nu ku au xu yu zu lou hiu fs du dv dw hf he hm1 w1 w2 w3 hm2
      have v2 := qMove nu ku au (xu + du) (yu + dv) (zu + dw) lou hiu fs (-du) (-dv) (-dw) hf (ft_of he a0 (fun _ => rfl) j1 j2 j3) (plE_of (by omega) (by omega) (by omega)) (u := xu) (v := yu) (w := zu) ((Go.IntWalk.wrap64_in _ (by omega)).trans (by omega)) ((Go.IntWalk.wrap64_in _ (by omega)).trans (by omega)) ((Go.IntWalk.wrap64_in _ (by omega)).trans (by omega)) (plE_of hx hy hz)
      exact rtK_1 nu ku au xu yu zu lou hiu fpu flu fcu fs c d _ _ _ _ _ _ _ _ _ _ _ _ _ _ _ _ _ _  du dv dw _ _ _ qr t0 t1 t2 t3 n1 n2 v1 v2 (few_m hf) c0 c1 ed (by omega) (by omega) n1' n2' n3' w gl da
    · exact rtE_1 nu ku au xu yu zu lou hiu fpu flu fcu fs c d _ _ _ _ _ _ _ _ _ _ _ _ _ _ _  0 0 0 du dv dw 0 0 0 qr t0 t1 t2 t3 n1 n2 (few_m hf) c0 c1 ed (by omega) (by omega) (pMoveZ nu ku au xu yu zu lou hiu fpu flu fcu fs du dv dw hf he hm) w gl da
  · rw [show rtB nu ku au xu yu zu lou hiu fs = false by simpa using h] at qr
    exact rtN_1 nu ku au xu yu zu lou hiu fpu flu fcu fs c 0 0 0 0 0 0 0 0 0 0 0 0 0 0 0 0 0 0 0  du dv dw 0 0 0 qr w gl da
end Go.Proofs.YtdmfkgopalelgaaDoor
