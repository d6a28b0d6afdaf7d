/- Features: the law Returns. -/
import Derived.Test.YtdmfkgopalelgaaDoorQj1
import Derived.Test.YtdmfkgopalelgaaDoorOr2
import Derived.BigQuiet
import Derived.Test.YtdmfkgopalelgaaDoorQg9
import Derived.Test.YtdmfkgopalelgaaDoorM86
import Derived.Test.YtdmfkgopalelgaaDoorQh2
namespace Go.Proofs.YtdmfkgopalelgaaDoor
open Go.RowKit

theorem firstE_zero : ∀ {l : List Int}, (∀ e ∈ l, e = 0) → firstE l = 0
  | [], _ => rfl
  | u :: l, h => by
    unfold firstE
    rw [if_pos (h u (by simp))]
    exact firstE_zero fun e he => h e (by simp [he])
theorem ft_of {n : ByteArray} {k a x y z lo hi b u v w : Int} (h : ftE n k a x y z lo hi = 0) (h1 : b = 0 ∨ b = 1 ∨ b = 2) (h2 : k = 4 → b = a) (h3 : -100000 ≤ u ∧ u ≤ 100000) (h4 : -100000 ≤ v ∧ v ≤ 100000) (h5 : -100000 ≤ w ∧ w ≤ 100000) : ftE n k b u v w lo hi = 0 := by
  unfold ftE at h ⊢
  refine firstE_zero fun e he => ?_
  have g := firstE_all h
  simp only [List.mem_cons, List.not_mem_nil, or_false] at he g
  rcases he with rfl | rfl | rfl | rfl | rfl | rfl
  · exact g _ (.inl rfl)
  · exact g _ (.inr (.inl rfl))
  · rw [firstE_one]; rcases h1 with rfl | rfl | rfl <;> rfl
  · by_cases hk : k = 4
    · rw [h2 hk]; exact g _ (.inr (.inr (.inr (.inl rfl))))
    · rw [show (k == 4) = false by simpa using hk]; rfl
  · rw [firstE_one, plE_t]
    · unfold inR; simp; omega
    · unfold inR; simp; omega
    · unfold inR; simp; omega
  · exact g _ (.inr (.inr (.inr (.inr (.inr rfl)))))
theorem trA_in {c k a : Int} (hc : c = 0 ∨ c = 1 ∨ c = 2) (ha : a = 0 ∨ a = 1 ∨ a = 2) : trA c k a = 0 ∨ trA c k a = 1 ∨ trA c k a = 2 := by
  unfold trA
  split <;> omega
theorem ft_tr {n : ByteArray} {k a x y z lo hi c : Int} (h : ftE n k a x y z lo hi = 0) (hc : c = 0 ∨ c = 1 ∨ c = 2) : ftE n k (trA c k a) (tr1 c x y z) (tr2 c x y z) (tr3 c x y z) lo hi = 0 := by
  obtain ⟨hx, hy, hz⟩ := ft_pl h
  refine ft_of h (trA_in hc (ft_ax h)) (fun hk => if_pos (.inl hk)) ?_ ?_ ?_
  · unfold tr1; (repeat' split) <;> omega
  · unfold tr2; (repeat' split) <;> omega
  · unfold tr3; (repeat' split) <;> omega
theorem ft_mr {n : ByteArray} {k a x y z lo hi c : Int} (h : ftE n k a x y z lo hi = 0) : ftE n k a (mr1 c x) (mr2 c y) (mr3 c z) lo hi = 0 := by
  obtain ⟨hx, hy, hz⟩ := ft_pl h
  refine ft_of h (ft_ax h) (fun _ => rfl) ?_ ?_ ?_
  · unfold mr1; split <;> omega
  · unfold mr2; split <;> omega
  · unfold mr3; split <;> omega
theorem qTurn (nu : ByteArray) (ku au xu yu zu lou hiu : Int) (fs : List FrT) (d : Int) (hf : fewB nu fs = true) (h : (ftE nu ku au xu yu zu lou hiu) = 0) (hc : d = 0 ∨ d = 1 ∨ d = 2) {b u v w : Int} (e1 : trA d ku au = b) (e2 : tr1 d xu yu zu = u) (e3 : tr2 d xu yu zu = v) (e4 : tr3 d xu yu zu = w) : Hid (∀ (W : World) (p : Option Addr) (l c : Nat), FrS W (.slice p l c) fs → Calls Tryd.prog 28 #[.agg #[.string nu, .int .i64 ku, .int .i64 au, .int .i64 xu, .int .i64 yu, .int .i64 zu, .int .i64 lou, .int .i64 hiu, .slice p l c], .int .i64 d] W fun r W' => ∃ q' l' c', r = .returned (.tuple #[.agg #[.string nu, .int .i64 ku, .int .i64 b, .int .i64 u, .int .i64 v, .int .i64 w, .int .i64 lou, .int .i64 hiu, .slice q' l' c'], .int .i64 0]) ∧ FrU W.heap.size W' (.slice q' l' c') fs ∧ Kb W W') := by
  subst e1 e2 e3 e4
  exact Lib.hid fun W p l c da => (okTurn nu ku au xu yu zu lou hiu p l c fs d hf h hc).1.out W da
theorem qMirror (nu : ByteArray) (ku au xu yu zu lou hiu : Int) (fs : List FrT) (d : Int) (hf : fewB nu fs = true) (h : (ftE nu ku au xu yu zu lou hiu) = 0) (hc : d = 0 ∨ d = 1 ∨ d = 2) {u v w : Int} (e2 : mr1 d xu = u) (e3 : mr2 d yu = v) (e4 : mr3 d zu = w) : Hid (∀ (W : World) (p : Option Addr) (l c : Nat), FrS W (.slice p l c) fs → Calls Tryd.prog 26 #[.agg #[.string nu, .int .i64 ku, .int .i64 au, .int .i64 xu, .int .i64 yu, .int .i64 zu, .int .i64 lou, .int .i64 hiu, .slice p l c], .int .i64 d] W fun r W' => ∃ q' l' c', r = .returned (.tuple #[.agg #[.string nu, .int .i64 ku, .int .i64 au, .int .i64 u, .int .i64 v, .int .i64 w, .int .i64 lou, .int .i64 hiu, .slice q' l' c'], .int .i64 0]) ∧ FrU W.heap.size W' (.slice q' l' c') fs ∧ Kb W W') := by
  subst e2 e3 e4
  exact Lib.hid fun W p l c da => (okMirror nu ku au xu yu zu lou hiu p l c fs d hf h hc).1.out W da
theorem tmod3 {c : Int} (h0 : 0 ≤ c) : ∃ d : Int, c.tmod 3 = d ∧ (d = 0 ∨ d = 1 ∨ d = 2) := ⟨_, rfl, by rw [Int.tmod_eq_emod_of_nonneg h0]; omega⟩
end Go.Proofs.YtdmfkgopalelgaaDoor
