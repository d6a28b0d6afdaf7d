/- Texts Qm3: each says in its own first comment what it proves. -/
import Derived.Test.YtdmfkgopalelgaaDoorQg4
import Derived.Test.YtdmfkgopalelgaaDoorQf5
import Derived.Test.YtdmfkgopalelgaaDoorQk7
import Derived.Test.YtdmfkgopalelgaaDoorQk6
import Derived.Test.YtdmfkgopalelgaaDoorQk9
import Derived.Test.YtdmfkgopalelgaaDoorOf1
import Derived.Test.YtdmfkgopalelgaaDoorOr2
import Derived.StillTailTactics
import Derived.Test.YtdmfkgopalelgaaDoorQl0
import Derived.Test.YtdmfkgopalelgaaDoorQl1
import Derived.Test.YtdmfkgopalelgaaDoorQl2
import Derived.Test.YtdmfkgopalelgaaDoorQi3
import Derived.Test.YtdmfkgopalelgaaDoorQh2
/- Features: Move, Mirror, Turn: program and reference alike. -/
namespace Go.Proofs.YtdmfkgopalelgaaDoor
open Go.RowKit

theorem Ca.to {n : Nat} {args : Array Value} {u v : Value} (h : Ca n args u) (e : u = v) : Ca n args v := e ▸ h
theorem FrS.nil (w : World) : FrS w (.slice none 0 0) [] := ⟨[], rfl, ⟨none, 0, rfl, fun h => absurd h (by simp)⟩, fun i f hf => by simp at hf⟩
theorem few_ds {n : ByteArray} {fs : List FrT} (h : fewB n fs = true) : fs.length ≤ 12 ∧ ∀ f ∈ fs, f.ds.length ≤ 6 := by
  unfold fewB at h
  simp only [Bool.and_eq_true, decide_eq_true_eq, List.all_eq_true] at h
  refine ⟨h.1.2, fun f hf => ?_⟩
  have := h.2 f hf
  unfold fewF at this
  simp only [Bool.and_eq_true, decide_eq_true_eq] at this
  omega
theorem few_s {n : ByteArray} {fs : List FrT} (h : fewB n fs = true) : fs.length ≤ 1000 ∧ Hid (∀ f ∈ fs, f.ds.length ≤ 1000) :=
  ⟨by have := (few_ds h).1; omega, Lib.hid fun f hf => by have := (few_ds h).2 f hf; omega⟩
theorem along_e (e g : Int) : firstE [firstE [e], firstE [g]] = firstE [e, g] := by rw [firstE_one, firstE_one]
theorem plE_t {x y z : Int} (hx : inR x = true) (hy : inR y = true) (hz : inR z = true) : plE x y z = 0 := by unfold plE; rw [hx, hy, hz]; rfl
theorem axE_0 {c : Int} (h : axE c = 0) : c = 0 ∨ c = 1 ∨ c = 2 := by
  unfold axE fE at h
  split at h
  · omega
  · rename_i h2
    simp only [Bool.or_eq_true, decide_eq_true_eq, not_or] at h2
    omega
theorem ft_ax {n : ByteArray} {k a x y z lo hi : Int} (h : ftE n k a x y z lo hi = 0) : a = 0 ∨ a = 1 ∨ a = 2 := by
  unfold ftE at h
  have := firstE_all h (firstE [axE a]) (by simp)
  rw [firstE_one] at this
  exact axE_0 this
theorem nb_f {e : Int} (h : e = 0) : (e != 0) = false := by simp [h]
/-! what turning and mirroring make of coordinates and axes -/
def trA (c k a : Int) : Int := if k = 4 ∨ a = c then a else 3 - c - a
def tr1 (c x y z : Int) : Int := if c = 0 then x else if c = 1 then z else -y
def tr2 (c x y z : Int) : Int := if c = 0 then -z else if c = 1 then y else x
def tr3 (c x y z : Int) : Int := if c = 0 then y else if c = 1 then -x else z
def mr1 (c x : Int) : Int := if c = 0 then -x else x
def mr2 (c y : Int) : Int := if c = 1 then -y else y
def mr3 (c z : Int) : Int := if c = 2 then -z else z
theorem okMirror (nu : ByteArray) (ku au xu yu zu lou hiu : Int) (fpu : Option Addr) (flu fcu : Nat) (fs : List FrT) (c : Int) (hf : fewB nu fs = true) (h : (ftE nu ku au xu yu zu lou hiu) = 0) (hc : c = 0 ∨ c = 1 ∨ c = 2) :
    Hid (∀ W : World, FrS W (.slice fpu flu fcu) fs → Calls Tryd.prog 26 #[.agg #[.string nu, .int .i64 ku, .int .i64 au, .int .i64 xu, .int .i64 yu, .int .i64 zu, .int .i64 lou, .int .i64 hiu, .slice fpu flu fcu], .int .i64 c] W fun r W' => ∃ q' l' c', r = .returned (.tuple #[.agg #[.string nu, .int .i64 ku, .int .i64 au, .int .i64 (mr1 c xu), .int .i64 (mr2 c yu), .int .i64 (mr3 c zu), .int .i64 lou, .int .i64 hiu, .slice q' l' c'], .int .i64 0]) ∧ FrU W.heap.size W' (.slice q' l' c') fs ∧ Kb W W') ∧
    Ca 27 #[.agg #[.string nu, .int .i64 ku, .int .i64 au, .int .i64 xu, .int .i64 yu, .int .i64 zu, .int .i64 lou, .int .i64 hiu, .slice fpu flu fcu], .int .i64 c] (.tuple #[.agg #[.string nu, .int .i64 ku, .int .i64 au, .int .i64 (mr1 c xu), .int .i64 (mr2 c yu), .int .i64 (mr3 c zu), .int .i64 lou, .int .i64 hiu, .slice fpu flu fcu], .int .i64 0]) := by
  have hn := few_n hf
  have hs := few_s hf
  obtain ⟨hx, hy, hz⟩ := ft_pl h
  rcases hc with rfl | rfl | rfl
  · refine ⟨Lib.hid fun W da => (cMirror0_2 nu ku au xu yu zu lou hiu fpu flu fcu fs hs.1 hs.2 _ _ (Go.IntWalk.wrap64_in (-xu) (by omega)) (fcheckAlong nu ku au xu yu zu lou hiu fpu flu fcu 0 hn) (nb_f (by rw [along_e, h]; rfl)) W da).mono fun r W' ⟨q, c, h1, h2, h3⟩ => ⟨q, flu, c, h1, h2, h3⟩, (rMirror0_any nu ku au xu yu zu lou hiu fpu flu fcu _ (rgiven nu ku au xu yu zu lou hiu fpu flu fcu 0 hn)).to ?_⟩
    rw [if_neg (by rw [nb_f (by rw [h]; rfl)]; decide), Go.IntWalk.wrap64_in (-xu) (by omega)]; rfl
  · refine ⟨Lib.hid fun W da => (cMirror1_2 nu ku au xu yu zu lou hiu fpu flu fcu fs hs.1 hs.2 _ _ (Go.IntWalk.wrap64_in (-yu) (by omega)) (fcheckAlong nu ku au xu yu zu lou hiu fpu flu fcu 1 hn) (nb_f (by rw [along_e, h]; rfl)) W da).mono fun r W' ⟨q, c, h1, h2, h3⟩ => ⟨q, flu, c, h1, h2, h3⟩, (rMirror1_any nu ku au xu yu zu lou hiu fpu flu fcu _ (rgiven nu ku au xu yu zu lou hiu fpu flu fcu 1 hn)).to ?_⟩
    rw [if_neg (by rw [nb_f (by rw [h]; rfl)]; decide), Go.IntWalk.wrap64_in (-yu) (by omega)]; rfl
  · refine ⟨Lib.hid fun W da => (cMirror2_2 nu ku au xu yu zu lou hiu fpu flu fcu fs hs.1 hs.2 _ _ (Go.IntWalk.wrap64_in (-zu) (by omega)) (fcheckAlong nu ku au xu yu zu lou hiu fpu flu fcu 2 hn) (nb_f (by rw [along_e, h]; rfl)) W da).mono fun r W' ⟨q, c, h1, h2, h3⟩ => ⟨q, flu, c, h1, h2, h3⟩, (rMirror2_any nu ku au xu yu zu lou hiu fpu flu fcu _ (rgiven nu ku au xu yu zu lou hiu fpu flu fcu 2 hn)).to ?_⟩
    rw [if_neg (by rw [nb_f (by rw [h]; rfl)]; decide), Go.IntWalk.wrap64_in (-zu) (by omega)]; rfl
theorem okTurn (nu : ByteArray) (ku au xu yu zu lou hiu : Int) (fpu : Option Addr) (flu fcu : Nat) (fs : List FrT) (c : Int) (hf : fewB nu fs = true) (h : (ftE nu ku au xu yu zu lou hiu) = 0) (hc : c = 0 ∨ c = 1 ∨ c = 2) :
    Hid (∀ W : World, FrS W (.slice fpu flu fcu) fs → Calls Tryd.prog 28 #[.agg #[.string nu, .int .i64 ku, .int .i64 au, .int .i64 xu, .int .i64 yu, .int .i64 zu, .int .i64 lou, .int .i64 hiu, .slice fpu flu fcu], .int .i64 c] W fun r W' => ∃ q' l' c', r = .returned (.tuple #[.agg #[.string nu, .int .i64 ku, .int .i64 (trA c ku au), .int .i64 (tr1 c xu yu zu), .int .i64 (tr2 c xu yu zu), .int .i64 (tr3 c xu yu zu), .int .i64 lou, .int .i64 hiu, .slice q' l' c'], .int .i64 0]) ∧ FrU W.heap.size W' (.slice q' l' c') fs ∧ Kb W W') ∧
    Ca 29 #[.agg #[.string nu, .int .i64 ku, .int .i64 au, .int .i64 xu, .int .i64 yu, .int .i64 zu, .int .i64 lou, .int .i64 hiu, .slice fpu flu fcu], .int .i64 c] (.tuple #[.agg #[.string nu, .int .i64 ku, .int .i64 (trA c ku au), .int .i64 (tr1 c xu yu zu), .int .i64 (tr2 c xu yu zu), .int .i64 (tr3 c xu yu zu), .int .i64 lou, .int .i64 hiu, .slice fpu flu fcu], .int .i64 0]) := by
  have hn := few_n hf
  have hs := few_s hf
  obtain ⟨hx, hy, hz⟩ := ft_pl h
  rcases hc with rfl | rfl | rfl
  · have hw := Go.IntWalk.wrap64_in (-zu) (by omega)
    by_cases h4 : ku = 4
    · have ha : trA 0 ku au = au := if_pos (.inl h4)
      rw [ha]
      refine ⟨Lib.hid fun W da => (cTurn0_2 nu ku au xu yu zu lou hiu fpu flu fcu fs hs.1 hs.2 _ _ hw (fcheckAlong nu ku au xu yu zu lou hiu fpu flu fcu 0 hn) (nb_f (by rw [along_e, h]; rfl)) (by rw [h4]; rfl) W da).mono fun r W' ⟨q, c, h1, h2, h3⟩ => ⟨q, flu, c, h1, h2, h3⟩, (rTurn0_any nu ku au xu yu zu lou hiu fpu flu fcu _ (rgiven nu ku au xu yu zu lou hiu fpu flu fcu 0 hn)).to ?_⟩
      rw [if_neg (by rw [nb_f (by rw [h]; rfl)]; decide), if_neg (by rw [h4]; decide), hw]; rfl
    · have h4b : (ku == 4) = false := by simpa using h4
      have h4c : (ku != 4) = true := by simpa using h4
      rcases ft_ax h with rfl | rfl | rfl
      · have ha : trA 0 ku 0 = 0 := by unfold trA; rw [if_pos (.inr rfl)]
        rw [ha]
        refine ⟨Lib.hid fun W da => (cTurn0_5 nu ku 0 xu yu zu lou hiu fpu flu fcu fs hs.1 hs.2 _ _ hw (fcheckAlong nu ku 0 xu yu zu lou hiu fpu flu fcu 0 hn) (nb_f (by rw [along_e, h]; rfl)) h4b rfl rfl W da).mono fun r W' ⟨q, c, h1, h2, h3⟩ => ⟨q, flu, c, h1, h2, h3⟩, (rTurn0_any nu ku 0 xu yu zu lou hiu fpu flu fcu _ (rgiven nu ku 0 xu yu zu lou hiu fpu flu fcu 0 hn)).to ?_⟩
        rw [if_neg (by rw [nb_f (by rw [h]; rfl)]; decide), if_pos h4c, if_neg (by decide), hw]; rfl
      · have ha : trA 0 ku 1 = 2 := by unfold trA; rw [if_neg (by omega)]; rfl
        rw [ha]
        refine ⟨Lib.hid fun W da => (cTurn0_3 nu ku 1 xu yu zu lou hiu fpu flu fcu fs hs.1 hs.2 _ _ hw (fcheckAlong nu ku 1 xu yu zu lou hiu fpu flu fcu 0 hn) (nb_f (by rw [along_e, h]; rfl)) h4b rfl W da).mono fun r W' ⟨q, c, h1, h2, h3⟩ => ⟨q, flu, c, h1, h2, h3⟩, (rTurn0_any nu ku 1 xu yu zu lou hiu fpu flu fcu _ (rgiven nu ku 1 xu yu zu lou hiu fpu flu fcu 0 hn)).to ?_⟩
        rw [if_neg (by rw [nb_f (by rw [h]; rfl)]; decide), if_pos h4c, if_pos (by decide), show wrap64 (3 - 1) = 2 from Go.IntWalk.wrap64_in _ (by decide), hw]; rfl
      · have ha : trA 0 ku 2 = 1 := by unfold trA; rw [if_neg (by omega)]; rfl
        rw [ha]
        refine ⟨Lib.hid fun W da => (cTurn0_4 nu ku 2 xu yu zu lou hiu fpu flu fcu fs hs.1 hs.2 _ _ hw (fcheckAlong nu ku 2 xu yu zu lou hiu fpu flu fcu 0 hn) (nb_f (by rw [along_e, h]; rfl)) h4b rfl rfl W da).mono fun r W' ⟨q, c, h1, h2, h3⟩ => ⟨q, flu, c, h1, h2, h3⟩, (rTurn0_any nu ku 2 xu yu zu lou hiu fpu flu fcu _ (rgiven nu ku 2 xu yu zu lou hiu fpu flu fcu 0 hn)).to ?_⟩
        rw [if_neg (by rw [nb_f (by rw [h]; rfl)]; decide), if_pos h4c, if_pos (by decide), show wrap64 (3 - 2) = 1 from Go.IntWalk.wrap64_in _ (by decide), hw]; rfl
  · have hw := Go.IntWalk.wrap64_in (-xu) (by omega)
    by_cases h4 : ku = 4
    · have ha : trA 1 ku au = au := if_pos (.inl h4)
      rw [ha]
      refine ⟨Lib.hid fun W da => (cTurn1_2 nu ku au xu yu zu lou hiu fpu flu fcu fs hs.1 hs.2 _ _ hw (fcheckAlong nu ku au xu yu zu lou hiu fpu flu fcu 1 hn) (nb_f (by rw [along_e, h]; rfl)) (by rw [h4]; rfl) W da).mono fun r W' ⟨q, c, h1, h2, h3⟩ => ⟨q, flu, c, h1, h2, h3⟩, (rTurn1_any nu ku au xu yu zu lou hiu fpu flu fcu _ (rgiven nu ku au xu yu zu lou hiu fpu flu fcu 1 hn)).to ?_⟩
      rw [if_neg (by rw [nb_f (by rw [h]; rfl)]; decide), if_neg (by rw [h4]; decide), hw]; rfl
    · have h4b : (ku == 4) = false := by simpa using h4
      have h4c : (ku != 4) = true := by simpa using h4
      rcases ft_ax h with rfl | rfl | rfl
      · have ha : trA 1 ku 0 = 2 := by unfold trA; rw [if_neg (by omega)]; rfl
        rw [ha]
        refine ⟨Lib.hid fun W da => (cTurn1_4 nu ku 0 xu yu zu lou hiu fpu flu fcu fs hs.1 hs.2 _ _ hw (fcheckAlong nu ku 0 xu yu zu lou hiu fpu flu fcu 1 hn) (nb_f (by rw [along_e, h]; rfl)) h4b rfl rfl W da).mono fun r W' ⟨q, c, h1, h2, h3⟩ => ⟨q, flu, c, h1, h2, h3⟩, (rTurn1_any nu ku 0 xu yu zu lou hiu fpu flu fcu _ (rgiven nu ku 0 xu yu zu lou hiu fpu flu fcu 1 hn)).to ?_⟩
        rw [if_neg (by rw [nb_f (by rw [h]; rfl)]; decide), if_pos h4c, if_pos (by decide), show wrap64 (2 - 0) = 2 from Go.IntWalk.wrap64_in _ (by decide), hw]; rfl
      · have ha : trA 1 ku 1 = 1 := by unfold trA; rw [if_pos (.inr rfl)]
        rw [ha]
        refine ⟨Lib.hid fun W da => (cTurn1_5 nu ku 1 xu yu zu lou hiu fpu flu fcu fs hs.1 hs.2 _ _ hw (fcheckAlong nu ku 1 xu yu zu lou hiu fpu flu fcu 1 hn) (nb_f (by rw [along_e, h]; rfl)) h4b rfl rfl W da).mono fun r W' ⟨q, c, h1, h2, h3⟩ => ⟨q, flu, c, h1, h2, h3⟩, (rTurn1_any nu ku 1 xu yu zu lou hiu fpu flu fcu _ (rgiven nu ku 1 xu yu zu lou hiu fpu flu fcu 1 hn)).to ?_⟩
        rw [if_neg (by rw [nb_f (by rw [h]; rfl)]; decide), if_pos h4c, if_neg (by decide), hw]; rfl
      · have ha : trA 1 ku 2 = 0 := by unfold trA; rw [if_neg (by omega)]; rfl
        rw [ha]
        refine ⟨Lib.hid fun W da => (cTurn1_3 nu ku 2 xu yu zu lou hiu fpu flu fcu fs hs.1 hs.2 _ _ hw (fcheckAlong nu ku 2 xu yu zu lou hiu fpu flu fcu 1 hn) (nb_f (by rw [along_e, h]; rfl)) h4b rfl W da).mono fun r W' ⟨q, c, h1, h2, h3⟩ => ⟨q, flu, c, h1, h2, h3⟩, (rTurn1_any nu ku 2 xu yu zu lou hiu fpu flu fcu _ (rgiven nu ku 2 xu yu zu lou hiu fpu flu fcu 1 hn)).to ?_⟩
        rw [if_neg (by rw [nb_f (by rw [h]; rfl)]; decide), if_pos h4c, if_pos (by decide), show wrap64 (2 - 2) = 0 from Go.IntWalk.wrap64_in _ (by decide), hw]; rfl
  · have hw := Go.IntWalk.wrap64_in (-yu) (by omega)
    by_cases h4 : ku = 4
    · have ha : trA 2 ku au = au := if_pos (.inl h4)
      rw [ha]
      refine ⟨Lib.hid fun W da => (cTurn2_2 nu ku au xu yu zu lou hiu fpu flu fcu fs hs.1 hs.2 _ _ hw (fcheckAlong nu ku au xu yu zu lou hiu fpu flu fcu 2 hn) (nb_f (by rw [along_e, h]; rfl)) (by rw [h4]; rfl) W da).mono fun r W' ⟨q, c, h1, h2, h3⟩ => ⟨q, flu, c, h1, h2, h3⟩, (rTurn2_any nu ku au xu yu zu lou hiu fpu flu fcu _ (rgiven nu ku au xu yu zu lou hiu fpu flu fcu 2 hn)).to ?_⟩
      rw [if_neg (by rw [nb_f (by rw [h]; rfl)]; decide), if_neg (by rw [h4]; decide), hw]; rfl
    · have h4b : (ku == 4) = false := by simpa using h4
      have h4c : (ku != 4) = true := by simpa using h4
      rcases ft_ax h with rfl | rfl | rfl
      · have ha : trA 2 ku 0 = 1 := by unfold trA; rw [if_neg (by omega)]; rfl
        rw [ha]
        refine ⟨Lib.hid fun W da => (cTurn2_3 nu ku 0 xu yu zu lou hiu fpu flu fcu fs hs.1 hs.2 _ _ hw (fcheckAlong nu ku 0 xu yu zu lou hiu fpu flu fcu 2 hn) (nb_f (by rw [along_e, h]; rfl)) h4b rfl W da).mono fun r W' ⟨q, c, h1, h2, h3⟩ => ⟨q, flu, c, h1, h2, h3⟩, (rTurn2_any nu ku 0 xu yu zu lou hiu fpu flu fcu _ (rgiven nu ku 0 xu yu zu lou hiu fpu flu fcu 2 hn)).to ?_⟩
        rw [if_neg (by rw [nb_f (by rw [h]; rfl)]; decide), if_pos h4c, if_pos (by decide), show wrap64 (1 - 0) = 1 from Go.IntWalk.wrap64_in _ (by decide), hw]; rfl
      · have ha : trA 2 ku 1 = 0 := by unfold trA; rw [if_neg (by omega)]; rfl
        rw [ha]
        refine ⟨Lib.hid fun W da => (cTurn2_4 nu ku 1 xu yu zu lou hiu fpu flu fcu fs hs.1 hs.2 _ _ hw (fcheckAlong nu ku 1 xu yu zu lou hiu fpu flu fcu 2 hn) (nb_f (by rw [along_e, h]; rfl)) h4b rfl rfl W da).mono fun r W' ⟨q, c, h1, h2, h3⟩ => ⟨q, flu, c, h1, h2, h3⟩, (rTurn2_any nu ku 1 xu yu zu lou hiu fpu flu fcu _ (rgiven nu ku 1 xu yu zu lou hiu fpu flu fcu 2 hn)).to ?_⟩
        rw [if_neg (by rw [nb_f (by rw [h]; rfl)]; decide), if_pos h4c, if_pos (by decide), show wrap64 (1 - 1) = 0 from Go.IntWalk.wrap64_in _ (by decide), hw]; rfl
      · have ha : trA 2 ku 2 = 2 := by unfold trA; rw [if_pos (.inr rfl)]
        rw [ha]
        refine ⟨Lib.hid fun W da => (cTurn2_5 nu ku 2 xu yu zu lou hiu fpu flu fcu fs hs.1 hs.2 _ _ hw (fcheckAlong nu ku 2 xu yu zu lou hiu fpu flu fcu 2 hn) (nb_f (by rw [along_e, h]; rfl)) h4b rfl rfl W da).mono fun r W' ⟨q, c, h1, h2, h3⟩ => ⟨q, flu, c, h1, h2, h3⟩, (rTurn2_any nu ku 2 xu yu zu lou hiu fpu flu fcu _ (rgiven nu ku 2 xu yu zu lou hiu fpu flu fcu 2 hn)).to ?_⟩
        rw [if_neg (by rw [nb_f (by rw [h]; rfl)]; decide), if_pos h4c, if_neg (by decide), hw]; rfl
end Go.Proofs.YtdmfkgopalelgaaDoor
