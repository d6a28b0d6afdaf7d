/- Texts Qm3, Qm4: each says in its own first comment what it proves. -/
import Derived.Test.YtdmfkgopalelgaaDoorQm2
import Derived.Test.YtdmfkgopalelgaaDoorQk7
import Derived.Test.YtdmfkgopalelgaaDoorQk8
import Derived.Test.YtdmfkgopalelgaaDoorQk9
import Derived.Test.YtdmfkgopalelgaaDoorQka
import Derived.Test.YtdmfkgopalelgaaDoorQl0
import Derived.Test.YtdmfkgopalelgaaDoorQl1
import Derived.Test.YtdmfkgopalelgaaDoorQl2
import Derived.Test.YtdmfkgopalelgaaDoorQi3
import Derived.Test.YtdmfkgopalelgaaDoorQh2
import Derived.Test.YtdmfkgopalelgaaDoorQm1
/- Features: Move, Mirror, Turn: program and reference alike. -/
namespace Go.Proofs.YtdmfkgopalelgaaDoor
open Go.RowKit

theorem Ca.to {n : Nat} {args : Array Value} {u v : Value} (h : Ca n args u) (e : u = v) : Ca n args v := e ▸ h
theorem FrS.nil (w : World) : FrS w (.slice none 0 0) [] := ⟨[], rfl, ⟨none, 0, rfl, fun h => absurd h (by simp)⟩, fun i f hf => by simp at hf⟩
theorem few_ds {n : ByteArray} {fs : List FrT} (h : fewB n fs = true) : fs.length ≤ 12 ∧ ∀ f ∈ fs, f.ds.length ≤ 6 := by
  unfold fewB at h
  simp only [Bool.and_eq_true, decide_eq_true_eq, List.all_eq_true] at h
  refine ⟨h.1.2, fun f hf => ?_⟩
  have := h.2 f hf
  unfold fewF at this
  simp only [Bool.and_eq_true, decide_eq_true_eq] at this
  omega
theorem few_s {n : ByteArray} {fs : List FrT} (h : fewB n fs = true) : fs.length ≤ 1000 ∧ Hid (∀ f ∈ fs, f.ds.length ≤ 1000) :=
  ⟨by have := (few_ds h).1; omega, Lib.hid fun f hf => by have := (few_ds h).2 f hf; omega⟩
theorem few_m {n : ByteArray} {fs : List FrT} (h : fewB n fs = true) : Hid (fs.length ≤ 12 ∧ ∀ f ∈ fs, f.ds.length ≤ 1000000) :=
  Lib.hid ⟨(few_ds h).1, fun f hf => by have := (few_ds h).2 f hf; omega⟩
theorem nil_m : Hid (([] : List FrT).length ≤ 12 ∧ ∀ f ∈ ([] : List FrT), f.ds.length ≤ 1000000) := Lib.hid ⟨by simp, fun f hf => by simp at hf⟩
theorem along_e (e g : Int) : firstE [firstE [e], firstE [g]] = firstE [e, g] := by rw [firstE_one, firstE_one]
theorem plE_t {x y z : Int} (hx : inR x = true) (hy : inR y = true) (hz : inR z = true) : plE x y z = 0 := by unfold plE; rw [hx, hy, hz]; rfl
theorem plE_f {x y z : Int} (h : inR x = false ∨ inR y = false ∨ inR z = false) : plE x y z = 2 := by
  unfold plE
  rcases h with h | h | h <;> rw [h] <;> simp
theorem axE_0 {c : Int} (h : axE c = 0) : c = 0 ∨ c = 1 ∨ c = 2 := by
  unfold axE fE at h
  split at h
  · omega
  · rename_i h2
    simp only [Bool.or_eq_true, decide_eq_true_eq, not_or] at h2
    omega
theorem ft_ax {n : ByteArray} {k a x y z lo hi : Int} (h : ftE n k a x y z lo hi = 0) : a = 0 ∨ a = 1 ∨ a = 2 := by
  unfold ftE at h
  have := firstE_all h (firstE [axE a]) (by simp)
  rw [firstE_one] at this
  exact axE_0 this
theorem nb_t {e : Int} (h : e ≠ 0) : (e != 0) = true := by simpa using h
theorem nb_f {e : Int} (h : e = 0) : (e != 0) = false := by simp [h]
/-! what turning and mirroring make of coordinates and axes -/
def trA (c k a : Int) : Int := if k = 4 ∨ a = c then a else 3 - c - a
def tr1 (c x y z : Int) : Int := if c = 0 then x else if c = 1 then z else -y
def tr2 (c x y z : Int) : Int := if c = 0 then -z else if c = 1 then y else x
def tr3 (c x y z : Int) : Int := if c = 0 then y else if c = 1 then -x else z
def mr1 (c x : Int) : Int := if c = 0 then -x else x
def mr2 (c y : Int) : Int := if c = 1 then -y else y
def mr3 (c z : Int) : Int := if c = 2 then -z else z
theorem okMirror (nu : ByteArray) (ku au xu yu zu lou hiu : Int) (fpu : Option Addr) (flu fcu : Nat) (fs : List FrT) (c : Int) (hf : fewB nu fs = true) (h : (ftE nu ku au xu yu zu lou hiu) = 0) (hc : c = 0 ∨ c = 1 ∨ c = 2) :
    Hid (∀ W : World, FrS W (.slice fpu flu fcu) fs → Calls Tryd.prog 26 #[.agg #[.string nu, .int .i64 ku, .int .i64 au, .int .i64 xu, .int .i64 yu, .int .i64 zu, .int .i64 lou, .int .i64 hiu, .slice fpu flu fcu], .int .i64 c] W fun r W' => ∃ q' l' c', r = .returned (.tuple #[.agg #[.string nu, .int .i64 ku, .int .i64 au, .int .i64 (mr1 c xu), .int .i64 (mr2 c yu), .int .i64 (mr3 c zu), .int .i64 lou, .int .i64 hiu, .slice q' l' c'], .int .i64 0]) ∧ FrU W.heap.size W' (.slice q' l' c') fs ∧ Kb W W') ∧
    Ca 27 #[.agg #[.string nu, .int .i64 ku, .int .i64 au, .int .i64 xu, .int .i64 yu, .int .i64 zu, .int .i64 lou, .int .i64 hiu, .slice fpu flu fcu], .int .i64 c] (.tuple #[.agg #[.string nu, .int .i64 ku, .int .i64 au, .int .i64 (mr1 c xu), .int .i64 (mr2 c yu), .int .i64 (mr3 c zu), .int .i64 lou, .int .i64 hiu, .slice fpu flu fcu], .int .i64 0]) := by
  have hn := few_n hf
  have hs := few_s hf
  obtain ⟨hx, hy, hz⟩ := ft_pl h
  rcases hc with rfl | rfl | rfl
  · refine ⟨Lib.hid fun W da => (cMirror0_2 nu ku au xu yu zu lou hiu fpu flu fcu fs hs.1 hs.2 _ _ (Go.IntWalk.wrap64_in (-xu) (by omega)) (fcheckAlong nu ku au xu yu zu lou hiu fpu flu fcu 0 hn) (nb_f (by rw [along_e, h]; rfl)) W da).mono fun r W' ⟨q, c, h1, h2, h3⟩ => ⟨q, flu, c, h1, h2, h3⟩, (rMirror0_any nu ku au xu yu zu lou hiu fpu flu fcu _ (rgiven nu ku au xu yu zu lou hiu fpu flu fcu 0 hn)).to ?_⟩
    rw [if_neg (by rw [nb_f (by rw [h]; rfl)]; decide), Go.IntWalk.wrap64_in (-xu) (by omega)]; rfl
  · refine ⟨Lib.hid fun W da => (cMirror1_2 nu ku au xu yu zu lou hiu fpu flu fcu fs hs.1 hs.2 _ _ (Go.IntWalk.wrap64_in (-yu) (by omega)) (fcheckAlong nu ku au xu yu zu lou hiu fpu flu fcu 1 hn) (nb_f (by rw [along_e, h]; rfl)) W da).mono fun r W' ⟨q, c, h1, h2, h3⟩ => ⟨q, flu, c, h1, h2, h3⟩, (rMirror1_any nu ku au xu yu zu lou hiu fpu flu fcu _ (rgiven nu ku au xu yu zu lou hiu fpu flu fcu 1 hn)).to ?_⟩
    rw [if_neg (by rw [nb_f (by rw [h]; rfl)]; decide), Go.IntWalk.wrap64_in (-yu) (by omega)]; rfl
  · refine ⟨Lib.hid fun W da => (cMirror2_2 nu ku au xu yu zu lou hiu fpu flu fcu fs hs.1 hs.2 _ _ (Go.IntWalk.wrap64_in (-zu) (by omega)) (fcheckAlong nu ku au xu yu zu lou hiu fpu flu fcu 2 hn) (nb_f (by rw [along_e, h]; rfl)) W da).mono fun r W' ⟨q, c, h1, h2, h3⟩ => ⟨q, flu, c, h1, h2, h3⟩, (rMirror2_any nu ku au xu yu zu lou hiu fpu flu fcu _ (rgiven nu ku au xu yu zu lou hiu fpu flu fcu 2 hn)).to ?_⟩
    rw [if_neg (by rw [nb_f (by rw [h]; rfl)]; decide), Go.IntWalk.wrap64_in (-zu) (by omega)]; rfl
theorem okTurn (nu : ByteArray) (ku au xu yu zu lou hiu : Int) (fpu : Option Addr) (flu fcu : Nat) (fs : List FrT) (c : Int) (hf : fewB nu fs = true) (h : (ftE nu ku au xu yu zu lou hiu) = 0) (hc : c = 0 ∨ c = 1 ∨ c = 2) :
    Hid (∀ W : World, FrS W (.slice fpu flu fcu) fs → Calls Tryd.prog 28 #[.agg #[.string nu, .int .i64 ku, .int .i64 au, .int .i64 xu, .int .i64 yu, .int .i64 zu, .int .i64 lou, .int .i64 hiu, .slice fpu flu fcu], .int .i64 c] W fun r W' => ∃ q' l' c', r = .returned (.tuple #[.agg #[.string nu, .int .i64 ku, .int .i64 (trA c ku au), .int .i64 (tr1 c xu yu zu), .int .i64 (tr2 c xu yu zu), .int .i64 (tr3 c xu yu zu), .int .i64 lou, .int .i64 hiu, .slice q' l' c'], .int .i64 0]) ∧ FrU W.heap.size W' (.slice q' l' c') fs ∧ Kb W W') ∧
    Ca 29 #[.agg #[.string nu, .int .i64 ku, .int .i64 au, .int .i64 xu, .int .i64 yu, .int .i64 zu, .int .i64 lou, .int .i64 hiu, .slice fpu flu fcu], .int .i64 c] (.tuple #[.agg #[.string nu, .int .i64 ku, .int .i64 (trA c ku au), .int .i64 (tr1 c xu yu zu), .int .i64 (tr2 c xu yu zu), .int .i64 (tr3 c xu yu zu), .int .i64 lou, .int .i64 hiu, .slice fpu flu fcu], .int .i64 0]) := by
  have hn := few_n hf
  have hs := few_s hf
  obtain ⟨hx, hy, hz⟩ := ft_pl h
  rcases hc with rfl | rfl | rfl
  · have hw := Go.IntWalk.wrap64_in (-zu) (by omega)
    by_cases h4 : ku = 4
    · have ha : trA 0 ku au = au := if_pos (.inl h4)
      rw [ha]
      refine ⟨Lib.hid fun W da => (cTurn0_2 nu ku au xu yu zu lou hiu fpu flu fcu fs hs.1 hs.2 _ _ hw (fcheckAlong nu ku au xu yu zu lou hiu fpu flu fcu 0 hn) (nb_f (by rw [along_e, h]; rfl)) (by rw [h4]; rfl) W da).mono fun r W' ⟨q, c, h1, h2, h3⟩ => ⟨q, flu, c, h1, h2, h3⟩, (rTurn0_any nu ku au xu yu zu lou hiu fpu flu fcu _ (rgiven nu ku au xu yu zu lou hiu fpu flu fcu 0 hn)).to ?_⟩
      rw [if_neg (by rw [nb_f (by rw [h]; rfl)]; decide), if_neg (by rw [h4]; decide), hw]; rfl
    · have h4b : (ku == 4) = false := by simpa using h4
      have h4c : (ku != 4) = true := by simpa using h4
      rcases ft_ax h with rfl | rfl | rfl
      · have ha : trA 0 ku 0 = 0 := by unfold trA; rw [if_pos (.inr rfl)]
        rw [ha]
        refine ⟨Lib.hid fun W da => (cTurn0_5 nu ku 0 xu yu zu lou hiu fpu flu fcu fs hs.1 hs.2 _ _ hw (fcheckAlong nu ku 0 xu yu zu lou hiu fpu flu fcu 0 hn) (nb_f (by rw [along_e, h]; rfl)) h4b rfl rfl W da).mono fun r W' ⟨q, c, h1, h2, h3⟩ => ⟨q, flu, c, h1, h2, h3⟩, (rTurn0_any nu ku 0 xu yu zu lou hiu fpu flu fcu _ (rgiven nu ku 0 xu yu zu lou hiu fpu flu fcu 0 hn)).to ?_⟩
        rw [if_neg (by rw [nb_f (by rw [h]; rfl)]; decide), if_pos h4c, if_neg (by decide), hw]; rfl
      · have ha : trA 0 ku 1 = 2 := by unfold trA; rw [if_neg (by omega)]; rfl
        rw [ha]
        refine ⟨Lib.hid fun W da => (cTurn0_3 nu ku 1 xu yu zu lou hiu fpu flu fcu fs hs.1 hs.2 _ _ hw (fcheckAlong nu ku 1 xu yu zu lou hiu fpu flu fcu 0 hn) (nb_f (by rw [along_e, h]; rfl)) h4b rfl W da).mono fun r W' ⟨q, c, h1, h2, h3⟩ => ⟨q, flu, c, h1, h2, h3⟩, (rTurn0_any nu ku 1 xu yu zu lou hiu fpu flu fcu _ (rgiven nu ku 1 xu yu zu lou hiu fpu flu fcu 0 hn)).to ?_⟩
        rw [if_neg (by rw [nb_f (by rw [h]; rfl)]; decide), if_pos h4c, if_pos (by decide), show wrap64 (3 - 1) = 2 from Go.IntWalk.wrap64_in _ (by decide), hw]; rfl
      · have ha : trA 0 ku 2 = 1 := by unfold trA; rw [if_neg (by omega)]; rfl
        rw [ha]
        refine ⟨Lib.hid fun W da => (cTurn0_4 nu ku 2 xu yu zu lou hiu fpu flu fcu fs hs.1 hs.2 _ _ hw (fcheckAlong nu ku 2 xu yu zu lou hiu fpu flu fcu 0 hn) (nb_f (by rw [along_e, h]; rfl)) h4b rfl rfl W da).mono fun r W' ⟨q, c, h1, h2, h3⟩ => ⟨q, flu, c, h1, h2, h3⟩, (rTurn0_any nu ku 2 xu yu zu lou hiu fpu flu fcu _ (rgiven nu ku 2 xu yu zu lou hiu fpu flu fcu 0 hn)).to ?_⟩
        rw [if_neg (by rw [nb_f (by rw [h]; rfl)]; decide), if_pos h4c, if_pos (by decide), show wrap64 (3 - 2) = 1 from Go.IntWalk.wrap64_in _ (by decide), hw]; rfl
  · have hw := Go.IntWalk.wrap64_in (-xu) (by omega)
    by_cases h4 : ku = 4
    · have ha : trA 1 ku au = au := if_pos (.inl h4)
      rw [ha]
      refine ⟨Lib.hid fun W da => (cTurn1_2 nu ku au xu yu zu lou hiu fpu flu fcu fs hs.1 hs.2 _ _ hw (fcheckAlong nu ku au xu yu zu lou hiu fpu flu fcu 1 hn) (nb_f (by rw [along_e, h]; rfl)) (by rw [h4]; rfl) W da).mono fun r W' ⟨q, c, h1, h2, h3⟩ => ⟨q, flu, c, h1, h2, h3⟩, (rTurn1_any nu ku au xu yu zu lou hiu fpu flu fcu _ (rgiven nu ku au xu yu zu lou hiu fpu flu fcu 1 hn)).to ?_⟩
      rw [if_neg (by rw [nb_f (by rw [h]; rfl)]; decide), if_neg (by rw [h4]; decide), hw]; rfl
    · have h4b : (ku == 4) = false := by simpa using h4
      have h4c : (ku != 4) = true := by simpa using h4
      rcases ft_ax h with rfl | rfl | rfl
      · have ha : trA 1 ku 0 = 2 := by unfold trA; rw [if_neg (by omega)]; rfl
        rw [ha]
        refine ⟨Lib.hid fun W da => (cTurn1_4 nu ku 0 xu yu zu lou hiu fpu flu fcu fs hs.1 hs.2 _ _ hw (fcheckAlong nu ku 0 xu yu zu lou hiu fpu flu fcu 1 hn) (nb_f (by rw [along_e, h]; rfl)) h4b rfl rfl W da).mono fun r W' ⟨q, c, h1, h2, h3⟩ => ⟨q, flu, c, h1, h2, h3⟩, (rTurn1_any nu ku 0 xu yu zu lou hiu fpu flu fcu _ (rgiven nu ku 0 xu yu zu lou hiu fpu flu fcu 1 hn)).to ?_⟩
        rw [if_neg (by rw [nb_f (by rw [h]; rfl)]; decide), if_pos h4c, if_pos (by decide), show wrap64 (2 - 0) = 2 from Go.IntWalk.wrap64_in _ (by decide), hw]; rfl
      · have ha : trA 1 ku 1 = 1 := by unfold trA; rw [if_pos (.inr rfl)]
        rw [ha]
        refine ⟨Lib.hid fun W da => (cTurn1_5 nu ku 1 xu yu zu lou hiu fpu flu fcu fs hs.1 hs.2 _ _ hw (fcheckAlong nu ku 1 xu yu zu lou hiu fpu flu fcu 1 hn) (nb_f (by rw [along_e, h]; rfl)) h4b rfl rfl W da).mono fun r W' ⟨q, c, h1, h2, h3⟩ => ⟨q, flu, c, h1, h2, h3⟩, (rTurn1_any nu ku 1 xu yu zu lou hiu fpu flu fcu _ (rgiven nu ku 1 xu yu zu lou hiu fpu flu fcu 1 hn)).to ?_⟩
        rw [if_neg (by rw [nb_f (by rw [h]; rfl)]; decide), if_pos h4c, if_neg (by decide), hw]; rfl
      · have ha : trA 1 ku 2 = 0 := by unfold trA; rw [if_neg (by omega)]; rfl
        rw [ha]
        refine ⟨Lib.hid fun W da => (cTurn1_3 nu ku 2 xu yu zu lou hiu fpu flu fcu fs hs.1 hs.2 _ _ hw (fcheckAlong nu ku 2 xu yu zu lou hiu fpu flu fcu 1 hn) (nb_f (by rw [along_e, h]; rfl)) h4b rfl W da).mono fun r W' ⟨q, c, h1, h2, h3⟩ => ⟨q, flu, c, h1, h2, h3⟩, (rTurn1_any nu ku 2 xu yu zu lou hiu fpu flu fcu _ (rgiven nu ku 2 xu yu zu lou hiu fpu flu fcu 1 hn)).to ?_⟩
        rw [if_neg (by rw [nb_f (by rw [h]; rfl)]; decide), if_pos h4c, if_pos (by decide), show wrap64 (2 - 2) = 0 from Go.IntWalk.wrap64_in _ (by decide), hw]; rfl
  · have hw := Go.IntWalk.wrap64_in (-yu) (by omega)
    by_cases h4 : ku = 4
    · have ha : trA 2 ku au = au := if_pos (.inl h4)
      rw [ha]
      refine ⟨Lib.hid fun W da => (cTurn2_2 nu ku au xu yu zu lou hiu fpu flu fcu fs hs.1 hs.2 _ _ hw (fcheckAlong nu ku au xu yu zu lou hiu fpu flu fcu 2 hn) (nb_f (by rw [along_e, h]; rfl)) (by rw [h4]; rfl) W da).mono fun r W' ⟨q, c, h1, h2, h3⟩ => ⟨q, flu, c, h1, h2, h3⟩, (rTurn2_any nu ku au xu yu zu lou hiu fpu flu fcu _ (rgiven nu ku au xu yu zu lou hiu fpu flu fcu 2 hn)).to ?_⟩
      rw [if_neg (by rw [nb_f (by rw [h]; rfl)]; decide), if_neg (by rw [h4]; decide), hw]; rfl
    · have h4b : (ku == 4) = false := by simpa using h4
      have h4c : (ku != 4) = true := by simpa using h4
      rcases ft_ax h with rfl | rfl | rfl
      · have ha : trA 2 ku 0 = 1 := by unfold trA; rw [if_neg (by omega)]; rfl
        rw [ha]
        refine ⟨Lib.hid fun W da => (cTurn2_3 nu ku 0 xu yu zu lou hiu fpu flu fcu fs hs.1 hs.2 _ _ hw (fcheckAlong nu ku 0 xu yu zu lou hiu fpu flu fcu 2 hn) (nb_f (by rw [along_e, h]; rfl)) h4b rfl W da).mono fun r W' ⟨q, c, h1, h2, h3⟩ => ⟨q, flu, c, h1, h2, h3⟩, (rTurn2_any nu ku 0 xu yu zu lou hiu fpu flu fcu _ (rgiven nu ku 0 xu yu zu lou hiu fpu flu fcu 2 hn)).to ?_⟩
        rw [if_neg (by rw [nb_f (by rw [h]; rfl)]; decide), if_pos h4c, if_pos (by decide), show wrap64 (1 - 0) = 1 from Go.IntWalk.wrap64_in _ (by decide), hw]; rfl
      · have ha : trA 2 ku 1 = 0 := by unfold trA; rw [if_neg (by omega)]; rfl
        rw [ha]
        refine ⟨Lib.hid fun W da => (cTurn2_4 nu ku 1 xu yu zu lou hiu fpu flu fcu fs hs.1 hs.2 _ _ hw (fcheckAlong nu ku 1 xu yu zu lou hiu fpu flu fcu 2 hn) (nb_f (by rw [along_e, h]; rfl)) h4b rfl rfl W da).mono fun r W' ⟨q, c, h1, h2, h3⟩ => ⟨q, flu, c, h1, h2, h3⟩, (rTurn2_any nu ku 1 xu yu zu lou hiu fpu flu fcu _ (rgiven nu ku 1 xu yu zu lou hiu fpu flu fcu 2 hn)).to ?_⟩
        rw [if_neg (by rw [nb_f (by rw [h]; rfl)]; decide), if_pos h4c, if_pos (by decide), show wrap64 (1 - 1) = 0 from Go.IntWalk.wrap64_in _ (by decide), hw]; rfl
      · have ha : trA 2 ku 2 = 2 := by unfold trA; rw [if_pos (.inr rfl)]
        rw [ha]
        refine ⟨Lib.hid fun W da => (cTurn2_5 nu ku 2 xu yu zu lou hiu fpu flu fcu fs hs.1 hs.2 _ _ hw (fcheckAlong nu ku 2 xu yu zu lou hiu fpu flu fcu 2 hn) (nb_f (by rw [along_e, h]; rfl)) h4b rfl rfl W da).mono fun r W' ⟨q, c, h1, h2, h3⟩ => ⟨q, flu, c, h1, h2, h3⟩, (rTurn2_any nu ku 2 xu yu zu lou hiu fpu flu fcu _ (rgiven nu ku 2 xu yu zu lou hiu fpu flu fcu 2 hn)).to ?_⟩
        rw [if_neg (by rw [nb_f (by rw [h]; rfl)]; decide), if_pos h4c, if_neg (by decide), hw]; rfl
theorem bMirror (nu : ByteArray) (ku au xu yu zu lou hiu : Int) (fpu : Option Addr) (flu fcu : Nat) (fs : List FrT) (c : Int) (hf : fewB nu fs = true) : ∃ (n : ByteArray) (k a x y z lo hi e : Int) (g : List FrT) (p2 : Option Addr) (l2 c2 : Nat),
    Hid (∀ W : World, FrS W (.slice fpu flu fcu) fs → Calls Tryd.prog 26 #[.agg #[.string nu, .int .i64 ku, .int .i64 au, .int .i64 xu, .int .i64 yu, .int .i64 zu, .int .i64 lou, .int .i64 hiu, .slice fpu flu fcu], .int .i64 c] W fun r W' => ∃ q' l' c', r = .returned (.tuple #[.agg #[.string n, .int .i64 k, .int .i64 a, .int .i64 x, .int .i64 y, .int .i64 z, .int .i64 lo, .int .i64 hi, .slice q' l' c'], .int .i64 e]) ∧ FrS W' (.slice q' l' c') g ∧ Kb W W') ∧
    Ca 27 #[.agg #[.string nu, .int .i64 ku, .int .i64 au, .int .i64 xu, .int .i64 yu, .int .i64 zu, .int .i64 lou, .int .i64 hiu, .slice fpu flu fcu], .int .i64 c] (.tuple #[.agg #[.string n, .int .i64 k, .int .i64 a, .int .i64 x, .int .i64 y, .int .i64 z, .int .i64 lo, .int .i64 hi, .slice p2 l2 c2], .int .i64 e]) ∧ (∀ w, FrS w (.slice fpu flu fcu) fs → FrS w (.slice p2 l2 c2) g) ∧ Hid (g.length ≤ 12 ∧ ∀ f ∈ g, f.ds.length ≤ 1000000) := by
  have hn := few_n hf
  by_cases h : firstE [(ftE nu ku au xu yu zu lou hiu), axE c] = 0
  · have h1 := firstE_all h (ftE nu ku au xu yu zu lou hiu) (by simp)
    have h2 := firstE_all h (axE c) (by simp)
    obtain ⟨a, b⟩ := okMirror nu ku au xu yu zu lou hiu fpu flu fcu fs c hf h1 (axE_0 h2)
    exact ⟨_, _, _, _, _, _, _, _, _, _, _, _, _, Lib.hid (fun W da => (a.out W da).mono fun r W' ⟨q, l, c, h1, h2, h3⟩ => ⟨q, l, c, h1, h2.frs, h3⟩), b, fun _ h => h, few_m hf⟩
  · refine ⟨⟨#[]⟩, 0, 0, 0, 0, 0, 0, 0, firstE [(ftE nu ku au xu yu zu lou hiu), axE c], [], none, 0, 0, Lib.hid fun W da => ?_, rMirrorE_any nu ku au xu yu zu lou hiu fpu flu fcu c _ (rgiven nu ku au xu yu zu lou hiu fpu flu fcu c hn) (nb_t h), fun w _ => FrS.nil w, nil_m⟩
    have q := cMirrorE_any nu ku au xu yu zu lou hiu fpu flu fcu c _ (fcheckAlong nu ku au xu yu zu lou hiu fpu flu fcu c hn) (nb_t (by rw [along_e]; exact h))
    rw [along_e] at q
    exact (Ca.o q W).mono fun r W' ⟨h1, h2⟩ => ⟨none, 0, 0, h1, FrS.nil W', h2⟩
theorem bTurn (nu : ByteArray) (ku au xu yu zu lou hiu : Int) (fpu : Option Addr) (flu fcu : Nat) (fs : List FrT) (c : Int) (hf : fewB nu fs = true) : ∃ (n : ByteArray) (k a x y z lo hi e : Int) (g : List FrT) (p2 : Option Addr) (l2 c2 : Nat),
    Hid (∀ W : World, FrS W (.slice fpu flu fcu) fs → Calls Tryd.prog 28 #[.agg #[.string nu, .int .i64 ku, .int .i64 au, .int .i64 xu, .int .i64 yu, .int .i64 zu, .int .i64 lou, .int .i64 hiu, .slice fpu flu fcu], .int .i64 c] W fun r W' => ∃ q' l' c', r = .returned (.tuple #[.agg #[.string n, .int .i64 k, .int .i64 a, .int .i64 x, .int .i64 y, .int .i64 z, .int .i64 lo, .int .i64 hi, .slice q' l' c'], .int .i64 e]) ∧ FrS W' (.slice q' l' c') g ∧ Kb W W') ∧
    Ca 29 #[.agg #[.string nu, .int .i64 ku, .int .i64 au, .int .i64 xu, .int .i64 yu, .int .i64 zu, .int .i64 lou, .int .i64 hiu, .slice fpu flu fcu], .int .i64 c] (.tuple #[.agg #[.string n, .int .i64 k, .int .i64 a, .int .i64 x, .int .i64 y, .int .i64 z, .int .i64 lo, .int .i64 hi, .slice p2 l2 c2], .int .i64 e]) ∧ (∀ w, FrS w (.slice fpu flu fcu) fs → FrS w (.slice p2 l2 c2) g) ∧ Hid (g.length ≤ 12 ∧ ∀ f ∈ g, f.ds.length ≤ 1000000) := by
  have hn := few_n hf
  by_cases h : firstE [(ftE nu ku au xu yu zu lou hiu), axE c] = 0
  · have h1 := firstE_all h (ftE nu ku au xu yu zu lou hiu) (by simp)
    have h2 := firstE_all h (axE c) (by simp)
    obtain ⟨a, b⟩ := okTurn nu ku au xu yu zu lou hiu fpu flu fcu fs c hf h1 (axE_0 h2)
    exact ⟨_, _, _, _, _, _, _, _, _, _, _, _, _, Lib.hid (fun W da => (a.out W da).mono fun r W' ⟨q, l, c, h1, h2, h3⟩ => ⟨q, l, c, h1, h2.frs, h3⟩), b, fun _ h => h, few_m hf⟩
  · refine ⟨⟨#[]⟩, 0, 0, 0, 0, 0, 0, 0, firstE [(ftE nu ku au xu yu zu lou hiu), axE c], [], none, 0, 0, Lib.hid fun W da => ?_, rTurnE_any nu ku au xu yu zu lou hiu fpu flu fcu c _ (rgiven nu ku au xu yu zu lou hiu fpu flu fcu c hn) (nb_t h), fun w _ => FrS.nil w, nil_m⟩
    have q := cTurnE_any nu ku au xu yu zu lou hiu fpu flu fcu c _ (fcheckAlong nu ku au xu yu zu lou hiu fpu flu fcu c hn) (nb_t (by rw [along_e]; exact h))
    rw [along_e] at q
    exact (Ca.o q W).mono fun r W' ⟨h1, h2⟩ => ⟨none, 0, 0, h1, FrS.nil W', h2⟩
theorem pMove (nu : ByteArray) (ku au xu yu zu lou hiu : Int) (fpu : Option Addr) (flu fcu : Nat) (fs : List FrT) (du dv dw : Int) (hf : fewB nu fs = true) (h : (ftE nu ku au xu yu zu lou hiu) = 0) (h2 : plE du dv dw = 0) (h3 : plE (wrap64 (xu + du)) (wrap64 (yu + dv)) (wrap64 (zu + dw)) = 0) : Hid (∀ W : World, FrS W (.slice fpu flu fcu) fs → Calls Tryd.prog 24 #[.agg #[.string nu, .int .i64 ku, .int .i64 au, .int .i64 xu, .int .i64 yu, .int .i64 zu, .int .i64 lou, .int .i64 hiu, .slice fpu flu fcu], .agg #[.int .i64 du, .int .i64 dv, .int .i64 dw]] W fun r W' => ∃ q' l' c', r = .returned (.tuple #[.agg #[.string nu, .int .i64 ku, .int .i64 au, .int .i64 (wrap64 (xu + du)), .int .i64 (wrap64 (yu + dv)), .int .i64 (wrap64 (zu + dw)), .int .i64 lou, .int .i64 hiu, .slice q' l' c'], .int .i64 0]) ∧ FrU W.heap.size W' (.slice q' l' c') fs ∧ Kb W W') := Lib.hid fun W da =>
  (cMove_2 nu ku au xu yu zu lou hiu fpu flu fcu fs (few_s hf).1 (few_s hf).2 du dv dw _ _ _ _ _ _ rfl rfl rfl (fCheck nu ku au xu yu zu lou hiu fpu flu fcu (few_n hf)) (fcheckPlace du dv dw) (fcheckPlace _ _ _) (nb_f (by rw [h, h2, h3]; rfl)) W da).mono fun r W' ⟨q, c, h1, h2, h3⟩ => ⟨q, flu, c, h1, h2, h3⟩
theorem pMoveE (nu : ByteArray) (ku au xu yu zu lou hiu : Int) (fpu : Option Addr) (flu fcu : Nat) (fs : List FrT) (du dv dw e : Int) (hf : fewB nu fs = true) (he : firstE [firstE [(ftE nu ku au xu yu zu lou hiu)], firstE [plE du dv dw, plE (wrap64 (xu + du)) (wrap64 (yu + dv)) (wrap64 (zu + dw))]] = e) (h : e ≠ 0) : Hid (∀ W : World, FrS W (.slice fpu flu fcu) fs → Calls Tryd.prog 24 #[.agg #[.string nu, .int .i64 ku, .int .i64 au, .int .i64 xu, .int .i64 yu, .int .i64 zu, .int .i64 lou, .int .i64 hiu, .slice fpu flu fcu], .agg #[.int .i64 du, .int .i64 dv, .int .i64 dw]] W fun r W' => ∃ q' l' c', r = .returned (.tuple #[.agg #[.string ⟨#[]⟩, .int .i64 0, .int .i64 0, .int .i64 0, .int .i64 0, .int .i64 0, .int .i64 0, .int .i64 0, .slice q' l' c'], .int .i64 e]) ∧ FrS W' (.slice q' l' c') [] ∧ Kb W W') := Lib.hid fun W da => by
  have q := cMove_1 nu ku au xu yu zu lou hiu fpu flu fcu fs (few_s hf).1 (few_s hf).2 du dv dw _ _ _ _ _ _ rfl rfl rfl (fCheck nu ku au xu yu zu lou hiu fpu flu fcu (few_n hf)) (fcheckPlace du dv dw) (fcheckPlace _ _ _) (nb_t (by rw [he]; exact h)) W da
  rw [he] at q
  exact q.mono fun r W' ⟨h1, h2⟩ => ⟨none, 0, 0, h1, FrS.nil W', h2⟩
theorem bMove (nu : ByteArray) (ku au xu yu zu lou hiu : Int) (fpu : Option Addr) (flu fcu : Nat) (fs : List FrT) (du dv dw : Int) (hf : fewB nu fs = true) : ∃ (n : ByteArray) (k a x y z lo hi e : Int) (g : List FrT) (p2 : Option Addr) (l2 c2 : Nat),
    Hid (∀ W : World, FrS W (.slice fpu flu fcu) fs → Calls Tryd.prog 24 #[.agg #[.string nu, .int .i64 ku, .int .i64 au, .int .i64 xu, .int .i64 yu, .int .i64 zu, .int .i64 lou, .int .i64 hiu, .slice fpu flu fcu], .agg #[.int .i64 du, .int .i64 dv, .int .i64 dw]] W fun r W' => ∃ q' l' c', r = .returned (.tuple #[.agg #[.string n, .int .i64 k, .int .i64 a, .int .i64 x, .int .i64 y, .int .i64 z, .int .i64 lo, .int .i64 hi, .slice q' l' c'], .int .i64 e]) ∧ FrS W' (.slice q' l' c') g ∧ Kb W W') ∧
    Ca 25 #[.agg #[.string nu, .int .i64 ku, .int .i64 au, .int .i64 xu, .int .i64 yu, .int .i64 zu, .int .i64 lou, .int .i64 hiu, .slice fpu flu fcu], .agg #[.int .i64 du, .int .i64 dv, .int .i64 dw]] (.tuple #[.agg #[.string n, .int .i64 k, .int .i64 a, .int .i64 x, .int .i64 y, .int .i64 z, .int .i64 lo, .int .i64 hi, .slice p2 l2 c2], .int .i64 e]) ∧ (∀ w, FrS w (.slice fpu flu fcu) fs → FrS w (.slice p2 l2 c2) g) ∧ Hid (g.length ≤ 12 ∧ ∀ f ∈ g, f.ds.length ≤ 1000000) := by
  have hn := few_n hf
  by_cases h1 : (ftE nu ku au xu yu zu lou hiu) = 0
  · have two : ∀ l, firstE (2 :: l) = 2 := fun l => fst_e (by decide) l
    cases i1 : inR du
    · have hp : plE du dv dw = 2 := plE_f (.inl i1)
      exact ⟨⟨#[]⟩, 0, 0, 0, 0, 0, 0, 0, 2, [], none, 0, 0, pMoveE nu ku au xu yu zu lou hiu fpu flu fcu fs du dv dw 2 hf (by rw [h1, firstE_one, fst_0, hp, two, two]) (by decide), Lib.hid fun w => rMove_8 nu ku au xu yu zu lou hiu fpu flu fcu du dv dw _ (rfCheck nu ku au xu yu zu lou hiu _ hn) (nb_f h1) i1 w, fun w _ => FrS.nil w, nil_m⟩
    cases i2 : inR dv
    · have hp : plE du dv dw = 2 := plE_f (.inr (.inl i2))
      exact ⟨⟨#[]⟩, 0, 0, 0, 0, 0, 0, 0, 2, [], none, 0, 0, pMoveE nu ku au xu yu zu lou hiu fpu flu fcu fs du dv dw 2 hf (by rw [h1, firstE_one, fst_0, hp, two, two]) (by decide), Lib.hid fun w => rMove_7 nu ku au xu yu zu lou hiu fpu flu fcu du dv dw _ (rfCheck nu ku au xu yu zu lou hiu _ hn) (nb_f h1) i1 i2 w, fun w _ => FrS.nil w, nil_m⟩
    cases i3 : inR dw
    · have hp : plE du dv dw = 2 := plE_f (.inr (.inr i3))
      exact ⟨⟨#[]⟩, 0, 0, 0, 0, 0, 0, 0, 2, [], none, 0, 0, pMoveE nu ku au xu yu zu lou hiu fpu flu fcu fs du dv dw 2 hf (by rw [h1, firstE_one, fst_0, hp, two, two]) (by decide), Lib.hid fun w => rMove_6 nu ku au xu yu zu lou hiu fpu flu fcu du dv dw _ (rfCheck nu ku au xu yu zu lou hiu _ hn) (nb_f h1) i1 i2 i3 w, fun w _ => FrS.nil w, nil_m⟩
    have hp : plE du dv dw = 0 := plE_t i1 i2 i3
    cases i4 : inR (wrap64 (xu + du))
    · have hq : plE (wrap64 (xu + du)) (wrap64 (yu + dv)) (wrap64 (zu + dw)) = 2 := plE_f (.inl i4)
      exact ⟨⟨#[]⟩, 0, 0, 0, 0, 0, 0, 0, 2, [], none, 0, 0, pMoveE nu ku au xu yu zu lou hiu fpu flu fcu fs du dv dw 2 hf (by rw [h1, firstE_one, fst_0, hp, fst_0, hq, two, two]) (by decide), Lib.hid fun w => rMove_5 nu ku au xu yu zu lou hiu fpu flu fcu du dv dw _ _ rfl (rfCheck nu ku au xu yu zu lou hiu _ hn) (nb_f h1) i1 i2 i3 i4 w, fun w _ => FrS.nil w, nil_m⟩
    cases i5 : inR (wrap64 (yu + dv))
    · have hq : plE (wrap64 (xu + du)) (wrap64 (yu + dv)) (wrap64 (zu + dw)) = 2 := plE_f (.inr (.inl i5))
      exact ⟨⟨#[]⟩, 0, 0, 0, 0, 0, 0, 0, 2, [], none, 0, 0, pMoveE nu ku au xu yu zu lou hiu fpu flu fcu fs du dv dw 2 hf (by rw [h1, firstE_one, fst_0, hp, fst_0, hq, two, two]) (by decide), Lib.hid fun w => rMove_4 nu ku au xu yu zu lou hiu fpu flu fcu du dv dw _ _ _ rfl rfl (rfCheck nu ku au xu yu zu lou hiu _ hn) (nb_f h1) i1 i2 i3 i4 i5 w, fun w _ => FrS.nil w, nil_m⟩
    cases i6 : inR (wrap64 (zu + dw))
    · have hq : plE (wrap64 (xu + du)) (wrap64 (yu + dv)) (wrap64 (zu + dw)) = 2 := plE_f (.inr (.inr i6))
      exact ⟨⟨#[]⟩, 0, 0, 0, 0, 0, 0, 0, 2, [], none, 0, 0, pMoveE nu ku au xu yu zu lou hiu fpu flu fcu fs du dv dw 2 hf (by rw [h1, firstE_one, fst_0, hp, fst_0, hq, two, two]) (by decide), Lib.hid fun w => rMove_3 nu ku au xu yu zu lou hiu fpu flu fcu du dv dw _ _ _ _ rfl rfl rfl (rfCheck nu ku au xu yu zu lou hiu _ hn) (nb_f h1) i1 i2 i3 i4 i5 i6 w, fun w _ => FrS.nil w, nil_m⟩
    exact ⟨_, _, _, _, _, _, _, _, 0, fs, fpu, flu, fcu, Lib.hid (fun W da => ((pMove nu ku au xu yu zu lou hiu fpu flu fcu fs du dv dw hf h1 hp (plE_t i4 i5 i6)).out W da).mono fun r W' ⟨q, l, c, h1, h2, h3⟩ => ⟨q, l, c, h1, h2.frs, h3⟩), Lib.hid fun w => rMove_2 nu ku au xu yu zu lou hiu fpu flu fcu du dv dw _ _ _ _ rfl rfl rfl (rfCheck nu ku au xu yu zu lou hiu _ hn) (nb_f h1) i1 i2 i3 i4 i5 i6 w, fun _ h => h, few_m hf⟩
  · exact ⟨⟨#[]⟩, 0, 0, 0, 0, 0, 0, 0, (ftE nu ku au xu yu zu lou hiu), [], none, 0, 0, pMoveE nu ku au xu yu zu lou hiu fpu flu fcu fs du dv dw _ hf (by rw [firstE_one, fst_e h1]) h1, Lib.hid fun w => rMove_1 nu ku au xu yu zu lou hiu fpu flu fcu du dv dw _ (rfCheck nu ku au xu yu zu lou hiu _ hn) (nb_t h1) w, fun w _ => FrS.nil w, nil_m⟩
end Go.Proofs.YtdmfkgopalelgaaDoor

/- Features: the law Moves. -/
namespace Go.Proofs.YtdmfkgopalelgaaDoor
open Go.RowKit

theorem cMoves (nu : ByteArray) (ku au xu yu zu lou hiu : Int) (fpu : Option Addr) (flu fcu : Nat) (fs : List FrT) (du dv dw c : Int) (w : World) (gl : Gl w) (da : FrS w (.slice fpu flu fcu) fs) : Calls Tryd.prog 5 #[.agg #[.string nu, .int .i64 ku, .int .i64 au, .int .i64 xu, .int .i64 yu, .int .i64 zu, .int .i64 lou, .int .i64 hiu, .slice fpu flu fcu], .agg #[.int .i64 du, .int .i64 dv, .int .i64 dw], .int .i64 c] w fun r W' => r = .returned (.bool true) ∧ Kb w W' := by
  rcases Bool.eq_false_or_eq_true (fewB nu fs) with h | h
  · obtain ⟨_, _, _, _, _, _, _, _, _, _, _, _, _, m1, m2, m3, m4⟩ := bMove nu ku au xu yu zu lou hiu fpu flu fcu fs du dv dw h
    obtain ⟨_, _, _, _, _, _, _, _, _, _, _, _, _, n1, n2, n3, n4⟩ := bMirror nu ku au xu yu zu lou hiu fpu flu fcu fs c h
    obtain ⟨_, _, _, _, _, _, _, _, _, _, _, _, _, o1, o2, o3, o4⟩ := bTurn nu ku au xu yu zu lou hiu fpu flu fcu fs c h
    exact lwMoves_1 nu ku au xu yu zu lou hiu fpu flu fcu fs du dv dw c _ _ _ _ _ _ _ _ _ _ _ _ _ _ _ _ _ _ _ _ _ _ _ _ _ _ _ _ _ _ _ _ _ _ _ _ _ _ _  m1 n1 o1 m2 n2 o2 m4 n4 o4 h w gl da (m3 w da) (n3 w da) (o3 w da)
  · exact lwMoves_2 nu ku au xu yu zu lou hiu fpu flu fcu fs du dv dw c ⟨#[]⟩ 0 0 0 0 0 0 0 0 [] none 0 0 ⟨#[]⟩ 0 0 0 0 0 0 0 0 [] none 0 0 ⟨#[]⟩ 0 0 0 0 0 0 0 0 [] none 0 0 h w gl da (FrS.nil w) (FrS.nil w) (FrS.nil w)
end Go.Proofs.YtdmfkgopalelgaaDoor
