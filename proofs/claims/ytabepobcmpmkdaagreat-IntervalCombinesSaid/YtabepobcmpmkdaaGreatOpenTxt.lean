/- A struct of texts, opened: its cells are texts. -/
import Derived.Test.YtabepobcmpmkdaaGreatRows
import Derived.ProofKit
import Derived.ChangeMaps5
import Derived.Carry
namespace Go.Proofs.YtabepobcmpmkdaaGreat
open Go.ChangeShapes Go.WideShapes Go.ChangeAt Go.RowKit

def isStr : Option TypeDesc → Bool
  | some .string => true
  | _ => false
theorem isStr_eq {x : Option TypeDesc} (h : isStr x = true) : x = some .string := by
  unfold isStr at h
  split at h
  · rfl
  · cases h
/-- all cells of a type are texts -/
def textT (P : Program) (t : TypeId) (N : Nat) : Bool := (P.cellsOf t == N) && (match P.cellTypes P.depth t with | some ts => ts.all fun u => isStr (P.underlying u) | none => false)
theorem open_texts {P : Program} {w : World} {r : Reach} {base : Nat} {t : TypeId} {v : Value} {N : Nat} (hf : textT P t N = true)
    (h : ∃ cs, v = .agg cs ∧ cs.size = P.cellsOf t ∧ Row.okWide P w r base t cs) :
    ∃ zs : List ByteArray, zs.length = N ∧ (∀ z ∈ zs, z.size ≤ 9223372036854775807) ∧ v = .agg (zs.map Value.string).toArray := by
  obtain ⟨cs, rfl, hsz, ts, hts, _, hc⟩ := h
  unfold textT at hf
  rw [hts, Bool.and_eq_true, beq_iff_eq] at hf
  obtain ⟨hN, hall⟩ := hf
  rw [hN] at hsz
  have hel : ∀ i (hi : i < cs.size), ∃ z, cs[i] = .string z ∧ z.size ≤ 9223372036854775807 := by
    intro i hi
    obtain ⟨u, hu, ho⟩ := hc i cs[i] (Array.getElem?_eq_getElem hi)
    have hu2 := isStr_eq (List.all_eq_true.1 hall u (List.mem_of_getElem? hu))
    unfold Cell.okWide at ho
    rw [hu2] at ho
    unfold Cell.ok at ho
    rw [hu2] at ho
    generalize cs[i] = c at *
    cases c <;> simp at ho
    rename_i z
    refine ⟨z, rfl, ?_⟩
    have h2 : IntKind.i64.max = 9223372036854775807 := rfl
    omega
  let f : Fin cs.size → ByteArray := fun i => (hel i i.2).choose
  have hfz : ∀ i, cs[i.1] = .string (f i) ∧ (f i).size ≤ 9223372036854775807 := fun i => (hel i i.2).choose_spec
  refine ⟨List.ofFn f, by simp [hsz], ?_, ?_⟩
  · intro z hz
    obtain ⟨i, rfl⟩ := (List.mem_ofFn).1 hz
    exact (hfz i).2
  · congr 1
    apply Array.ext
    · simp
    · intro i h1 h2
      simp [(hfz ⟨i, h1⟩).1]
theorem open_text2 {P : Program} {w : World} {r : Reach} {base : Nat} {t : TypeId} {v : Value} {fs : Array Field} (hu : P.underlying t = some (.struct fs)) (hf : textT P t 2 = true) (h : Value.okWide P w r base t v) :
    ∃ x y : ByteArray, x.size ≤ 9223372036854775807 ∧ y.size ≤ 9223372036854775807 ∧ v = .agg #[.string x, .string y] := by
  unfold Value.okWide at h
  rw [hu] at h
  obtain ⟨zs, hl, hz, rfl⟩ := open_texts hf h
  match zs, hl with
  | [x, y], _ => exact ⟨x, y, hz x (by simp), hz y (by simp), rfl⟩
end Go.Proofs.YtabepobcmpmkdaaGreat
