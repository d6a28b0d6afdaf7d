/- Texts OpenTxt, Il1: each says in its own first comment what it proves. -/
import Derived.Test.YtiommpdbbpddpaaGreatDoorRows
import Derived.ProofKit
import Derived.ChangeMaps5
import Derived.Carry
import Derived.Test.YtiommpdbbpddpaaGreatDoorM46
import Derived.Test.YtiommpdbbpddpaaGreatDoorM41
/- A struct of texts, opened: its cells are texts. -/
namespace Go.Proofs.YtiommpdbbpddpaaGreatDoor
open Go.ChangeShapes Go.WideShapes Go.ChangeAt Go.RowKit

def isStr : Option TypeDesc → Bool
  | some .string => true
  | _ => false
theorem isStr_eq {x : Option TypeDesc} (h : isStr x = true) : x = some .string := by
  unfold isStr at h
  split at h
  · rfl
  · cases h
/-- all cells of a type are texts -/
def textT (P : Program) (t : TypeId) (N : Nat) : Bool := (P.cellsOf t == N) && (match P.cellTypes P.depth t with | some ts => ts.all fun u => isStr (P.underlying u) | none => false)
theorem open_texts {P : Program} {w : World} {r : Reach} {base : Nat} {t : TypeId} {v : Value} {N : Nat} (hf : textT P t N = true)
    (h : ∃ cs, v = .agg cs ∧ cs.size = P.cellsOf t ∧ Row.okWide P w r base t cs) :
    ∃ zs : List ByteArray, zs.length = N ∧ (∀ z ∈ zs, z.size ≤ 9223372036854775807) ∧ v = .agg (zs.map Value.string).toArray := by
  obtain ⟨cs, rfl, hsz, ts, hts, _, hc⟩ := h
  unfold textT at hf
  rw [hts, Bool.and_eq_true, beq_iff_eq] at hf
  obtain ⟨hN, hall⟩ := hf
  rw [hN] at hsz
  have hel : ∀ i (hi : i < cs.size), ∃ z, cs[i] = .string z ∧ z.size ≤ 9223372036854775807 := by
    intro i hi
    obtain ⟨u, hu, ho⟩ := hc i cs[i] (Array.getElem?_eq_getElem hi)
    have hu2 := isStr_eq (List.all_eq_true.1 hall u (List.mem_of_getElem? hu))
    unfold Cell.okWide at ho
    rw [hu2] at ho
    unfold Cell.ok at ho
    rw [hu2] at ho
    generalize cs[i] = c at *
    cases c <;> simp at ho
    rename_i z
    refine ⟨z, rfl, ?_⟩
    have h2 : IntKind.i64.max = 9223372036854775807 := rfl
    omega
  let f : Fin cs.size → ByteArray := fun i => (hel i i.2).choose
  have hfz : ∀ i, cs[i.1] = .string (f i) ∧ (f i).size ≤ 9223372036854775807 := fun i => (hel i i.2).choose_spec
  refine ⟨List.ofFn f, by simp [hsz], ?_, ?_⟩
  · intro z hz
    obtain ⟨i, rfl⟩ := (List.mem_ofFn).1 hz
    exact (hfz i).2
  · congr 1
    apply Array.ext
    · simp
    · intro i h1 h2
      simp [(hfz ⟨i, h1⟩).1]
theorem open_text2 {P : Program} {w : World} {r : Reach} {base : Nat} {t : TypeId} {v : Value} {fs : Array Field} (hu : P.underlying t = some (.struct fs)) (hf : textT P t 2 = true) (h : Value.okWide P w r base t v) :
    ∃ x y : ByteArray, x.size ≤ 9223372036854775807 ∧ y.size ≤ 9223372036854775807 ∧ v = .agg #[.string x, .string y] := by
  unfold Value.okWide at h
  rw [hu] at h
  obtain ⟨zs, hl, hz, rfl⟩ := open_texts hf h
  match zs, hl with
  | [x, y], _ => exact ⟨x, y, hz x (by simp), hz y (by simp), rfl⟩
end Go.Proofs.YtiommpdbbpddpaaGreatDoor

/- Reference of layer 3: Short; the law IntervalCombines. -/
namespace Go.Proofs.YtiommpdbbpddpaaGreatDoor
open Go.RowKit
open Go.Lib (nDigits itoa decDigits)

theorem short_c {a : ByteArray} (ha : a.size ≤ 9223372036854775807) : Ca 14 #[.string a] (.bool (shB a)) := Lib.hid fun W => Short_any a W ha
set_option maxRecDepth 100000 in
set_option maxHeartbeats 4000000 in
theorem r3Short_c {lo hi : ByteArray} (hl : lo.size ≤ 9223372036854775807) (hh : hi.size ≤ 9223372036854775807) : Ca 4 #[.agg #[.string lo, .string hi]] (.bool (shB lo && shB hi)) := Lib.hid fun w => by
  have q := short_c hl
  have q2 := short_c hh
  unfold Ca at q q2
  generalize shB lo = A at *
  generalize shB hi = B at *
  have s := SpB.made w lo hi
  have c0 := s.c0
  have k0 : Kp [] w (w.alloc (.cells #[.string lo, .string hi] 24 (0, 0))) := (Kp.refl _ _).alloc _
  cases A with
  | false =>
    rw [Bool.false_and]
    go_enter Tryz.func4, Tryz.ntmps4
    go_wp2_with fail
    with_reducible refine (q.out _).mono ?_
    rintro r w1 ⟨rfl, k⟩
    replace k0 := k0.trans k
    clear k q q2 c0 s
    go_wp2
    go_ret
    exact ⟨rfl, k0⟩
  | true =>
    rw [Bool.true_and]
    go_enter Tryz.func4, Tryz.ntmps4
    go_wp2_with fail
    with_reducible refine (q.out _).mono ?_
    rintro r w1 ⟨rfl, k⟩
    have c1 := (s.kept k (by simp)).c1
    replace k0 := k0.trans k
    clear k q c0 s
    go_wp2_with fail
    with_reducible refine (q2.out _).mono ?_
    rintro r w2 ⟨rfl, k⟩
    replace k0 := k0.trans k
    clear k q2 c1
    go_wp2
    go_ret
    exact ⟨rfl, k0⟩






end Go.Proofs.YtiommpdbbpddpaaGreatDoor
