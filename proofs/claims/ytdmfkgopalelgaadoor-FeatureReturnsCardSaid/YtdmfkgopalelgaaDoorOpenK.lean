/- Structs and arrays of numbers, texts and booleans, opened: their cells are of these kinds. -/
import Derived.Test.YtdmfkgopalelgaaDoorRows
import Derived.ProofKit
import Derived.ChangeMaps5
import Derived.Carry
import Derived.Test.YtdmfkgopalelgaaDoorOb
namespace Go.Proofs.YtdmfkgopalelgaaDoor
open Go.ChangeShapes Go.WideShapes Go.ChangeAt Go.RowKit

structure inI (z : Int) : Prop where
  lo : -9223372036854775808 ≤ z
  hi : z ≤ 9223372036854775807
structure inW (z : Int) : Prop where
  lo : 0 ≤ z
  hi : z ≤ 65535
structure inB (z : Int) : Prop where
  lo : 0 ≤ z
  hi : z ≤ 255
structure szM (s : ByteArray) : Prop where
  le : s.size ≤ 9223372036854775807
inductive Kd where
  | i64 | u16 | u8 | str | bool
def kdIs : Kd → Option TypeDesc → Bool
  | .i64, some (.int .i64) => true
  | .u16, some (.int .u16) => true
  | .u8, some (.int .u8) => true
  | .str, some .string => true
  | .bool, some .bool => true
  | _, _ => false
def kdOk : Kd → Value → Prop
  | .i64, v => ∃ z : Int, v = .int .i64 z ∧ inI z
  | .u16, v => ∃ z : Int, v = .int .u16 z ∧ inW z
  | .u8, v => ∃ z : Int, v = .int .u8 z ∧ inB z
  | .str, v => ∃ s : ByteArray, v = .string s ∧ szM s
  | .bool, v => ∃ b : Bool, v = .bool b
def kindsIs (P : Program) (ts : List TypeId) : Nat → List Kd → Bool
  | _, [] => true
  | i, k :: ks => (match ts[i % ts.length]? with | some u => kdIs k (P.underlying u) | none => false) && kindsIs P ts (i + 1) ks
/-- the cells of a type are of these kinds -/
def kindsT (P : Program) (t : TypeId) (ks : List Kd) : Bool := (P.cellsOf t == ks.length) && (match P.cellTypes P.depth t with | some ts => kindsIs P ts 0 ks | none => false)
def AllK : List Kd → List Value → Prop
  | [], [] => True
  | k :: ks, v :: vs => kdOk k v ∧ AllK ks vs
  | _, _ => False
def kdD : Kd → TypeDesc
  | .i64 => .int .i64
  | .u16 => .int .u16
  | .u8 => .int .u8
  | .str => .string
  | .bool => .bool
theorem kdIs_eq {k : Kd} {x : Option TypeDesc} (h : kdIs k x = true) : x = some (kdD k) := by
  unfold kdIs at h
  split at h <;> first | rfl | cases h
theorem kd_cell {P : Program} {w : World} {r : Reach} {base : Nat} {k : Kd} {u : TypeId} {c : Value} (hk : kdIs k (P.underlying u) = true) (ho : Cell.okWide P w r base u c) : kdOk k c := by
  have e := kdIs_eq hk
  unfold Cell.okWide at ho
  rw [e] at ho
  have h2 : IntKind.i64.max = 9223372036854775807 := rfl
  have h3 : IntKind.i64.min = -9223372036854775808 := rfl
  cases k
  · simp only [kdD] at ho
    unfold Cell.ok at ho
    rw [e] at ho
    cases c <;> simp [kdD] at ho
    obtain ⟨rfl, ho⟩ := ho
    exact ⟨_, rfl, ho.1, ho.2⟩
  · simp only [kdD] at ho
    unfold Cell.ok at ho
    rw [e] at ho
    cases c <;> simp [kdD] at ho
    obtain ⟨rfl, ho⟩ := ho
    exact ⟨_, rfl, ho.1, ho.2⟩
  · simp only [kdD] at ho
    unfold Cell.ok at ho
    rw [e] at ho
    cases c <;> simp [kdD] at ho
    obtain ⟨rfl, ho⟩ := ho
    exact ⟨_, rfl, ho.1, ho.2⟩
  · simp only [kdD] at ho
    unfold Cell.ok at ho
    rw [e] at ho
    cases c <;> simp [kdD] at ho
    rename_i s
    exact ⟨s, rfl, ⟨by omega⟩⟩
  · simp only [kdD] at ho
    unfold Cell.ok at ho
    rw [e] at ho
    cases c <;> simp [kdD] at ho
    exact ⟨_, rfl⟩
theorem kinds_list {P : Program} {w : World} {r : Reach} {base : Nat} {ts : List TypeId} : ∀ {ks : List Kd} {cs : List Value} {s : Nat}, kindsIs P ts s ks = true → cs.length = ks.length → (∀ (i : Nat) (c : Value), cs[i]? = some c → ∃ u, ts[(s + i) % ts.length]? = some u ∧ Cell.okWide P w r base u c) → AllK ks cs
  | [], [], _, _, _, _ => trivial
  | [], _ :: _, _, _, hl, _ => by simp at hl
  | _ :: _, [], _, _, hl, _ => by simp at hl
  | k :: ks, c :: cs, s, h, hl, ho => by
    unfold kindsIs at h
    rw [Bool.and_eq_true] at h
    obtain ⟨u, hu, hc⟩ := ho 0 c rfl
    rw [Nat.add_zero] at hu
    rw [hu] at h
    exact ⟨kd_cell h.1 hc, kinds_list h.2 (by simpa using hl) fun i x hx => by
      obtain ⟨u, hu, hx2⟩ := ho (i + 1) x (by simpa using hx)
      exact ⟨u, by rw [show s + 1 + i = s + (i + 1) by omega]; exact hu, hx2⟩⟩
theorem open_kinds {P : Program} {w : World} {r : Reach} {base : Nat} {t : TypeId} {v : Value} {ks : List Kd} (hk : kindsT P t ks = true)
    (h : ∃ cs, v = .agg cs ∧ cs.size = P.cellsOf t ∧ Row.okWide P w r base t cs) : ∃ vs : List Value, v = .agg vs.toArray ∧ AllK ks vs := by
  obtain ⟨cs, rfl, hsz, ts, hts, _, hc⟩ := h
  unfold kindsT at hk
  rw [hts, Bool.and_eq_true, beq_iff_eq] at hk
  refine ⟨cs.toList, by simp, kinds_list (w := w) (r := r) (base := base) hk.2 (by simp; omega) fun i c hi => ?_⟩
  rw [Nat.zero_add]
  exact hc i c (by simpa using hi)
theorem allK_cons {k : Kd} {ks : List Kd} {vs : List Value} (h : AllK (k :: ks) vs) : ∃ v vs', vs = v :: vs' ∧ kdOk k v ∧ AllK ks vs' := by
  cases vs with
  | nil => cases h
  | cons v vs' => exact ⟨v, vs', rfl, h.1, h.2⟩
theorem allK_nil {vs : List Value} (h : AllK [] vs) : vs = [] := by
  cases vs with
  | nil => rfl
  | cons v vs' => cases h
theorem kd_i64 {v : Value} (h : kdOk .i64 v) : ∃ z : Int, v = .int .i64 z ∧ inI z := h
theorem open_i3 {v : Value} (hh : ∃ vs : List Value, v = .agg vs.toArray ∧ AllK [.i64, .i64, .i64] vs) : ∃ (x : Int) (y : Int) (z : Int), inI x ∧ inI y ∧ inI z ∧ v = .agg #[.int .i64 x, .int .i64 y, .int .i64 z] := by
  obtain ⟨vs0, rfl, hv0⟩ := hh
  obtain ⟨v0, vs1, rfl, k0, hv1⟩ := allK_cons hv0
  obtain ⟨x, rfl, b0⟩ := kd_i64 k0
  obtain ⟨v1, vs2, rfl, k1, hv2⟩ := allK_cons hv1
  obtain ⟨y, rfl, b1⟩ := kd_i64 k1
  obtain ⟨v2, vs3, rfl, k2, hv3⟩ := allK_cons hv2
  obtain ⟨z, rfl, b2⟩ := kd_i64 k2
  obtain rfl := allK_nil hv3
  exact ⟨x, y, z, b0, b1, b2, rfl⟩
end Go.Proofs.YtdmfkgopalelgaaDoor
