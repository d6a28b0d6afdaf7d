/- Texts Uh0: each says in its own first comment what it proves. -/
import Derived.Test.YtlimjohnimgnhaaGreatDoorM05
import Derived.Test.YtlimjohnimgnhaaGreatDoorM41
import Derived.Test.YtlimjohnimgnhaaGreatDoorM44
import Derived.Maps.RangeWalk
import Derived.Maps.Views
import Derived.Maps.StringElems
import Derived.Maps.OwnOps
/- Frames: the map of the examples; Parse, Check, Virtual and Bonus there. -/
namespace Go.Proofs.YtlimjohnimgnhaaGreatDoor
open Go.RowKit

/-- the map of the examples -/
abbrev DU : Type := DataW Unit
def mapD0 : DU := .map []
def mapD1 : DU := DataW.put mapD0 (.string [102, 108, 97, 116, 32, 51, 48]) (.lit (.int .i64 14))
def mapD2 : DU := DataW.put mapD1 (.string [102, 108, 97, 116, 32, 100, 105, 115, 99, 32, 51, 48]) (.lit (.int .i64 14))
def mapD3 : DU := DataW.put mapD2 (.string [112, 111, 115, 105, 116, 105, 111, 110, 32, 48]) (.lit (.int .i64 10))
def mapD4 : DU := DataW.put mapD3 (.string [112, 111, 115, 105, 116, 105, 111, 110, 32, 48, 40, 77, 41, 32, 65]) (.lit (.int .i64 0))
def mapD5 : DU := DataW.put mapD4 (.string [115, 113, 117, 97, 114, 101, 32, 50, 48]) (.lit (.int .i64 13))
def mapD6 : DU := DataW.put mapD5 (.string [114, 117, 110, 111, 117, 116, 32, 50, 48, 32, 65, 32, 66]) (.lit (.int .i64 5))
theorem lit_ne {a b : List UInt8} (h : a ≠ b) : (Lit.string a) ≠ (Lit.string b) := fun e => h (by injection e)
theorem map_has {s : List UInt8} (h : Maps.has mapD6 (.string s) = true) : s = [102, 108, 97, 116, 32, 51, 48] ∨ s = [102, 108, 97, 116, 32, 100, 105, 115, 99, 32, 51, 48] ∨ s = [112, 111, 115, 105, 116, 105, 111, 110, 32, 48] ∨ s = [112, 111, 115, 105, 116, 105, 111, 110, 32, 48, 40, 77, 41, 32, 65] ∨ s = [115, 113, 117, 97, 114, 101, 32, 50, 48] ∨ s = [114, 117, 110, 111, 117, 116, 32, 50, 48, 32, 65, 32, 66] := by
  by_cases h5 : s = [114, 117, 110, 111, 117, 116, 32, 50, 48, 32, 65, 32, 66]
  · exact .inr (.inr (.inr (.inr (.inr (h5)))))
  rw [show mapD6 = DataW.put mapD5 (.string [114, 117, 110, 111, 117, 116, 32, 50, 48, 32, 65, 32, 66]) (.lit (.int .i64 5)) from rfl, Maps.has_put_other (lit_ne h5)] at h
  by_cases h4 : s = [115, 113, 117, 97, 114, 101, 32, 50, 48]
  · exact .inr (.inr (.inr (.inr (.inl h4))))
  rw [show mapD5 = DataW.put mapD4 (.string [115, 113, 117, 97, 114, 101, 32, 50, 48]) (.lit (.int .i64 13)) from rfl, Maps.has_put_other (lit_ne h4)] at h
  by_cases h3 : s = [112, 111, 115, 105, 116, 105, 111, 110, 32, 48, 40, 77, 41, 32, 65]
  · exact .inr (.inr (.inr (.inl h3)))
  rw [show mapD4 = DataW.put mapD3 (.string [112, 111, 115, 105, 116, 105, 111, 110, 32, 48, 40, 77, 41, 32, 65]) (.lit (.int .i64 0)) from rfl, Maps.has_put_other (lit_ne h3)] at h
  by_cases h2 : s = [112, 111, 115, 105, 116, 105, 111, 110, 32, 48]
  · exact .inr (.inr (.inl h2))
  rw [show mapD3 = DataW.put mapD2 (.string [112, 111, 115, 105, 116, 105, 111, 110, 32, 48]) (.lit (.int .i64 10)) from rfl, Maps.has_put_other (lit_ne h2)] at h
  by_cases h1 : s = [102, 108, 97, 116, 32, 100, 105, 115, 99, 32, 51, 48]
  · exact .inr (.inl h1)
  rw [show mapD2 = DataW.put mapD1 (.string [102, 108, 97, 116, 32, 100, 105, 115, 99, 32, 51, 48]) (.lit (.int .i64 14)) from rfl, Maps.has_put_other (lit_ne h1)] at h
  by_cases h0 : s = [102, 108, 97, 116, 32, 51, 48]
  · exact .inl h0
  rw [show mapD1 = DataW.put mapD0 (.string [102, 108, 97, 116, 32, 51, 48]) (.lit (.int .i64 14)) from rfl, Maps.has_put_other (lit_ne h0)] at h
  exact absurd (show (false : Bool) = true from h) (by decide)
theorem map_at0 (z : DU) : DataW.atKey mapD6 (.string [102, 108, 97, 116, 32, 51, 48]) z = .lit (.int .i64 14) := rfl
theorem map_at1 (z : DU) : DataW.atKey mapD6 (.string [102, 108, 97, 116, 32, 100, 105, 115, 99, 32, 51, 48]) z = .lit (.int .i64 14) := rfl
theorem map_at2 (z : DU) : DataW.atKey mapD6 (.string [112, 111, 115, 105, 116, 105, 111, 110, 32, 48]) z = .lit (.int .i64 10) := rfl
theorem map_at3 (z : DU) : DataW.atKey mapD6 (.string [112, 111, 115, 105, 116, 105, 111, 110, 32, 48, 40, 77, 41, 32, 65]) z = .lit (.int .i64 0) := rfl
theorem map_at4 (z : DU) : DataW.atKey mapD6 (.string [115, 113, 117, 97, 114, 101, 32, 50, 48]) z = .lit (.int .i64 13) := rfl
theorem map_at5 (z : DU) : DataW.atKey mapD6 (.string [114, 117, 110, 111, 117, 116, 32, 50, 48, 32, 65, 32, 66]) z = .lit (.int .i64 5) := rfl
theorem law_str : Maps.Keyed Tryz.prog 9 := Maps.string_keyed Tryz.underlying9
theorem errno_int : Tryz.prog.underlying 35 = some (.int .i64) := Tryz.underlying35
theorem key_inv {key : Value} {kl : Lit} (h : keyOf Tryz.prog 9 key = some kl) : ∃ s : ByteArray, key = .string s ∧ kl = .string s.data.toList := by
  have hk := Tryz.underlying9
  cases key <;> simp [keyOf, hk, mapKey] at h
  obtain ⟨_, rfl⟩ := h
  exact ⟨_, rfl, rfl⟩
theorem wpList_insert_own {H : Type} {P : Program} (w : World) {ops : Array Oper} {rest : List Oper} {o : Oper} {a : Act} {Q : Exit → Act → World → Prop}
    (hg : o.guard = none) (m x v : Operand) (t : TypeId) (hop : o.op = Op.insert t m x v)
    (k e : TypeId) (K : Maps.Keyed P k) (ht : P.underlying t = some (.map k e)) (R : Value → Option (DataW H × List MemPlace)) (b n : Nat) (D : DataW H)
    (hm : a.eval m = .map (some b)) (hown : w.ownsMap P k R b n D) (hn : n < maxLen) (key val : Value) (kl : Lit) (hx : a.eval x = key) (hv : a.eval v = val) (hkey : keyOf P k key = some kl)
    (d : DataW H) (ps : List MemPlace) (hval : R val = some (d, ps))
    (hK : ∀ w', w'.ownsMap P k R b (n + 1) (D.put kl d) → w.grownBy w' (some b) → wpList P ops Q rest (a.put o.dst undef) w') :
    wpList P ops Q (o :: rest) a w := by
  refine wpList_plain hg fun K' hK' => ?_
  obtain ⟨w', hrun, r1, r2⟩ := hown.update K ht hn hkey hval
  unfold Oper.wp
  simp [execOp, hop, hm, hx, hv, hrun, Result.andThen]
  exact hK' _ _ (hK w' r1 r2)
theorem wpList_next_si (w : World) {ops : Array Oper} {rest : List Oper} {o : Oper} {a : Act} {Q : Exit → Act → World → Prop}
    (hg : o.guard = none) (it : Operand) (hop : o.op = Op.next it false) (b r n : Nat) (D : DU) (left : Lit → Bool) (cnt : Nat) (hit : a.eval it = .pointer (some ⟨r, 0, none⟩)) (h : w.ranges Tryz.prog 9 (plainElem Tryz.prog 35) b r n D left cnt)
    (hDone : cnt = 0 → (∀ kl, left kl = false) → wpList Tryz.prog ops Q rest (a.put o.dst (.tuple #[.bool false])) w)
    (hMore : ∀ (x : ByteArray) (c : Int) (w' : World) (cnt' : Nat), left (.string x.data.toList) = true → (∀ zd, D.atKey (.string x.data.toList) zd = .lit (.int .i64 c)) → w'.ranges Tryz.prog 9 (plainElem Tryz.prog 35) b r n D (fun z => left z && !z.sameKey (.string x.data.toList)) cnt' → cnt' < cnt →
      w.grownBy w' (some r) → w'.heap.size = w.heap.size → (Instr.entry (.pointer (some ⟨r, 0, none⟩))).run Tryz.prog w' = .ok (.tuple #[.string x, .int .i64 c]) w' → wpList Tryz.prog ops Q rest (a.put o.dst (.tuple #[.bool true, .string x, .int .i64 c])) w') :
    wpList Tryz.prog ops Q (o :: rest) a w :=
  wpList_next_ranges w hg it hop 9 law_str (plainElem Tryz.prog 35) Value.string (Value.int .i64) (fun key kl hkey => by obtain ⟨x, rfl, _⟩ := key_inv hkey; exact ⟨x, rfl⟩) (fun v y hv => by obtain ⟨c, rfl, _⟩ := plainElem_int_inv errno_int hv; exact ⟨c, rfl⟩)
    b r n D left cnt hit h hDone (fun x c kl y w' cnt' hkey hlk hv hat hrg hlt hgr hsz hen => by
      obtain ⟨x', ex, rfl⟩ := key_inv hkey
      cases ex
      obtain ⟨c', ec, rfl, hwc⟩ := plainElem_int_inv errno_int hv
      cases ec
      exact hMore x c w' cnt' hlk hat hrg hlt hgr hsz hen)
theorem pz0 {w0 w : World} (gl : Gf w0 w) : Calls Tryz.prog 28 #[.string ⟨#[112, 111, 115, 105, 116, 105, 111, 110, 32, 100, 105, 115, 99, 32, 53, 48, 40, 77, 41, 32, 65, 32, 66, 40, 77, 41]⟩] w fun r W' => (∃ dp dc, r = .returned (.tuple #[.agg #[.int .i64 8, .bool true, .int .i64 50, .int .i64 1, .slice dp 2 dc], .int .i64 0]) ∧ DatS W' (.slice dp 2 dc) [(⟨#[65]⟩, 0), (⟨#[66]⟩, 1)] ∧ 2 ≤ dc) ∧ Kb w W' :=
  fParseAt ⟨#[112, 111, 115, 105, 116, 105, 111, 110, 32, 100, 105, 115, 99, 32, 53, 48, 40, 77, 41, 32, 65, 32, 66, 40, 77, 41]⟩ [⟨#[112, 111, 115, 105, 116, 105, 111, 110]⟩, ⟨#[100, 105, 115, 99]⟩, ⟨#[53, 48, 40, 77, 41]⟩, ⟨#[65]⟩, ⟨#[66, 40, 77, 41]⟩] 8 true 50 1 [(⟨#[65]⟩, 0), (⟨#[66]⟩, 1)] (by decide) ps0_split ps0_count (by simp) (by decide) (by decide) ps0_read (by decide) (by decide) (by decide) (by decide) (by rw [it50]; decide) ps0_plain (by decide) (fun d hd => ⟨(show ∀ d ∈ ([(⟨#[65]⟩, 0), (⟨#[66]⟩, 1)] : List DatT), d.1.size ≤ 100 from by decide) d hd, by
    have h : ∀ d ∈ ([(⟨#[65]⟩, 0), (⟨#[66]⟩, 1)] : List DatT), 0 ≤ d.2 ∧ d.2 < 3 := by decide
    exact ⟨d.2.toNat, by have := h d hd; omega, by have := h d hd; omega⟩⟩) ps0_text w gl
theorem pz1 {w0 w : World} (gl : Gf w0 w) : Calls Tryz.prog 28 #[.string ⟨#[102, 108, 97, 116, 32, 51, 48]⟩] w fun r W' => (∃ dp dc, r = .returned (.tuple #[.agg #[.int .i64 1, .bool false, .int .i64 30, .int .i64 0, .slice dp 0 dc], .int .i64 0]) ∧ DatS W' (.slice dp 0 dc) [] ∧ 0 ≤ dc) ∧ Kb w W' :=
  fParseAt ⟨#[102, 108, 97, 116, 32, 51, 48]⟩ [⟨#[102, 108, 97, 116]⟩, ⟨#[51, 48]⟩] 1 false 30 0 [] (by decide) ps1_split ps1_count (by simp) (by decide) (by decide) ps1_read (by decide) (by decide) (by decide) (by decide) (by rw [it30]; decide) ps1_plain (by decide) (fun d hd => ⟨(show ∀ d ∈ ([] : List DatT), d.1.size ≤ 100 from by decide) d hd, by
    have h : ∀ d ∈ ([] : List DatT), 0 ≤ d.2 ∧ d.2 < 3 := by decide
    exact ⟨d.2.toNat, by have := h d hd; omega, by have := h d hd; omega⟩⟩) ps1_text w gl
theorem pz2 {w0 w : World} (gl : Gf w0 w) : Calls Tryz.prog 28 #[.string ⟨#[102, 108, 97, 116, 32, 100, 105, 115, 99, 32, 51, 48]⟩] w fun r W' => (∃ dp dc, r = .returned (.tuple #[.agg #[.int .i64 1, .bool true, .int .i64 30, .int .i64 0, .slice dp 0 dc], .int .i64 0]) ∧ DatS W' (.slice dp 0 dc) [] ∧ 0 ≤ dc) ∧ Kb w W' :=
  fParseAt ⟨#[102, 108, 97, 116, 32, 100, 105, 115, 99, 32, 51, 48]⟩ [⟨#[102, 108, 97, 116]⟩, ⟨#[100, 105, 115, 99]⟩, ⟨#[51, 48]⟩] 1 true 30 0 [] (by decide) ps2_split ps2_count (by simp) (by decide) (by decide) ps2_read (by decide) (by decide) (by decide) (by decide) (by rw [it30]; decide) ps2_plain (by decide) (fun d hd => ⟨(show ∀ d ∈ ([] : List DatT), d.1.size ≤ 100 from by decide) d hd, by
    have h : ∀ d ∈ ([] : List DatT), 0 ≤ d.2 ∧ d.2 < 3 := by decide
    exact ⟨d.2.toNat, by have := h d hd; omega, by have := h d hd; omega⟩⟩) ps2_text w gl
theorem pz3 {w0 w : World} (gl : Gf w0 w) : Calls Tryz.prog 28 #[.string ⟨#[112, 111, 115, 105, 116, 105, 111, 110, 32, 48]⟩] w fun r W' => (∃ dp dc, r = .returned (.tuple #[.agg #[.int .i64 8, .bool false, .int .i64 0, .int .i64 0, .slice dp 0 dc], .int .i64 0]) ∧ DatS W' (.slice dp 0 dc) [] ∧ 0 ≤ dc) ∧ Kb w W' :=
  fParseAt ⟨#[112, 111, 115, 105, 116, 105, 111, 110, 32, 48]⟩ [⟨#[112, 111, 115, 105, 116, 105, 111, 110]⟩, ⟨#[48]⟩] 8 false 0 0 [] (by decide) ps3_split ps3_count (by simp) (by decide) (by decide) ps3_read (by decide) (by decide) (by decide) (by decide) (by rw [it0]; decide) ps3_plain (by decide) (fun d hd => ⟨(show ∀ d ∈ ([] : List DatT), d.1.size ≤ 100 from by decide) d hd, by
    have h : ∀ d ∈ ([] : List DatT), 0 ≤ d.2 ∧ d.2 < 3 := by decide
    exact ⟨d.2.toNat, by have := h d hd; omega, by have := h d hd; omega⟩⟩) ps3_text w gl
theorem pz4 {w0 w : World} (gl : Gf w0 w) : Calls Tryz.prog 28 #[.string ⟨#[112, 111, 115, 105, 116, 105, 111, 110, 32, 48, 40, 77, 41, 32, 65]⟩] w fun r W' => (∃ dp dc, r = .returned (.tuple #[.agg #[.int .i64 8, .bool false, .int .i64 0, .int .i64 1, .slice dp 1 dc], .int .i64 0]) ∧ DatS W' (.slice dp 1 dc) [(⟨#[65]⟩, 0)] ∧ 1 ≤ dc) ∧ Kb w W' :=
  fParseAt ⟨#[112, 111, 115, 105, 116, 105, 111, 110, 32, 48, 40, 77, 41, 32, 65]⟩ [⟨#[112, 111, 115, 105, 116, 105, 111, 110]⟩, ⟨#[48, 40, 77, 41]⟩, ⟨#[65]⟩] 8 false 0 1 [(⟨#[65]⟩, 0)] (by decide) ps4_split ps4_count (by simp) (by decide) (by decide) ps4_read (by decide) (by decide) (by decide) (by decide) (by rw [it0]; decide) ps4_plain (by decide) (fun d hd => ⟨(show ∀ d ∈ ([(⟨#[65]⟩, 0)] : List DatT), d.1.size ≤ 100 from by decide) d hd, by
    have h : ∀ d ∈ ([(⟨#[65]⟩, 0)] : List DatT), 0 ≤ d.2 ∧ d.2 < 3 := by decide
    exact ⟨d.2.toNat, by have := h d hd; omega, by have := h d hd; omega⟩⟩) ps4_text w gl
theorem pz5 {w0 w : World} (gl : Gf w0 w) : Calls Tryz.prog 28 #[.string ⟨#[115, 113, 117, 97, 114, 101, 32, 50, 48]⟩] w fun r W' => (∃ dp dc, r = .returned (.tuple #[.agg #[.int .i64 3, .bool false, .int .i64 20, .int .i64 0, .slice dp 0 dc], .int .i64 0]) ∧ DatS W' (.slice dp 0 dc) [] ∧ 0 ≤ dc) ∧ Kb w W' :=
  fParseAt ⟨#[115, 113, 117, 97, 114, 101, 32, 50, 48]⟩ [⟨#[115, 113, 117, 97, 114, 101]⟩, ⟨#[50, 48]⟩] 3 false 20 0 [] (by decide) ps5_split ps5_count (by simp) (by decide) (by decide) ps5_read (by decide) (by decide) (by decide) (by decide) (by rw [it20]; decide) ps5_plain (by decide) (fun d hd => ⟨(show ∀ d ∈ ([] : List DatT), d.1.size ≤ 100 from by decide) d hd, by
    have h : ∀ d ∈ ([] : List DatT), 0 ≤ d.2 ∧ d.2 < 3 := by decide
    exact ⟨d.2.toNat, by have := h d hd; omega, by have := h d hd; omega⟩⟩) ps5_text w gl
theorem pz6 {w0 w : World} (gl : Gf w0 w) : Calls Tryz.prog 28 #[.string ⟨#[114, 117, 110, 111, 117, 116, 32, 50, 48, 32, 65, 32, 66]⟩] w fun r W' => (∃ dp dc, r = .returned (.tuple #[.agg #[.int .i64 7, .bool false, .int .i64 20, .int .i64 0, .slice dp 2 dc], .int .i64 0]) ∧ DatS W' (.slice dp 2 dc) [(⟨#[65]⟩, 0), (⟨#[66]⟩, 0)] ∧ 2 ≤ dc) ∧ Kb w W' :=
  fParseAt ⟨#[114, 117, 110, 111, 117, 116, 32, 50, 48, 32, 65, 32, 66]⟩ [⟨#[114, 117, 110, 111, 117, 116]⟩, ⟨#[50, 48]⟩, ⟨#[65]⟩, ⟨#[66]⟩] 7 false 20 0 [(⟨#[65]⟩, 0), (⟨#[66]⟩, 0)] (by decide) ps6_split ps6_count (by simp) (by decide) (by decide) ps6_read (by decide) (by decide) (by decide) (by decide) (by rw [it20]; decide) ps6_plain (by decide) (fun d hd => ⟨(show ∀ d ∈ ([(⟨#[65]⟩, 0), (⟨#[66]⟩, 0)] : List DatT), d.1.size ≤ 100 from by decide) d hd, by
    have h : ∀ d ∈ ([(⟨#[65]⟩, 0), (⟨#[66]⟩, 0)] : List DatT), 0 ≤ d.2 ∧ d.2 < 3 := by decide
    exact ⟨d.2.toNat, by have := h d hd; omega, by have := h d hd; omega⟩⟩) ps6_text w gl
theorem cv_h {w1 W : World} {dp : Option Addr} {dc : Nat} (hd : DatS w1 (.slice dp 2 dc) [(⟨#[65]⟩, 0), (⟨#[66]⟩, 1)]) (hc : 2 ≤ dc) (g : Gf w1 W) : Calls Tryz.prog 22 #[.agg #[.string ⟨#[72]⟩, .int .i64 1, .int .i64 2, .int .i64 5000, .int .i64 0, .int .i64 0, .int .i64 1000, .int .i64 1011, .slice none 0 0], .agg #[.int .i64 8, .bool true, .int .i64 50, .int .i64 1, .slice dp 2 dc]] W fun r W' => r = .returned (.tuple #[.int .i64 950, .int .i64 0]) ∧ Kb W W' := by
  have q := frVirtual (w0 := w1) ⟨#[72]⟩ 1 2 5000 0 0 1000 1011 none 0 0 8 true 50 1 dp 2 dc [(⟨#[65]⟩, 0), (⟨#[66]⟩, 1)] (by decide) hd hc (by decide) (by decide)
  rw [fv_h] at q
  exact q.out W g
theorem cb_h {w1 W : World} {dp : Option Addr} {dc : Nat} (hd : DatS w1 (.slice dp 2 dc) [(⟨#[65]⟩, 0), (⟨#[66]⟩, 1)]) (hc : 2 ≤ dc) (g : Gf w1 W) : Calls Tryz.prog 24 #[.agg #[.string ⟨#[72]⟩, .int .i64 1, .int .i64 2, .int .i64 5000, .int .i64 0, .int .i64 0, .int .i64 1000, .int .i64 1011, .slice none 0 0], .agg #[.int .i64 8, .bool true, .int .i64 50, .int .i64 1, .slice dp 2 dc], .int .i64 1004] W fun r W' => r = .returned (.tuple #[.int .i64 4, .int .i64 0]) ∧ Kb W W' := by
  have q := frBonus (w0 := w1) ⟨#[72]⟩ 1 2 5000 0 0 1000 1011 none 0 0 8 true 50 1 dp 2 dc [(⟨#[65]⟩, 0), (⟨#[66]⟩, 1)] 1004 (by decide) hd hc (by decide) (by decide)
  rw [fb_h] at q
  exact q.out W g
theorem cv_p {w1 W : World} {dp : Option Addr} {dc : Nat} (hd : DatS w1 (.slice dp 2 dc) [(⟨#[65]⟩, 0), (⟨#[66]⟩, 1)]) (hc : 2 ≤ dc) (g : Gf w1 W) : Calls Tryz.prog 22 #[.agg #[.string ⟨#[72]⟩, .int .i64 2, .int .i64 2, .int .i64 5000, .int .i64 0, .int .i64 0, .int .i64 1000, .int .i64 1011, .slice none 0 0], .agg #[.int .i64 8, .bool true, .int .i64 50, .int .i64 1, .slice dp 2 dc]] W fun r W' => r = .returned (.tuple #[.int .i64 1061, .int .i64 0]) ∧ Kb W W' := by
  have q := frVirtual (w0 := w1) ⟨#[72]⟩ 2 2 5000 0 0 1000 1011 none 0 0 8 true 50 1 dp 2 dc [(⟨#[65]⟩, 0), (⟨#[66]⟩, 1)] (by decide) hd hc (by decide) (by decide)
  rw [fv_p] at q
  exact q.out W g
theorem cb_p {w1 W : World} {dp : Option Addr} {dc : Nat} (hd : DatS w1 (.slice dp 2 dc) [(⟨#[65]⟩, 0), (⟨#[66]⟩, 1)]) (hc : 2 ≤ dc) (g : Gf w1 W) : Calls Tryz.prog 24 #[.agg #[.string ⟨#[72]⟩, .int .i64 2, .int .i64 2, .int .i64 5000, .int .i64 0, .int .i64 0, .int .i64 1000, .int .i64 1011, .slice none 0 0], .agg #[.int .i64 8, .bool true, .int .i64 50, .int .i64 1, .slice dp 2 dc], .int .i64 1004] W fun r W' => r = .returned (.tuple #[.int .i64 7, .int .i64 0]) ∧ Kb W W' := by
  have q := frBonus (w0 := w1) ⟨#[72]⟩ 2 2 5000 0 0 1000 1011 none 0 0 8 true 50 1 dp 2 dc [(⟨#[65]⟩, 0), (⟨#[66]⟩, 1)] 1004 (by decide) hd hc (by decide) (by decide)
  rw [fb_p] at q
  exact q.out W g
theorem cc0 {w1 W : World} {dp : Option Addr} {dc : Nat} (hd : DatS w1 (.slice dp 0 dc) []) (hc : 0 ≤ dc) (g : Gf w1 W) : Calls Tryz.prog 13 #[.agg #[.string ⟨#[72]⟩, .int .i64 1, .int .i64 2, .int .i64 5000, .int .i64 0, .int .i64 0, .int .i64 1000, .int .i64 1011, .slice none 0 0], .agg #[.int .i64 1, .bool false, .int .i64 30, .int .i64 0, .slice dp 0 dc]] W fun r W' => r = .returned (.int .i64 14) ∧ Kb W W' := by
  have q := frCheck (w0 := w1) ⟨#[72]⟩ 1 2 5000 0 0 1000 1011 none 0 0 1 false 30 0 dp 0 dc [] (by decide) hd hc (by decide) (by decide)
  rw [fc_c0] at q
  exact q.out W g
theorem cc1 {w1 W : World} {dp : Option Addr} {dc : Nat} (hd : DatS w1 (.slice dp 0 dc) []) (hc : 0 ≤ dc) (g : Gf w1 W) : Calls Tryz.prog 13 #[.agg #[.string ⟨#[72]⟩, .int .i64 1, .int .i64 2, .int .i64 5000, .int .i64 0, .int .i64 0, .int .i64 1000, .int .i64 1011, .slice none 0 0], .agg #[.int .i64 1, .bool true, .int .i64 30, .int .i64 0, .slice dp 0 dc]] W fun r W' => r = .returned (.int .i64 14) ∧ Kb W W' := by
  have q := frCheck (w0 := w1) ⟨#[72]⟩ 1 2 5000 0 0 1000 1011 none 0 0 1 true 30 0 dp 0 dc [] (by decide) hd hc (by decide) (by decide)
  rw [fc_c1] at q
  exact q.out W g
theorem cc2 {w1 W : World} {dp : Option Addr} {dc : Nat} (hd : DatS w1 (.slice dp 0 dc) []) (hc : 0 ≤ dc) (g : Gf w1 W) : Calls Tryz.prog 13 #[.agg #[.string ⟨#[72]⟩, .int .i64 1, .int .i64 2, .int .i64 5000, .int .i64 0, .int .i64 0, .int .i64 1000, .int .i64 1011, .slice none 0 0], .agg #[.int .i64 8, .bool false, .int .i64 0, .int .i64 0, .slice dp 0 dc]] W fun r W' => r = .returned (.int .i64 10) ∧ Kb W W' := by
  have q := frCheck (w0 := w1) ⟨#[72]⟩ 1 2 5000 0 0 1000 1011 none 0 0 8 false 0 0 dp 0 dc [] (by decide) hd hc (by decide) (by decide)
  rw [fc_c2] at q
  exact q.out W g
theorem cc3 {w1 W : World} {dp : Option Addr} {dc : Nat} (hd : DatS w1 (.slice dp 1 dc) [(⟨#[65]⟩, 0)]) (hc : 1 ≤ dc) (g : Gf w1 W) : Calls Tryz.prog 13 #[.agg #[.string ⟨#[72]⟩, .int .i64 1, .int .i64 2, .int .i64 5000, .int .i64 0, .int .i64 0, .int .i64 1000, .int .i64 1011, .slice none 0 0], .agg #[.int .i64 8, .bool false, .int .i64 0, .int .i64 1, .slice dp 1 dc]] W fun r W' => r = .returned (.int .i64 0) ∧ Kb W W' := by
  have q := frCheck (w0 := w1) ⟨#[72]⟩ 1 2 5000 0 0 1000 1011 none 0 0 8 false 0 1 dp 1 dc [(⟨#[65]⟩, 0)] (by decide) hd hc (by decide) (by decide)
  rw [fc_c3] at q
  exact q.out W g
theorem cc4 {w1 W : World} {dp : Option Addr} {dc : Nat} (hd : DatS w1 (.slice dp 0 dc) []) (hc : 0 ≤ dc) (g : Gf w1 W) : Calls Tryz.prog 13 #[.agg #[.string ⟨#[72]⟩, .int .i64 1, .int .i64 2, .int .i64 5000, .int .i64 0, .int .i64 0, .int .i64 1000, .int .i64 1011, .slice none 0 0], .agg #[.int .i64 3, .bool false, .int .i64 20, .int .i64 0, .slice dp 0 dc]] W fun r W' => r = .returned (.int .i64 13) ∧ Kb W W' := by
  have q := frCheck (w0 := w1) ⟨#[72]⟩ 1 2 5000 0 0 1000 1011 none 0 0 3 false 20 0 dp 0 dc [] (by decide) hd hc (by decide) (by decide)
  rw [fc_c4] at q
  exact q.out W g
theorem cc5 {w1 W : World} {dp : Option Addr} {dc : Nat} (hd : DatS w1 (.slice dp 2 dc) [(⟨#[65]⟩, 0), (⟨#[66]⟩, 0)]) (hc : 2 ≤ dc) (g : Gf w1 W) : Calls Tryz.prog 13 #[.agg #[.string ⟨#[72]⟩, .int .i64 1, .int .i64 2, .int .i64 5000, .int .i64 0, .int .i64 0, .int .i64 1000, .int .i64 1011, .slice none 0 0], .agg #[.int .i64 7, .bool false, .int .i64 20, .int .i64 0, .slice dp 2 dc]] W fun r W' => r = .returned (.int .i64 5) ∧ Kb W W' := by
  have q := frCheck (w0 := w1) ⟨#[72]⟩ 1 2 5000 0 0 1000 1011 none 0 0 7 false 20 0 dp 2 dc [(⟨#[65]⟩, 0), (⟨#[66]⟩, 0)] (by decide) hd hc (by decide) (by decide)
  rw [fc_c5] at q
  exact q.out W g
theorem cq0 {w1 W : World} {dp : Option Addr} {dc : Nat} (hd : DatS w1 (.slice dp 0 dc) []) (hc : 0 ≤ dc) (g : Gf w1 W) : Calls Tryz.prog 13 #[.agg #[.string ⟨#[80]⟩, .int .i64 0, .int .i64 0, .int .i64 0, .int .i64 0, .int .i64 0, .int .i64 0, .int .i64 0, .slice none 0 0], .agg #[.int .i64 1, .bool false, .int .i64 30, .int .i64 0, .slice dp 0 dc]] W fun r W' => r = .returned (.int .i64 0) ∧ Kb W W' := by
  have q := frCheck (w0 := w1) ⟨#[80]⟩ 0 0 0 0 0 0 0 none 0 0 1 false 30 0 dp 0 dc [] (by decide) hd hc (by decide) (by decide)
  rw [fc_q0] at q
  exact q.out W g
theorem cq1 {w1 W : World} {dp : Option Addr} {dc : Nat} (hd : DatS w1 (.slice dp 0 dc) []) (hc : 0 ≤ dc) (g : Gf w1 W) : Calls Tryz.prog 13 #[.agg #[.string ⟨#[80]⟩, .int .i64 0, .int .i64 0, .int .i64 0, .int .i64 0, .int .i64 0, .int .i64 0, .int .i64 0, .slice none 0 0], .agg #[.int .i64 1, .bool true, .int .i64 30, .int .i64 0, .slice dp 0 dc]] W fun r W' => r = .returned (.int .i64 3) ∧ Kb W W' := by
  have q := frCheck (w0 := w1) ⟨#[80]⟩ 0 0 0 0 0 0 0 none 0 0 1 true 30 0 dp 0 dc [] (by decide) hd hc (by decide) (by decide)
  rw [fc_q1] at q
  exact q.out W g
set_option maxRecDepth 100000 in
set_option maxHeartbeats 4000000 in
theorem fHole_1 (w : World)  : Calls Tryz.prog 38 #[] w fun r W' => r = .returned (.agg #[.string ⟨#[72]⟩, .int .i64 1, .int .i64 2, .int .i64 5000, .int .i64 0, .int .i64 0, .int .i64 1000, .int .i64 1011, .slice none 0 0]) ∧ Kb w W' := by
  have kx := Kb.refl w
  go_enter Tryz.func38, Tryz.ntmps38
  go_wp2
  have b1 := Is.made w #[.string ⟨#[72]⟩, .int .i64 1, .int .i64 2, .int .i64 5000, .int .i64 0, .int .i64 0, .int .i64 1000, .int .i64 1011, .slice none 0 0] 28
  replace kx := kx.alloc (.cells #[.string ⟨#[72]⟩, .int .i64 1, .int .i64 2, .int .i64 5000, .int .i64 0, .int .i64 0, .int .i64 1000, .int .i64 1011, .slice none 0 0] 28 (0, 0))
  refine ret_row Tryz.results38 rfl rfl b1 Tryz.underlying28 rfl (by kernel_rfl) ?_
  exact ⟨rfl, kx⟩
end Go.Proofs.YtlimjohnimgnhaaGreatDoor
