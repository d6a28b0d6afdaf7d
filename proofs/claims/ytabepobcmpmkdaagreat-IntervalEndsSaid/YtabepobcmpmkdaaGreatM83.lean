/- Texts Il2, Il3: each says in its own first comment what it proves. -/
import Derived.Test.YtabepobcmpmkdaaGreatM74
import Derived.Deep.Cut
import Derived.Deep.CutRange
import Derived.Test.YtabepobcmpmkdaaGreatM65
import Derived.Test.YtabepobcmpmkdaaGreatM82
/- Reference of layer 3: Common (a drawn region with a free new block, two calls and a store into it: RegF), Meet over its calls. -/
namespace Go.Proofs.YtabepobcmpmkdaaGreat
open Go.RowKit
open Go.Lib (nDigits itoa decDigits)

section
variable {a : Act} {w : World} {o : Oper} {x y : Operand} {b f : Nat} {u v : ByteArray}
end
/-- what the chain hands on: behind the store the new block holds the span -/
def EC (i n base : Nat) (u v : ByteArray) (c : Nat) (V : Nat → Value) (w : World) : Prop := c = n → ∃ g, V i = .pointer (some ⟨g, 0, none⟩) ∧ base ≤ g ∧ SpB w g u v
def FC (i base : Nat) (k : Nat) (u : Value) (w : World) : Prop := k = i → ∃ g, u = .pointer (some ⟨g, 0, none⟩) ∧ base ≤ g ∧ ∃ x y, SpB w g x y
section
variable {i n k c base : Nat} {s t : ByteArray} {V : Nat → Value} {w w' : World} {u : Value}
theorem FC.kept (h : FC i base k u w) (hk : Kp [] w w') : FC i base k u w' := fun e => by
  obtain ⟨g, e1, e2, x, y, h2⟩ := h e
  exact ⟨g, e1, e2, x, y, h2.kept hk (by simp)⟩
theorem FC.set {x y : ByteArray} (h : FC i base k u w) (b : Nat) (hb : SpB w b x y) (s t : ByteArray) : FC i base k u ((w.setCell ⟨b, 0, none⟩ (.string s)).setCell ⟨b, 1, none⟩ (.string t)) := fun e => by
  obtain ⟨g, e1, e2, x1, y1, h2⟩ := h e
  by_cases eb : g = b
  · subst eb; exact ⟨g, e1, e2, s, t, h2.set2 s t⟩
  · exact ⟨g, e1, e2, x1, y1, h2.far2 (Ne.symm eb) _ _⟩
theorem EC.kept (h : EC i n base s t c V w) (hk : Kp [] w w') : EC i n base s t c V w' := fun e => by
  obtain ⟨g, e1, e2, h2⟩ := h e
  exact ⟨g, e1, e2, h2.kept hk (by simp)⟩
theorem EC.free (h : EC i n base s t c V w) (hk : Kp [] w w') (hu : V k = undef) : EC i n base s t c (updV V k u) w' := fun e => by
  obtain ⟨g, e1, e2, h2⟩ := h.kept hk e
  refine ⟨g, ?_, e2, h2⟩
  rw [updV_ne (fun x => by subst x; rw [hu] at e1; simp [undef] at e1)]
  exact e1
end

end Go.Proofs.YtabepobcmpmkdaaGreat

/- Meet of package interval and of the reference give the same for short texts; the law IntervalMeets. -/
namespace Go.Proofs.YtabepobcmpmkdaaGreat
open Go.RowKit
open Go.Lib (nDigits itoa decDigits)

theorem iMeet_q (l1 h1 l2 h2 : ByteArray) (a : shB l1 = true) (b : shB h1 = true) (c : shB l2 = true) (d : shB h2 = true) (V : World) (g ba bb : Nat) (hR : RE V g 0) (ha : SpB V ba l1 h1) (hb : SpB V bb l2 h2) :
    Calls Tryz.prog 65 #[.pointer (some ⟨g, 0, none⟩), .pointer (some ⟨ba, 0, none⟩), .pointer (some ⟨bb, 0, none⟩)] V fun x w' => x = .returned (.agg #[.string (grB l1 l2), .string (lsB h1 h2)]) ∧ RE w' g (kp (kp (kp (icE l1 h1) (icE l2 h2)) (qCmE l1 l2)) (qCmE h1 h2)) ∧ Kp [g] V w' :=
  imeet g ba bb l1 h1 l2 h2 _ _ (kp (icE l1 h1) (icE l2 h2)) _ _ V hR ha hb (Lib.hid fun V b0 hR hs => keep_2 g b0 l1 h1 l2 h2 V hR hs (sh_size9 a) (sh_size9 b) (sh_size9 c) (sh_size9 d))
    (Lib.hid fun V hR => k_greater g _ _ _ V hR (sh_size9 a) (sh_size9 c)) (Lib.hid fun V hR => k_less g _ _ _ V hR (sh_size9 b) (sh_size9 d))
theorem sm_mx {k : Nat} {q r : Rat} (hq : Sm k q) (hr : Sm k r) : Sm k (mxR q r) := by unfold mxR; split <;> assumption
theorem sm_mn {k : Nat} {q r : Rat} (hq : Sm k q) (hr : Sm k r) : Sm k (mnR q r) := by unfold mnR; split <;> assumption
end Go.Proofs.YtabepobcmpmkdaaGreat
