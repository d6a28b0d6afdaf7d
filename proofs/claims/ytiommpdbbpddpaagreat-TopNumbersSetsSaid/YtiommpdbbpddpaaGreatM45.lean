/- Texts Il2, Is18, Il5, Il6, Il7, Im3, Im4, Il8: each says in its own first comment what it proves. -/
import Derived.Test.YtiommpdbbpddpaaGreatM37
import Derived.Deep.Cut
import Derived.Deep.CutRange
import Derived.Test.YtiommpdbbpddpaaGreatM51
import Derived.Test.YtiommpdbbpddpaaGreatM40
import Derived.Test.YtiommpdbbpddpaaGreatM43
import Derived.Test.YtiommpdbbpddpaaGreatM50
import Derived.Deep.RegionHeld3
/- Reference of layer 3: Common (a drawn region with a free new block, two calls and a store into it: RegF), Meet over its calls. -/
namespace Go.Proofs.YtiommpdbbpddpaaGreat
open Go.RowKit
open Go.Lib (nDigits itoa decDigits)

section
variable {a : Act} {w : World} {o : Oper} {x y : Operand} {b f : Nat} {u v : ByteArray}
end
/-- what the chain hands on: behind the store the new block holds the span -/
def EC (i n base : Nat) (u v : ByteArray) (c : Nat) (V : Nat → Value) (w : World) : Prop := c = n → ∃ g, V i = .pointer (some ⟨g, 0, none⟩) ∧ base ≤ g ∧ SpB w g u v
def FC (i base : Nat) (k : Nat) (u : Value) (w : World) : Prop := k = i → ∃ g, u = .pointer (some ⟨g, 0, none⟩) ∧ base ≤ g ∧ ∃ x y, SpB w g x y
section
variable {i n k c base : Nat} {s t : ByteArray} {V : Nat → Value} {w w' : World} {u : Value}
theorem FC.kept (h : FC i base k u w) (hk : Kp [] w w') : FC i base k u w' := fun e => by
  obtain ⟨g, e1, e2, x, y, h2⟩ := h e
  exact ⟨g, e1, e2, x, y, h2.kept hk (by simp)⟩
theorem FC.set {x y : ByteArray} (h : FC i base k u w) (b : Nat) (hb : SpB w b x y) (s t : ByteArray) : FC i base k u ((w.setCell ⟨b, 0, none⟩ (.string s)).setCell ⟨b, 1, none⟩ (.string t)) := fun e => by
  obtain ⟨g, e1, e2, x1, y1, h2⟩ := h e
  by_cases eb : g = b
  · subst eb; exact ⟨g, e1, e2, s, t, h2.set2 s t⟩
  · exact ⟨g, e1, e2, x1, y1, h2.far2 (Ne.symm eb) _ _⟩
theorem EC.kept (h : EC i n base s t c V w) (hk : Kp [] w w') : EC i n base s t c V w' := fun e => by
  obtain ⟨g, e1, e2, h2⟩ := h e
  exact ⟨g, e1, e2, h2.kept hk (by simp)⟩
theorem EC.free (h : EC i n base s t c V w) (hk : Kp [] w w') (hu : V k = undef) : EC i n base s t c (updV V k u) w' := fun e => by
  obtain ⟨g, e1, e2, h2⟩ := h.kept hk e
  refine ⟨g, ?_, e2, h2⟩
  rw [updV_ne (fun x => by subst x; rw [hu] at e1; simp [undef] at e1)]
  exact e1
end

end Go.Proofs.YtiommpdbbpddpaaGreat

/- Reference of layer 3: Few; the laws' own function right. -/
namespace Go.Proofs.YtiommpdbbpddpaaGreat
open Go.RowKit
open Go.Lib (nDigits itoa decDigits)

def stB (t : Tx) : Bool := shB t.1 && shB t.2
/-- one span is right and has short ends -/
def rtB (t : Tx) : Bool := decide (icE t.1 t.2 = 0) && decide (t.1.size ≤ 15) && decide (t.2.size ≤ 15)
def rgB (l : List Tx) : Bool := decide (l.length ≤ 8) && l.all stB && l.all rtB
end Go.Proofs.YtiommpdbbpddpaaGreat

/- The law IntervalEnds, for any texts. -/
namespace Go.Proofs.YtiommpdbbpddpaaGreat
open Go.RowKit
open Go.Lib (nDigits itoa decDigits)

theorem cAdd {q r : Rat} {j k : Nat} (hq : Sm j q) (hr : Sm k r) (h : j + k < 1024) : Ca 14 #[.string (RS q), .string (RS r)] (.tuple #[.string (RS (q + r)), .int .i64 0]) := Lib.hid fun W => by
  obtain ⟨v1, v2⟩ := add_v hq hr h
  have := qAdd_any (RS q) (RS r) W (hq.ok (by omega)).size9 (hr.ok (by omega)).size9
  rwa [v1, v2] at this




theorem le_mx1 (q r : Rat) : q ≤ mxR q r := by unfold mxR; split <;> grind
theorem le_mx2 (q r : Rat) : r ≤ mxR q r := by unfold mxR; split <;> grind
end Go.Proofs.YtiommpdbbpddpaaGreat

/- What a difference holds; the law IntervalHolds. -/
namespace Go.Proofs.YtiommpdbbpddpaaGreat
open Go.RowKit
open Go.Lib (nDigits itoa decDigits)

theorem Swept.or_in {A B f : List Iv} (h : Swept (fun a b => a || b) A B f) (rA : RtI A) (rB : RtI B) (z : Rat) : InS z f ↔ InS z A ∨ InS z B := by
  obtain ⟨N, D, hp, hI⟩ := h
  exact (hI.or hp rA rB).2 z
theorem Swept.and_in {A B f : List Iv} (h : Swept (fun a b => a && b) A B f) (rA : RtI A) (rB : RtI B) (z : Rat) : InS z f ↔ InS z A ∧ InS z B := by
  obtain ⟨N, D, hp, hI⟩ := h
  exact (hI.and hp rA rB).2 z
theorem Swept.diff_in {A B f : List Iv} (h : Swept (fun a b => a && !b) A B f) (rA : RtI A) (rB : RtI B) (z : Rat) : (InS z f → InS z A) ∧ (InS z A → ¬ InS z B → InS z f) := by
  obtain ⟨N, D, hp, hI⟩ := h
  obtain ⟨_, hN, _, eA, eB, hz⟩ := hI.diff hp rA rB
  refine ⟨fun hf => ?_, fun ha hb => ?_⟩
  · rcases (hz z).1 hf with ⟨_, h, _⟩ | ⟨x, y, _, ⟨h, _⟩, h1, h2⟩
    · exact h
    · exact hasO_in h h1 h2
  · obtain ⟨s, hs, h1, h2⟩ := id ha
    rcases locate hN ⟨s.1, (eA s hs).1, h1⟩ ⟨s.2, (eA s hs).2, h2⟩ with hm | ⟨x, y, hxy, h3, h4⟩
    · exact (hz z).2 (.inl ⟨hm, ha, hb⟩)
    · exact (hz z).2 (.inr ⟨x, y, hxy, ⟨(hasO_iff hN eA hxy h3 h4).1 ha, fun k => hb ((hasO_iff hN eB hxy h3 h4).2 k)⟩, Rat.le_of_lt h3, Rat.le_of_lt h4⟩)
/-- a right set, in numbers -/
theorem right_iv : ∀ {l : List Tx}, l.all stB = true → l.all rtB = true → ∃ A : List Iv, l = txI A ∧ SmI A ∧ RtI A
  | [], _, _ => ⟨[], rfl, fun _ h => by simp at h, fun _ h => by simp at h⟩
  | t :: l, h1, h2 => by
    rw [List.all_cons, Bool.and_eq_true] at h1 h2
    obtain ⟨A, rfl, hs, hr⟩ := right_iv h1.2 h2.2
    have a := h1.1
    have b := h2.1
    unfold stB at a
    unfold rtB at b
    simp only [Bool.and_eq_true, decide_eq_true_eq] at a b
    rcases ic_cases a.1 a.2 with k | ⟨_, q, r, e1, e2, hq, hr2, o1⟩
    · exact absurd b.1.1 k
    · refine ⟨(q, r) :: A, ?_, fun s hm => ?_, fun s hm => ?_⟩
      · obtain ⟨t1, t2⟩ := t
        simp only at e1 e2
        subst e1; subst e2; rfl
      · rcases List.mem_cons.1 hm with rfl | hm
        · exact ⟨hq, hr2⟩
        · exact hs s hm
      · rcases List.mem_cons.1 hm with rfl | hm
        · exact o1
        · exact hr s hm
theorem rg_iv {l : List Tx} (h : rgB l = true) : ∃ A : List Iv, l = txI A ∧ SmI A ∧ RtI A ∧ A.length ≤ 8 := by
  unfold rgB at h
  simp only [Bool.and_eq_true, decide_eq_true_eq] at h
  obtain ⟨A, rfl, hs, hr⟩ := right_iv h.1.2 h.2
  exact ⟨A, rfl, hs, hr, by have := h.1.1; rwa [txI_len] at this⟩
section
variable {w w' : World} {b : Nat} {L : List Bool}







end
end Go.Proofs.YtiommpdbbpddpaaGreat

/- The law IntervalHolds, for any texts. -/
namespace Go.Proofs.YtiommpdbbpddpaaGreat
open Go.RowKit
open Go.Lib (nDigits itoa decDigits)


theorem Nrm.rt {f : List Iv} (h : Nrm f) : RtI f := h.1






































end Go.Proofs.YtiommpdbbpddpaaGreat

/- The length of a union and of an intersection. -/
namespace Go.Proofs.YtiommpdbbpddpaaGreat
open Go.RowKit

def lnS (l : List Iv) : Rat := (l.map fun s => s.2 - s.1).foldr (· + ·) 0
theorem lnS_append (l m : List Iv) : lnS (l ++ m) = lnS l + lnS m := by
  induction l with
  | nil => show lnS m = 0 + lnS m; grind
  | cons s l ih =>
    show (s.2 - s.1) + lnS (l ++ m) = ((s.2 - s.1) + lnS l) + lnS m
    rw [ih]; grind
theorem lnS_one (s : Iv) : lnS [s] = s.2 - s.1 := by show (s.2 - s.1) + 0 = _; grind
theorem wsum_lnS (f : List Iv) : ∀ k, k ≤ f.length → wsum f k = lnS (f.take k)
  | 0, _ => rfl
  | k + 1, hk => by
    have hk' : k < f.length := by omega
    show wsum f k + ((gI f k).2 - (gI f k).1) = _
    rw [wsum_lnS f k (by omega), gI_eq hk', List.take_succ_eq_append_getElem hk', lnS_append, lnS_one]
theorem lenI_lnS (f : List Iv) : lenI f = lnS f := by
  unfold lenI
  rw [wsum_lnS f _ (Nat.le_refl _), List.take_length]
theorem lnS_coll (f : List Iv) (p : Iv) : lnS (coll f p) = lnS f + (p.2 - p.1) := by
  rcases List.eq_nil_or_concat f with rfl | ⟨f', s, rfl⟩
  · rw [coll_nil, lnS_one]; show _ = 0 + _; grind
  · rw [List.concat_eq_append, coll_snoc]
    by_cases h : s.2 = p.1
    · rw [if_pos h, lnS_append, lnS_append, lnS_one, lnS_one]; grind
    · rw [if_neg h, lnS_append, lnS_one]
theorem lnS_colls : ∀ (ps f : List Iv), lnS (colls f ps) = lnS f + lnS ps
  | [], f => by show lnS f = lnS f + 0; grind
  | p :: ps, f => by
    show lnS (colls (coll f p) ps) = lnS f + ((p.2 - p.1) + lnS ps)
    rw [lnS_colls ps, lnS_coll]; grind
/-- the sum over neighbours -/
def adS (o : Rat → Rat → Bool) : List Rat → Rat
  | x :: y :: l => (if o x y then y - x else 0) + adS o (y :: l)
  | _ => 0
theorem lnS_pieces (c : Rat → Bool) (o : Rat → Rat → Bool) : ∀ N : List Rat, lnS (pieces c o N) = adS o N
  | [] => rfl
  | [x] => by
    unfold pieces adS
    by_cases h : c x = true
    · rw [if_pos h, lnS_one]; grind
    · rw [if_neg h]; rfl
  | x :: y :: l => by
    show lnS ((if c x then [(x, x)] else []) ++ ((if o x y then [(x, y)] else []) ++ pieces c o (y :: l))) = (if o x y then y - x else 0) + adS o (y :: l)
    rw [lnS_append, lnS_append, lnS_pieces c o (y :: l)]
    have e1 : lnS (if c x then [(x, x)] else []) = 0 := by
      by_cases h : c x = true
      · rw [if_pos h, lnS_one]; grind
      · rw [if_neg h]; rfl
    have e2 : lnS (if o x y then [(x, y)] else []) = if o x y then y - x else 0 := by
      by_cases h : o x y = true
      · rw [if_pos h, if_pos h, lnS_one]
      · rw [if_neg h, if_neg h]; rfl
    rw [e1, e2]; grind
theorem adS_two (p q : Rat → Rat → Bool) : ∀ N : List Rat, adS (fun x y => p x y || q x y) N + adS (fun x y => p x y && q x y) N = adS p N + adS q N
  | [] => by show (0 : Rat) + 0 = 0 + 0; rfl
  | [x] => by show (0 : Rat) + 0 = 0 + 0; rfl
  | x :: y :: l => by
    have ih := adS_two p q (y :: l)
    show ((if (p x y || q x y) = true then y - x else 0) + adS _ (y :: l)) + ((if (p x y && q x y) = true then y - x else 0) + adS _ (y :: l)) = ((if p x y = true then y - x else 0) + adS p (y :: l)) + ((if q x y = true then y - x else 0) + adS q (y :: l))
    cases p x y <;> cases q x y <;> simp <;> grind
/-- one of the two sets over the numbers of both -/
theorem fst_of {A B : List Iv} {D : List En} {N : List Rat} (hD : D.Perm (ends A false ++ ends B true)) (hA : ∀ s ∈ A, s.1 ≤ s.2) (hB : ∀ s ∈ B, s.1 ≤ s.2) (ha : Asc N) (hm : ∀ x, x ∈ N ↔ ∃ e ∈ D, e.num = x) :
    Nrm (colls [] (pieces (swC (fun a _ => a) D) (swO (fun a _ => a) D) N)) ∧ ∀ z, InS z (colls [] (pieces (swC (fun a _ => a) D) (swO (fun a _ => a) D) N)) ↔ InS z A := by
  obtain ⟨eA, _⟩ := endsIn_of hD hm
  have eN : EndsIn [] N := fun s h => by simp at h
  have := sweep_or (c := swC (fun a _ => a) D) (o := swO (fun a _ => a) D) (B := []) ha eA eN (fun x => ?_) (fun x y hxy => ?_)
  · refine ⟨(sweep_ok ha).1, fun z => ?_⟩
    rw [this z]
    exact ⟨fun h => h.elim id fun h => absurd h inS_nil, .inl⟩
  · unfold swC
    rw [decide_eq_true_eq, balC_iff hD hA hB false x]
    exact ⟨.inl, fun h => h.elim id fun h => absurd h inS_nil⟩
  · unfold swO
    rw [decide_eq_true_eq, balO_iff hD hA hB false ha eA hxy]
    exact ⟨.inl, fun h => h.elim id fun ⟨s, hs, _⟩ => by simp at hs⟩
theorem snd_of {A B : List Iv} {D : List En} {N : List Rat} (hD : D.Perm (ends A false ++ ends B true)) (hA : ∀ s ∈ A, s.1 ≤ s.2) (hB : ∀ s ∈ B, s.1 ≤ s.2) (ha : Asc N) (hm : ∀ x, x ∈ N ↔ ∃ e ∈ D, e.num = x) :
    Nrm (colls [] (pieces (swC (fun _ b => b) D) (swO (fun _ b => b) D) N)) ∧ ∀ z, InS z (colls [] (pieces (swC (fun _ b => b) D) (swO (fun _ b => b) D) N)) ↔ InS z B := by
  obtain ⟨_, eB⟩ := endsIn_of hD hm
  have eN : EndsIn [] N := fun s h => by simp at h
  have := sweep_or (c := swC (fun _ b => b) D) (o := swO (fun _ b => b) D) (B := []) ha eB eN (fun x => ?_) (fun x y hxy => ?_)
  · refine ⟨(sweep_ok ha).1, fun z => ?_⟩
    rw [this z]
    exact ⟨fun h => h.elim id fun h => absurd h inS_nil, .inl⟩
  · unfold swC
    rw [decide_eq_true_eq, balC_iff hD hA hB true x]
    exact ⟨.inl, fun h => h.elim id fun h => absurd h inS_nil⟩
  · unfold swO
    rw [decide_eq_true_eq, balO_iff hD hA hB true ha eB hxy]
    exact ⟨.inl, fun h => h.elim id fun ⟨s, hs, _⟩ => by simp at hs⟩
/-- the length of a union and that of the intersection are together those of the sets -/
theorem len_two {A B u x a b : List Iv} (hu : Swept (fun p q => p || q) A B u) (hx : Swept (fun p q => p && q) A B x) (hA : ∀ s ∈ A, s.1 ≤ s.2) (hB : ∀ s ∈ B, s.1 ≤ s.2)
    (na : Nrm a) (ia : ∀ z, InS z a ↔ InS z A) (nb : Nrm b) (ib : ∀ z, InS z b ↔ InS z B) : lenI u + lenI x = lenI a + lenI b := by
  obtain ⟨N, D, hp, hI⟩ := hu
  obtain ⟨_, ha, hm, rfl⟩ := hI.done
  have hm' : ∀ y, y ∈ N ↔ ∃ e ∈ ends A false ++ ends B true, e.num = y := fun y => by
    rw [hm y]
    exact ⟨fun ⟨e, h1, h2⟩ => ⟨e, hp.mem_iff.1 h1, h2⟩, fun ⟨e, h1, h2⟩ => ⟨e, hp.mem_iff.2 h1, h2⟩⟩
  have ex := hx.eval N ha hm'
  obtain ⟨fa, fi⟩ := fst_of (.refl _) hA hB ha hm'
  obtain ⟨ga, gi⟩ := snd_of (.refl _) hA hB ha hm'
  have e1 := nrm_unique na fa fun z => by rw [ia z, fi z]
  have e2 := nrm_unique nb ga fun z => by rw [ib z, gi z]
  have eu := Swept.eval ⟨N, D, hp, hI⟩ N ha hm'
  obtain ⟨_, _, _, e9⟩ := hI.done
  rw [eu, ex, e1, e2]
  simp only [lenI_lnS, lnS_colls, lnS_pieces]
  have := adS_two (swO (fun p _ => p) (ends A false ++ ends B true)) (swO (fun _ q => q) (ends A false ++ ends B true)) N
  have z : lnS [] = 0 := rfl
  rw [z]
  unfold swO at *
  grind
end Go.Proofs.YtiommpdbbpddpaaGreat

/- How many spans an intersection has; right sets with short ends. -/
namespace Go.Proofs.YtiommpdbbpddpaaGreat
open Go.RowKit
open Go.Lib (nDigits itoa decDigits)

theorem len_starts : ∀ {f : List Iv} {T : List Rat}, Nrm f → (∀ s ∈ f, s.1 ∈ T) → f.length ≤ T.length
  | [], _, _, _ => by simp
  | s :: f, T, h, hT => by
    have hs := hT s (by simp)
    have := len_starts (T := T.erase s.1) h.tail fun t ht => (List.mem_erase_of_ne (fun e => by
      have h1 := h.head
      have h2 := h.lt ht
      grind)).2 (hT t (by simp [ht]))
    rw [List.length_erase_of_mem hs] at this
    have := List.length_pos_of_mem hs
    simp only [List.length_cons]
    omega
/-- below a span of a normal set there is room -/
theorem below_room : ∀ {l1 l2 : List Iv} {s : Iv} {m : Rat}, Nrm (l1 ++ s :: l2) → m < s.1 → ∃ z, m ≤ z ∧ z < s.1 ∧ ¬ InS z (l1 ++ s :: l2)
  | [], l2, s, m, h, hm => by
    refine ⟨m, Rat.le_refl, hm, fun hz => ?_⟩
    have := Nrm.ge h hz
    grind
  | t :: l1, l2, s, m, h, hm => by
    have hs : t.2 < s.1 := Nrm.lt h (by simp)
    obtain ⟨m', hm', h1, h2⟩ : ∃ m', m' < s.1 ∧ m ≤ m' ∧ t.2 < m' := by
      refine ⟨(mxR m t.2 + s.1) * (1 / 2), ?_, ?_, ?_⟩ <;> (unfold mxR; split <;> grind)
    obtain ⟨z, z1, z2, z3⟩ := below_room (l1 := l1) h.tail hm'
    refine ⟨z, Rat.le_trans h1 z1, z2, fun hz => ?_⟩
    rcases inS_cons.1 hz with ⟨_, h4⟩ | h4
    · grind
    · exact z3 h4
theorem and_starts {A B f : List Iv} (h : Nrm f) (he : ∀ z, InS z f ↔ InS z A ∧ InS z B) : ∀ s ∈ f, s.1 ∈ (A ++ B).map Prod.fst := fun s hs => by
  obtain ⟨l1, l2, rfl⟩ := List.append_of_mem hs
  obtain ⟨⟨t, ht, t1, t2⟩, r, hr, r1, r2⟩ := (he s.1).1 ⟨s, hs, Rat.le_refl, h.1 s hs⟩
  by_cases e1 : t.1 = s.1
  · rw [← e1]; exact List.mem_map.2 ⟨t, by simp [ht], rfl⟩
  · by_cases e2 : r.1 = s.1
    · rw [← e2]; exact List.mem_map.2 ⟨r, by simp [hr], rfl⟩
    · exfalso
      have hm : mxR t.1 r.1 < s.1 := by unfold mxR; split <;> grind
      obtain ⟨z, z1, z2, z3⟩ := below_room h hm
      have y1 := Rat.le_trans (le_mx1 t.1 r.1) z1
      have y2 := Rat.le_trans (le_mx2 t.1 r.1) z1
      exact z3 ((he z).2 ⟨⟨t, ht, y1, by grind⟩, r, hr, y2, by grind⟩)
theorem and_len {A B f : List Iv} (h : Nrm f) (he : ∀ z, InS z f ↔ InS z A ∧ InS z B) : f.length ≤ A.length + B.length := by
  have := len_starts h (and_starts h he)
  simpa using this
theorem or_len {A B f : List Iv} (h : Nrm f) (rA : RtI A) (rB : RtI B) (he : ∀ z, InS z f ↔ InS z A ∨ InS z B) : f.length ≤ A.length + B.length := by
  have := nrm_len (A := A ++ B) h (fun s hs => (List.mem_append.1 hs).elim (rA s) (rB s)) fun z => by rw [he z, inS_append]
  simpa using this
theorem inS_erase {A : List Iv} {t : Iv} (ht : t ∈ A) (z : Rat) : InS z A ↔ InS z (A.erase t) ∨ InV z t := by
  constructor
  · rintro ⟨s, hs, h⟩
    by_cases e : s = t
    · exact .inr (e ▸ h)
    · exact .inl ⟨s, (List.mem_erase_of_ne e).2 hs, h⟩
  · rintro (⟨s, hs, h⟩ | h)
    · exact ⟨s, List.mem_of_mem_erase hs, h⟩
    · exact ⟨t, ht, h⟩
/-- two spans that meet become one -/
theorem or_len1 {A B f : List Iv} (h : Nrm f) (rA : RtI A) (rB : RtI B) (he : ∀ z, InS z f ↔ InS z A ∨ InS z B) {x : Rat} (ha : InS x A) (hb : InS x B) : f.length + 1 ≤ A.length + B.length := by
  obtain ⟨t, ht, t1, t2⟩ := ha
  obtain ⟨r, hr, r1, r2⟩ := hb
  have lt := List.length_pos_of_mem ht
  have lr := List.length_pos_of_mem hr
  have hm : mtI r t := ⟨by grind, by grind⟩
  have := nrm_len (A := hu t r :: (A.erase t ++ B.erase r)) h (fun s hs => by
    rcases List.mem_cons.1 hs with rfl | hs
    · exact hu_right (rA t ht) (rB r hr)
    · exact (List.mem_append.1 hs).elim (fun k => rA s (List.mem_of_mem_erase k)) (fun k => rB s (List.mem_of_mem_erase k))) fun z => by
      rw [he z, inS_cons, inS_append, hu_in (rA t ht) (rB r hr) hm z, inS_erase ht z, inS_erase hr z]
      constructor
      · rintro ((a | a) | (a | a))
        · exact .inr (.inl a)
        · exact .inl (.inl a)
        · exact .inr (.inr a)
        · exact .inl (.inr a)
      · rintro ((a | a) | (a | a))
        · exact .inl (.inr a)
        · exact .inr (.inr a)
        · exact .inl (.inl a)
        · exact .inr (.inl a)
  simp only [List.length_cons, List.length_append, List.length_erase_of_mem ht, List.length_erase_of_mem hr] at this
  omega
/-- a right text of at most 15 bytes -/
theorem sm15 {q : Rat} (hq : Sm 30 q) (h : (RS q).size ≤ 15) : Sm 15 q := by
  have oq := hq.ok (by omega)
  obtain ⟨e1, e2, _⟩ := sp_RS oq
  have h1 : (cN (RS q)).size ≤ 15 := Nat.le_trans (cN_le _) h
  have h2 : nDigits q.den ≤ 15 := by
    have n2 := (S_nn (z := (q.den : Int)) (by omega)).2
    rw [Int.natAbs_natCast] at n2
    by_cases hd : q.den = 1
    · rw [hd]; exact nd_le (by omega) (by decide)
    · have := cD_le (RS q)
      rw [e2] at this
      omega
  rw [e1] at h1
  have n1 : nDigits q.num.natAbs ≤ 15 := by
    have : nDigits q.num.natAbs ≤ (S q.num).size := by
      by_cases hn : q.num < 0
      · have := (S_neg hn).2; omega
      · have := (S_nn (z := q.num) (by omega)).2; omega
    omega
  exact ⟨nd_len_lt n1 (by omega), nd_len_lt h2 (by omega)⟩
end Go.Proofs.YtiommpdbbpddpaaGreat

/- The law IntervalCounts. -/
namespace Go.Proofs.YtiommpdbbpddpaaGreat
open Go.RowKit
open Go.Lib (nDigits itoa decDigits)

theorem sm_len {f : List Iv} (h : SmJ 15 f) {n : Nat} (hn : f.length ≤ n) : Sm (32 * n + 1) (lenI f) := by
  refine (wsum_sm h _ (Nat.le_refl _)).mono ?_
  have := Nat.mul_le_mul_left 32 hn
  omega
theorem sm_pair {A B u x : List Iv} (hu : SmJ 15 u) (hx : SmJ 15 x) (nu : Nrm u) (nx : Nrm x) (rA : RtI A) (rB : RtI B) (iu : ∀ z, InS z u ↔ InS z A ∨ InS z B) (ix : ∀ z, InS z x ↔ InS z A ∧ InS z B) (hA : A.length ≤ 8) (hB : B.length ≤ 8) :
    ∃ j k, Sm j (lenI u) ∧ Sm k (lenI x) ∧ j + k < 1024 := by
  have l1 := or_len nu rA rB iu
  have l2 := and_len nx ix
  cases x with
  | nil => exact ⟨_, 1, sm_len hu (n := 16) (by omega), by show Sm 1 (0 : Rat); unfold Sm; decide, by omega⟩
  | cons s x =>
    obtain ⟨a, b⟩ := (ix s.1).1 ⟨s, by simp, Rat.le_refl, nx.head⟩
    have l3 := or_len1 nu rA rB iu a b
    exact ⟨_, _, sm_len hu (n := 15) (by omega), sm_len hx (n := 16) (by omega), by omega⟩
theorem fab_sm {A B u fa fb : List Iv} (h : Swept (fun p q => p || q) A B u) (hA : SmJ 15 A) (hB : SmJ 15 B) (rA : RtI A) (rB : RtI B) (na : Nrm fa) (ia : ∀ z, InS z fa ↔ InS z A) (nb : Nrm fb) (ib : ∀ z, InS z fb ↔ InS z B) : SmJ 15 fa ∧ SmJ 15 fb := by
  obtain ⟨N, D, hp, hI⟩ := h
  obtain ⟨_, ha, hm, _⟩ := hI.done
  have hm' : ∀ y, y ∈ N ↔ ∃ e ∈ ends A false ++ ends B true, e.num = y := fun y => by
    rw [hm y]
    exact ⟨fun ⟨e, h1, h2⟩ => ⟨e, hp.mem_iff.1 h1, h2⟩, fun ⟨e, h1, h2⟩ => ⟨e, hp.mem_iff.2 h1, h2⟩⟩
  have hAB : SmJ 15 (A ++ B) := fun t ht => (List.mem_append.1 ht).elim (hA t) (hB t)
  have hN : ∀ y ∈ N, Sm 15 y := fun y hy => by
    obtain ⟨e, h1, rfl⟩ := (hm' y).1 hy
    exact endOf_sm hAB (ends_num h1)
  obtain ⟨f1, f2⟩ := fst_of (.refl _) rA rB ha hm'
  obtain ⟨g1, g2⟩ := snd_of (.refl _) rA rB ha hm'
  have e1 := nrm_unique na f1 fun z => by rw [ia z, f2 z]
  have e2 := nrm_unique nb g1 fun z => by rw [ib z, g2 z]
  refine ⟨fun s hs => ?_, fun s hs => ?_⟩
  · rw [e1] at hs
    obtain ⟨h1, h2⟩ := colls_ends (fun s h => by simp at h) (pieces_ends _ _ _) s hs
    exact ⟨hN _ h1, hN _ h2⟩
  · rw [e2] at hs
    obtain ⟨h1, h2⟩ := colls_ends (fun s h => by simp at h) (pieces_ends _ _ _) s hs
    exact ⟨hN _ h1, hN _ h2⟩

















































































































































































theorem rt15 {A : List Iv} (hs : SmI A) (h : rgB (txI A) = true) : SmJ 15 A := fun s hm => by
  unfold rgB at h
  simp only [Bool.and_eq_true] at h
  have := List.all_eq_true.1 h.2 (RS s.1, RS s.2) (by unfold txI; exact List.mem_map.2 ⟨s, hm, rfl⟩)
  unfold rtB at this
  simp only [Bool.and_eq_true, decide_eq_true_eq] at this
  exact ⟨sm15 (hs s hm).1 this.1.2, sm15 (hs s hm).2 this.2⟩











end Go.Proofs.YtiommpdbbpddpaaGreat
