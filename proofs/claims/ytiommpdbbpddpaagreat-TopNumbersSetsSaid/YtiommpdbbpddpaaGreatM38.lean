/- Texts Im1: each says in its own first comment what it proves. -/
import Derived.Test.YtiommpdbbpddpaaGreatM37
/- Normal sets of spans of rational numbers: told by their numbers; what a sweep along sorted ends finds ('in A or in B', 'in A and in B', 'in A', 'in A, not in B'); one span more in a normal set. -/
namespace Go.Proofs.YtiommpdbbpddpaaGreat
open Go.RowKit
open Go.Lib (nDigits itoa decDigits)

abbrev Iv := Rat × Rat
def InV (x : Rat) (s : Iv) : Prop := s.1 ≤ x ∧ x ≤ s.2
def InS (x : Rat) (l : List Iv) : Prop := ∃ s ∈ l, InV x s
/-- a normal set: right spans in ascending order that do not touch -/
def Nrm (l : List Iv) : Prop := (∀ s ∈ l, s.1 ≤ s.2) ∧ l.Pairwise (fun s t => s.2 < t.1)
theorem Nrm.nil : Nrm [] := ⟨fun _ h => by simp at h, .nil⟩
theorem Nrm.head {s : Iv} {l : List Iv} (h : Nrm (s :: l)) : s.1 ≤ s.2 := h.1 s (by simp)
theorem Nrm.tail {s : Iv} {l : List Iv} (h : Nrm (s :: l)) : Nrm l := ⟨fun t ht => h.1 t (by simp [ht]), (List.pairwise_cons.1 h.2).2⟩
theorem Nrm.lt {s : Iv} {l : List Iv} (h : Nrm (s :: l)) {t : Iv} (ht : t ∈ l) : s.2 < t.1 := (List.pairwise_cons.1 h.2).1 t ht
theorem inS_cons {x : Rat} {s : Iv} {l : List Iv} : InS x (s :: l) ↔ InV x s ∨ InS x l := by
  unfold InS; simp
theorem inS_nil {x : Rat} : ¬ InS x [] := by unfold InS; simp
theorem inS_append {x : Rat} {l m : List Iv} : InS x (l ++ m) ↔ InS x l ∨ InS x m := by
  unfold InS; simp only [List.mem_append]; constructor
  · rintro ⟨s, h | h, k⟩
    · exact .inl ⟨s, h, k⟩
    · exact .inr ⟨s, h, k⟩
  · rintro (⟨s, h, k⟩ | ⟨s, h, k⟩)
    · exact ⟨s, .inl h, k⟩
    · exact ⟨s, .inr h, k⟩
theorem Nrm.ge {s : Iv} {l : List Iv} (h : Nrm (s :: l)) {x : Rat} (hx : InS x (s :: l)) : s.1 ≤ x := by
  rcases inS_cons.1 hx with hx | ⟨t, ht, hx⟩
  · exact hx.1
  · have := h.lt ht
    have := h.head
    have := hx.1
    grind
theorem Nrm.gt {s : Iv} {l : List Iv} (h : Nrm (s :: l)) {x : Rat} (hx : InS x l) : s.2 < x := by
  obtain ⟨t, ht, hx⟩ := hx
  have := h.lt ht
  have := hx.1
  grind
theorem nrm_high {s t : Iv} {l m : List Iv} (h : Nrm (s :: l)) (_ : Nrm (t :: m)) (he : ∀ x, InS x (s :: l) ↔ InS x (t :: m)) (h1 : s.1 = t.1) : ¬ s.2 < t.2 := fun hlt => by
  have hs := h.head
  have key : ∀ x, s.2 < x → x ≤ t.2 → InS x l := fun x h2 h3 => by
    have hx : InS x (t :: m) := inS_cons.2 (.inl ⟨by grind, h3⟩)
    rcases inS_cons.1 ((he x).2 hx) with hx | hx
    · have := hx.2; grind
    · exact hx
  cases l with
  | nil => exact inS_nil (key t.2 hlt (by grind))
  | cons u l =>
    have hu := h.lt (t := u) (by simp)
    by_cases h4 : t.2 < u.1
    · have := h.tail.ge (key t.2 hlt (by grind)); grind
    · have := h.tail.ge (key ((s.2 + u.1) / 2) (by grind) (by grind)); grind
theorem nrm_unique : ∀ {l m : List Iv}, Nrm l → Nrm m → (∀ x, InS x l ↔ InS x m) → l = m
  | [], [], _, _, _ => rfl
  | [], t :: m, _, k, he => absurd ((he t.1).2 (inS_cons.2 (.inl ⟨by grind, k.head⟩))) inS_nil
  | s :: l, [], h, _, he => absurd ((he s.1).1 (inS_cons.2 (.inl ⟨by grind, h.head⟩))) inS_nil
  | s :: l, t :: m, h, k, he => by
    have a : t.1 ≤ s.1 := k.ge ((he s.1).1 (inS_cons.2 (.inl ⟨by grind, h.head⟩)))
    have b : s.1 ≤ t.1 := h.ge ((he t.1).2 (inS_cons.2 (.inl ⟨by grind, k.head⟩)))
    have h1 : s.1 = t.1 := by grind
    have c := nrm_high h k he h1
    have d := nrm_high k h (fun x => (he x).symm) h1.symm
    have e : s = t := Prod.ext h1 (by grind)
    subst e
    rw [nrm_unique h.tail k.tail fun x => ?_]
    constructor
    · intro hx
      rcases inS_cons.1 ((he x).1 (inS_cons.2 (.inr hx))) with hy | hy
      · have := h.gt hx; have := hy.2; grind
      · exact hy
    · intro hx
      rcases inS_cons.1 ((he x).2 (inS_cons.2 (.inr hx))) with hy | hy
      · have := k.gt hx; have := hy.2; grind
      · exact hy
/-- one more piece is added: it grows together with the last one where that one ends at its beginning -/
def coll (f : List Iv) (p : Iv) : List Iv := match f.getLast? with
  | none => [p]
  | some s => if s.2 = p.1 then f.dropLast ++ [(s.1, p.2)] else f ++ [p]
theorem coll_nil (p : Iv) : coll [] p = [p] := rfl
theorem coll_snoc (f : List Iv) (s p : Iv) : coll (f ++ [s]) p = if s.2 = p.1 then f ++ [(s.1, p.2)] else f ++ [s] ++ [p] := by
  unfold coll; simp
theorem nrm_snoc {f : List Iv} {p : Iv} : Nrm (f ++ [p]) ↔ Nrm f ∧ p.1 ≤ p.2 ∧ ∀ s ∈ f, s.2 < p.1 := by
  unfold Nrm
  rw [List.pairwise_append]
  constructor
  · rintro ⟨h, h1, _, h3⟩
    exact ⟨⟨fun s hs => h s (by simp [hs]), h1⟩, h p (by simp), fun s hs => h3 s hs p (by simp)⟩
  · rintro ⟨⟨h, h1⟩, h2, h3⟩
    refine ⟨fun s hs => ?_, h1, by simp, fun s hs t ht => ?_⟩
    · rcases List.mem_append.1 hs with hs | hs
      · exact h s hs
      · obtain rfl : s = p := by simpa using hs
        exact h2
    · obtain rfl : t = p := by simpa using ht
      exact h3 s hs
theorem coll_ok {f : List Iv} {p : Iv} (h : Nrm f) (hp : p.1 ≤ p.2) (hle : ∀ s ∈ f, s.2 ≤ p.1) :
    Nrm (coll f p) ∧ (∀ x, InS x (coll f p) ↔ InS x f ∨ InV x p) ∧ ∀ s ∈ coll f p, s.2 ≤ p.2 := by
  rcases List.eq_nil_or_concat f with rfl | ⟨f, s, rfl⟩
  · rw [coll_nil]
    refine ⟨by simpa using nrm_snoc.2 ⟨Nrm.nil, hp, by simp⟩, fun x => ?_, fun s hs => ?_⟩
    · rw [inS_cons]
      exact ⟨fun h => h.elim .inr .inl, fun h => h.elim .inr .inl⟩
    · obtain rfl : s = p := by simpa using hs
      exact Rat.le_refl
  · rw [List.concat_eq_append] at *
    rw [coll_snoc]
    obtain ⟨h1, h2, h3⟩ := nrm_snoc.1 h
    have hs := hle s (by simp)
    by_cases he : s.2 = p.1
    · rw [if_pos he]
      refine ⟨nrm_snoc.2 ⟨h1, by simp only; grind, fun t ht => h3 t ht⟩, fun x => ?_, fun t ht => ?_⟩
      · rw [inS_append, inS_append, inS_cons, inS_cons]
        unfold InV
        constructor
        · rintro (h | ⟨h4, h5⟩ | h)
          · exact .inl (.inl h)
          · by_cases h6 : x ≤ s.2
            · exact .inl (.inr (.inl ⟨h4, h6⟩))
            · exact .inr ⟨by grind, h5⟩
          · exact absurd h inS_nil
        · rintro ((h | ⟨h4, h5⟩ | h) | ⟨h4, h5⟩)
          · exact .inl h
          · exact .inr (.inl ⟨h4, by simp only; grind⟩)
          · exact absurd h inS_nil
          · exact .inr (.inl ⟨by simp only; grind, h5⟩)
      · rcases List.mem_append.1 ht with ht | ht
        · have := h3 t ht; grind
        · obtain rfl : t = (s.1, p.2) := by simpa using ht
          exact Rat.le_refl
    · rw [if_neg he]
      refine ⟨nrm_snoc.2 ⟨h, hp, fun t ht => ?_⟩, fun x => ?_, fun t ht => ?_⟩
      · rcases List.mem_append.1 ht with ht | ht
        · have := h3 t ht; grind
        · obtain rfl : t = s := by simpa using ht
          grind
      · rw [inS_append, inS_cons]
        constructor
        · rintro (h | h | h)
          · exact .inl h
          · exact .inr h
          · exact absurd h inS_nil
        · rintro (h | h)
          · exact .inl h
          · exact .inr (.inl h)
      · rcases List.mem_append.1 ht with ht | ht
        · have := hle t ht; grind
        · obtain rfl : t = p := by simpa using ht
          exact Rat.le_refl
/-- all pieces, one behind the other -/
def colls (f : List Iv) (ps : List Iv) : List Iv := ps.foldl coll f
theorem colls_ok : ∀ {ps f : List Iv}, Nrm f → (∀ p ∈ ps, p.1 ≤ p.2) → ps.Pairwise (fun p q => p.2 ≤ q.1) → (∀ s ∈ f, ∀ p ∈ ps, s.2 ≤ p.1) →
    Nrm (colls f ps) ∧ ∀ x, InS x (colls f ps) ↔ InS x f ∨ InS x ps
  | [], f, h, _, _, _ => ⟨h, fun x => ⟨.inl, fun h => h.elim id fun h => absurd h inS_nil⟩⟩
  | p :: ps, f, h, h1, h2, h3 => by
    obtain ⟨a, b, c⟩ := coll_ok h (h1 p (by simp)) (fun s hs => h3 s hs p (by simp))
    obtain ⟨h4, h5⟩ := List.pairwise_cons.1 h2
    obtain ⟨d, e⟩ := colls_ok (ps := ps) a (fun q hq => h1 q (by simp [hq])) h5 (fun s hs q hq => by
      have := c s hs
      have := h4 q hq
      grind)
    refine ⟨d, fun x => ?_⟩
    show InS x (colls (coll f p) ps) ↔ _
    rw [e x, b x, inS_cons]
    exact or_assoc
/-- the pieces of ascending numbers: a number alone where c says so, the numbers between neighbours where o says so -/
def pieces (c : Rat → Bool) (o : Rat → Rat → Bool) : List Rat → List Iv
  | [] => []
  | [x] => if c x then [(x, x)] else []
  | x :: y :: l => (if c x then [(x, x)] else []) ++ ((if o x y then [(x, y)] else []) ++ pieces c o (y :: l))
/-- neighbours in a list -/
def Adj (N : List Rat) (x y : Rat) : Prop := ∃ l m, N = l ++ x :: y :: m
theorem adj_cons {N : List Rat} {a x y : Rat} (h : Adj N x y) : Adj (a :: N) x y := by
  obtain ⟨l, m, rfl⟩ := h
  exact ⟨a :: l, m, rfl⟩
theorem adj_two {a b x y : Rat} {l : List Rat} : Adj (a :: b :: l) x y ↔ (x = a ∧ y = b) ∨ Adj (b :: l) x y := by
  constructor
  · rintro ⟨l1, m, h⟩
    cases l1 with
    | nil =>
      simp only [List.nil_append, List.cons.injEq] at h
      exact .inl ⟨h.1.symm, h.2.1.symm⟩
    | cons c l1 =>
      simp only [List.cons_append, List.cons.injEq] at h
      exact .inr ⟨l1, m, h.2⟩
  · rintro (⟨rfl, rfl⟩ | h)
    · exact ⟨[], l, rfl⟩
    · exact adj_cons h
theorem adj_one {a x y : Rat} : ¬ Adj [a] x y := by
  rintro ⟨l1, m, h⟩
  have := congrArg List.length h
  simp at this
  omega
theorem mem_pieces {c : Rat → Bool} {o : Rat → Rat → Bool} : ∀ {N : List Rat} {p : Iv}, p ∈ pieces c o N ↔ (∃ x ∈ N, c x = true ∧ p = (x, x)) ∨ ∃ x y, Adj N x y ∧ o x y = true ∧ p = (x, y)
  | [], p => by
    constructor
    · intro h; simp [pieces] at h
    · rintro (⟨x, h, _⟩ | ⟨x, y, ⟨l, m, h⟩, _⟩)
      · simp at h
      · simp at h
  | [a], p => by
    unfold pieces
    constructor
    · intro h
      by_cases hc : c a = true
      · rw [if_pos hc] at h
        exact .inl ⟨a, by simp, hc, by simpa using h⟩
      · rw [if_neg hc] at h; simp at h
    · rintro (⟨x, h, h2, rfl⟩ | ⟨x, y, h, _⟩)
      · obtain rfl : x = a := by simpa using h
        rw [if_pos h2]; simp
      · exact absurd h adj_one
  | a :: b :: l, p => by
    unfold pieces
    rw [List.mem_append, List.mem_append, mem_pieces (N := b :: l)]
    constructor
    · rintro (h | h | ⟨x, h1, h2, h3⟩ | ⟨x, y, h1, h2, h3⟩)
      · by_cases hc : c a = true
        · rw [if_pos hc] at h
          exact .inl ⟨a, by simp, hc, by simpa using h⟩
        · rw [if_neg hc] at h; simp at h
      · by_cases ho : o a b = true
        · rw [if_pos ho] at h
          exact .inr ⟨a, b, adj_two.2 (.inl ⟨rfl, rfl⟩), ho, by simpa using h⟩
        · rw [if_neg ho] at h; simp at h
      · exact .inl ⟨x, List.mem_cons_of_mem _ h1, h2, h3⟩
      · exact .inr ⟨x, y, adj_cons h1, h2, h3⟩
    · rintro (⟨x, h1, h2, h3⟩ | ⟨x, y, h1, h2, h3⟩)
      · rcases List.mem_cons.1 h1 with rfl | h1
        · exact .inl (by rw [if_pos h2, h3]; simp)
        · exact .inr (.inr (.inl ⟨x, h1, h2, h3⟩))
      · rcases adj_two.1 h1 with ⟨rfl, rfl⟩ | h1
        · exact .inr (.inl (by rw [if_pos h2, h3]; simp))
        · exact .inr (.inr (.inr ⟨x, y, h1, h2, h3⟩))
def Asc (N : List Rat) : Prop := N.Pairwise (· < ·)
theorem Asc.adj {N : List Rat} (h : Asc N) {x y : Rat} (ha : Adj N x y) : x < y := by
  obtain ⟨l, m, rfl⟩ := ha
  have := (List.pairwise_append.1 h).2.1
  exact (List.pairwise_cons.1 this).1 y (by simp)
theorem adj_mem {N : List Rat} {x y : Rat} (ha : Adj N x y) : x ∈ N ∧ y ∈ N := by
  obtain ⟨l, m, rfl⟩ := ha; simp
theorem Asc.out {N : List Rat} (h : Asc N) {x y z : Rat} (ha : Adj N x y) (hz : z ∈ N) : z ≤ x ∨ y ≤ z := by
  obtain ⟨l, m, rfl⟩ := ha
  obtain ⟨_, h2, h3⟩ := List.pairwise_append.1 h
  rcases List.mem_append.1 hz with hz | hz
  · left; have := h3 z hz x (by simp); grind
  · rcases List.mem_cons.1 hz with rfl | hz
    · left; exact Rat.le_refl
    · rcases List.mem_cons.1 hz with rfl | hz
      · right; exact Rat.le_refl
      · right; have := (List.pairwise_cons.1 (List.pairwise_cons.1 h2).2).1 z hz; grind
theorem pieces_ok {c : Rat → Bool} {o : Rat → Rat → Bool} : ∀ {N : List Rat}, Asc N → (∀ p ∈ pieces c o N, p.1 ≤ p.2) ∧ (pieces c o N).Pairwise (fun p q => p.2 ≤ q.1) ∧ ∀ a ∈ N.head?, ∀ p ∈ pieces c o N, a ≤ p.1
  | [], _ => by simp [pieces]
  | [a], _ => by
    unfold pieces
    by_cases hc : c a = true
    · rw [if_pos hc]; simp
    · rw [if_neg hc]; simp
  | a :: b :: l, h => by
    obtain ⟨h1, h2, h3⟩ := pieces_ok (c := c) (o := o) (N := b :: l) (List.pairwise_cons.1 h).2
    have hab : a < b := (List.pairwise_cons.1 h).1 b (by simp)
    have h4 := h3 b (by simp)
    unfold pieces
    have ho : ∀ p ∈ (if o a b = true then [(a, b)] else []), p = (a, b) := fun p hp => by
      by_cases h : o a b = true
      · rw [if_pos h] at hp; simpa using hp
      · rw [if_neg h] at hp; simp at hp
    have hc : ∀ p ∈ (if c a = true then [(a, a)] else []), p = (a, a) := fun p hp => by
      by_cases h : c a = true
      · rw [if_pos h] at hp; simpa using hp
      · rw [if_neg h] at hp; simp at hp
    have po : (if o a b = true then [(a, b)] else [] : List Iv).Pairwise (fun p q => p.2 ≤ q.1) := by split <;> simp
    have pc : (if c a = true then [(a, a)] else [] : List Iv).Pairwise (fun p q => p.2 ≤ q.1) := by split <;> simp
    refine ⟨fun p hp => ?_, ?_, fun a' ha' p hp => ?_⟩
    · rcases List.mem_append.1 hp with hp | hp
      · rw [hc p hp]; exact Rat.le_refl
      · rcases List.mem_append.1 hp with hp | hp
        · rw [ho p hp]; simp only; grind
        · exact h1 p hp
    · refine List.pairwise_append.2 ⟨pc, List.pairwise_append.2 ⟨po, h2, fun p hp q hq => ?_⟩, fun p hp q hq => ?_⟩
      · rw [ho p hp]; exact h4 q hq
      · rw [hc p hp]
        rcases List.mem_append.1 hq with hq | hq
        · rw [ho q hq]; exact Rat.le_refl
        · have := h4 q hq; simp only; grind
    · obtain rfl : a' = a := by simpa using ha'.symm
      rcases List.mem_append.1 hp with hp | hp
      · rw [hc p hp]; exact Rat.le_refl
      · rcases List.mem_append.1 hp with hp | hp
        · rw [ho p hp]; exact Rat.le_refl
        · have := h4 p hp; grind
/-- what a sweep along ascending numbers finds is normal, and has the numbers of its pieces -/
theorem sweep_ok {c : Rat → Bool} {o : Rat → Rat → Bool} {N : List Rat} (h : Asc N) :
    Nrm (colls [] (pieces c o N)) ∧ ∀ z, InS z (colls [] (pieces c o N)) ↔ (z ∈ N ∧ c z = true) ∨ ∃ x y, Adj N x y ∧ o x y = true ∧ x ≤ z ∧ z ≤ y := by
  obtain ⟨h1, h2, _⟩ := pieces_ok (c := c) (o := o) h
  obtain ⟨a, b⟩ := colls_ok Nrm.nil h1 h2 (fun s hs => by simp at hs)
  refine ⟨a, fun z => ?_⟩
  rw [b z]
  constructor
  · rintro (h | ⟨p, hp, h3, h4⟩)
    · exact absurd h inS_nil
    · rcases mem_pieces.1 hp with ⟨x, h5, h6, rfl⟩ | ⟨x, y, h5, h6, rfl⟩
      · left
        obtain rfl : x = z := by simp only at h3 h4; grind
        exact ⟨h5, h6⟩
      · exact .inr ⟨x, y, h5, h6, h3, h4⟩
  · rintro (⟨h3, h4⟩ | ⟨x, y, h3, h4, h5, h6⟩)
    · exact .inr ⟨(z, z), mem_pieces.2 (.inl ⟨z, h3, h4, rfl⟩), Rat.le_refl, Rat.le_refl⟩
    · exact .inr ⟨(x, y), mem_pieces.2 (.inr ⟨x, y, h3, h4, rfl⟩), h5, h6⟩
/-- between two numbers of the list: one of the list, or between neighbours -/
theorem locate : ∀ {N : List Rat} {z : Rat}, Asc N → (∃ a ∈ N, a ≤ z) → (∃ b ∈ N, z ≤ b) → z ∈ N ∨ ∃ x y, Adj N x y ∧ x < z ∧ z < y
  | [], _, _, ⟨a, h, _⟩, _ => by simp at h
  | [a], z, _, ⟨x, h1, h2⟩, ⟨y, h3, h4⟩ => by
    obtain rfl : x = a := by simpa using h1
    obtain rfl : y = x := by simpa using h3
    left
    obtain rfl : z = y := by grind
    simp
  | a :: b :: l, z, h, ⟨x, h1, h2⟩, ⟨y, h3, h4⟩ => by
    have ha : a ≤ x := by
      rcases List.mem_cons.1 h1 with rfl | h1
      · exact Rat.le_refl
      · have := (List.pairwise_cons.1 h).1 x h1; grind
    by_cases e : z = a
    · left; simp [e]
    · by_cases hb : z < b
      · exact .inr ⟨a, b, adj_two.2 (.inl ⟨rfl, rfl⟩), by grind, hb⟩
      · have hy : y ∈ b :: l := by
          rcases List.mem_cons.1 h3 with rfl | h3
          · exfalso; grind
          · exact h3
        rcases locate (N := b :: l) (List.pairwise_cons.1 h).2 ⟨b, by simp, by grind⟩ ⟨y, hy, h4⟩ with h5 | ⟨u, v, h5, h6⟩
        · left; exact List.mem_cons_of_mem _ h5
        · exact .inr ⟨u, v, adj_cons h5, h6⟩
/-- a span of a set has all numbers between two neighbours -/
def hasO (S : List Iv) (x y : Rat) : Prop := ∃ s ∈ S, s.1 ≤ x ∧ y ≤ s.2
def EndsIn (S : List Iv) (N : List Rat) : Prop := ∀ s ∈ S, s.1 ∈ N ∧ s.2 ∈ N
theorem hasO_iff {S : List Iv} {N : List Rat} (hN : Asc N) (hS : EndsIn S N) {x y z : Rat} (ha : Adj N x y) (h1 : x < z) (h2 : z < y) : InS z S ↔ hasO S x y := by
  constructor
  · rintro ⟨s, hs, h3, h4⟩
    refine ⟨s, hs, ?_, ?_⟩
    · rcases hN.out ha (hS s hs).1 with h | h
      · exact h
      · grind
    · rcases hN.out ha (hS s hs).2 with h | h
      · grind
      · exact h
  · rintro ⟨s, hs, h3, h4⟩
    exact ⟨s, hs, by grind, by grind⟩
theorem hasO_in {S : List Iv} {x y z : Rat} (h : hasO S x y) (h1 : x ≤ z) (h2 : z ≤ y) : InS z S := by
  obtain ⟨s, hs, h3, h4⟩ := h
  exact ⟨s, hs, by grind, by grind⟩
/-- the sweep for 'in A or in B', for 'in A and in B' -/
theorem sweep_or {c : Rat → Bool} {o : Rat → Rat → Bool} {N : List Rat} {A B : List Iv} (h : Asc N) (hA : EndsIn A N) (hB : EndsIn B N)
    (hc : ∀ x, c x = true ↔ InS x A ∨ InS x B) (ho : ∀ x y, Adj N x y → (o x y = true ↔ hasO A x y ∨ hasO B x y)) (z : Rat) : InS z (colls [] (pieces c o N)) ↔ InS z A ∨ InS z B := by
  rw [(sweep_ok h).2 z]
  constructor
  · rintro (⟨_, h2⟩ | ⟨x, y, h1, h2, h3, h4⟩)
    · exact (hc z).1 h2
    · rcases (ho x y h1).1 h2 with h5 | h5
      · exact .inl (hasO_in h5 h3 h4)
      · exact .inr (hasO_in h5 h3 h4)
  · intro hz
    have h1 : (∃ a ∈ N, a ≤ z) ∧ ∃ b ∈ N, z ≤ b := by
      rcases hz with ⟨s, hs, h3, h4⟩ | ⟨s, hs, h3, h4⟩
      · exact ⟨⟨s.1, (hA s hs).1, h3⟩, ⟨s.2, (hA s hs).2, h4⟩⟩
      · exact ⟨⟨s.1, (hB s hs).1, h3⟩, ⟨s.2, (hB s hs).2, h4⟩⟩
    rcases locate h h1.1 h1.2 with h2 | ⟨x, y, h2, h3, h4⟩
    · exact .inl ⟨h2, (hc z).2 hz⟩
    · refine .inr ⟨x, y, h2, (ho x y h2).2 ?_, by grind, by grind⟩
      rw [← hasO_iff h hA h2 h3 h4, ← hasO_iff h hB h2 h3 h4]
      exact hz
theorem sweep_and {c : Rat → Bool} {o : Rat → Rat → Bool} {N : List Rat} {A B : List Iv} (h : Asc N) (hA : EndsIn A N) (hB : EndsIn B N)
    (hc : ∀ x, c x = true ↔ InS x A ∧ InS x B) (ho : ∀ x y, Adj N x y → (o x y = true ↔ hasO A x y ∧ hasO B x y)) (z : Rat) : InS z (colls [] (pieces c o N)) ↔ InS z A ∧ InS z B := by
  rw [(sweep_ok h).2 z]
  constructor
  · rintro (⟨_, h2⟩ | ⟨x, y, h1, h2, h3, h4⟩)
    · exact (hc z).1 h2
    · obtain ⟨h5, h6⟩ := (ho x y h1).1 h2
      exact ⟨hasO_in h5 h3 h4, hasO_in h6 h3 h4⟩
  · rintro ⟨hz, hz2⟩
    have h1 : (∃ a ∈ N, a ≤ z) ∧ ∃ b ∈ N, z ≤ b := by
      obtain ⟨s, hs, h3, h4⟩ := hz
      exact ⟨⟨s.1, (hA s hs).1, h3⟩, ⟨s.2, (hA s hs).2, h4⟩⟩
    rcases locate h h1.1 h1.2 with h2 | ⟨x, y, h2, h3, h4⟩
    · exact .inl ⟨h2, (hc z).2 ⟨hz, hz2⟩⟩
    · refine .inr ⟨x, y, h2, (ho x y h2).2 ?_, by grind, by grind⟩
      rw [← hasO_iff h hA h2 h3 h4, ← hasO_iff h hB h2 h3 h4]
      exact ⟨hz, hz2⟩
/-- an end of a span: its number, whether it is of the second set, whether the span begins there -/
structure En where
  num : Rat
  sec : Bool
  beg : Bool
def ends (S : List Iv) (j : Bool) : List En := S.flatMap fun s => [⟨s.1, j, true⟩, ⟨s.2, j, false⟩]
/-- spans of set j that have begun and not ended among ends -/
def bal (j : Bool) (l : List En) : Int := (l.countP (fun e => e.sec == j && e.beg) : Int) - (l.countP (fun e => e.sec == j && !e.beg) : Int)
theorem bal_append (j : Bool) (l m : List En) : bal j (l ++ m) = bal j l + bal j m := by
  unfold bal; rw [List.countP_append, List.countP_append]; omega
theorem bal_perm {j : Bool} {l m : List En} (h : l.Perm m) : bal j l = bal j m := by
  unfold bal; rw [h.countP_eq, h.countP_eq]
theorem bal_one (j : Bool) (e : En) : bal j [e] = if e.sec = j then (if e.beg = true then 1 else -1) else 0 := by
  unfold bal
  obtain ⟨x, s, b⟩ := e
  cases s <;> cases j <;> cases b <;> rfl
theorem bal_beg (j : Bool) (x : Rat) : bal j [⟨x, j, true⟩] = 1 := by cases j <;> rfl
theorem bal_end (j : Bool) (x : Rat) : bal j [⟨x, j, false⟩] = -1 := by cases j <;> rfl
theorem bal_other {j k : Bool} (h : j ≠ k) : ∀ (l : List En), (∀ e ∈ l, e.sec = k) → bal j l = 0
  | [], _ => rfl
  | e :: l, hl => by
    rw [show e :: l = [e] ++ l from rfl, bal_append, bal_one, bal_other h l fun x hx => hl x (by simp [hx]), if_neg (fun e1 => h (e1.symm.trans (hl e (by simp))))]; rfl
/-- the ends up to y, those at y where spans begin among them; all ends up to y -/
def upC (y : Rat) (e : En) : Bool := decide (e.num < y) || (decide (e.num = y) && e.beg)
def upO (y : Rat) (e : En) : Bool := decide (e.num ≤ y)
theorem ends_sec (S : List Iv) (j : Bool) : ∀ e ∈ ends S j, e.sec = j := fun e he => by
  unfold ends at he
  obtain ⟨s, _, h⟩ := List.mem_flatMap.1 he
  rcases List.mem_cons.1 h with rfl | h
  · rfl
  · obtain rfl : e = ⟨s.2, j, false⟩ := by simpa using h
    rfl
theorem ends_cons (s : Iv) (S : List Iv) (j : Bool) : ends (s :: S) j = [⟨s.1, j, true⟩] ++ ([⟨s.2, j, false⟩] ++ ends S j) := rfl
theorem bal_filter_one (j : Bool) (P : En → Bool) (e : En) : bal j ([e].filter P) = if P e = true then bal j [e] else 0 := by
  by_cases h : P e = true
  · rw [if_pos h, List.filter_cons_of_pos h]; rfl
  · rw [if_neg h, List.filter_cons_of_neg h]; rfl
theorem balC (y : Rat) (j : Bool) : ∀ (S : List Iv), (∀ s ∈ S, s.1 ≤ s.2) → bal j ((ends S j).filter (upC y)) = (S.countP (fun s => decide (s.1 ≤ y) && decide (y ≤ s.2)) : Int)
  | [], _ => rfl
  | s :: S, h => by
    have ih := balC y j S fun t ht => h t (by simp [ht])
    have hs := h s (by simp)
    rw [ends_cons, List.filter_append, List.filter_append, bal_append, bal_append, ih, List.countP_cons, bal_filter_one, bal_filter_one, bal_beg, bal_end]
    have e1 : upC y ⟨s.1, j, true⟩ = decide (s.1 ≤ y) := by
      unfold upC
      rw [Bool.eq_iff_iff]
      simp only [Bool.or_eq_true, decide_eq_true_eq, Bool.and_true]
      constructor
      · intro h; grind
      · intro h; grind
    have e2 : upC y ⟨s.2, j, false⟩ = decide (s.2 < y) := by
      unfold upC; simp
    rw [e1, e2]
    by_cases a : s.1 ≤ y
    · by_cases b : s.2 < y
      · have c : ¬ y ≤ s.2 := by grind
        simp [a, b, c]
        omega
      · have c : y ≤ s.2 := by grind
        simp [a, b, c]
        omega
    · have b : ¬ s.2 < y := by grind
      simp [a, b]
theorem balO (y : Rat) (j : Bool) : ∀ (S : List Iv), (∀ s ∈ S, s.1 ≤ s.2) → bal j ((ends S j).filter (upO y)) = (S.countP (fun s => decide (s.1 ≤ y) && decide (y < s.2)) : Int)
  | [], _ => rfl
  | s :: S, h => by
    have ih := balO y j S fun t ht => h t (by simp [ht])
    have hs := h s (by simp)
    rw [ends_cons, List.filter_append, List.filter_append, bal_append, bal_append, ih, List.countP_cons, bal_filter_one, bal_filter_one, bal_beg, bal_end]
    have e1 : upO y ⟨s.1, j, true⟩ = decide (s.1 ≤ y) := rfl
    have e2 : upO y ⟨s.2, j, false⟩ = decide (s.2 ≤ y) := rfl
    rw [e1, e2]
    by_cases a : s.1 ≤ y
    · by_cases b : s.2 ≤ y
      · have c : ¬ y < s.2 := by grind
        simp [a, b, c]
        omega
      · have c : y < s.2 := by grind
        simp [a, b, c]
        omega
    · have b : ¬ s.2 ≤ y := by grind
      simp [a, b]
/-- what the counts of a sweep say, for ends in any order -/
theorem bal_two {A B : List Iv} {D : List En} (hD : D.Perm (ends A false ++ ends B true)) (P : En → Bool) (j : Bool) :
    bal j (D.filter P) = bal j ((ends (if j = true then B else A) j).filter P) := by
  rw [bal_perm (hD.filter P), List.filter_append, bal_append]
  cases j with
  | false => rw [bal_other (show (false : Bool) ≠ true by decide) _ (fun e he => ends_sec B true e (List.mem_filter.1 he).1)]; simp
  | true => rw [bal_other (show (true : Bool) ≠ false by decide) _ (fun e he => ends_sec A false e (List.mem_filter.1 he).1)]; simp
theorem balC_iff {A B : List Iv} {D : List En} (hD : D.Perm (ends A false ++ ends B true)) (hA : ∀ s ∈ A, s.1 ≤ s.2) (hB : ∀ s ∈ B, s.1 ≤ s.2) (j : Bool) (y : Rat) :
    0 < bal j (D.filter (upC y)) ↔ InS y (if j = true then B else A) := by
  rw [bal_two hD, balC y j _ (by cases j <;> assumption)]
  have e : (0 : Int) < (((if j = true then B else A).countP (fun s => decide (s.1 ≤ y) && decide (y ≤ s.2)) : Nat) : Int) ↔ 0 < (if j = true then B else A).countP (fun s => decide (s.1 ≤ y) && decide (y ≤ s.2)) := by omega
  rw [e, List.countP_pos_iff]
  constructor
  · rintro ⟨s, h1, h2⟩
    rw [Bool.and_eq_true, decide_eq_true_eq, decide_eq_true_eq] at h2
    exact ⟨s, h1, h2⟩
  · rintro ⟨s, h1, h2⟩
    exact ⟨s, h1, by rw [Bool.and_eq_true, decide_eq_true_eq, decide_eq_true_eq]; exact h2⟩
theorem balO_iff {A B : List Iv} {D : List En} (hD : D.Perm (ends A false ++ ends B true)) (hA : ∀ s ∈ A, s.1 ≤ s.2) (hB : ∀ s ∈ B, s.1 ≤ s.2) (j : Bool) {N : List Rat} (hN : Asc N) (hE : EndsIn (if j = true then B else A) N) {x y : Rat} (ha : Adj N x y) :
    0 < bal j (D.filter (upO x)) ↔ hasO (if j = true then B else A) x y := by
  rw [bal_two hD, balO x j _ (by cases j <;> assumption)]
  have e : (0 : Int) < (((if j = true then B else A).countP (fun s => decide (s.1 ≤ x) && decide (x < s.2)) : Nat) : Int) ↔ 0 < (if j = true then B else A).countP (fun s => decide (s.1 ≤ x) && decide (x < s.2)) := by omega
  rw [e, List.countP_pos_iff]
  constructor
  · rintro ⟨s, h1, h2⟩
    rw [Bool.and_eq_true, decide_eq_true_eq, decide_eq_true_eq] at h2
    refine ⟨s, h1, h2.1, ?_⟩
    rcases hN.out ha (hE s h1).2 with h | h
    · have := h2.2; grind
    · exact h
  · rintro ⟨s, h1, h2, h3⟩
    have := hN.adj ha
    exact ⟨s, h1, by rw [Bool.and_eq_true, decide_eq_true_eq, decide_eq_true_eq]; exact ⟨h2, by grind⟩⟩
theorem pieces_snoc (c : Rat → Bool) (o : Rat → Rat → Bool) (x : Rat) : ∀ (N : List Rat), pieces c o (N ++ [x]) = pieces c o N ++ ((match N.getLast? with | none => [] | some w => if o w x then [(w, x)] else []) ++ if c x then [(x, x)] else [])
  | [] => by simp [pieces]
  | [a] => by simp [pieces]
  | a :: b :: l => by
    have ih := pieces_snoc c o x (b :: l)
    show (if c a then [(a, a)] else []) ++ ((if o a b then [(a, b)] else []) ++ pieces c o (b :: l ++ [x])) = _
    rw [ih]
    rw [show (a :: b :: l).getLast? = (b :: l).getLast? by simp [List.getLast?_cons]]
    show _ = ((if c a then [(a, a)] else []) ++ ((if o a b then [(a, b)] else []) ++ pieces c o (b :: l))) ++ _
    simp only [List.append_assoc]
/-- the order of the sorted ends: by their numbers, those where spans begin before others -/
def leE (x y : En) : Prop := x.num < y.num ∨ (x.num = y.num ∧ (x.beg = true ∨ y.beg = false))
theorem leE_num {x y : En} (h : leE x y) : x.num ≤ y.num := by
  rcases h with h | ⟨h, _⟩ <;> grind
/-- D is what is done, and l, all of it behind -/
def Beh (d l : List En) : Prop := ∀ x ∈ d, ∀ y ∈ l, x.num < y.num
theorem filter_split {P : En → Bool} {a b : List En} (ha : ∀ x ∈ a, P x = true) (hb : ∀ x ∈ b, P x = false) : (a ++ b).filter P = a := by
  rw [List.filter_append, List.filter_eq_self.2 ha, List.filter_eq_nil_iff.2 (fun x hx => by rw [hb x hx]; simp), List.append_nil]
theorem step_beg {D d b l : List En} {y : Rat} (hD : D = d ++ (b ++ l)) (hs : D.Pairwise leE) (hd : ∀ x ∈ d, x.num < y) (hb : ∀ x ∈ b, x.num = y ∧ x.beg = true) (hy : ∀ x ∈ l, y ≤ x.num)
    (hl : ∀ e ∈ l.head?, ¬ (e.num = y ∧ e.beg = true)) : D.filter (upC y) = d ++ b ∧ ∀ x ∈ l, x.num = y → x.beg = false := by
  have hsl : l.Pairwise leE := by
    rw [hD] at hs
    exact (List.pairwise_append.1 (List.pairwise_append.1 hs).2.1).2.1
  have key : ∀ x ∈ l, x.num = y → x.beg = false := fun x hx he => by
    cases l with
    | nil => simp at hx
    | cons h l =>
      have h1 := hl h (by simp)
      rcases List.mem_cons.1 hx with rfl | hx
      · cases hq : x.beg with
        | false => rfl
        | true => exact absurd ⟨he, hq⟩ h1
      · have h2 := (List.pairwise_cons.1 hsl).1 x hx
        have h3 := hy h (by simp)
        rcases h2 with h2 | ⟨h2, h4⟩
        · grind
        · rcases h4 with h4 | h4
          · exact absurd ⟨h2.trans he, h4⟩ h1
          · exact h4
  refine ⟨?_, key⟩
  rw [hD, ← List.append_assoc]
  refine filter_split (fun x hx => ?_) (fun x hx => ?_)
  · unfold upC
    rcases List.mem_append.1 hx with hx | hx
    · simp [hd x hx]
    · simp [hb x hx]
  · unfold upC
    have h1 := hy x hx
    have h2 : ¬ x.num < y := by grind
    by_cases h3 : x.num = y
    · simp [h2, key x hx h3]
    · simp [h2, h3]
theorem step_end {D d b ee l : List En} {y : Rat} (hD : D = d ++ (b ++ (ee ++ l))) (hs : D.Pairwise leE) (hd : ∀ x ∈ d, x.num < y) (hb : ∀ x ∈ b, x.num = y ∧ x.beg = true) (he : ∀ x ∈ ee, x.num = y ∧ x.beg = false) (hy : ∀ x ∈ l, y ≤ x.num)
    (hk : ∀ x ∈ l, x.num = y → x.beg = false) (hl : ∀ e ∈ l.head?, ¬ (e.num = y ∧ e.beg = false)) : D.filter (upO y) = d ++ (b ++ ee) ∧ ∀ x ∈ l, y < x.num := by
  have hsl : l.Pairwise leE := by
    rw [hD] at hs
    exact (List.pairwise_append.1 (List.pairwise_append.1 (List.pairwise_append.1 hs).2.1).2.1).2.1
  have key : ∀ x ∈ l, y < x.num := fun x hx => by
    cases l with
    | nil => simp at hx
    | cons h l =>
      have h1 := hl h (by simp)
      have h3 := hy h (by simp)
      have h4 : y < h.num := by
        by_cases h5 : h.num = y
        · exact absurd ⟨h5, hk h (by simp) h5⟩ h1
        · grind
      rcases List.mem_cons.1 hx with rfl | hx
      · exact h4
      · have := leE_num ((List.pairwise_cons.1 hsl).1 x hx)
        grind
  refine ⟨?_, key⟩
  rw [hD, ← List.append_assoc, ← List.append_assoc, List.append_assoc d b ee]
  refine filter_split (fun x hx => ?_) (fun x hx => ?_)
  · unfold upO
    rcases List.mem_append.1 hx with hx | hx
    · have := hd x hx
      simp; grind
    · rcases List.mem_append.1 hx with hx | hx
      · simp [(hb x hx).1]
      · simp [(he x hx).1]
  · unfold upO
    have := key x hx
    simp; grind
def swC (bel : Bool → Bool → Bool) (D : List En) (x : Rat) : Bool := bel (decide (0 < bal false (D.filter (upC x)))) (decide (0 < bal true (D.filter (upC x))))
def swO (bel : Bool → Bool → Bool) (D : List En) (x _y : Rat) : Bool := bel (decide (0 < bal false (D.filter (upO x)))) (decide (0 < bal true (D.filter (upO x))))
/-- what joins the last number that is done to the next one -/
def link (o : Rat → Rat → Bool) (N : List Rat) (l : List En) : List Iv := match N.getLast?, l.head? with
  | some w, some e => if o w e.num then [(w, e.num)] else []
  | _, _ => []
/-- the sweep at its loop's head -/
structure AlI (bel : Bool → Bool → Bool) (D d l : List En) (N : List Rat) (f : List Iv) : Prop where
  cat : D = d ++ l
  beh : Beh d l
  asc : Asc N
  mem : ∀ x, x ∈ N ↔ ∃ e ∈ d, e.num = x
  fnd : f = colls [] (pieces (swC bel D) (swO bel D) N ++ link (swO bel D) N l)
theorem AlI.start (bel : Bool → Bool → Bool) (D : List En) : AlI bel D [] D [] [] :=
  ⟨rfl, fun _ h => by simp at h, .nil, fun x => by simp, rfl⟩
theorem colls_append (f : List Iv) (a b : List Iv) : colls f (a ++ b) = colls (colls f a) b := by unfold colls; rw [List.foldl_append]
/-- the piece from a number to the next end's, if there is one -/
def nextF (t : Bool) (y : Rat) (f : List Iv) : List En → List Iv
  | [] => f
  | e :: _ => if t then coll f (y, e.num) else f
theorem AlI.step {bel : Bool → Bool → Bool} {D d b ee l : List En} {N : List Rat} {f : List Iv} {y : Rat} (h : AlI bel D d (b ++ (ee ++ l)) N f) (hs : D.Pairwise leE) (hne : (b ++ (ee ++ l)).head?.map En.num = some y)
    (hb : ∀ x ∈ b, x.num = y ∧ x.beg = true) (he : ∀ x ∈ ee, x.num = y ∧ x.beg = false) (h1 : ∀ e ∈ (ee ++ l).head?, ¬ (e.num = y ∧ e.beg = true)) (h2 : ∀ e ∈ l.head?, ¬ (e.num = y ∧ e.beg = false)) :
    AlI bel D (d ++ (b ++ ee)) l (N ++ [y]) (nextF (bel (decide (0 < bal false (d ++ (b ++ ee)))) (decide (0 < bal true (d ++ (b ++ ee))))) y (if bel (decide (0 < bal false (d ++ b))) (decide (0 < bal true (d ++ b))) then coll f (y, y) else f) l) := by
  obtain ⟨hc, hbe, ha, hm, hf⟩ := h
  have hsl : (b ++ (ee ++ l)).Pairwise leE := by rw [hc] at hs; exact (List.pairwise_append.1 hs).2.1
  have hhead : ∃ z, (b ++ (ee ++ l)).head? = some z ∧ z.num = y := by
    cases hz : (b ++ (ee ++ l)).head? with
    | none => rw [hz] at hne; simp at hne
    | some z => rw [hz] at hne; exact ⟨z, rfl, by simpa using hne⟩
  obtain ⟨z, hz, hzy⟩ := hhead
  obtain ⟨t, ht⟩ : ∃ t, b ++ (ee ++ l) = z :: t := by
    cases hq : b ++ (ee ++ l) with
    | nil => rw [hq] at hz; simp at hz
    | cons w t => rw [hq] at hz; exact ⟨t, by simpa using hz⟩
  have hall : ∀ x ∈ b ++ (ee ++ l), y ≤ x.num := fun x hx => by
    rw [ht] at hx hsl
    rcases List.mem_cons.1 hx with rfl | hx
    · grind
    · have := leE_num ((List.pairwise_cons.1 hsl).1 x hx)
      grind
  have hd : ∀ x ∈ d, x.num < y := fun x hx => by
    have := hbe x hx z (by rw [ht]; simp)
    grind
  obtain ⟨s1, s2⟩ := step_beg hc hs hd hb (fun x hx => hall x (List.mem_append_right _ hx)) h1
  obtain ⟨s3, s4⟩ := step_end hc hs hd hb he (fun x hx => hall x (by simp [hx])) (fun x hx => s2 x (List.mem_append_right _ hx)) h2
  have hN : ∀ x ∈ N, x < y := fun x hx => by
    obtain ⟨e, h3, h4⟩ := (hm x).1 hx
    have := hd e h3
    grind
  refine ⟨by rw [hc]; simp, fun x hx w hw => ?_, ?_, fun x => ?_, ?_⟩
  · have h3 := s4 w hw
    rcases List.mem_append.1 hx with hx | hx
    · have := hd x hx; grind
    · rcases List.mem_append.1 hx with hx | hx
      · rw [(hb x hx).1]; exact h3
      · rw [(he x hx).1]; exact h3
  · exact List.pairwise_append.2 ⟨ha, by simp, fun x hx w hw => by
      obtain rfl : w = y := by simpa using hw
      exact hN x hx⟩
  · constructor
    · intro hx
      rcases List.mem_append.1 hx with hx | hx
      · obtain ⟨e, h3, h4⟩ := (hm x).1 hx
        exact ⟨e, by simp [h3], h4⟩
      · obtain rfl : x = y := by simpa using hx
        have hzb : z ∈ b ++ ee := by
          have hz1 : z ∈ b ++ (ee ++ l) := by rw [ht]; simp
          rcases List.mem_append.1 hz1 with h3 | h3
          · exact List.mem_append_left _ h3
          · rcases List.mem_append.1 h3 with h3 | h3
            · exact List.mem_append_right _ h3
            · have := s4 z h3; exfalso; grind
        exact ⟨z, List.mem_append_right _ hzb, hzy⟩
    · rintro ⟨e, h3, rfl⟩
      rcases List.mem_append.1 h3 with h3 | h3
      · exact List.mem_append_left _ ((hm _).2 ⟨e, h3, rfl⟩)
      · refine List.mem_append_right _ ?_
        rcases List.mem_append.1 h3 with h3 | h3
        · simp [(hb e h3).1]
        · simp [(he e h3).1]
  · have hcy : swC bel D y = bel (decide (0 < bal false (d ++ b))) (decide (0 < bal true (d ++ b))) := by unfold swC; rw [s1]
    have hoy : ∀ w, swO bel D y w = bel (decide (0 < bal false (d ++ (b ++ ee)))) (decide (0 < bal true (d ++ (b ++ ee)))) := fun w => by unfold swO; rw [s3]
    have hlk : link (swO bel D) N (b ++ (ee ++ l)) = match N.getLast? with | none => [] | some w => if swO bel D w y then [(w, y)] else [] := by
      unfold link
      rw [hz]
      cases N.getLast? with
      | none => rfl
      | some w => simp only [hzy]
    have eq : ∀ P L C K : List Iv, colls [] (P ++ (L ++ C) ++ K) = colls (colls (colls [] (P ++ L)) C) K := fun P L C K => by rw [colls_append, ← List.append_assoc, colls_append]
    rw [← hcy, pieces_snoc, ← hlk, eq, ← hf]
    have hlast : link (swO bel D) (N ++ [y]) l = match l with | [] => [] | e :: _ => if swO bel D y e.num then [(y, e.num)] else [] := by
      unfold link
      rw [List.getLast?_append]
      cases l with
      | nil => rfl
      | cons e l => rfl
    rw [hlast]
    have e1 : colls f (if swC bel D y = true then [(y, y)] else []) = if swC bel D y = true then coll f (y, y) else f := by
      split <;> rfl
    rw [e1]
    cases l with
    | nil => rfl
    | cons e l =>
      unfold nextF
      simp only
      rw [hoy e.num]
      split <;> rfl
theorem AlI.done {bel : Bool → Bool → Bool} {D d : List En} {N : List Rat} {f : List Iv} (h : AlI bel D d [] N f) : d = D ∧ Asc N ∧ (∀ x, x ∈ N ↔ ∃ e ∈ D, e.num = x) ∧ f = colls [] (pieces (swC bel D) (swO bel D) N) := by
  obtain ⟨hc, _, ha, hm, hf⟩ := h
  rw [List.append_nil] at hc
  subst hc
  refine ⟨rfl, ha, hm, ?_⟩
  rw [hf]
  have : link (swO bel D) N [] = [] := by unfold link; cases N.getLast? <;> rfl
  rw [this, List.append_nil]
theorem ends_mem {S : List Iv} {j : Bool} {s : Iv} (h : s ∈ S) : (⟨s.1, j, true⟩ : En) ∈ ends S j ∧ (⟨s.2, j, false⟩ : En) ∈ ends S j := by
  unfold ends
  exact ⟨List.mem_flatMap.2 ⟨s, h, by simp⟩, List.mem_flatMap.2 ⟨s, h, by simp⟩⟩
theorem endsIn_of {A B : List Iv} {D : List En} {N : List Rat} (hD : D.Perm (ends A false ++ ends B true)) (hm : ∀ x, x ∈ N ↔ ∃ e ∈ D, e.num = x) : EndsIn A N ∧ EndsIn B N := by
  refine ⟨fun s hs => ⟨?_, ?_⟩, fun s hs => ⟨?_, ?_⟩⟩
  · exact (hm _).2 ⟨_, hD.mem_iff.2 (List.mem_append_left _ (ends_mem hs).1), rfl⟩
  · exact (hm _).2 ⟨_, hD.mem_iff.2 (List.mem_append_left _ (ends_mem hs).2), rfl⟩
  · exact (hm _).2 ⟨_, hD.mem_iff.2 (List.mem_append_right _ (ends_mem hs).1), rfl⟩
  · exact (hm _).2 ⟨_, hD.mem_iff.2 (List.mem_append_right _ (ends_mem hs).2), rfl⟩
/-- the sweep at its end: for 'in A or in B', for 'in A and in B', for 'in A alone' -/
theorem AlI.or {A B : List Iv} {D d : List En} {N : List Rat} {f : List Iv} (h : AlI (fun a b => a || b) D d [] N f) (hD : D.Perm (ends A false ++ ends B true)) (hA : ∀ s ∈ A, s.1 ≤ s.2) (hB : ∀ s ∈ B, s.1 ≤ s.2) :
    Nrm f ∧ ∀ z, InS z f ↔ InS z A ∨ InS z B := by
  obtain ⟨_, ha, hm, rfl⟩ := h.done
  obtain ⟨eA, eB⟩ := endsIn_of hD hm
  refine ⟨(sweep_ok ha).1, sweep_or ha eA eB (fun x => ?_) (fun x y hxy => ?_)⟩
  · unfold swC
    rw [Bool.or_eq_true, decide_eq_true_eq, decide_eq_true_eq, balC_iff hD hA hB false x, balC_iff hD hA hB true x]; rfl
  · unfold swO
    rw [Bool.or_eq_true, decide_eq_true_eq, decide_eq_true_eq, balO_iff hD hA hB false ha eA hxy, balO_iff hD hA hB true ha eB hxy]; rfl
theorem AlI.and {A B : List Iv} {D d : List En} {N : List Rat} {f : List Iv} (h : AlI (fun a b => a && b) D d [] N f) (hD : D.Perm (ends A false ++ ends B true)) (hA : ∀ s ∈ A, s.1 ≤ s.2) (hB : ∀ s ∈ B, s.1 ≤ s.2) :
    Nrm f ∧ ∀ z, InS z f ↔ InS z A ∧ InS z B := by
  obtain ⟨_, ha, hm, rfl⟩ := h.done
  obtain ⟨eA, eB⟩ := endsIn_of hD hm
  refine ⟨(sweep_ok ha).1, sweep_and ha eA eB (fun x => ?_) (fun x y hxy => ?_)⟩
  · unfold swC
    rw [Bool.and_eq_true, decide_eq_true_eq, decide_eq_true_eq, balC_iff hD hA hB false x, balC_iff hD hA hB true x]; rfl
  · unfold swO
    rw [Bool.and_eq_true, decide_eq_true_eq, decide_eq_true_eq, balO_iff hD hA hB false ha eA hxy, balO_iff hD hA hB true ha eB hxy]; rfl
theorem AlI.fst {A : List Iv} {D d : List En} {N : List Rat} {f : List Iv} (h : AlI (fun a _ => a) D d [] N f) (hD : D.Perm (ends A false ++ ends [] true)) (hA : ∀ s ∈ A, s.1 ≤ s.2) :
    Nrm f ∧ ∀ z, InS z f ↔ InS z A := by
  have hB : ∀ s ∈ ([] : List Iv), s.1 ≤ s.2 := fun s h => by simp at h
  obtain ⟨_, ha, hm, rfl⟩ := h.done
  obtain ⟨eA, eB⟩ := endsIn_of hD hm
  have := sweep_or (c := swC (fun a _ => a) D) (o := swO (fun a _ => a) D) (B := []) ha eA eB (fun x => ?_) (fun x y hxy => ?_)
  · refine ⟨(sweep_ok ha).1, fun z => ?_⟩
    rw [this z]
    exact ⟨fun h => h.elim id fun h => absurd h inS_nil, .inl⟩
  · unfold swC
    rw [decide_eq_true_eq, balC_iff hD hA hB false x]
    exact ⟨.inl, fun h => h.elim id fun h => absurd h inS_nil⟩
  · unfold swO
    rw [decide_eq_true_eq, balO_iff hD hA hB false ha eA hxy]
    exact ⟨.inl, fun h => h.elim id fun ⟨s, hs, _⟩ => by simp at hs⟩
/-- in A, not in B: at a number, between two neighbours -/
theorem AlI.diff {A B : List Iv} {D d : List En} {N : List Rat} {f : List Iv} (h : AlI (fun a b => a && !b) D d [] N f) (hD : D.Perm (ends A false ++ ends B true)) (hA : ∀ s ∈ A, s.1 ≤ s.2) (hB : ∀ s ∈ B, s.1 ≤ s.2) :
    Nrm f ∧ Asc N ∧ (∀ x, x ∈ N ↔ ∃ e ∈ D, e.num = x) ∧ EndsIn A N ∧ EndsIn B N ∧ ∀ z, InS z f ↔ (z ∈ N ∧ InS z A ∧ ¬ InS z B) ∨ ∃ x y, Adj N x y ∧ (hasO A x y ∧ ¬ hasO B x y) ∧ x ≤ z ∧ z ≤ y := by
  obtain ⟨_, ha, hm, rfl⟩ := h.done
  obtain ⟨eA, eB⟩ := endsIn_of hD hm
  refine ⟨(sweep_ok ha).1, ha, hm, eA, eB, fun z => ?_⟩
  rw [(sweep_ok ha).2 z]
  have hc : swC (fun a b => a && !b) D z = true ↔ InS z A ∧ ¬ InS z B := by
    unfold swC
    rw [Bool.and_eq_true, Bool.not_eq_true', decide_eq_true_eq, decide_eq_false_iff_not, balC_iff hD hA hB false z, balC_iff hD hA hB true z]; rfl
  have ho : ∀ x y, Adj N x y → (swO (fun a b => a && !b) D x y = true ↔ hasO A x y ∧ ¬ hasO B x y) := fun x y hxy => by
    unfold swO
    rw [Bool.and_eq_true, Bool.not_eq_true', decide_eq_true_eq, decide_eq_false_iff_not, balO_iff hD hA hB false ha eA hxy, balO_iff hD hA hB true ha eB hxy]; rfl
  rw [hc]
  constructor
  · rintro (h | ⟨x, y, h1, h2, h3⟩)
    · exact .inl h
    · exact .inr ⟨x, y, h1, (ho x y h1).1 h2, h3⟩
  · rintro (h | ⟨x, y, h1, h2, h3⟩)
    · exact .inl h
    · exact .inr ⟨x, y, h1, (ho x y h1).2 h2, h3⟩
theorem asc_unique {N M : List Rat} (h : Asc N) (k : Asc M) (he : ∀ x, x ∈ N ↔ x ∈ M) : N = M := by
  have n1 : N.Nodup := h.imp (fun h e => by subst e; exact Rat.lt_irrefl h)
  have n2 : M.Nodup := k.imp (fun h e => by subst e; exact Rat.lt_irrefl h)
  have hp : N.Perm M := (List.perm_ext_iff_of_nodup n1 n2).2 he
  exact List.Perm.eq_of_pairwise (fun a b _ _ h1 h2 => by exfalso; grind) h k hp
/-- two right spans meet -/
def mtI (s x : Iv) : Prop := s.1 ≤ x.2 ∧ x.1 ≤ s.2
instance (s x : Iv) : Decidable (mtI s x) := inferInstanceAs (Decidable (_ ∧ _))
def mnR (a b : Rat) : Rat := if a ≤ b then a else b
def mxR (a b : Rat) : Rat := if b ≤ a then a else b
def hu (x s : Iv) : Iv := (mnR x.1 s.1, mxR x.2 s.2)
/-- what meets the new span becomes a part of it; the others are left -/
def absF (p : List Iv × Iv) (s : Iv) : List Iv × Iv := if mtI s p.2 then (p.1, hu p.2 s) else (p.1 ++ [s], p.2)
theorem hu_in {x s : Iv} (_ : x.1 ≤ x.2) (_ : s.1 ≤ s.2) (h : mtI s x) (z : Rat) : InV z (hu x s) ↔ InV z x ∨ InV z s := by
  unfold InV hu mnR mxR mtI at *
  constructor
  · intro ⟨a, b⟩
    simp only at a b
    split at a <;> split at b <;> grind
  · intro k
    simp only
    split <;> split <;> grind
theorem hu_right {x s : Iv} (hx : x.1 ≤ x.2) (hs : s.1 ≤ s.2) : (hu x s).1 ≤ (hu x s).2 := by
  unfold hu mnR mxR
  simp only
  split <;> split <;> grind
/-- apart: the one ends before the other begins -/
def apI (s x : Iv) : Prop := s.2 < x.1 ∨ x.2 < s.1
theorem ap_of {s x : Iv} (h : ¬ mtI s x) : apI s x := by
  unfold mtI at h
  unfold apI
  by_cases a : s.1 ≤ x.2
  · left
    have : ¬ x.1 ≤ s.2 := fun b => h ⟨a, b⟩
    grind
  · right; grind
theorem ap_hu {t x s : Iv} (ht : t.1 ≤ t.2) (_ : x.1 ≤ x.2) (_ : s.1 ≤ s.2) (h : mtI s x) (h1 : apI t x) (h2 : apI t s) : apI t (hu x s) := by
  unfold apI hu mnR mxR mtI at *
  simp only
  split <;> split <;> grind
/-- the state behind some of the spans (done) of a normal set -/
structure AbI (x : Iv) (done : List Iv) (p : List Iv × Iv) : Prop where
  nrm : Nrm p.1
  sub : ∀ s ∈ p.1, s ∈ done
  right : p.2.1 ≤ p.2.2
  apt : ∀ s ∈ p.1, apI s p.2
  far : ∀ t : Iv, t.1 ≤ t.2 → (∀ s ∈ done, apI t s) → apI t x → apI t p.2
  num : ∀ z, InS z p.1 ∨ InV z p.2 ↔ InS z done ∨ InV z x
theorem AbI.start {x : Iv} (h : x.1 ≤ x.2) : AbI x [] ([], x) := ⟨Nrm.nil, fun _ h => h, h, fun _ h => by simp at h, fun _ _ _ h => h, fun z => Iff.rfl⟩
theorem AbI.step {x : Iv} {done : List Iv} {p : List Iv × Iv} {s : Iv} (h : AbI x done p) (hn : Nrm (done ++ [s])) : AbI x (done ++ [s]) (absF p s) := by
  obtain ⟨h1, h2, h3, h4, h5, h6⟩ := h
  obtain ⟨n1, n2, n3⟩ := nrm_snoc.1 hn
  unfold absF
  by_cases hm : mtI s p.2
  · rw [if_pos hm]
    refine ⟨h1, fun t ht => by simp [h2 t ht], hu_right h3 n2, fun t ht => ?_, fun t ht hd hx => ?_, fun z => ?_⟩
    · exact ap_hu (h1.1 t ht) h3 n2 hm (h4 t ht) (.inl (n3 t (h2 t ht)))
    · exact ap_hu ht h3 n2 hm (h5 t ht (fun u hu => hd u (by simp [hu])) hx) (hd s (by simp))
    · show InS z p.1 ∨ InV z (hu p.2 s) ↔ _
      rw [hu_in h3 n2 hm z, inS_append, inS_cons, ← or_assoc, h6 z]
      have := @inS_nil z
      constructor
      · rintro ((a | a) | a)
        · exact .inl (.inl a)
        · exact .inr a
        · exact .inl (.inr (.inl a))
      · rintro ((a | a | a) | a)
        · exact .inl (.inl a)
        · exact .inr a
        · exact absurd a this
        · exact .inl (.inr a)
  · rw [if_neg hm]
    refine ⟨nrm_snoc.2 ⟨h1, n2, fun t ht => n3 t (h2 t ht)⟩, fun t ht => ?_, h3, fun t ht => ?_, fun t ht hd hx => h5 t ht (fun u hu => hd u (by simp [hu])) hx, fun z => ?_⟩
    · rcases List.mem_append.1 ht with ht | ht
      · simp [h2 t ht]
      · simp at ht; simp [ht]
    · rcases List.mem_append.1 ht with ht | ht
      · exact h4 t ht
      · obtain rfl : t = s := by simpa using ht
        exact ap_of hm
    · have := @inS_nil z
      have k := h6 z
      show InS z (p.1 ++ [s]) ∨ InV z p.2 ↔ _
      rw [inS_append, inS_append, inS_cons]
      constructor
      · rintro ((a | a | a) | a)
        · rcases k.1 (.inl a) with b | b
          · exact .inl (.inl b)
          · exact .inr b
        · exact .inl (.inr (.inl a))
        · exact absurd a this
        · rcases k.1 (.inr a) with b | b
          · exact .inl (.inl b)
          · exact .inr b
      · rintro ((a | a | a) | a)
        · rcases k.2 (.inl a) with b | b
          · exact .inl (.inl b)
          · exact .inr b
        · exact .inl (.inr (.inl a))
        · exact absurd a this
        · rcases k.2 (.inr a) with b | b
          · exact .inl (.inl b)
          · exact .inr b
end Go.Proofs.YtiommpdbbpddpaaGreat
