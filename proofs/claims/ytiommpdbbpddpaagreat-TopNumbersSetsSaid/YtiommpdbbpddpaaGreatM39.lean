/- Texts Is1, Is2: each says in its own first comment what it proves. -/
import Derived.Test.YtiommpdbbpddpaaGreatM38
import Derived.Shelf.SlSortCmp.WholeK
import Derived.Test.YtiommpdbbpddpaaGreatM35
import Derived.Test.YtiommpdbbpddpaaGreatM50
import Derived.Shelf.Abstract
/- The ends of spans, as package interval sorts them: the two orders, and what the second one says. No program is named here. -/
namespace Go.Proofs.YtiommpdbbpddpaaGreat
open Go.RowKit
open Go.Lib (nDigits itoa decDigits)

/-- an end with a short number -/
structure Ee where
  num : Rat
  sec : Bool
  beg : Bool
  ok : Sm 30 num
def Ee.en (e : Ee) : En := ⟨e.num, e.sec, e.beg⟩
theorem sm30_zero : Sm 30 (0 : Rat) := by unfold Sm; decide
instance : Inhabited Ee := ⟨⟨0, false, false, sm30_zero⟩⟩
def secI (b : Bool) : Int := if b then 1 else 0
def begI (b : Bool) : Int := if b then 1 else -1
def encE (e : Ee) : List Value := [.string (RS e.num), .int .i64 (secI e.sec), .int .i64 (begI e.beg)]
theorem encE_len (e : Ee) : (encE e).length = 3 := rfl
theorem encE_one (e : Ee) : ∀ v ∈ encE e, v.oneCell' = true := by
  intro v hv
  unfold encE at hv
  simp only [List.mem_cons, List.not_mem_nil, or_false] at hv
  rcases hv with rfl | rfl | rfl <;> rfl
def or2 (a b : Int) : Int := if a ≠ 0 then a else b
def cmJ (x y : Int) : Int := if x < y then -1 else if y < x then 1 else 0
def cmS (a b : ByteArray) : Int := if Op.bytesLess a.toList b.toList = true then -1 else if Op.bytesLess b.toList a.toList = true then 1 else 0
/-- by the text, by the number -/
def cf1 (x y : Ee) : Int := or2 (cmS (RS x.num) (RS y.num)) (cmJ (begI y.beg) (begI x.beg))
def cf2 (x y : Ee) : Int := or2 (cmR x.num y.num) (cmJ (begI y.beg) (begI x.beg))
theorem cmJ_beg (a b : Bool) : cmJ (begI a) (begI b) = (if a = b then 0 else if b = true then -1 else 1) := by
  cases a <;> cases b <;> decide
theorem cf2_lt (x y : Ee) : ltOf cf2 x y = decide (x.num < y.num ∨ (x.num = y.num ∧ x.beg = true ∧ y.beg = false)) := by
  unfold ltOf cf2 or2 cmR
  rw [cmJ_beg]
  by_cases h1 : x.num < y.num
  · simp [h1]
  · by_cases h2 : x.num = y.num
    · rw [h2]
      have := @Rat.lt_irrefl y.num
      cases x.beg <;> cases y.beg <;> simp
    · simp [h1, h2]
theorem cf2_swo : Go.Sort.SWO (ltOf cf2) where
  irrefl x := by
    rw [cf2_lt, decide_eq_false_iff_not]
    rintro (h | ⟨_, h1, h2⟩)
    · exact Rat.lt_irrefl h
    · rw [h1] at h2; cases h2
  trans x y z h1 h2 := by
    rw [cf2_lt, decide_eq_true_eq] at *
    rcases h1 with h1 | ⟨h1, h3, h4⟩
    · rcases h2 with h2 | ⟨h2, _, _⟩
      · left; grind
      · left; grind
    · rcases h2 with h2 | ⟨h2, h5, _⟩
      · left; grind
      · rw [h4] at h5; cases h5
  ntrans x y z h1 h2 := by
    rw [cf2_lt, decide_eq_false_iff_not] at *
    rintro (h | ⟨h, h5, h6⟩)
    · apply h1; left
      have : ¬ y.num < z.num := fun k => h2 (.inl k)
      grind
    · have a : ¬ x.num < y.num := fun k => h1 (.inl k)
      have b : ¬ y.num < z.num := fun k => h2 (.inl k)
      have c : x.num = y.num := by grind
      have d : y.num = z.num := by grind
      cases hb : y.beg with
      | false => exact h1 (.inr ⟨c, h5, hb⟩)
      | true => exact h2 (.inr ⟨d, hb, h6⟩)
theorem bl_iff (a b : List UInt8) : Op.bytesLess a b = decide (a < b) := bytesLess_eq a b
theorem cf1_lt (x y : Ee) : ltOf cf1 x y = decide ((RS x.num).toList < (RS y.num).toList ∨ ((RS x.num).toList = (RS y.num).toList ∧ x.beg = true ∧ y.beg = false)) := by
  unfold ltOf cf1 or2 cmS
  rw [cmJ_beg, bl_iff, bl_iff]
  generalize (RS x.num).toList = a
  generalize (RS y.num).toList = b
  by_cases h1 : a < b
  · simp [h1]
  · by_cases h2 : b < a
    · have h3 : ¬ a = b := fun e => List.lt_irrefl a (by rw [e] at h2 ⊢; exact h2)
      simp [h1, h2, h3]
    · have h3 : a = b := List.le_antisymm (List.not_lt.1 h2) (List.not_lt.1 h1)
      subst h3
      simp only [h1, if_false, decide_false, Bool.false_eq_true, ne_eq, not_true_eq_false, false_or, true_and]
      cases x.beg <;> cases y.beg <;> simp
theorem cf1_swo : Go.Sort.SWO (ltOf cf1) where
  irrefl x := by
    rw [cf1_lt, decide_eq_false_iff_not]
    rintro (h | ⟨_, h1, h2⟩)
    · exact List.lt_irrefl _ h
    · rw [h1] at h2; cases h2
  trans x y z h1 h2 := by
    rw [cf1_lt, decide_eq_true_eq] at *
    rcases h1 with h1 | ⟨h1, h3, h4⟩
    · rcases h2 with h2 | ⟨h2, _, _⟩
      · exact .inl (List.lt_trans h1 h2)
      · left; rw [← h2]; exact h1
    · rcases h2 with h2 | ⟨h2, h5, _⟩
      · left; rw [h1]; exact h2
      · rw [h4] at h5; cases h5
  ntrans x y z h1 h2 := by
    rw [cf1_lt, decide_eq_false_iff_not] at *
    have a := List.not_lt.1 fun k => h1 (.inl k)
    have b := List.not_lt.1 fun k => h2 (.inl k)
    rintro (h | ⟨h, h5, h6⟩)
    · exact List.not_lt.2 (List.le_trans b a) h
    · have c : (RS x.num).toList = (RS y.num).toList := List.le_antisymm (by rw [h]; exact b) a
      have d : (RS y.num).toList = (RS z.num).toList := c.symm.trans h
      cases hb : y.beg with
      | false => exact h1 (.inr ⟨c, h5, hb⟩)
      | true => exact h2 (.inr ⟨d, hb, h6⟩)
/-- sorted by the second order: as the sweep wants it -/
theorem sorted_leE {d : Array Ee} (h : Go.Sort.SortedIn (ltOf cf2) 0 d.size d) : (d.toList.map Ee.en).Pairwise leE := by
  rw [List.pairwise_map, List.pairwise_iff_getElem]
  intro i j hi hj hij
  rw [Array.length_toList] at hi hj
  have h1 := h i j (Nat.zero_le _) hij hj
  rw [cf2_lt, decide_eq_false_iff_not, getElem!_pos d i hi, getElem!_pos d j hj] at h1
  rw [Array.getElem_toList, Array.getElem_toList]
  unfold leE Ee.en
  simp only
  have a : ¬ d[j].num < d[i].num := fun k => h1 (.inl k)
  by_cases e : d[i].num = d[j].num
  · right
    refine ⟨e, ?_⟩
    cases hb : d[i].beg with
    | true => exact .inl rfl
    | false =>
      cases hc : d[j].beg with
      | false => exact .inr rfl
      | true => exact absurd (.inr ⟨e.symm, hc, hb⟩) h1
  · left; grind
theorem perm_all {d d' : Array Ee} (h : Go.Sort.PermIn 0 d.size d d') : d'.size = d.size ∧ d'.toList.Perm d.toList := by
  obtain ⟨h1, _, h3⟩ := h
  refine ⟨h1, ?_⟩
  have e1 : (d'.extract 0 d.size) = d' := by rw [← h1]; simp
  have e2 : (d.extract 0 d.size) = d := by simp
  rw [e1, e2] at h3
  exact h3
theorem List.getElem_flatMap_const {α β : Type} {f : α → List β} {k : Nat} (hf : ∀ x, (f x).length = k) : ∀ {l : List α} {j : Nat} (h : j < (l.flatMap f).length), (l.flatMap f)[j] = (f (l[j / k]'(by
    have e : (l.flatMap f).length = l.length * k := by rw [List.length_flatMap]; simp only [hf, List.map_const', List.sum_replicate_nat]
    rw [e] at h
    exact Nat.div_lt_of_lt_mul (by rw [Nat.mul_comm]; exact h))))[j % k]'(by
    rw [hf]
    apply Nat.mod_lt
    rcases Nat.eq_zero_or_pos k with h0 | h0
    · have e : (l.flatMap f).length = l.length * k := by rw [List.length_flatMap]; simp only [hf, List.map_const', List.sum_replicate_nat]
      rw [e, h0] at h; omega
    · exact h0)
  | [], j, h => by simp at h
  | a :: l, j, h => by
    have k0 : 0 < k := by
      rcases Nat.eq_zero_or_pos k with h0 | h0
      · have e : ((a :: l).flatMap f).length = (a :: l).length * k := by rw [List.length_flatMap]; simp only [hf, List.map_const', List.sum_replicate_nat]
        rw [e, h0] at h; omega
      · exact h0
    have e : (a :: l).flatMap f = f a ++ l.flatMap f := rfl
    by_cases hj : j < k
    · have e1 : j / k = 0 := Nat.div_eq_of_lt hj
      have e2 : j % k = j := Nat.mod_eq_of_lt hj
      simp only [e1, e2, List.getElem_cons_zero]
      simp only [e]
      rw [List.getElem_append_left (by rw [hf]; exact hj)]
    · have hj2 : k ≤ j := by omega
      obtain ⟨i, rfl⟩ : ∃ i, j = i + k := ⟨j - k, by omega⟩
      have e1 : (i + k) / k = i / k + 1 := by rw [Nat.add_div_right _ k0]
      have e2 : (i + k) % k = i % k := by rw [Nat.add_mod_right]
      simp only [e1, e2, List.getElem_cons_succ]
      simp only [e]
      rw [List.getElem_append_right (by rw [hf]; omega)]
      simp only [hf, Nat.add_sub_cancel]
      exact List.getElem_flatMap_const hf _
theorem kp_mapBlock (w : World) (b : Nat) (f : Array Value → Array Value) : Kp [b] w (Go.Sort.mapBlock w b f) :=
  ⟨rfl, rfl, rfl, by simp [Go.Sort.mapBlock], fun k _ hn => by
    unfold Go.Sort.mapBlock
    simp only [List.mem_singleton] at hn
    rw [Array.getElem?_modify, if_neg (fun e => hn e.symm)], Nat.le_refl _⟩
theorem kp_growN (w : World) (n : Nat) (os : Array Obj) : Kp [] w (Go.Sort.grow (w.drewN n) os) :=
  ⟨rfl, rfl, rfl, by simp [Go.Sort.grow, World.drewN], fun k hk _ => by
    unfold Go.Sort.grow World.drewN
    simp only
    rw [Array.getElem?_append_left hk], Nat.le_add_right _ _⟩
theorem kp_sortW {α : Type} [Inhabited α] (enc : α → List Value) (k : Nat) (w : World) (b off m : Nat) (d : Array α) (os : Array Obj) : Kp [b] w (sortWorldK enc k w b off m d os) := by
  have a := kp_growN w m #[]
  have h : Kp [b] w (Go.Sort.ahead w m) := ⟨rfl, rfl, rfl, Nat.le_refl _, fun _ _ _ => rfl, Nat.le_add_right _ _⟩
  have h2 : Kp [b] (Go.Sort.ahead w m) (Go.Sort.putRowK enc k (Go.Sort.ahead w m) b off d) := kp_mapBlock _ _ _
  have h3 : Kp [] (Go.Sort.putRowK enc k (Go.Sort.ahead w m) b off d) (sortWorldK enc k w b off m d os) := kp_growN _ 0 os
  exact (h.trans h2).trans (h3.mono (fun _ h => by cases h))
/-- ends in a row -/
def EnL (w : World) (g o : Nat) (d : List Ee) : Prop := ∀ i (h : i < d.length), w.cell? ⟨g, o + i * 3, none⟩ = some (.string (RS d[i].num)) ∧ w.cell? ⟨g, o + i * 3 + 1, none⟩ = some (.int .i64 (secI d[i].sec)) ∧ w.cell? ⟨g, o + i * 3 + 2, none⟩ = some (.int .i64 (begI d[i].beg))
theorem EnL.of {w : World} {g o : Nat} {d : Array Ee} (h : Go.Sort.HoldsK encE 3 w g o d) : EnL w g o d.toList := fun i hi => by
  rw [Array.length_toList] at hi
  have e : d[i]! = d[i] := getElem!_pos d i hi
  have a := (h.cell hi (c := 0) (by omega)).1
  have b := (h.cell hi (c := 1) (by omega)).1
  have c := (h.cell hi (c := 2) (by omega)).1
  rw [e] at a b c
  rw [Array.getElem_toList]
  exact ⟨a, b, c⟩
theorem EnL.kept {L : List Nat} {w w' : World} {g o : Nat} {d : List Ee} (h : EnL w g o d) (k : Kp L w w') (hg : g ∉ L) (hl : g < w.heap.size) : EnL w' g o d := fun i hi => by
  have e := k.block g hl hg
  obtain ⟨a, b, c⟩ := h i hi
  exact ⟨by rw [World.cell?_of_block e]; exact a, by rw [World.cell?_of_block e]; exact b, by rw [World.cell?_of_block e]; exact c⟩
/-- what the sort has put into the row -/
theorem holdsK_of_own {w : World} {base e g cap n : Nat} {d : List Ee} (h : w.ownsRow base e 3 (.slice (some ⟨g, 0, none⟩) n cap) n (d.flatMap encE)) (hn : n = d.length) : Go.Sort.HoldsK encE 3 w g 0 d.toArray := by
  intro j hj
  have hsz : (Go.Sort.flatK encE 3 d.toArray).size = d.length * 3 := by simp
  rw [hsz] at hj
  have hfl : (d.flatMap encE).length = d.length * 3 := by
    rw [List.length_flatMap]
    simp only [encE_len, List.map_const', List.sum_replicate_nat]
  have hc := h.cellAt j (by rw [hn]; exact hj)
  rw [Nat.zero_add]
  refine ⟨?_, ?_⟩
  · rw [hc]
    have hq : j / 3 < d.length := by omega
    rw [Go.Sort.get_flatK _ _ _ _ (by simpa using hj)]
    simp only [id]
    rw [List.getElem?_eq_getElem (by omega)]
    congr 1
    rw [List.getElem_flatMap_const encE_len]
    have e1 : d.toArray[j / 3]! = d[j / 3] := by rw [getElem!_pos _ _ (by simpa using hq)]; simp
    rw [e1, getElem!_pos _ _ (by rw [encE_len]; omega)]
  · rcases h.2 with ⟨h1, _⟩ | ⟨g2, cap2, cur, he, _, hg, _⟩
    · cases h1
    · cases he
      simp [World.frozen?, hg]
end Go.Proofs.YtiommpdbbpddpaaGreat

/- The comparisons of ordered of package interval, and slices.SortFunc at ends of spans. -/
namespace Go.Proofs.YtiommpdbbpddpaaGreat
open Go.RowKit
open Go.Lib (nDigits itoa decDigits)

set_option maxRecDepth 100000 in
set_option maxHeartbeats 4000000 in
theorem isnan_n (x : Int) (w : World) : Calls Tryz.prog 86 #[.int .i64 x] w fun e w' => e = .returned (.bool false) ∧ Kp [] w w' := by
  have kk := Kp.refl [] w
  go_enter Tryz.func86, Tryz.ntmps86
  go_wp2
  go_ret
  exact ⟨rfl, kk⟩
set_option maxRecDepth 100000 in
set_option maxHeartbeats 4000000 in
theorem isnan_s (x : ByteArray) (w : World) : Calls Tryz.prog 85 #[.string x] w fun e w' => e = .returned (.bool false) ∧ Kp [] w w' := by
  have kk := Kp.refl [] w
  go_enter Tryz.func85, Tryz.ntmps85
  go_wp2
  go_ret
  exact ⟨rfl, kk⟩
set_option maxRecDepth 100000 in
set_option maxHeartbeats 4000000 in
theorem compare_n (x y : Int) (w : World) : Calls Tryz.prog 65 #[.int .i64 x, .int .i64 y] w fun e w' => e = .returned (.int .i64 (cmJ x y)) ∧ Kp [] w w' := by
  by_cases h1 : x < y
  · rw [show cmJ x y = -1 from if_pos h1]
    go_enter Tryz.func65, Tryz.ntmps65
    go_wp2_with fail
    with_reducible refine (isnan_n _ _).mono ?_
    rintro e w1 ⟨rfl, k1⟩
    go_wp2_with fail
    with_reducible refine (isnan_n _ _).mono ?_
    rintro e w2 ⟨rfl, k2⟩
    go_wp2
    go_ret
    exact ⟨rfl, k1.trans k2⟩
  by_cases h2 : y < x
  · rw [show cmJ x y = 1 from (if_neg h1).trans (if_pos h2)]
    go_enter Tryz.func65, Tryz.ntmps65
    go_wp2_with fail
    with_reducible refine (isnan_n _ _).mono ?_
    rintro e w1 ⟨rfl, k1⟩
    go_wp2_with fail
    with_reducible refine (isnan_n _ _).mono ?_
    rintro e w2 ⟨rfl, k2⟩
    go_wp2
    go_ret
    exact ⟨rfl, k1.trans k2⟩
  · rw [show cmJ x y = 0 from (if_neg h1).trans (if_neg h2)]
    go_enter Tryz.func65, Tryz.ntmps65
    go_wp2_with fail
    with_reducible refine (isnan_n _ _).mono ?_
    rintro e w1 ⟨rfl, k1⟩
    go_wp2_with fail
    with_reducible refine (isnan_n _ _).mono ?_
    rintro e w2 ⟨rfl, k2⟩
    go_wp2
    go_ret
    exact ⟨rfl, k1.trans k2⟩
theorem bl_cases (a b : ByteArray) : (Op.bytesLess a.toList b.toList = true ∧ cmS a b = -1) ∨ (Op.bytesLess a.toList b.toList = false ∧ (!(Op.bytesLess a.toList b.toList || a.toList == b.toList)) = true ∧ cmS a b = 1) ∨ (Op.bytesLess a.toList b.toList = false ∧ (a.toList == b.toList) = true ∧ cmS a b = 0) := by
  unfold cmS
  rw [bl_iff, bl_iff]
  generalize a.toList = x
  generalize b.toList = y
  by_cases h1 : x < y
  · left; simp [h1]
  · by_cases h2 : y < x
    · right; left
      have h3 : ¬ x = y := fun e => List.lt_irrefl x (by rw [e] at h2 ⊢; exact h2)
      simp [h1, h2, h3]
    · right; right
      have h3 : x = y := List.le_antisymm (List.not_lt.1 h2) (List.not_lt.1 h1)
      subst h3
      simp [h1]
set_option maxRecDepth 100000 in
set_option maxHeartbeats 4000000 in
theorem compare_s (x y : ByteArray) (w : World) : Calls Tryz.prog 64 #[.string x, .string y] w fun e w' => e = .returned (.int .i64 (cmS x y)) ∧ Kp [] w w' := by
  rcases bl_cases x y with ⟨b1, b2⟩ | ⟨b1, b3, b2⟩ | ⟨b1, b3, b2⟩
  · rw [b2]
    clear b2
    go_enter Tryz.func64, Tryz.ntmps64
    go_wp2_with fail
    with_reducible refine (isnan_s _ _).mono ?_
    rintro e w1 ⟨rfl, k1⟩
    go_wp2_with fail
    with_reducible refine (isnan_s _ _).mono ?_
    rintro e w2 ⟨rfl, k2⟩
    go_wp2
    go_ret
    exact ⟨rfl, k1.trans k2⟩
  · rw [b2]
    have b4 : (x.toList == y.toList) = false := by rw [b1] at b3; simpa using b3
    clear b2 b3
    go_enter Tryz.func64, Tryz.ntmps64
    go_wp2_with fail
    with_reducible refine (isnan_s _ _).mono ?_
    rintro e w1 ⟨rfl, k1⟩
    go_wp2_with fail
    with_reducible refine (isnan_s _ _).mono ?_
    rintro e w2 ⟨rfl, k2⟩
    go_wp2
    go_ret
    exact ⟨rfl, k1.trans k2⟩
  · rw [b2]
    clear b2
    go_enter Tryz.func64, Tryz.ntmps64
    go_wp2_with fail
    with_reducible refine (isnan_s _ _).mono ?_
    rintro e w1 ⟨rfl, k1⟩
    go_wp2_with fail
    with_reducible refine (isnan_s _ _).mono ?_
    rintro e w2 ⟨rfl, k2⟩
    go_wp2
    go_ret
    exact ⟨rfl, k1.trans k2⟩

set_option maxRecDepth 100000 in
set_option maxHeartbeats 4000000 in
theorem cmOr_n (g c : Nat) (H : Nat → Int) (w : World) (hc : ∀ j, j < 2 → w.cell? ⟨g, j, none⟩ = some (.int .i64 (H j))) (hg : g < w.heap.size) :
    Calls Tryz.prog 63 #[.slice (some ⟨g, 0, none⟩) 2 c] w fun e w' => e = .returned (.int .i64 (or2 (H 0) (H 1))) ∧ Kp [] w w' := by
  have H0 : Hid (∀ j, j < 2 → (∀ i, i < j → H i = 0) → H j ≠ 0 → or2 (H 0) (H 1) = H j) := Lib.hid fun j hj h hne => by
    unfold or2
    match j, hj with
    | 0, _ => rw [if_pos hne]
    | 1, _ => rw [if_neg (by simp [h 0 (by omega)])]
  have H1 : Hid ((∀ i, i < 2 → H i = 0) → or2 (H 0) (H 1) = 0) := Lib.hid fun h => by
    unfold or2; rw [h 0 (by omega), h 1 (by omega)]; rfl
  generalize or2 (H 0) (H 1) = R at *
  have HC := Lib.hid hc
  clear hc
  go_enter Tryz.func63, Tryz.ntmps63
  go_wp2_with fail
  go_loopg [8] 2 (fun gk s8 wr => ∃ k : Nat, s8 = .int .i64 k ∧ k + gk = 2 ∧ Hid (∀ i, i < k → H i = 0) ∧ Kp [] w wr)
  case atStart => exact ⟨0, rfl, by omega, Lib.hid (fun _ h => by omega), Kp.refl _ _⟩
  case round =>
    obtain ⟨k, rfl, hk, hz, kk⟩ := hrel
    by_cases hlt : k < 2
    · have c0 : wr.cell? ⟨g, k, none⟩ = some (.int .i64 (H k)) := by rw [World.cell?_of_block (kk.block g hg (by simp))]; exact HC.out k hlt
      have hlt' : (k : Int) < 2 := by omega
      have z1 : 0 ≤ (k : Int) := by omega
      have Hk := Lib.hid hk; have Hl := Lib.hid hlt
      clear hk hlt
      by_cases h0 : H k = 0
      · rw [h0] at c0
        have Hh0 := Lib.hid h0
        clear h0
        go_wp2
        have hk := Hk.out; have hlt := Hl.out
        go_roundg (gk - 1)
        case measure => omega
        case rel => exact ⟨k + 1, by go_num, by omega, Lib.hid (fun i h => if e : i = k then (by rw [e]; exact Hh0.out) else hz.out i (by omega)), kk⟩
      · have hb : (H k != 0) = true := by simp [h0]
        have HR := Lib.hid (H0.out k Hl.out hz.out h0)
        clear h0
        generalize H k = v at *
        go_wp2
        go_ret
        exact ⟨by rw [HR.out]; rfl, kk⟩
    · have hlt' : ¬ (k : Int) < 2 := by omega
      have HR := Lib.hid (H1.out (fun i h => hz.out i (by omega)))
      clear hlt hk
      go_wp2
      go_ret
      exact ⟨by rw [HR.out]; rfl, kk⟩

/-- a block that holds an end -/
def EnB (w : World) (b : Nat) (s : ByteArray) (x y : Int) : Prop := w.heap[b]? = some (.cells #[.string s, .int .i64 x, .int .i64 y] 94 (0, 0))
section
variable {w w' : World} {b : Nat} {s : ByteArray} {x y : Int} {L : List Nat}
theorem EnB.lt (h : EnB w b s x y) : b < w.heap.size := (Array.getElem?_eq_some_iff.1 h).1
theorem EnB.c0 (h : EnB w b s x y) : w.cell? ⟨b, 0, none⟩ = some (.string s) := by unfold EnB at h; simp [World.cell?, h]
theorem EnB.c2 (h : EnB w b s x y) : w.cell? ⟨b, 2, none⟩ = some (.int .i64 y) := by unfold EnB at h; simp [World.cell?, h]
theorem EnB.alloc (h : EnB w b s x y) (o : Obj) : EnB (w.alloc o) b s x y := (Below.heap_alloc w o b h.lt).trans h
theorem EnB.made (w : World) (s : ByteArray) (x y : Int) : EnB (w.alloc (.cells #[.string s, .int .i64 x, .int .i64 y] 94 (0, 0))) w.heap.size s x y := heap_alloc_new w _
end

attribute [local go_sem ↓] Go.wp_at_zero Go.wp_at_succ
theorem qor2 (a b : Int) (W : World) : Calls Tryz.prog 63 #[.slice (some ⟨W.heap.size, 0, none⟩) 2 2] (W.alloc (.cells #[.int .i64 a, .int .i64 b] 3 (0, 0))) fun e w' => e = .returned (.int .i64 (or2 a b)) ∧ Kp [] (W.alloc (.cells #[.int .i64 a, .int .i64 b] 3 (0, 0))) w' := by
  have hh : (W.alloc (.cells #[.int .i64 a, .int .i64 b] 3 (0, 0))).heap[W.heap.size]? = some (.cells #[.int .i64 a, .int .i64 b] 3 (0, 0)) := heap_alloc_new W _
  exact cmOr_n W.heap.size 2 (fun j => ([a, b] : List Int).getD j 0) _ (fun j hj => by
    unfold World.cell?
    rw [hh]
    match j, hj with
    | 0, _ => rfl
    | 1, _ => rfl) (by simp)
set_option maxRecDepth 100000 in
set_option maxHeartbeats 4000000 in
theorem ord_1 (s t : ByteArray) (a b c d : Int) (w : World) :
    Calls Tryz.prog 62 #[.agg #[.string s, .int .i64 a, .int .i64 b], .agg #[.string t, .int .i64 c, .int .i64 d]] w fun e w' => e = .returned (.int .i64 (or2 (cmS s t) (cmJ d b))) ∧ Kp [] w w' := by
  have qs : Hid (∀ (x y : ByteArray) (W : World), Calls Tryz.prog 64 #[.string x, .string y] W fun e w' => e = .returned (.int .i64 (cmS x y)) ∧ Kp [] W w') := Lib.hid fun x y W => compare_s x y W
  have qi : Hid (∀ (x y : Int) (W : World), Calls Tryz.prog 65 #[.int .i64 x, .int .i64 y] W fun e w' => e = .returned (.int .i64 (cmJ x y)) ∧ Kp [] W w') := Lib.hid fun x y W => compare_n x y W
  have qo := Lib.hid fun (x y : Int) (W : World) => qor2 x y W
  have e1 := (EnB.made w s a b).alloc (.cells #[.string t, .int .i64 c, .int .i64 d] 94 (0, 0))
  have e2 := EnB.made (w.alloc (.cells #[.string s, .int .i64 a, .int .i64 b] 94 (0, 0))) t c d
  rw [World.size_alloc] at e2
  have kk : Kp [] w ((w.alloc (.cells #[.string s, .int .i64 a, .int .i64 b] 94 (0, 0))).alloc (.cells #[.string t, .int .i64 c, .int .i64 d] 94 (0, 0))) := ((Kp.refl _ _).alloc _).alloc _
  have c0 := e1.c0
  have c1 := e1.c2
  have d0 := e2.c0
  have d1 := e2.c2
  clear e1 e2
  go_enter Tryz.func62, Tryz.ntmps62
  go_wp2_with fail
  go_region_held3 (fun w' => w'.cell? ⟨w.heap.size, 0, none⟩ = some (.string s) ∧ w'.cell? ⟨w.heap.size, 2, none⟩ = some (.int .i64 b) ∧ w'.cell? ⟨w.heap.size + 1, 0, none⟩ = some (.string t) ∧ w'.cell? ⟨w.heap.size + 1, 2, none⟩ = some (.int .i64 d) ∧ Kp [] w w')
    (first
      | exact ⟨c0, c1, d0, d1, kk.drew⟩
      | (go_split_ands
         exact ⟨kp_cell k1 (by simp) (by assumption), kp_cell k1 (by simp) (by assumption), kp_cell k1 (by simp) (by assumption), kp_cell k1 (by simp) (by assumption), Kp.trans (by assumption) k1⟩)
      | (go_split_ands
         exact ⟨kp_cell ((Kp.refl [] _).alloc _) (by simp) (by assumption), kp_cell ((Kp.refl [] _).alloc _) (by simp) (by assumption), kp_cell ((Kp.refl [] _).alloc _) (by simp) (by assumption), kp_cell ((Kp.refl [] _).alloc _) (by simp) (by assumption), Kp.alloc (by assumption) _⟩)
      | go_keep)
    (first
      | (go_at_call 64; refine (qs.out _ _ _).mono ?_; rintro e w1 ⟨rfl, k1⟩)
      | (go_at_call 65; refine (qi.out _ _ _).mono ?_; rintro e w1 ⟨rfl, k1⟩)
      | (go_at_call 63; refine (qo.out _ _ _).mono ?_; rintro e w1 ⟨rfl, k1⟩))
  all_goals go_split_ands
  all_goals go_wp2
  all_goals go_ret
  all_goals exact ⟨rfl, by assumption⟩

/-- a block that holds the pointer to the keeper -/
def KBx (w : World) (b g : Nat) : Prop := w.heap[b]? = some (.cells #[.pointer (some ⟨g, 0, none⟩)] 48 (0, 0))
theorem KBx.c {w : World} {b g : Nat} (h : KBx w b g) : w.cell? ⟨b, 0, none⟩ = some (.pointer (some ⟨g, 0, none⟩)) := by unfold KBx at h; simp [World.cell?, h]
theorem KBx.lt {w : World} {b g : Nat} (h : KBx w b g) : b < w.heap.size := (Array.getElem?_eq_some_iff.1 h).1
theorem KBx.kept {w w' : World} {b g : Nat} {L : List Nat} (h : KBx w b g) (k : Kp L w w') (hb : b ∉ L) : KBx w' b g := (k.block b h.lt hb).trans h
/-- a call that leaves the keeper as it was -/
theorem kp_same_keeper {w w' : World} {g : Nat} {e : Int} (k : Kp [g] w w') (h : RE w g e) (h' : RE w' g e) : Kp [] w w' :=
  ⟨k.os, k.tape, k.output, k.size, fun i hi _ => by
    by_cases e : i = g
    · subst e; exact h'.trans h.symm
    · exact k.block i hi (by simpa using e), k.drawn⟩
set_option maxRecDepth 100000 in
set_option maxHeartbeats 4000000 in
theorem ord_2 (s t : ByteArray) (v : Int) (a b c d : Int) (kb g : Nat) (w : World) (hk : KBx w kb g) (hR : RE w g 0)
    (qs : Hid (∀ W : World, RE W g 0 → Calls Tryz.prog 67 #[.pointer (some ⟨g, 0, none⟩), .string s, .string t] W fun e w' => e = .returned (.int .i64 v) ∧ RE w' g 0 ∧ Kp [] W w')) :
    Calls Tryz.prog 66 #[.agg #[.string s, .int .i64 a, .int .i64 b], .agg #[.string t, .int .i64 c, .int .i64 d], .pointer (some ⟨kb, 0, none⟩)] w fun e w' => e = .returned (.int .i64 (or2 v (cmJ d b))) ∧ Kp [] w w' := by
  have qi : Hid (∀ (x y : Int) (W : World), Calls Tryz.prog 65 #[.int .i64 x, .int .i64 y] W fun e w' => e = .returned (.int .i64 (cmJ x y)) ∧ Kp [] W w') := Lib.hid fun x y W => compare_n x y W
  have qo := Lib.hid fun (x y : Int) (W : World) => qor2 x y W
  have e1 := (EnB.made w s a b).alloc (.cells #[.string t, .int .i64 c, .int .i64 d] 94 (0, 0))
  have e2 := EnB.made (w.alloc (.cells #[.string s, .int .i64 a, .int .i64 b] 94 (0, 0))) t c d
  rw [World.size_alloc] at e2
  have kk : Kp [] w ((w.alloc (.cells #[.string s, .int .i64 a, .int .i64 b] 94 (0, 0))).alloc (.cells #[.string t, .int .i64 c, .int .i64 d] 94 (0, 0))) := ((Kp.refl _ _).alloc _).alloc _
  have c0 := e1.c0
  have c1 := e1.c2
  have d0 := e2.c0
  have d1 := e2.c2
  have kc := (hk.kept kk (by simp)).c
  have hR2 := (hR.kept kk (by simp)).drew
  clear e1 e2 hk
  go_enter Tryz.func66, Tryz.ntmps66
  go_wp2_with fail
  go_region_held3 (fun w' => w'.cell? ⟨w.heap.size, 0, none⟩ = some (.string s) ∧ w'.cell? ⟨w.heap.size, 2, none⟩ = some (.int .i64 b) ∧ w'.cell? ⟨w.heap.size + 1, 0, none⟩ = some (.string t) ∧ w'.cell? ⟨w.heap.size + 1, 2, none⟩ = some (.int .i64 d) ∧ w'.cell? ⟨kb, 0, none⟩ = some (.pointer (some ⟨g, 0, none⟩)) ∧ RE w' g 0 ∧ Kp [] w w')
    (first
      | exact ⟨c0, c1, d0, d1, kc, hR2, kk.drew⟩
      | (go_split_ands
         exact ⟨kp_cell k1 (by simp) (by assumption), kp_cell k1 (by simp) (by assumption), kp_cell k1 (by simp) (by assumption), kp_cell k1 (by simp) (by assumption), kp_cell k1 (by simp) (by assumption), RE.kept (by assumption) k1 (by simp), Kp.trans (by assumption) k1⟩)
      | (go_split_ands
         exact ⟨kp_cell ((Kp.refl [] _).alloc _) (by simp) (by assumption), kp_cell ((Kp.refl [] _).alloc _) (by simp) (by assumption), kp_cell ((Kp.refl [] _).alloc _) (by simp) (by assumption), kp_cell ((Kp.refl [] _).alloc _) (by simp) (by assumption), kp_cell ((Kp.refl [] _).alloc _) (by simp) (by assumption), RE.alloc (by assumption) _, Kp.alloc (by assumption) _⟩)
      | go_keep)
    (first
      | (go_at_call 67; go_split_ands; refine (qs.out _ (by assumption)).mono ?_; rintro e w1 ⟨rfl, _, k1⟩)
      | (go_at_call 65; refine (qi.out _ _ _).mono ?_; rintro e w1 ⟨rfl, k1⟩)
      | (go_at_call 63; refine (qo.out _ _ _).mono ?_; rintro e w1 ⟨rfl, k1⟩))
  all_goals go_split_ands
  all_goals go_wp2
  all_goals go_ret
  all_goals exact ⟨rfl, by assumption⟩

end Go.Proofs.YtiommpdbbpddpaaGreat
