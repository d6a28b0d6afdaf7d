/- Texts Ock: each says in its own first comment what it proves. -/
import Derived.Test.YtlimjohnimgnhaaGreatDoorM34
import Derived.Shelf.Abstract
/- Checks: functions without parameters that give an error; the first error of several. -/
namespace Go.Proofs.YtlimjohnimgnhaaGreatDoor
open Go.RowKit

/-- v is a check: whenever it is called (meanwhile the blocks L may have been written) it gives e -/
def Ck (L : List Nat) (v : Value) (e : Int) (w : World) : Prop :=
  ∃ (F : Nat) (caps : Array Value), v = .func (.func F) #[] caps ∧ (∀ args W, (callFunc F args).run Tryz.prog W = .ok (.enter F args) W) ∧ ∀ W, Kx L w W → Calls Tryz.prog F caps W fun r W' => r = .returned (.int .i64 e) ∧ Kb W W'
theorem Ck.kx {L : List Nat} {v : Value} {e : Int} {w w' : World} (h : Ck L v e w) (k : Kx L w w') : Ck L v e w' := by
  obtain ⟨F, caps, h1, h2, h3⟩ := h
  exact ⟨F, caps, h1, h2, fun W hW => h3 W (k.trans hW)⟩
/-- v is a slice of rows of k cells -/
def Sl (L : List Nat) (k : Nat) (w : World) (v : Value) (rows : List (List Value)) : Prop :=
  ∃ (p : Option Addr) (cap : Nat), v = .slice p rows.length cap ∧ (0 < rows.length → ∃ b off, p = some ⟨b, off, none⟩ ∧ b < w.heap.size ∧ b ∉ L ∧ ∀ i, i < rows.length → ∀ j, j < k → w.cell? ⟨b, off + i * k + j, none⟩ = some ((rows.getD i []).getD j undef))
theorem Sl.kx {L : List Nat} {k : Nat} {v : Value} {rows : List (List Value)} {w w' : World} (h : Sl L k w v rows) (hk : Kx L w w') : Sl L k w' v rows := by
  obtain ⟨p, cap, h1, h2⟩ := h
  refine ⟨p, cap, h1, fun hp => ?_⟩
  obtain ⟨b, off, h3, h4, h5, h6⟩ := h2 hp
  exact ⟨b, off, h3, Nat.lt_of_lt_of_le h4 hk.2.2.2.1, h5, fun i hi j hj => (World.cell?_of_block (w := w) (hk.2.2.2.2 b h4 h5)).trans (h6 i hi j hj)⟩
theorem Sl.kb {L : List Nat} {k : Nat} {v : Value} {rows : List (List Value)} {w w' : World} (h : Sl L k w v rows) (hk : Kb w w') : Sl L k w' v rows := h.kx hk.kx
theorem Sl.none {L : List Nat} {k : Nat} {v : Value} {rows : List (List Value)} {w : World} (h : Sl L k w v rows) : Sl [] k w v rows := by
  obtain ⟨p, cap, h1, h2⟩ := h
  refine ⟨p, cap, h1, fun hp => ?_⟩
  obtain ⟨b, off, h3, h4, _, h6⟩ := h2 hp
  exact ⟨b, off, h3, h4, by simp, h6⟩
theorem sl_is {L : List Nat} {k b n : Nat} {T : TypeId} {w : World} {rows : List (List Value)} {cs : Array Value} (h : Is w b cs T) (hL : b ∉ L) (hn : rows.length = n) (hc : ∀ i, i < rows.length → ∀ j, j < k → cs[i * k + j]? = some ((rows.getD i []).getD j undef)) : Sl L k w (.slice (some ⟨b, 0, .none⟩) n n) rows :=
  ⟨some ⟨b, 0, .none⟩, n, by rw [hn], fun _ => ⟨b, 0, rfl, h.lt, hL, fun i hi j hj => by rw [Nat.zero_add]; exact h.c (hc i hi j hj)⟩⟩
theorem rows_ok {k : Nat} : ∀ {rows : List (List Value)} {cs : Array Value}, cs.toList = rows.flatten → (rows.all fun r => r.length == k) = true → ∀ i, i < rows.length → ∀ j, j < k → cs[i * k + j]? = some ((rows.getD i []).getD j undef) := by
  have main : ∀ {rows : List (List Value)}, (rows.all fun r => r.length == k) = true → ∀ i, i < rows.length → ∀ j, j < k → rows.flatten[i * k + j]? = some ((rows.getD i []).getD j undef) := by
    intro rows
    induction rows with
    | nil => intro _ i hi; simp at hi
    | cons r rows ih =>
      intro h i hi j hj
      rw [List.all_cons, Bool.and_eq_true, beq_iff_eq] at h
      rw [List.flatten_cons]
      cases i with
      | zero =>
        rw [Nat.zero_mul, Nat.zero_add, List.getElem?_append_left (by omega)]
        simp [List.getD_eq_getElem?_getD, show j < r.length by omega]
      | succ i =>
        rw [List.getElem?_append_right (by rw [h.1, Nat.succ_mul]; omega), h.1, show (i + 1) * k + j - k = i * k + j by rw [Nat.succ_mul]; omega, ih h.2 i (by simpa using hi) j hj]
        simp
  intro rows cs h h2 i hi j hj
  rw [← Array.getElem?_toList, h]
  exact main h2 i hi j hj
/-- v is a slice of checks -/
def SlC (L : List Nat) (es : List Int) (v : Value) (w : World) : Prop := ∃ fs : List Value, fs.length = es.length ∧ Sl L 1 w v (fs.map fun x => [x]) ∧ ∀ i, i < es.length → Ck L (fs.getD i undef) (es.getD i 0) w
theorem SlC.kx {L : List Nat} {es : List Int} {v : Value} {w w' : World} (h : SlC L es v w) (hk : Kx L w w') : SlC L es v w' := by
  obtain ⟨fs, h1, h2, h3⟩ := h
  exact ⟨fs, h1, h2.kx hk, fun i hi => (h3 i hi).kx hk⟩
def AllC (L : List Nat) (w : World) : List Value → List Int → Prop
  | v :: vs, e :: es => Ck L v e w ∧ AllC L w vs es
  | _, _ => True
theorem cks_ok {L : List Nat} {w : World} : ∀ {fs : List Value} {es : List Int}, AllC L w fs es → fs.length = es.length → ∀ i, i < es.length → Ck L (fs.getD i undef) (es.getD i 0) w
  | [], [], _, _, i, hi => absurd hi (by simp)
  | [], e :: es, _, hl, i, hi => absurd hl (by simp)
  | v :: vs, [], _, hl, i, hi => absurd hl (by simp)
  | v :: vs, e :: es, h, hl, 0, _ => h.1
  | v :: vs, e :: es, h, hl, i + 1, hi => cks_ok (fs := vs) (es := es) h.2 (by simpa using hl) i (by simpa using hi)
/-- the first error -/
def firstE : List Int → Int
  | [] => 0
  | e :: l => if e = 0 then firstE l else e
theorem firstE_drop {es : List Int} {k : Nat} (h : k < es.length) : firstE (es.drop k) = if es.getD k 0 = 0 then firstE (es.drop (k + 1)) else es.getD k 0 := by
  rw [List.drop_eq_getElem_cons h, firstE, List.getD_eq_getElem?_getD, List.getElem?_eq_getElem h]
  rfl
abbrev fE (b : Bool) (e : Int) : Int := if b = true then e else 0
/-- what is left of a value beside an error -/
def zI (e : Int) (z : Int) : Int := if e = 0 then z else 0
def zB (e : Int) (b : Bool) : Bool := if e = 0 then b else false
def AllF (F : Nat) : List Value → List Int → Prop
  | v :: vs, e :: es => Ca F #[v] (.int .i64 e) ∧ AllF F vs es
  | _, _ => True
theorem each_at {F : Nat} : ∀ {vs : List Value} {es : List Int}, AllF F vs es → vs.length = es.length → ∀ i, i < vs.length → Ca F #[vs.getD i undef] (.int .i64 (es.getD i 0))
  | [], [], _, _, i, hi => absurd hi (by simp)
  | [], e :: es, _, hl, i, hi => absurd hl (by simp)
  | v :: vs, [], _, hl, i, hi => absurd hl (by simp)
  | v :: vs, e :: es, h, hl, 0, _ => h.1
  | v :: vs, e :: es, h, hl, i + 1, hi => each_at (vs := vs) (es := es) h.2 (by simpa using hl) i (by simpa using hi)
theorem each_ok {α : Type} {F : Nat} {val : α → Value} {d : α} {xs : List α} {es : List Int} (h : AllF F (xs.map val) es) (hl : (xs.map val).length = es.length) : ∀ i, i < xs.length → Ca F #[val (xs.getD i d)] (.int .i64 (es.getD i 0)) := fun i hi => by
  have := each_at h hl i (by simpa using hi)
  have e : (xs.map val).getD i undef = val (xs.getD i d) := by simp [List.getD_eq_getElem?_getD, hi]
  rwa [e] at this

set_option maxRecDepth 100000 in
set_option maxHeartbeats 2000000 in
theorem cFirst (L : List Nat) (es : List Int) (v : Value) (w : World) (h : SlC L es v w) (hn : es.length ≤ 1000) : Calls Tryz.prog 39 #[v] w fun r W' => r = .returned (.int .i64 (firstE es)) ∧ Kb w W' := by
  obtain ⟨fs, hl, ⟨p, cap, hv, hs⟩, hc⟩ := h
  rw [List.length_map, hl] at hv hs
  rw [hv]
  have HS := Lib.hid hs
  have HC := Lib.hid hc
  have H0 : Hid (firstE es = firstE (es.drop 0)) := rfl
  generalize hN : es.length = n at *
  have HD := Lib.hid (fun k (hk : k < n) => firstE_drop (es := es) (k := k) (by omega))
  have HE : Hid (firstE (es.drop n) = 0) := by rw [List.drop_of_length_le (by omega)]; rfl
  have HL := Lib.hid hl
  have HN := Lib.hid hN
  clear hs hc hv hl hN
  go_enter Tryz.func39, Tryz.ntmps39
  go_wp2
  go_loopg [4, 5, 8] n (fun gk s4 s5 s8 wr => ∃ k : Nat, s8 = .int .i64 k ∧ k + gk = n ∧ Hid (firstE es = firstE (es.drop k)) ∧ Kb w wr)
  case atStart => exact ⟨0, rfl, by omega, H0, Kb.refl _⟩
  case round =>
    obtain ⟨k, rfl, hk, hE, kk⟩ := hrel
    have hk0 : (0 : Int) ≤ (k : Int) := by omega
    by_cases hlt : k < n
    · obtain ⟨b, off, rfl, hb, hbL, hcell⟩ := HS.out (by omega)
      have hx := kk.cell (hcell k hlt 0 (by omega))
      rw [Nat.mul_one, Nat.add_zero] at hx
      have hfk : ((fs.map fun x => [x]).getD k []).getD 0 undef = fs.getD k undef := by
        have : k < fs.length := by rw [HL.out]; exact hlt
        simp [List.getD_eq_getElem?_getD, this]
      rw [hfk] at hx
      obtain ⟨F, caps, hf, he, hcal⟩ := HC.out k (by omega)
      rw [hf] at hx
      have hD := HD.out k hlt
      have hcal2 := Lib.hid (hcal wr kk.kx)
      generalize es.getD k 0 = e at *
      have Hk := Lib.hid hk
      clear hcell hfk hf hcal
      by_cases h0 : e = 0
      · have hE2 : Hid (firstE es = firstE (es.drop (k + 1))) := hE.out.trans (hD.trans (if_pos h0))
        subst h0
        clear hD hE hk
        go_wp2_with (go_at_fn F; (with_reducible refine (hcal2.out).mono ?_); rintro r w1 ⟨rfl, k1⟩)
        have hk := Hk.out
        go_roundg (gk - 1)
        case measure => omega
        case rel => exact ⟨k + 1, by go_num, by omega, hE2, kk.trans k1⟩
      · have hE2 : Hid (firstE es = e) := hE.out.trans (hD.trans (if_neg h0))
        have hne : (e != 0) = true := by simpa using h0
        clear hD hE hk h0
        go_wp2_with (go_at_fn F; (with_reducible refine (hcal2.out).mono ?_); rintro r w1 ⟨rfl, k1⟩)
        go_ret
        exact ⟨by rw [hE2.out]; rfl, kk.trans k1⟩
    · obtain rfl : k = n := by omega
      have hE2 : Hid (firstE es = 0) := hE.out.trans HE.out
      clear hk hE HE
      go_wp2
      go_ret
      exact ⟨by rw [hE2.out]; rfl, kk⟩

set_option maxRecDepth 100000 in
set_option maxHeartbeats 2000000 in
theorem cWhen1 (b : Bool) (e : Int) (p q : Nat) (w : World) (h1 : w.cell? ⟨p, 0, none⟩ = some (.bool b)) (h2 : w.cell? ⟨q, 0, none⟩ = some (.int .i64 e)) : Calls Tryz.prog 94 #[.pointer (some ⟨p, 0, none⟩), .pointer (some ⟨q, 0, none⟩)] w fun r W' => r = .returned (.int .i64 (fE b e)) ∧ Kb w W' := by
  cases b
  · go_enter Tryz.func94, Tryz.ntmps94
    go_wp2
    go_ret
    exact ⟨rfl, Kb.refl _⟩
  · go_enter Tryz.func94, Tryz.ntmps94
    go_wp2
    go_ret
    exact ⟨rfl, Kb.refl _⟩
set_option maxRecDepth 100000 in
set_option maxHeartbeats 2000000 in
theorem cWhen (L : List Nat) (b : Bool) (e : Int) (w : World) (hL : ∀ x ∈ L, x < w.heap.size) : Calls Tryz.prog 47 #[.bool b, .int .i64 e] w fun r W' => ∃ v, r = .returned v ∧ Ck L v (fE b e) W' ∧ Kb w W' := by
  have kk := ((Kb.refl w).alloc (.cells #[.bool b] 4 (0, 0))).alloc (.cells #[.int .i64 e] 35 (0, 0))
  have b0 := (Is.made w #[.bool b] 4).alloc (.cells #[.int .i64 e] 35 (0, 0))
  have b1 := Is.made (w.alloc (.cells #[.bool b] 4 (0, 0))) #[.int .i64 e] 35
  rw [World.size_alloc] at b1
  have HL := Lib.hid hL
  clear hL
  have R : Ck L (.func (.func 94) #[] #[.pointer (some ⟨w.heap.size, 0, none⟩), .pointer (some ⟨w.heap.size + 1, 0, none⟩)]) (fE b e) ((w.alloc (.cells #[.bool b] 4 (0, 0))).alloc (.cells #[.int .i64 e] 35 (0, 0))) := by
    refine ⟨_, _, rfl, enters_of Tryz.func94 (by kernel_rfl) rfl, fun W hW => ?_⟩
    exact cWhen1 b e _ _ W ((b0.kx hW (fun hx => by have := HL.out _ hx; omega)).c rfl) ((b1.kx hW (fun hx => by have := HL.out _ hx; omega)).c rfl)
  have HR := Lib.hid R
  clear R b0 b1 HL
  go_enter Tryz.func47, Tryz.ntmps47
  go_wp2
  go_ret
  exact ⟨_, rfl, HR.out, kk⟩
end Go.Proofs.YtlimjohnimgnhaaGreatDoor
