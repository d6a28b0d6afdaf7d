/- Features: equal datums. -/
import Derived.Test.YtgclljgdoonnmaaDoorQg5
import Derived.Test.YtgclljgdoonnmaaDoorQg4
namespace Go.Proofs.YtgclljgdoonnmaaDoor
open Go.RowKit

/-- two lists of one length, alike pair by pair -/
def eqL {α : Type} (p : α → α → Bool) : List α → List α → Bool
  | [], [] => true
  | x :: xs, y :: ys => p x y && eqL p xs ys
  | _, _ => false
theorem eqL_len {α : Type} {p : α → α → Bool} : ∀ {l m : List α}, l.length ≠ m.length → eqL p l m = false
  | [], [], h => absurd rfl h
  | [], _ :: _, _ => rfl
  | _ :: _, [], _ => rfl
  | x :: xs, y :: ys, h => by
    unfold eqL
    rw [eqL_len (l := xs) (m := ys) (by simpa using h), Bool.and_false]
theorem eqL_drop {α : Type} {p : α → α → Bool} {l m : List α} {i : Nat} {x y : α} (hx : l[i]? = some x) (hy : m[i]? = some y) : eqL p (l.drop i) (m.drop i) = (p x y && eqL p (l.drop (i + 1)) (m.drop (i + 1))) := by
  obtain ⟨h1, rfl⟩ := List.getElem?_eq_some_iff.1 hx
  obtain ⟨h2, rfl⟩ := List.getElem?_eq_some_iff.1 hy
  rw [List.drop_eq_getElem_cons h1, List.drop_eq_getElem_cons h2, eqL]
theorem eqL_end {α : Type} {p : α → α → Bool} {l m : List α} {i : Nat} (hl : l.length = i) (hm : m.length = i) : eqL p (l.drop i) (m.drop i) = true := by
  rw [List.drop_of_length_le (by omega), List.drop_of_length_le (by omega), eqL]
def datB (d e : DatT) : Bool := (d.1.toList == e.1.toList) && d.2 == e.2
def frB (f g : FrT) : Bool := f.k == g.k && f.d == g.d && f.t == g.t && f.m == g.m && eqL datB f.ds g.ds
theorem DatS.kb {w w' : World} {v : Value} {ds : List DatT} (h : DatS w v ds) (k : Kb w w') : DatS w' v ds := h.kx k.kx
theorem DatS.alloc {w : World} {v : Value} {ds : List DatT} (h : DatS w v ds) (o : Obj) : DatS (w.alloc o) v ds := h.kb ((Kb.refl _).alloc o)
theorem DatS.drew {w : World} {v : Value} {ds : List DatT} (h : DatS w v ds) : DatS w.drew v ds := h.kb (show Kb w w.drew from (Kb.refl _).drew)
set_option maxRecDepth 100000 in
set_option maxHeartbeats 1000000 in
theorem fS2_1 (s : ByteArray) (m : Int) (s2 : ByteArray) (m2 : Int)      (h1 : (s.toList == s2.toList) = true) (h2 : (m == m2) = true) (w : World)  : Calls Tryd.prog 86 #[.agg #[.string s, .int .i64 m], .agg #[.string s2, .int .i64 m2]] w fun r W' => r = .returned (.bool true) ∧ Kb w W' := by
  have kx := Kb.refl w
  have f1 := ((Is.made w #[.string s, .int .i64 m] 63).alloc (.cells #[.string s2, .int .i64 m2] 63 (0, 0))).c (i := 0) rfl
  have f2 := ((Is.made w #[.string s, .int .i64 m] 63).alloc (.cells #[.string s2, .int .i64 m2] 63 (0, 0))).c (i := 1) rfl
  have f3 := (Is.made (w.alloc (.cells #[.string s, .int .i64 m] 63 (0, 0))) #[.string s2, .int .i64 m2] 63).c (i := 0) rfl
  simp only [World.size_alloc] at f3
  have f4 := (Is.made (w.alloc (.cells #[.string s, .int .i64 m] 63 (0, 0))) #[.string s2, .int .i64 m2] 63).c (i := 1) rfl
  simp only [World.size_alloc] at f4
  go_enter Tryd.func86, Tryd.ntmps86
  go_wp2
  go_ret
  clear f1 f2 f3 f4
  replace kx := kx.alloc (.cells #[.string s, .int .i64 m] 63 (0, 0))
  replace kx := kx.alloc (.cells #[.string s2, .int .i64 m2] 63 (0, 0))
  exact ⟨rfl, kx⟩
set_option maxRecDepth 100000 in
set_option maxHeartbeats 1000000 in
theorem fS2_2 (s : ByteArray) (m : Int) (s2 : ByteArray) (m2 : Int)      (h1 : (s.toList == s2.toList) = true) (h2 : (m == m2) = false) (w : World)  : Calls Tryd.prog 86 #[.agg #[.string s, .int .i64 m], .agg #[.string s2, .int .i64 m2]] w fun r W' => r = .returned (.bool false) ∧ Kb w W' := by
  have kx := Kb.refl w
  have f1 := ((Is.made w #[.string s, .int .i64 m] 63).alloc (.cells #[.string s2, .int .i64 m2] 63 (0, 0))).c (i := 0) rfl
  have f2 := ((Is.made w #[.string s, .int .i64 m] 63).alloc (.cells #[.string s2, .int .i64 m2] 63 (0, 0))).c (i := 1) rfl
  have f3 := (Is.made (w.alloc (.cells #[.string s, .int .i64 m] 63 (0, 0))) #[.string s2, .int .i64 m2] 63).c (i := 0) rfl
  simp only [World.size_alloc] at f3
  have f4 := (Is.made (w.alloc (.cells #[.string s, .int .i64 m] 63 (0, 0))) #[.string s2, .int .i64 m2] 63).c (i := 1) rfl
  simp only [World.size_alloc] at f4
  go_enter Tryd.func86, Tryd.ntmps86
  go_wp2
  go_ret
  clear f1 f2 f3 f4
  replace kx := kx.alloc (.cells #[.string s, .int .i64 m] 63 (0, 0))
  replace kx := kx.alloc (.cells #[.string s2, .int .i64 m2] 63 (0, 0))
  exact ⟨rfl, kx⟩
set_option maxRecDepth 100000 in
set_option maxHeartbeats 1000000 in
theorem fS2_3 (s : ByteArray) (m : Int) (s2 : ByteArray) (m2 : Int)      (h1 : (s.toList == s2.toList) = false) (w : World)  : Calls Tryd.prog 86 #[.agg #[.string s, .int .i64 m], .agg #[.string s2, .int .i64 m2]] w fun r W' => r = .returned (.bool false) ∧ Kb w W' := by
  have kx := Kb.refl w
  have f1 := ((Is.made w #[.string s, .int .i64 m] 63).alloc (.cells #[.string s2, .int .i64 m2] 63 (0, 0))).c (i := 0) rfl
  have f2 := ((Is.made w #[.string s, .int .i64 m] 63).alloc (.cells #[.string s2, .int .i64 m2] 63 (0, 0))).c (i := 1) rfl
  have f3 := (Is.made (w.alloc (.cells #[.string s, .int .i64 m] 63 (0, 0))) #[.string s2, .int .i64 m2] 63).c (i := 0) rfl
  simp only [World.size_alloc] at f3
  have f4 := (Is.made (w.alloc (.cells #[.string s, .int .i64 m] 63 (0, 0))) #[.string s2, .int .i64 m2] 63).c (i := 1) rfl
  simp only [World.size_alloc] at f4
  go_enter Tryd.func86, Tryd.ntmps86
  go_wp2
  go_ret
  clear f1 f2 f3 f4
  replace kx := kx.alloc (.cells #[.string s, .int .i64 m] 63 (0, 0))
  replace kx := kx.alloc (.cells #[.string s2, .int .i64 m2] 63 (0, 0))
  exact ⟨rfl, kx⟩
set_option maxRecDepth 100000 in
theorem fS2_any (s : ByteArray) (m : Int) (s2 : ByteArray) (m2 : Int)    : Ca 86 #[.agg #[.string s, .int .i64 m], .agg #[.string s2, .int .i64 m2]] (if (s.toList == s2.toList) = true then (if (m == m2) = true then (.bool true) else (.bool false)) else (.bool false)) := Lib.hid fun w => by
  rcases Bool.eq_false_or_eq_true (s.toList == s2.toList) with h1 | h1
  · rw [if_pos h1]
    rcases Bool.eq_false_or_eq_true (m == m2) with h2 | h2
    · rw [if_pos h2]
      exact fS2_1 s m s2 m2 h1 h2 w
    · rw [if_neg (by rw [h2]; decide)]
      exact fS2_2 s m s2 m2 h1 h2 w
  · rw [if_neg (by rw [h1]; decide)]
    exact fS2_3 s m s2 m2 h1 w
theorem fDatB (d e : DatT) : Ca 86 #[.agg #[.string d.1, .int .i64 d.2], .agg #[.string e.1, .int .i64 e.2]] (.bool (datB d e)) := by
  have q := fS2_any d.1 d.2 e.1 e.2
  unfold datB
  rcases Bool.eq_false_or_eq_true (d.1.toList == e.1.toList) with h | h
  · rw [if_pos h] at q
    rcases Bool.eq_false_or_eq_true (d.2 == e.2) with h2 | h2
    · rw [if_pos h2] at q; rw [h, h2]; exact q
    · rw [if_neg (by rw [h2]; decide)] at q; rw [h, h2]; exact q
  · rw [if_neg (by rw [h]; decide)] at q; rw [h]; exact q
set_option maxRecDepth 100000 in
set_option maxHeartbeats 1000000 in
theorem fS1_1 (f : Int) (g : Bool) (t : Int) (m : Int) (p : Option Addr) (l : Nat) (c : Nat) (w : World)  : Calls Tryd.prog 85 #[.agg #[.int .i64 f, .bool g, .int .i64 t, .int .i64 m, .slice p l c]] w fun r W' => r = .returned (.tuple #[.agg #[.int .i64 f, .bool g, .int .i64 t, .int .i64 m], .slice p l c]) ∧ Kb w W' := by
  have kx := Kb.refl w
  go_enter Tryd.func85, Tryd.ntmps85
  go_wp2_with fail
  have b1 := Is.made w #[.int .i64 f, .bool g, .int .i64 t, .int .i64 m, .slice p l c] 61
  replace b1 := (b1.alloc (.cells #[.int .i64 0, .bool false, .int .i64 0, .int .i64 0] 119 (0, 0)))
  have b2 := Is.made (w.alloc (.cells #[.int .i64 f, .bool g, .int .i64 t, .int .i64 m, .slice p l c] 61 (0, 0))) #[.int .i64 0, .bool false, .int .i64 0, .int .i64 0] 119
  simp only [World.size_alloc] at b2
  replace kx := kx.alloc (.cells #[.int .i64 f, .bool g, .int .i64 t, .int .i64 m, .slice p l c] 61 (0, 0))
  replace kx := kx.alloc (.cells #[.int .i64 0, .bool false, .int .i64 0, .int .i64 0] 119 (0, 0))
  replace b1 := b1.drew
  replace b2 := b2.drew
  rw [oF_lit]
  refine o_law (⟨15, [some 4, some 5, some 6, some 7, some 8, some 9, some 10, some 11, some 12, some 13, some 14, none, some 3], [4, 5, 6, 7, 8, 9, 10, 11, 12, 13, 14, 2, 3], [[], [0], [], [2], [], [4], [], [6], [1, 3, 5, 7], [], [9], [8], [10]], [[1], [], [1], [], [1], [], [1], [], [], [1], [], [2], []]⟩ : OT) (Gz (w.heap.size + 1) #[.int .i64 0, .bool false, .int .i64 0, .int .i64 0] #[.int .i64 f, .bool g, .int .i64 t, .int .i64 m] 119) (RL [fun vv _ => vv = .pointer (some ⟨w.heap.size, 0, none⟩), fun vv _ => vv = .int .i64 f, fun vv _ => vv = .pointer (some ⟨w.heap.size, 1, none⟩), fun vv _ => vv = .bool g, fun vv _ => vv = .pointer (some ⟨w.heap.size, 2, none⟩), fun vv _ => vv = .int .i64 t, fun vv _ => vv = .pointer (some ⟨w.heap.size, 3, none⟩), fun vv _ => vv = .int .i64 m, fun vv _ => vv = .agg #[.int .i64 f, .bool g, .int .i64 t, .int .i64 m], fun vv _ => vv = .pointer (some ⟨w.heap.size, 4, none⟩), fun vv _ => vv = .slice p l c, fun _ ww => Is ww (w.heap.size + 1) #[.int .i64 f, .bool g, .int .i64 t, .int .i64 m] 119, fun vv _ => vv = .slice p l c]) (by kernel_rfl) ?hk ?hR ?fin
  case hk => kernel_rfl
  case hR =>
    refine ⟨fun _ => (Gz.refl _ _ _ _ _), fun _ _ _ => Gz.trans, rl_stab ⟨fun _ _ _ _ h => h, fun _ _ _ _ h => h, fun _ _ _ _ h => h, fun _ _ _ _ h => h, fun _ _ _ _ h => h, fun _ _ _ _ h => h, fun _ _ _ _ h => h, fun _ _ _ _ h => h, fun _ _ _ _ h => h, fun _ _ _ _ h => h, fun _ _ _ _ h => h, (fun v w w' k h => k.2.1 h), fun _ _ _ _ h => h, trivial⟩, ?_⟩
    refine allO_cons ?_ (allO_cons ?_ (allO_cons ?_ (allO_cons ?_ (allO_cons ?_ (allO_cons ?_ (allO_cons ?_ (allO_cons ?_ (allO_cons ?_ (allO_cons ?_ (allO_cons ?_ (allO_cons ?_ (allO_cons ?_ (allO_nil)))))))))))))
    · intro T w9 hG hD hO Q
      have q0 := hO.1
      have e0 : (oF 15 T).eval (.tmp 1) = .pointer (some ⟨w.heap.size, 0, none⟩) := (oF_eval (by decide)).trans (show T 1 = _ from q0)
      refine og_none rfl ?_
      exact o_val (v := .pointer (some ⟨w.heap.size, 0, none⟩)) (w' := w9) (by generalize (oF 15 T).eval = rr at *; simp [execOp, go_sem, e0]) rfl rfl (Gz.refl _ _ _ _ _)
    · intro T w9 hG hD hO Q
      have d0 := hD.1
      have e0 : (oF 15 T).eval (.tmp 4) = .pointer (some ⟨w.heap.size, 0, none⟩) := (oF_eval (by decide)).trans (show T 4 = _ from d0)
      refine og_none rfl ?_
      have im := b1.kx hG.1 (by simp only [List.mem_singleton]; omega)
      have m0 := im.c (i := 0) rfl
      clear im
      exact o_val (v := .int .i64 f) (w' := w9) (by generalize (oF 15 T).eval = rr at *; simp [execOp, go_sem, e0, m0]) rfl rfl (Gz.refl _ _ _ _ _)
    · intro T w9 hG hD hO Q
      have q0 := hO.1
      have e0 : (oF 15 T).eval (.tmp 1) = .pointer (some ⟨w.heap.size, 0, none⟩) := (oF_eval (by decide)).trans (show T 1 = _ from q0)
      refine og_none rfl ?_
      exact o_val (v := .pointer (some ⟨w.heap.size, 1, none⟩)) (w' := w9) (by generalize (oF 15 T).eval = rr at *; simp [execOp, go_sem, e0]) rfl rfl (Gz.refl _ _ _ _ _)
    · intro T w9 hG hD hO Q
      have d0 := hD.1
      have e0 : (oF 15 T).eval (.tmp 6) = .pointer (some ⟨w.heap.size, 1, none⟩) := (oF_eval (by decide)).trans (show T 6 = _ from d0)
      refine og_none rfl ?_
      have im := b1.kx hG.1 (by simp only [List.mem_singleton]; omega)
      have m0 := im.c (i := 1) rfl
      clear im
      exact o_val (v := .bool g) (w' := w9) (by generalize (oF 15 T).eval = rr at *; simp [execOp, go_sem, e0, m0]) rfl rfl (Gz.refl _ _ _ _ _)
    · intro T w9 hG hD hO Q
      have q0 := hO.1
      have e0 : (oF 15 T).eval (.tmp 1) = .pointer (some ⟨w.heap.size, 0, none⟩) := (oF_eval (by decide)).trans (show T 1 = _ from q0)
      refine og_none rfl ?_
      exact o_val (v := .pointer (some ⟨w.heap.size, 2, none⟩)) (w' := w9) (by generalize (oF 15 T).eval = rr at *; simp [execOp, go_sem, e0]) rfl rfl (Gz.refl _ _ _ _ _)
    · intro T w9 hG hD hO Q
      have d0 := hD.1
      have e0 : (oF 15 T).eval (.tmp 8) = .pointer (some ⟨w.heap.size, 2, none⟩) := (oF_eval (by decide)).trans (show T 8 = _ from d0)
      refine og_none rfl ?_
      have im := b1.kx hG.1 (by simp only [List.mem_singleton]; omega)
      have m0 := im.c (i := 2) rfl
      clear im
      exact o_val (v := .int .i64 t) (w' := w9) (by generalize (oF 15 T).eval = rr at *; simp [execOp, go_sem, e0, m0]) rfl rfl (Gz.refl _ _ _ _ _)
    · intro T w9 hG hD hO Q
      have q0 := hO.1
      have e0 : (oF 15 T).eval (.tmp 1) = .pointer (some ⟨w.heap.size, 0, none⟩) := (oF_eval (by decide)).trans (show T 1 = _ from q0)
      refine og_none rfl ?_
      exact o_val (v := .pointer (some ⟨w.heap.size, 3, none⟩)) (w' := w9) (by generalize (oF 15 T).eval = rr at *; simp [execOp, go_sem, e0]) rfl rfl (Gz.refl _ _ _ _ _)
    · intro T w9 hG hD hO Q
      have d0 := hD.1
      have e0 : (oF 15 T).eval (.tmp 10) = .pointer (some ⟨w.heap.size, 3, none⟩) := (oF_eval (by decide)).trans (show T 10 = _ from d0)
      refine og_none rfl ?_
      have im := b1.kx hG.1 (by simp only [List.mem_singleton]; omega)
      have m0 := im.c (i := 3) rfl
      clear im
      exact o_val (v := .int .i64 m) (w' := w9) (by generalize (oF 15 T).eval = rr at *; simp [execOp, go_sem, e0, m0]) rfl rfl (Gz.refl _ _ _ _ _)
    · intro T w9 hG hD hO Q
      have d0 := hD.1
      have d1 := hD.2.1
      have d2 := hD.2.2.1
      have d3 := hD.2.2.2.1
      have e0 : (oF 15 T).eval (.tmp 5) = .int .i64 f := (oF_eval (by decide)).trans (show T 5 = _ from d0)
      have e1 : (oF 15 T).eval (.tmp 7) = .bool g := (oF_eval (by decide)).trans (show T 7 = _ from d1)
      have e2 : (oF 15 T).eval (.tmp 9) = .int .i64 t := (oF_eval (by decide)).trans (show T 9 = _ from d2)
      have e3 : (oF 15 T).eval (.tmp 11) = .int .i64 m := (oF_eval (by decide)).trans (show T 11 = _ from d3)
      refine og_none rfl ?_
      exact o_val (v := .agg #[.int .i64 f, .bool g, .int .i64 t, .int .i64 m]) (w' := w9) (by generalize (oF 15 T).eval = rr at *; simp [execOp, go_sem, e0, e1, e2, e3]) rfl rfl (Gz.refl _ _ _ _ _)
    · intro T w9 hG hD hO Q
      have q0 := hO.1
      have e0 : (oF 15 T).eval (.tmp 1) = .pointer (some ⟨w.heap.size, 0, none⟩) := (oF_eval (by decide)).trans (show T 1 = _ from q0)
      refine og_none rfl ?_
      exact o_val (v := .pointer (some ⟨w.heap.size, 4, none⟩)) (w' := w9) (by generalize (oF 15 T).eval = rr at *; simp [execOp, go_sem, e0]) rfl rfl (Gz.refl _ _ _ _ _)
    · intro T w9 hG hD hO Q
      have d0 := hD.1
      have e0 : (oF 15 T).eval (.tmp 13) = .pointer (some ⟨w.heap.size, 4, none⟩) := (oF_eval (by decide)).trans (show T 13 = _ from d0)
      refine og_none rfl ?_
      have im := b1.kx hG.1 (by simp only [List.mem_singleton]; omega)
      have m0 := im.c (i := 4) rfl
      clear im
      exact o_val (v := .slice p l c) (w' := w9) (by generalize (oF 15 T).eval = rr at *; simp [execOp, go_sem, e0, m0]) rfl rfl (Gz.refl _ _ _ _ _)
    · intro T w9 hG hD hO Q
      have d0 := hD.1
      have q0 := hO.1
      have e0 : (oF 15 T).eval (.tmp 2) = .pointer (some ⟨w.heap.size + 1, 0, none⟩) := (oF_eval (by decide)).trans (show T 2 = _ from q0)
      have e1 : (oF 15 T).eval (.tmp 12) = .agg #[.int .i64 f, .bool g, .int .i64 t, .int .i64 m] := (oF_eval (by decide)).trans (show T 12 = _ from d0)
      refine og_none rfl ?_
      have io : Is w9 (w.heap.size + 1) #[.int .i64 0, .bool false, .int .i64 0, .int .i64 0] 119 ∨ Is w9 (w.heap.size + 1) #[.int .i64 f, .bool g, .int .i64 t, .int .i64 m] 119 := hG.2.2 (.inl b2)
      rcases io with io | io
      · have zn := io
        replace zn : Is (w9.setCell ⟨w.heap.size + 1, 0, none⟩ (.int .i64 f)) (w.heap.size + 1) #[.int .i64 f, .bool false, .int .i64 0, .int .i64 0] 119 := zn.set 0 _
        replace zn : Is ((w9.setCell ⟨w.heap.size + 1, 0, none⟩ (.int .i64 f)).setCell ⟨w.heap.size + 1, 1, none⟩ (.bool g)) (w.heap.size + 1) #[.int .i64 f, .bool g, .int .i64 0, .int .i64 0] 119 := zn.set 1 _
        replace zn : Is (((w9.setCell ⟨w.heap.size + 1, 0, none⟩ (.int .i64 f)).setCell ⟨w.heap.size + 1, 1, none⟩ (.bool g)).setCell ⟨w.heap.size + 1, 2, none⟩ (.int .i64 t)) (w.heap.size + 1) #[.int .i64 f, .bool g, .int .i64 t, .int .i64 0] 119 := zn.set 2 _
        replace zn : Is ((((w9.setCell ⟨w.heap.size + 1, 0, none⟩ (.int .i64 f)).setCell ⟨w.heap.size + 1, 1, none⟩ (.bool g)).setCell ⟨w.heap.size + 1, 2, none⟩ (.int .i64 t)).setCell ⟨w.heap.size + 1, 3, none⟩ (.int .i64 m)) (w.heap.size + 1) #[.int .i64 f, .bool g, .int .i64 t, .int .i64 m] 119 := zn.set 3 _
        have pt := (((((Pt.refl (w.heap.size + 1) w9).set 0 (.int .i64 f)).set 1 (.bool g)).set 2 (.int .i64 t)).set 3 (.int .i64 m))
        have m0 := io.c (i := 0) rfl
        have f0 := io.f 0
        have m1 := io.c (i := 1) rfl
        have f1 := io.f 1
        have m2 := io.c (i := 2) rfl
        have f2 := io.f 2
        have m3 := io.c (i := 3) rfl
        have f3 := io.f 3
        clear io
        exact o_skip (w' := ((((w9.setCell ⟨w.heap.size + 1, 0, none⟩ (.int .i64 f)).setCell ⟨w.heap.size + 1, 1, none⟩ (.bool g)).setCell ⟨w.heap.size + 1, 2, none⟩ (.int .i64 t)).setCell ⟨w.heap.size + 1, 3, none⟩ (.int .i64 m))) (by generalize (oF 15 T).eval = rr at *; simp [execOp, go_sem, e0, e1, m0, f0, m1, f1, m2, f2, m3, f3]) rfl zn (pt.gz zn)
      · have zn := io
        replace zn : Is (w9.setCell ⟨w.heap.size + 1, 0, none⟩ (.int .i64 f)) (w.heap.size + 1) #[.int .i64 f, .bool g, .int .i64 t, .int .i64 m] 119 := zn.set 0 _
        replace zn : Is ((w9.setCell ⟨w.heap.size + 1, 0, none⟩ (.int .i64 f)).setCell ⟨w.heap.size + 1, 1, none⟩ (.bool g)) (w.heap.size + 1) #[.int .i64 f, .bool g, .int .i64 t, .int .i64 m] 119 := zn.set 1 _
        replace zn : Is (((w9.setCell ⟨w.heap.size + 1, 0, none⟩ (.int .i64 f)).setCell ⟨w.heap.size + 1, 1, none⟩ (.bool g)).setCell ⟨w.heap.size + 1, 2, none⟩ (.int .i64 t)) (w.heap.size + 1) #[.int .i64 f, .bool g, .int .i64 t, .int .i64 m] 119 := zn.set 2 _
        replace zn : Is ((((w9.setCell ⟨w.heap.size + 1, 0, none⟩ (.int .i64 f)).setCell ⟨w.heap.size + 1, 1, none⟩ (.bool g)).setCell ⟨w.heap.size + 1, 2, none⟩ (.int .i64 t)).setCell ⟨w.heap.size + 1, 3, none⟩ (.int .i64 m)) (w.heap.size + 1) #[.int .i64 f, .bool g, .int .i64 t, .int .i64 m] 119 := zn.set 3 _
        have pt := (((((Pt.refl (w.heap.size + 1) w9).set 0 (.int .i64 f)).set 1 (.bool g)).set 2 (.int .i64 t)).set 3 (.int .i64 m))
        have m0 := io.c (i := 0) rfl
        have f0 := io.f 0
        have m1 := io.c (i := 1) rfl
        have f1 := io.f 1
        have m2 := io.c (i := 2) rfl
        have f2 := io.f 2
        have m3 := io.c (i := 3) rfl
        have f3 := io.f 3
        clear io
        exact o_skip (w' := ((((w9.setCell ⟨w.heap.size + 1, 0, none⟩ (.int .i64 f)).setCell ⟨w.heap.size + 1, 1, none⟩ (.bool g)).setCell ⟨w.heap.size + 1, 2, none⟩ (.int .i64 t)).setCell ⟨w.heap.size + 1, 3, none⟩ (.int .i64 m))) (by generalize (oF 15 T).eval = rr at *; simp [execOp, go_sem, e0, e1, m0, f0, m1, f1, m2, f2, m3, f3]) rfl zn (pt.gz zn)
    · intro T w9 hG hD hO Q
      have d0 := hD.1
      have e0 : (oF 15 T).eval (.tmp 14) = .slice p l c := (oF_eval (by decide)).trans (show T 14 = _ from d0)
      refine og_none rfl ?_
      exact o_val (v := .slice p l c) (w' := w9) (by generalize (oF 15 T).eval = rr at *; simp [execOp, go_sem, e0]) rfl rfl (Gz.refl _ _ _ _ _)
  case fin =>
    intro T w1 hout hval hG
    have s1 := hG.1.2.2.2.1
    simp only [World.size_drew, World.size_alloc] at s1
    rw [show oF 15 T = (⟨#[T 0, T 1, T 2, T 3, T 4, T 5, T 6, T 7, T 8, T 9, T 10, T 11, T 12, T 13, T 14], []⟩ : Act) from oF_list 15 T]
    rw [show T 0 = .agg #[.int .i64 f, .bool g, .int .i64 t, .int .i64 m, .slice p l c] from hout 0 rfl]
    rw [show T 2 = .pointer (some ⟨w.heap.size + 1, 0, none⟩) from hout 2 rfl]
    rw [show T 3 = .slice p l c from hval 12 (by decide : 12 < 13)]
    replace b1 := b1.kx hG.1 (by simp only [List.mem_singleton]; omega)
    replace b2 := hval 11 (by decide)
    replace b2 : Is _ (w.heap.size + 1) #[.int .i64 f, .bool g, .int .i64 t, .int .i64 m] 119 := b2
    replace kx := hG.1.old kx.drew (by intro x hx; simp only [List.mem_singleton] at hx; subst hx; omega)
    clear hout hval hG
    go_wp2
    refine ret_row2 Tryd.results85 rfl rfl rfl b2 Tryd.underlying119 rfl (by kernel_rfl) ?_
    exact ⟨rfl, kx⟩
set_option maxRecDepth 100000 in
theorem fS1_any (f : Int) (g : Bool) (t : Int) (m : Int) (p : Option Addr) (l : Nat) (c : Nat)    : Ca 85 #[.agg #[.int .i64 f, .bool g, .int .i64 t, .int .i64 m, .slice p l c]] (.tuple #[.agg #[.int .i64 f, .bool g, .int .i64 t, .int .i64 m], .slice p l c]) := Lib.hid fun w => by
  exact fS1_1 f g t m p l c w
set_option maxRecDepth 100000 in
set_option maxHeartbeats 2000000 in
theorem cEqDat (pa pb : Option Addr) (la ca lb cb : Nat) (us vs : List DatT) (w : World) (hA : DatS w (.slice pa la ca) us) (hB : DatS w (.slice pb lb cb) vs) (hbd : la ≤ 1000000) : Calls Tryd.prog 90 #[.slice pa la ca, .slice pb lb cb, .func (.func 86) #[] #[]] w fun r W' => r = .returned (.bool (eqL datB us vs)) ∧ Kb w W' := by
  have hla := hA.len
  have hlb := hB.len
  by_cases hne : la = lb
  · subst hne
    have H0 : Hid (eqL datB us vs = eqL datB (us.drop 0) (vs.drop 0)) := rfl
    have HE : Hid (eqL datB (us.drop la) (vs.drop la) = true) := eqL_end hla.symm hlb.symm
    have HA := Lib.hid hA
    have HB := Lib.hid hB
    have HLA := Lib.hid hla
    have HLB := Lib.hid hlb
    clear hA hB hla hlb
    have en : ∀ args W, (callFunc 86 args).run Tryd.prog W = .ok (.enter 86 args) W := enters_of Tryd.func86 (by kernel_rfl) rfl
    go_enter Tryd.func90, Tryd.ntmps90
    go_wp2
    go_loopg [17] la (fun gk s17 wr => ∃ i : Nat, s17 = .int .i64 i ∧ i + gk = la ∧ Hid (eqL datB us vs = eqL datB (us.drop i) (vs.drop i)) ∧ Kb w wr)
    case atStart => exact ⟨0, rfl, by omega, H0, Kb.refl _⟩
    case round =>
      obtain ⟨i, rfl, hi, hE, kx⟩ := hrel
      have hi0 : (0 : Int) ≤ (i : Int) := by omega
      by_cases hlt : i < la
      · have hA1 := HA.out.kb kx
        have hB1 := HB.out.kb kx
        obtain ⟨b, off, rfl, hat⟩ := hA1.at (by omega)
        obtain ⟨b2, off2, rfl, hat2⟩ := hB1.at (by omega)
        obtain ⟨x, hx⟩ : ∃ x, us[i]? = some x := ⟨_, List.getElem?_eq_getElem (by have := HLA.out; omega)⟩
        obtain ⟨y, hy⟩ : ∃ y, vs[i]? = some y := ⟨_, List.getElem?_eq_getElem (by have := HLB.out; omega)⟩
        obtain ⟨x0, x1⟩ := hat i x hx
        obtain ⟨y0, y1⟩ := hat2 i y hy
        have qy0 := cell_al y0 (.cells #[.string x.1, .int .i64 x.2] 63 (0, 0))
        have qy1 := cell_al y1 (.cells #[.string x.1, .int .i64 x.2] 63 (0, 0))
        have hD := eqL_drop (p := datB) hx hy
        have Hi := Lib.hid hi
        have k1 := (kx.alloc (.cells #[.string x.1, .int .i64 x.2] 63 (0, 0))).alloc (.cells #[.string y.1, .int .i64 y.2] 63 (0, 0))
        have i0 := (Is.made wr #[.string x.1, .int .i64 x.2] 63).alloc (.cells #[.string y.1, .int .i64 y.2] 63 (0, 0))
        have i1 := Is.made (wr.alloc (.cells #[.string x.1, .int .i64 x.2] 63 (0, 0))) #[.string y.1, .int .i64 y.2] 63
        rw [World.size_alloc] at i1
        have f0 := i0.c (i := 0) rfl
        have f1 := i0.c (i := 1) rfl
        have g0 := i1.c (i := 0) rfl
        have g1 := i1.c (i := 1) rfl
        skip
        clear hat hat2 hx hy hA1 hB1 i0 i1
        rcases Bool.eq_false_or_eq_true (datB x y) with hp | hp
        · have hE2 : Hid (eqL datB us vs = eqL datB (us.drop (i + 1)) (vs.drop (i + 1))) := hE.out.trans (hD.trans (by rw [hp, Bool.true_and]))
          clear hD hE hi
          have Q := Lib.hid (fun W => Ca.o (fDatB x y) W)
          rw [hp] at Q
          clear hp
          go_wp2_with fail
          (with_reducible refine (Q.out _ ).mono ?_)
          rintro r w1 ⟨rfl, k2⟩
          go_wp2
          have hi := Hi.out
          go_roundg (gk - 1)
          case measure => omega
          case rel => exact ⟨i + 1, by go_num, by omega, hE2, k1.trans k2⟩
        · have hE2 : Hid (eqL datB us vs = false) := hE.out.trans (hD.trans (by rw [hp, Bool.false_and]))
          clear hD hE hi
          have Q := Lib.hid (fun W => Ca.o (fDatB x y) W)
          rw [hp] at Q
          clear hp
          go_wp2_with fail
          (with_reducible refine (Q.out _ ).mono ?_)
          rintro r w1 ⟨rfl, k2⟩
          go_wp2
          go_ret
          exact ⟨by rw [hE2.out]; rfl, k1.trans k2⟩
      · obtain rfl : i = la := by omega
        have hE2 : Hid (eqL datB us vs = true) := hE.out.trans HE.out
        clear hi hE HE
        go_wp2
        go_ret
        exact ⟨by rw [hE2.out]; rfl, kx⟩
  · have hE : Hid (eqL datB us vs = false) := eqL_len (by omega)
    have hn : ((la : Int) != (lb : Int)) = true := by simp; omega
    clear hA hB hla hlb
    go_enter Tryd.func90, Tryd.ntmps90
    go_wp2
    go_ret
    exact ⟨by rw [hE.out]; rfl, Kb.refl _⟩
end Go.Proofs.YtgclljgdoonnmaaDoor
