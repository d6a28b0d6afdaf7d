/- Texts OpenTxt, OpenSpn, Il1: each says in its own first comment what it proves. -/
import Derived.Test.YtabepobcmpmkdaaGreatRows
import Derived.ProofKit
import Derived.ChangeMaps5
import Derived.Carry
import Derived.Test.YtabepobcmpmkdaaGreatM78
import Derived.Deep.SlicePairs
import Derived.ChangeArms
import Derived.Test.YtabepobcmpmkdaaGreatM81
import Derived.Test.YtabepobcmpmkdaaGreatM76
/- A struct of texts, opened: its cells are texts. -/
namespace Go.Proofs.YtabepobcmpmkdaaGreat
open Go.ChangeShapes Go.WideShapes Go.ChangeAt Go.RowKit

def isStr : Option TypeDesc → Bool
  | some .string => true
  | _ => false
theorem isStr_eq {x : Option TypeDesc} (h : isStr x = true) : x = some .string := by
  unfold isStr at h
  split at h
  · rfl
  · cases h
/-- all cells of a type are texts -/
def textT (P : Program) (t : TypeId) (N : Nat) : Bool := (P.cellsOf t == N) && (match P.cellTypes P.depth t with | some ts => ts.all fun u => isStr (P.underlying u) | none => false)
theorem open_texts {P : Program} {w : World} {r : Reach} {base : Nat} {t : TypeId} {v : Value} {N : Nat} (hf : textT P t N = true)
    (h : ∃ cs, v = .agg cs ∧ cs.size = P.cellsOf t ∧ Row.okWide P w r base t cs) :
    ∃ zs : List ByteArray, zs.length = N ∧ (∀ z ∈ zs, z.size ≤ 9223372036854775807) ∧ v = .agg (zs.map Value.string).toArray := by
  obtain ⟨cs, rfl, hsz, ts, hts, _, hc⟩ := h
  unfold textT at hf
  rw [hts, Bool.and_eq_true, beq_iff_eq] at hf
  obtain ⟨hN, hall⟩ := hf
  rw [hN] at hsz
  have hel : ∀ i (hi : i < cs.size), ∃ z, cs[i] = .string z ∧ z.size ≤ 9223372036854775807 := by
    intro i hi
    obtain ⟨u, hu, ho⟩ := hc i cs[i] (Array.getElem?_eq_getElem hi)
    have hu2 := isStr_eq (List.all_eq_true.1 hall u (List.mem_of_getElem? hu))
    unfold Cell.okWide at ho
    rw [hu2] at ho
    unfold Cell.ok at ho
    rw [hu2] at ho
    generalize cs[i] = c at *
    cases c <;> simp at ho
    rename_i z
    refine ⟨z, rfl, ?_⟩
    have h2 : IntKind.i64.max = 9223372036854775807 := rfl
    omega
  let f : Fin cs.size → ByteArray := fun i => (hel i i.2).choose
  have hfz : ∀ i, cs[i.1] = .string (f i) ∧ (f i).size ≤ 9223372036854775807 := fun i => (hel i i.2).choose_spec
  refine ⟨List.ofFn f, by simp [hsz], ?_, ?_⟩
  · intro z hz
    obtain ⟨i, rfl⟩ := (List.mem_ofFn).1 hz
    exact (hfz i).2
  · congr 1
    apply Array.ext
    · simp
    · intro i h1 h2
      simp [(hfz ⟨i, h1⟩).1]
theorem open_text2 {P : Program} {w : World} {r : Reach} {base : Nat} {t : TypeId} {v : Value} {fs : Array Field} (hu : P.underlying t = some (.struct fs)) (hf : textT P t 2 = true) (h : Value.okWide P w r base t v) :
    ∃ x y : ByteArray, x.size ≤ 9223372036854775807 ∧ y.size ≤ 9223372036854775807 ∧ v = .agg #[.string x, .string y] := by
  unfold Value.okWide at h
  rw [hu] at h
  obtain ⟨zs, hl, hz, rfl⟩ := open_texts hf h
  match zs, hl with
  | [x, y], _ => exact ⟨x, y, hz x (by simp), hz y (by simp), rfl⟩
end Go.Proofs.YtabepobcmpmkdaaGreat

/- A slice of spans (structs of two texts), opened; the nil slice and an empty one too. -/
namespace Go.Proofs.YtabepobcmpmkdaaGreat
open Go.ChangeShapes Go.WideShapes Go.RowKit Go.Deep

theorem open_spans {H : Type} {enc : TypeId × Value → H} {P : Program} {w : World} {base : Nat} {spare : Nat → Bool} {held : Bool} {t e : TypeId} {f0 f1 : Field} {fuel : Nat} {cs : List Value} {x : DataW H × List MemPlace} (ht : P.underlying t = some (.slice e)) (he : P.underlying e = some (.struct #[f0, f1]))
    (ce : P.cellsOf e = 2) (o0 : f0.offset = 0) (o1 : f1.offset = 1) (c0 : P.cellsOf f0.type = 1) (c1 : P.cellsOf f1.type = 1) (i0 : P.underlying f0.type = some .string) (i1 : P.underlying f1.type = some .string)
    (h : DataW.trod enc P w base spare held fuel t cs = some x) :
    ∃ (p : Option Addr) (cap : Nat) (l : List Tx), cs = [.slice p l.length cap] ∧ SlT w (.slice p l.length cap) l ∧ (∀ i, i < l.length → (gL l i).1.size ≤ 9223372036854775807 ∧ (gL l i).2.size ≤ 9223372036854775807) ∧ l.length ≤ maxLen := by
  rcases open_slice ht h with ⟨rfl, _⟩ | ⟨a, len, cap, m, n, D, Pl, rfl, hb, hl, hm, hmm, rfl, hx⟩
  · exact ⟨none, 0, [], rfl, SlT.nil w 0 none, fun i hi => absurd hi (by simp), by simp⟩
  · have hlm : len ≤ m := by rw [hmm]; split <;> omega
    have each : ∀ i, i < m → ∃ z : Tx, w.cell? (a.add (i * 2)) = some (.string z.1) ∧ w.cell? (a.add (i * 2 + 1)) = some (.string z.2) ∧ z.1.size ≤ maxLen ∧ z.2.size ≤ maxLen := by
      intro i hi
      obtain ⟨cs', h1, h2⟩ := hx i hi
      rw [ce] at h1
      obtain ⟨_, hlen, hcell⟩ := World.cells?_some h1
      obtain ⟨xs, k, hk, hxy, _, hxl, hf⟩ := DataW.trod_struct he h2
      match xs, hxl, cs', hlen with
      | [y0, y1], _, [v0, v1], _ =>
        have g0 := hf 0 f0 rfl
        have g1 := hf 1 f1 rfl
        simp [o0, o1, c0, c1] at g0 g1
        obtain ⟨z0, e0, _, w0⟩ := DataW.trod_string i0 g0
        obtain ⟨z1, e1, _, w1⟩ := DataW.trod_string i1 g1
        simp at e0 e1
        subst e0 e1
        have d0 := hcell 0 (by omega)
        have d1 := hcell 1 (by omega)
        rw [add_add] at d0 d1
        exact ⟨(z0, z1), by simpa using d0, by simpa using d1, w0, w1⟩
    obtain ⟨Z, hZ⟩ := Go.Deep.choose_lt each
    obtain ⟨b, off, spot⟩ := a
    have hsp : 0 < len → spot = none ∧ b < w.heap.size := fun h => by
      have h1 := (hZ 0 (by omega)).1
      exact ⟨by simpa [Addr.add] using World.cell?_spot h1, World.block_lt_of_cell? w _ h1⟩
    refine ⟨some ⟨b, off, spot⟩, cap, (List.range len).map Z, by simp, ⟨_, cap, rfl, fun h => ?_⟩, fun i hi => ?_, by simp; omega⟩
    · obtain ⟨h1, h2⟩ := hsp (by simpa using h)
      subst h1
      refine ⟨b, off, rfl, h2, fun i hi => ?_⟩
      have hi' : i < len := by simpa using hi
      obtain ⟨h0, h1, _⟩ := hZ i (by omega)
      rw [add_plain] at h0 h1
      rw [List.getElem_map, List.getElem_range]
      exact ⟨h0, by rw [Nat.add_assoc]; exact h1⟩
    · have hi' : i < len := by simpa using hi
      obtain ⟨_, _, h2, h3⟩ := hZ i (by omega)
      rw [gL_eq hi, List.getElem_map, List.getElem_range]
      unfold maxLen at h2 h3
      exact ⟨by omega, by omega⟩
end Go.Proofs.YtabepobcmpmkdaaGreat

/- Reference of layer 3: Short; the law IntervalCombines. -/
namespace Go.Proofs.YtabepobcmpmkdaaGreat
open Go.RowKit
open Go.Lib (nDigits itoa decDigits)

theorem short_c {a : ByteArray} (ha : a.size ≤ 9223372036854775807) : Ca 11 #[.string a] (.bool (shB a)) := Lib.hid fun W => Short_any a W ha
theorem kp_at2s {w w' : World} {L : List Nat} {b : Nat} (k : Kp L w w') (hb : w.heap.size ≤ b) (x y : Value) : Kp L w ((w'.setCell ⟨b, 0, none⟩ x).setCell ⟨b, 1, none⟩ y) :=
  (k.setCell (p := ⟨b, 0, none⟩) (.inr hb) x).setCell (p := ⟨b, 1, none⟩) (.inr hb) y

set_option maxRecDepth 100000 in
set_option maxHeartbeats 4000000 in
theorem r3Short_c {lo hi : ByteArray} (hl : lo.size ≤ 9223372036854775807) (hh : hi.size ≤ 9223372036854775807) : Ca 10 #[.agg #[.string lo, .string hi]] (.bool (shB lo && shB hi)) := Lib.hid fun w => by
  have q := short_c hl
  have q2 := short_c hh
  unfold Ca at q q2
  generalize shB lo = A at *
  generalize shB hi = B at *
  have s := SpB.made w lo hi
  have c0 := s.c0
  have k0 : Kp [] w (w.alloc (.cells #[.string lo, .string hi] 24 (0, 0))) := (Kp.refl _ _).alloc _
  cases A with
  | false =>
    rw [Bool.false_and]
    go_enter Tryz.func10, Tryz.ntmps10
    go_wp2_with fail
    with_reducible refine (q.out _).mono ?_
    rintro r w1 ⟨rfl, k⟩
    replace k0 := k0.trans k
    clear k q q2 c0 s
    go_wp2
    go_ret
    exact ⟨rfl, k0⟩
  | true =>
    rw [Bool.true_and]
    go_enter Tryz.func10, Tryz.ntmps10
    go_wp2_with fail
    with_reducible refine (q.out _).mono ?_
    rintro r w1 ⟨rfl, k⟩
    have c1 := (s.kept k (by simp)).c1
    replace k0 := k0.trans k
    clear k q c0 s
    go_wp2_with fail
    with_reducible refine (q2.out _).mono ?_
    rintro r w2 ⟨rfl, k⟩
    replace k0 := k0.trans k
    clear k q2 c1
    go_wp2
    go_ret
    exact ⟨rfl, k0⟩






set_option maxRecDepth 100000 in
set_option maxHeartbeats 8000000 in
theorem comb_1 (l1 h1 l2 h2 x : ByteArray) (q1 : Ca 10 #[.agg #[.string l1, .string h1]] (.bool false)) (w : World) :
    Calls Tryz.prog 3 #[.agg #[.string l1, .string h1], .agg #[.string l2, .string h2], .string x] w fun r w' => r = .returned (.bool true) ∧ Kp [] w w' := by
  have qw := Lib.hid awake3
  unfold Ca at *
  have sa := (SpB.made w l1 h1).alloc (.cells #[.string l2, .string h2] 24 (0, 0))
  have sb := SpB.made (w.alloc (.cells #[.string l1, .string h1] 24 (0, 0))) l2 h2
  rw [World.size_alloc] at sb
  have kk : Kp [] w ((w.alloc (.cells #[.string l1, .string h1] 24 (0, 0))).alloc (.cells #[.string l2, .string h2] 24 (0, 0))) := ((Kp.refl _ _).alloc _).alloc _
  have a0 := sa.c0
  have a1 := sa.c1
  have b0 := sb.c0
  have b1 := sb.c1
  go_enter Tryz.func3, Tryz.ntmps3
  go_wp2_with fail
  with_reducible refine (q1.out _).mono ?_
  rintro r w1 ⟨rfl, k⟩
  replace sa := sa.kept k (by simp)
  replace sb := sb.kept k (by simp)
  replace kk := kk.trans k
  clear a0 a1 b0 b1 k q1
  have a0 := sa.c0
  have a1 := sa.c1
  have b0 := sb.c0
  have b1 := sb.c1
  clear a0 a1 b0 b1 sa sb
  go_wp2_with fail
  with_reducible refine (qw.out _).mono ?_
  rintro r w9 ⟨rfl, k⟩
  replace kk := kk.trans k
  clear k qw
  go_wp2
  go_ret
  exact ⟨rfl, kk⟩

set_option maxRecDepth 100000 in
set_option maxHeartbeats 8000000 in
theorem comb_2 (l1 h1 l2 h2 x : ByteArray) (q1 : Ca 10 #[.agg #[.string l1, .string h1]] (.bool true)) (q2 : Ca 10 #[.agg #[.string l2, .string h2]] (.bool false)) (w : World) :
    Calls Tryz.prog 3 #[.agg #[.string l1, .string h1], .agg #[.string l2, .string h2], .string x] w fun r w' => r = .returned (.bool true) ∧ Kp [] w w' := by
  have qw := Lib.hid awake3
  unfold Ca at *
  have sa := (SpB.made w l1 h1).alloc (.cells #[.string l2, .string h2] 24 (0, 0))
  have sb := SpB.made (w.alloc (.cells #[.string l1, .string h1] 24 (0, 0))) l2 h2
  rw [World.size_alloc] at sb
  have kk : Kp [] w ((w.alloc (.cells #[.string l1, .string h1] 24 (0, 0))).alloc (.cells #[.string l2, .string h2] 24 (0, 0))) := ((Kp.refl _ _).alloc _).alloc _
  have a0 := sa.c0
  have a1 := sa.c1
  have b0 := sb.c0
  have b1 := sb.c1
  go_enter Tryz.func3, Tryz.ntmps3
  go_wp2_with fail
  with_reducible refine (q1.out _).mono ?_
  rintro r w1 ⟨rfl, k⟩
  replace sa := sa.kept k (by simp)
  replace sb := sb.kept k (by simp)
  replace kk := kk.trans k
  clear a0 a1 b0 b1 k q1
  have a0 := sa.c0
  have a1 := sa.c1
  have b0 := sb.c0
  have b1 := sb.c1
  go_wp2_with fail
  with_reducible refine (q2.out _).mono ?_
  rintro r w2 ⟨rfl, k⟩
  replace sa := sa.kept k (by simp)
  replace sb := sb.kept k (by simp)
  replace kk := kk.trans k
  clear a0 a1 b0 b1 k q2
  have a0 := sa.c0
  have a1 := sa.c1
  have b0 := sb.c0
  have b1 := sb.c1
  clear a0 a1 b0 b1 sa sb
  go_wp2_with fail
  with_reducible refine (qw.out _).mono ?_
  rintro r w9 ⟨rfl, k⟩
  replace kk := kk.trans k
  clear k qw
  go_wp2
  go_ret
  exact ⟨rfl, kk⟩

set_option maxRecDepth 100000 in
set_option maxHeartbeats 8000000 in
theorem comb_3 (l1 h1 l2 h2 x : ByteArray) (q1 : Ca 10 #[.agg #[.string l1, .string h1]] (.bool true)) (q2 : Ca 10 #[.agg #[.string l2, .string h2]] (.bool true)) (q3 : Ca 11 #[.string x] (.bool false)) (w : World) :
    Calls Tryz.prog 3 #[.agg #[.string l1, .string h1], .agg #[.string l2, .string h2], .string x] w fun r w' => r = .returned (.bool true) ∧ Kp [] w w' := by
  have qw := Lib.hid awake3
  unfold Ca at *
  have sa := (SpB.made w l1 h1).alloc (.cells #[.string l2, .string h2] 24 (0, 0))
  have sb := SpB.made (w.alloc (.cells #[.string l1, .string h1] 24 (0, 0))) l2 h2
  rw [World.size_alloc] at sb
  have kk : Kp [] w ((w.alloc (.cells #[.string l1, .string h1] 24 (0, 0))).alloc (.cells #[.string l2, .string h2] 24 (0, 0))) := ((Kp.refl _ _).alloc _).alloc _
  have a0 := sa.c0
  have a1 := sa.c1
  have b0 := sb.c0
  have b1 := sb.c1
  go_enter Tryz.func3, Tryz.ntmps3
  go_wp2_with fail
  with_reducible refine (q1.out _).mono ?_
  rintro r w1 ⟨rfl, k⟩
  replace sa := sa.kept k (by simp)
  replace sb := sb.kept k (by simp)
  replace kk := kk.trans k
  clear a0 a1 b0 b1 k q1
  have a0 := sa.c0
  have a1 := sa.c1
  have b0 := sb.c0
  have b1 := sb.c1
  go_wp2_with fail
  with_reducible refine (q2.out _).mono ?_
  rintro r w2 ⟨rfl, k⟩
  replace sa := sa.kept k (by simp)
  replace sb := sb.kept k (by simp)
  replace kk := kk.trans k
  clear a0 a1 b0 b1 k q2
  have a0 := sa.c0
  have a1 := sa.c1
  have b0 := sb.c0
  have b1 := sb.c1
  go_wp2_with fail
  with_reducible refine (q3.out _).mono ?_
  rintro r w3 ⟨rfl, k⟩
  replace sa := sa.kept k (by simp)
  replace sb := sb.kept k (by simp)
  replace kk := kk.trans k
  clear a0 a1 b0 b1 k q3
  have a0 := sa.c0
  have a1 := sa.c1
  have b0 := sb.c0
  have b1 := sb.c1
  clear a0 a1 b0 b1 sa sb
  go_wp2_with fail
  with_reducible refine (qw.out _).mono ?_
  rintro r w9 ⟨rfl, k⟩
  replace kk := kk.trans k
  clear k qw
  go_wp2
  go_ret
  exact ⟨rfl, kk⟩

set_option maxRecDepth 100000 in
set_option maxHeartbeats 8000000 in
theorem comb_4 (l1 h1 l2 h2 x : ByteArray) (u1 v1 u2 v2 u3 v3 : ByteArray) (E1 E2 E3 : Int) (q1 : Ca 10 #[.agg #[.string l1, .string h1]] (.bool true)) (q2 : Ca 10 #[.agg #[.string l2, .string h2]] (.bool true)) (q3 : Ca 11 #[.string x] (.bool true)) (p1 : Ca 13 #[.agg #[.string l1, .string h1], .agg #[.string l2, .string h2]] (.tuple #[.agg #[.string u1, .string v1], .int .i64 E1])) (p2 : Ca 14 #[.agg #[.string l1, .string h1], .agg #[.string l2, .string h2]] (.tuple #[.agg #[.string u1, .string v1], .int .i64 E1])) (p3 : Ca 15 #[.agg #[.string l1, .string h1], .agg #[.string l2, .string h2]] (.tuple #[.agg #[.string u2, .string v2], .int .i64 E2])) (p4 : Ca 16 #[.agg #[.string l1, .string h1], .agg #[.string l2, .string h2]] (.tuple #[.agg #[.string u2, .string v2], .int .i64 E2])) (p5 : Ca 17 #[.agg #[.string l1, .string h1], .string x] (.tuple #[.agg #[.string u3, .string v3], .int .i64 E3])) (p6 : Ca 18 #[.agg #[.string l1, .string h1], .string x] (.tuple #[.agg #[.string u3, .string v3], .int .i64 E3])) (w : World) :
    Calls Tryz.prog 3 #[.agg #[.string l1, .string h1], .agg #[.string l2, .string h2], .string x] w fun r w' => r = .returned (.bool true) ∧ Kp [] w w' := by
  have qw := Lib.hid awake3
  unfold Ca at *
  have sa := (SpB.made w l1 h1).alloc (.cells #[.string l2, .string h2] 24 (0, 0))
  have sb := SpB.made (w.alloc (.cells #[.string l1, .string h1] 24 (0, 0))) l2 h2
  rw [World.size_alloc] at sb
  have kk : Kp [] w ((w.alloc (.cells #[.string l1, .string h1] 24 (0, 0))).alloc (.cells #[.string l2, .string h2] 24 (0, 0))) := ((Kp.refl _ _).alloc _).alloc _
  have a0 := sa.c0
  have a1 := sa.c1
  have b0 := sb.c0
  have b1 := sb.c1
  go_enter Tryz.func3, Tryz.ntmps3
  go_wp2_with fail
  with_reducible refine (q1.out _).mono ?_
  rintro r w1 ⟨rfl, k⟩
  replace sa := sa.kept k (by simp)
  replace sb := sb.kept k (by simp)
  replace kk := kk.trans k
  clear a0 a1 b0 b1 k q1
  have a0 := sa.c0
  have a1 := sa.c1
  have b0 := sb.c0
  have b1 := sb.c1
  go_wp2_with fail
  with_reducible refine (q2.out _).mono ?_
  rintro r w2 ⟨rfl, k⟩
  replace sa := sa.kept k (by simp)
  replace sb := sb.kept k (by simp)
  replace kk := kk.trans k
  clear a0 a1 b0 b1 k q2
  have a0 := sa.c0
  have a1 := sa.c1
  have b0 := sb.c0
  have b1 := sb.c1
  go_wp2_with fail
  with_reducible refine (q3.out _).mono ?_
  rintro r w3 ⟨rfl, k⟩
  replace sa := sa.kept k (by simp)
  replace sb := sb.kept k (by simp)
  replace kk := kk.trans k
  clear a0 a1 b0 b1 k q3
  have a0 := sa.c0
  have a1 := sa.c1
  have b0 := sb.c0
  have b1 := sb.c1
  have e1 : ∀ W : World, (Op.equalIn 10000 24 (.agg #[.string u1, .string v1]) (.agg #[.string u1, .string v1])).run Tryz.prog W = .ok true W := fun W => eqSp_same _ _ W
  have e2 : ∀ W : World, (Op.equalIn 10000 24 (.agg #[.string u2, .string v2]) (.agg #[.string u2, .string v2])).run Tryz.prog W = .ok true W := fun W => eqSp_same _ _ W
  have e3 : ∀ W : World, (Op.equalIn 10000 24 (.agg #[.string u3, .string v3]) (.agg #[.string u3, .string v3])).run Tryz.prog W = .ok true W := fun W => eqSp_same _ _ W
  go_wp2_with fail
  generalize hA : w.heap.size = A at *
  with_reducible refine (p1.out _).mono ?_
  rintro r w4 ⟨rfl, k⟩
  replace sa := sa.kept k (by simp)
  replace sb := sb.kept k (by simp)
  replace kk := kk.trans k
  clear a0 a1 b0 b1 k p1
  have hc0 := kk.size
  rw [hA] at hc0
  have nAC := Nat.ne_of_lt sa.lt
  have nBC := Nat.ne_of_lt sb.lt
  replace sa := sa.alloc (.cells #[.string u1, .string v1] 24 (0, 0))
  replace sb := sb.alloc (.cells #[.string u1, .string v1] 24 (0, 0))
  have sc := SpB.made w4 u1 v1
  replace kk := kk.alloc (.cells #[.string u1, .string v1] 24 (0, 0))
  have a0 := sa.c0; have a1 := sa.c1; have b0 := sb.c0; have b1 := sb.c1
  go_wp2_with fail
  generalize hC : w4.heap.size = C at *
  with_reducible refine (p2.out _).mono ?_
  rintro r w5 ⟨rfl, k⟩
  replace sa := sa.kept k (by simp); replace sb := sb.kept k (by simp); replace sc := sc.kept k (by simp)
  replace kk := kk.trans k
  clear a0 a1 b0 b1 k p2
  have hd0 := kk.size
  rw [hA] at hd0
  have nAD := Nat.ne_of_lt sa.lt
  have nBD := Nat.ne_of_lt sb.lt
  have nCD := Nat.ne_of_lt sc.lt
  replace sa := sa.alloc (.cells #[.string u1, .string v1] 24 (0, 0))
  replace sb := sb.alloc (.cells #[.string u1, .string v1] 24 (0, 0))
  replace sc := sc.alloc (.cells #[.string u1, .string v1] 24 (0, 0))
  have sd := SpB.made w5 u1 v1
  replace kk := kk.alloc (.cells #[.string u1, .string v1] 24 (0, 0))
  have c0 := sc.c0; have c1 := sc.c1; have d0 := sd.c0; have d1 := sd.c1
  have a0 := sa.c0; have a1 := sa.c1; have b0 := sb.c0; have b1 := sb.c1
  go_wp2_with fail
  clear c0 c1 d0 d1
  generalize hD : w5.heap.size = D at *
  with_reducible refine (p3.out _).mono ?_
  rintro r w6 ⟨rfl, k⟩
  replace sa := sa.kept k (by simp); replace sb := sb.kept k (by simp); replace sc := sc.kept k (by simp); replace sd := sd.kept k (by simp)
  replace kk := kk.trans k
  clear a0 a1 b0 b1 k p3 e1
  have f0 := sc.f 0; have f1 := (sc.set1 u2).f 1; have c0 := sc.c0; have c1 := (sc.set1 u2).c1
  replace sa := sa.far2 nAC.symm (.string u2) (.string v2)
  replace sb := sb.far2 nBC.symm (.string u2) (.string v2)
  replace sd := sd.far2 nCD (.string u2) (.string v2)
  replace sc := sc.set2 u2 v2
  replace kk := kp_at2s kk (by rw [hA]; exact hc0) (.string u2) (.string v2)
  have a0 := sa.c0; have a1 := sa.c1; have b0 := sb.c0; have b1 := sb.c1
  go_wp2_with fail
  with_reducible refine (p4.out _).mono ?_
  rintro r w7 ⟨rfl, k⟩
  replace sa := sa.kept k (by simp); replace sb := sb.kept k (by simp); replace sc := sc.kept k (by simp); replace sd := sd.kept k (by simp)
  replace kk := kk.trans k
  clear a0 a1 b0 b1 f0 f1 c0 c1 k p4
  have f0 := sd.f 0; have f1 := (sd.set1 u2).f 1; have c0 := sd.c0; have c1 := (sd.set1 u2).c1
  replace sa := sa.far2 (nAD.symm) (.string u2) (.string v2)
  replace sb := sb.far2 (nBD.symm) (.string u2) (.string v2)
  replace sc := sc.far2 (nCD.symm) (.string u2) (.string v2)
  replace sd := sd.set2 u2 v2
  replace kk := kp_at2s kk (by rw [hA]; exact hd0) (.string u2) (.string v2)
  have a0 := sa.c0; have a1 := sa.c1; have b0 := sb.c0; have b1 := sb.c1
  have x0 := sc.c0; have x1 := sc.c1; have y0 := sd.c0; have y1 := sd.c1
  go_wp2_with fail
  clear x0 x1 y0 y1 e2
  with_reducible refine (p5.out _).mono ?_
  rintro r w8 ⟨rfl, k⟩
  replace sa := sa.kept k (by simp); replace sb := sb.kept k (by simp); replace sc := sc.kept k (by simp); replace sd := sd.kept k (by simp)
  replace kk := kk.trans k
  clear a0 a1 b0 b1 f0 f1 c0 c1 k p5
  have f0 := sc.f 0; have f1 := (sc.set1 u3).f 1; have c0 := sc.c0; have c1 := (sc.set1 u3).c1
  replace sa := sa.far2 (nAC.symm) (.string u3) (.string v3)
  replace sb := sb.far2 (nBC.symm) (.string u3) (.string v3)
  replace sd := sd.far2 (nCD) (.string u3) (.string v3)
  replace sc := sc.set2 u3 v3
  replace kk := kp_at2s kk (by rw [hA]; exact hc0) (.string u3) (.string v3)
  have a0 := sa.c0; have a1 := sa.c1; have b0 := sb.c0; have b1 := sb.c1
  go_wp2_with fail
  with_reducible refine (p6.out _).mono ?_
  rintro r w10 ⟨rfl, k⟩
  replace sa := sa.kept k (by simp); replace sb := sb.kept k (by simp); replace sc := sc.kept k (by simp); replace sd := sd.kept k (by simp)
  replace kk := kk.trans k
  clear a0 a1 b0 b1 f0 f1 c0 c1 k p6
  have f0 := sd.f 0; have f1 := (sd.set1 u3).f 1; have c0 := sd.c0; have c1 := (sd.set1 u3).c1
  replace sa := sa.far2 (nAD.symm) (.string u3) (.string v3)
  replace sb := sb.far2 (nBD.symm) (.string u3) (.string v3)
  replace sc := sc.far2 (nCD.symm) (.string u3) (.string v3)
  replace sd := sd.set2 u3 v3
  replace kk := kp_at2s kk (by rw [hA]; exact hd0) (.string u3) (.string v3)
  have a0 := sa.c0; have a1 := sa.c1; have b0 := sb.c0; have b1 := sb.c1
  have x0 := sc.c0; have x1 := sc.c1; have y0 := sd.c0; have y1 := sd.c1
  go_wp2_with fail
  clear a0 a1 b0 b1 f0 f1 c0 c1 x0 x1 y0 y1 sa sb sc sd e3
  with_reducible refine (qw.out _).mono ?_
  rintro r w9 ⟨rfl, k⟩
  replace kk := kk.trans k
  clear k qw
  go_wp2
  go_ret
  exact ⟨rfl, kk⟩

theorem combines3 (l1 h1 l2 h2 x : ByteArray) (s1 : l1.size ≤ 9223372036854775807) (s2 : h1.size ≤ 9223372036854775807) (s3 : l2.size ≤ 9223372036854775807) (s4 : h2.size ≤ 9223372036854775807) (s5 : x.size ≤ 9223372036854775807) (w : World) :
    Calls Tryz.prog 3 #[.agg #[.string l1, .string h1], .agg #[.string l2, .string h2], .string x] w fun r w' => r = .returned (.bool true) ∧ Kp [] w w' := by
  have q1 := r3Short_c s1 s2
  have q2 := r3Short_c s3 s4
  have q3 := short_c s5
  cases hA : (shB l1 && shB h1) with
  | false => rw [hA] at q1; exact comb_1 _ _ _ _ _ q1 w
  | true =>
    rw [hA] at q1
    cases hB : (shB l2 && shB h2) with
    | false => rw [hB] at q2; exact comb_2 _ _ _ _ _ q1 q2 w
    | true =>
      rw [hB] at q2
      cases hC : shB x with
      | false => rw [hC] at q3; exact comb_3 _ _ _ _ _ q1 q2 q3 w
      | true =>
        rw [hC] at q3
        rw [Bool.and_eq_true] at hA hB
        obtain ⟨u1, v1, E1, p1, p2⟩ := add_both l1 h1 l2 h2 hA.1 hA.2 hB.1 hB.2
        obtain ⟨u2, v2, E2, p3, p4⟩ := sub_both l1 h1 l2 h2 hA.1 hA.2 hB.1 hB.2
        obtain ⟨u3, v3, E3, p5, p6⟩ := scale_both l1 h1 x hA.1 hA.2 hC
        exact comb_4 _ _ _ _ _ _ _ _ _ _ _ _ _ _ q1 q2 q3 p1 p2 p3 p4 p5 p6 w
end Go.Proofs.YtabepobcmpmkdaaGreat
