/- Texts Uy: each says in its own first comment what it proves. -/
import Derived.Test.YtlimjohnimgnhaaGreatDoorM35
import Derived.Laws.OwnMore
/- Frames: read: what words tell. -/
namespace Go.Proofs.YtlimjohnimgnhaaGreatDoor
open Go.RowKit

/-- the words of a text in a block -/
def WdS (w : World) (b : Nat) (ws : List ByteArray) : Prop := ∀ i s, ws[i]? = some s → w.cell? ⟨b, i, none⟩ = some (.string s)
theorem WdS.kb {a w : World} {b : Nat} {ws : List ByteArray} (h : WdS a b ws) (k : Kb a w) : WdS w b ws := fun i s hs => k.cell (h i s hs)
/-- the number of a text, as strconv.Atoi leaves it -/
def atV (s : ByteArray) : Int := match Lib.atoiAll s.data.toList with
  | .ok v => v
  | .range => Lib.atoiSat s.data.toList
  | _ => 0
theorem fAtoi {w0 : World} (s : ByteArray) (hs : s.size ≤ 1000000) (W : World) (g : Gf w0 W) : Calls Tryz.prog 112 #[.string s] W fun r W' => (∃ ev, r = .returned (.tuple #[.int .i64 (atV s), ev])) ∧ Kb W W' := by
  unfold atV
  cases ha : Lib.atoiAll s.data.toList with
  | ok v => exact (Tryz.strconv_Atoi_ok s (by omega) v ha W).mono fun e w' ⟨h1, h2⟩ => ⟨⟨_, h1⟩, by
      rcases h2 with rfl | ⟨t, rfl⟩
      · exact Kb.refl _
      · exact Lib.bytesWorld_below _ _ _⟩
  | range =>
    obtain ⟨tp, p, hv⟩ := g.tn.rng
    exact (Tryz.strconv_Atoi_range_var s (by omega) ha tp p W hv).mono fun e w' ⟨N, h1, _, _, h4⟩ => ⟨⟨_, h1⟩, h4⟩
  | _ =>
    obtain ⟨tp, p, hv⟩ := g.tn.syn
    exact (Tryz.strconv_Atoi_syntax_var s (by omega) ha tp p W hv).mono fun e w' ⟨N, h1, _, _, h4⟩ => ⟨⟨_, h1⟩, h4⟩
theorem fsplitV {w0 : World} (wd : ByteArray) (hs : wd.size ≤ 1000000) : Cf w0 111 #[.string wd] (.tuple #[.string (spV wd).1, .int .i64 (spV wd).2]) := by
  have q := fsplit_any w0 wd hs
  unfold spV
  rcases Bool.eq_false_or_eq_true (sufB wd ⟨#[40, 77, 41]⟩) with h1 | h1
  · simp only [h1, if_true] at q ⊢; exact q
  · rcases Bool.eq_false_or_eq_true (sufB wd ⟨#[40, 76, 41]⟩) with h2 | h2
    · simp only [h1, h2, Bool.false_eq_true, if_false, if_true] at q ⊢; exact q
    · simp only [h1, h2, Bool.false_eq_true, if_false] at q ⊢; exact q
theorem dat_info : (Tryz.prog.info? 76).map (fun i => (i.zero, i.size, i.bytes)) = some (some (.agg #[.string ⟨#[]⟩, .int .i64 0]), 2, 24) := by kernel_rfl
def flatD (l : List DatT) : List Value := (l.map datRow).flatten
theorem flatD_snoc (l : List DatT) (x : DatT) : flatD (l ++ [x]) = flatD l ++ datRow x := by simp [flatD]
theorem flatD_at (l : List DatT) : ∀ (i : Nat) (d : DatT), l[i]? = some d → (flatD l)[i * 2]? = some (.string d.1) ∧ (flatD l)[i * 2 + 1]? = some (.int .i64 d.2) := by
  induction l with
  | nil => intro i d h; simp at h
  | cons x l ih =>
    intro i d h
    have e : flatD (x :: l) = datRow x ++ flatD l := by simp [flatD]
    have hl : (datRow x).length = 2 := rfl
    rw [e]
    cases i with
    | zero => simp at h; subst h; exact ⟨rfl, rfl⟩
    | succ i =>
      have := ih i d (by simpa using h)
      rw [List.getElem?_append_right (by omega), List.getElem?_append_right (by omega), hl, show (i + 1) * 2 - 2 = i * 2 by omega, show (i + 1) * 2 + 1 - 2 = i * 2 + 1 by omega]
      exact this
theorem owns_kb {W W' : World} {base e size n : Nat} {v : Value} {xs : List Value} (h : W.ownsRow base e size v n xs) (k : Kb W W') : W'.ownsRow base e size v n xs := h.kept k.grownN (by cases v.ownBlock <;> simp)
theorem owns_far {W : World} {base e size n : Nat} {v : Value} {xs : List Value} (h : W.ownsRow base e size v n xs) : ∀ j, v.ownBlock = some j → base ≤ j := fun j e => by
  rcases h.2 with ⟨rfl, _⟩ | ⟨g, cap, cur, rfl, hb, _, _⟩
  · simp [Value.ownBlock] at e
  · obtain rfl : g = j := by simpa [Value.ownBlock] using e
    exact hb
theorem Kb.grown {a X Y : World} {row : Option Nat} (h : Kb a X) (g : X.grownBy Y row) (hr : ∀ j, row = some j → a.heap.size ≤ j) : Kb a Y := Below.grown h g h.size hr
theorem Is.grown {X Y : World} {row : Option Nat} {c : Nat} {cs : Array Value} {T : TypeId} (h : Is X c cs T) (g : X.grownBy Y row) (hr : row ≠ some c) : Is Y c cs T := h.same (g.block c h.lt (fun e => hr e.symm))
theorem owns_set {W : World} {base e size n : Nat} {v : Value} {xs : List Value} (h : W.ownsRow base e size v n xs) (p : Addr) (hp : p.block < base) (u : Value) : (W.setCell p u).ownsRow base e size v n xs := by
  refine h.kept (row := some p.block) ⟨rfl, rfl, rfl, by simp [World.setCell], fun k _ hk => Below.heap_setCell _ _ _ _ (fun e => hk (by simp [e]))⟩ ?_
  refine .inr fun e => ?_
  have := owns_far h _ e
  omega
theorem owns_slice {W : World} {base e size n : Nat} {v : Value} {xs : List Value} (h : W.ownsRow base e size v n xs) : ∃ p c, v = .slice p n c ∧ n ≤ c := by
  rcases h.2 with ⟨rfl, rfl⟩ | ⟨g, cap, cur, rfl, hb, hg, hc, _⟩
  · exact ⟨_, _, rfl, Nat.le_refl _⟩
  · exact ⟨_, _, rfl, hc⟩
theorem owns_datsL {W : World} {base n : Nat} {p : Option Addr} {c : Nat} {ds : List DatT} (h : W.ownsRow base 76 2 (.slice p n c) n (flatD ds)) (hn : ds.length = n) (L : List Nat) (hL : ∀ x ∈ L, x < base) : Sl L 2 W (.slice p n c) (ds.map datRow) := by
  refine ⟨p, c, by rw [List.length_map, hn], fun h0 => ?_⟩
  rw [List.length_map, hn] at h0
  rcases h.2 with ⟨_, e⟩ | ⟨g, cap, cur, e, hb, hg, hc, _, _, ht⟩
  · omega
  · injection e with e1 e2 e3
    subst e1
    refine ⟨g, 0, rfl, (Array.getElem?_eq_some_iff.1 hg).1, fun hx => by have := hL _ hx; omega, fun i hi j hj => ?_⟩
    rw [List.length_map, hn] at hi
    obtain ⟨d, hd⟩ : ∃ d, ds[i]? = some d := ⟨_, List.getElem?_eq_getElem (by omega)⟩
    have hf := flatD_at ds i d hd
    have hx := h.cells (g := g) rfl
    have hr : (ds.map datRow).getD i [] = datRow d := by rw [List.getD_eq_getElem?_getD, List.getElem?_map, hd]; rfl
    rw [hr]
    rcases (show j = 0 ∨ j = 1 by omega) with rfl | rfl
    · have := hx (i * 2) _ hf.1
      rw [Addr.add_mid] at this
      exact this
    · have := hx (i * 2 + 1) _ hf.2
      rw [Addr.add_mid] at this
      exact this
theorem sl_nil {w : World} {L : List Nat} : Sl L 2 w (.slice none 0 0) (([] : List DatT).map datRow) := ⟨none, 0, rfl, fun h => absurd h (by simp)⟩
/-- datums in memory that was laid behind w -/
def DatN (w W : World) (v : Value) (ds : List DatT) : Prop := ∀ L : List Nat, (∀ x ∈ L, x < w.heap.size) → Sl L 2 W v (ds.map datRow)
theorem DatN.dat {w W : World} {v : Value} {ds : List DatT} (h : DatN w W v ds) : DatS W v ds := h [] (by simp)
/-- the first words of a text in a block, cell by cell -/
def WdG (b m : Nat) (L : List Value) (w : World) : Prop := ∀ i, i < m → w.cell? ⟨b, i, none⟩ = some (L.getD i undef)
section
variable {w a : World} {b m : Nat} {L : List Value}
theorem WdG.c (h : WdG b m L w) (i : Nat) (hi : i < m) : w.cell? ⟨b, i, none⟩ = some (L.getD i undef) := h i hi
theorem WdG.kb (h : WdG b m L a) (k : Kb a w) : WdG b m L w := fun i hi => k.cell (h i hi)
theorem WdG.alloc (h : WdG b m L w) (o : Obj) : WdG b m L (w.alloc o) := fun i hi => cell_al (h i hi) o
theorem WdG.drew (h : WdG b m L w) : WdG b m L w.drew := h
theorem WdG.far (h : WdG b m L w) {p : Addr} (hp : b ≠ p.block) (u : Value) : WdG b m L (w.setCell p u) := fun i hi => cell_far (h i hi) hp
end
set_option maxRecDepth 100000 in
set_option maxHeartbeats 4000000 in
theorem fread1_1 (w0 : World) (bw : Nat) (a : ByteArray) (w : World) (gl : Gf w0 w) (bwd : WdG bw 1 [.string a] w)  : Calls Tryz.prog 71 #[.slice (some ⟨bw, 0, none⟩) 1 1] w fun r W' => r = .returned (.agg #[.int .i64 (chV a), .bool false, .int .i64 0, .int .i64 0, .slice none 0 0]) ∧ Kb w W' := by
  have kx := Kb.refl w
  have bwd0 := Lib.hid bwd
  have gl0 := Lib.hid gl
  have f1 : (w.alloc (.cells #[.int .i64 0, .bool false, .int .i64 0, .int .i64 0, .slice none 0 0] 31 (0, 0))).cell? ⟨bw, 0, none⟩ = some (.string a) := (bwd.alloc (.cells #[.int .i64 0, .bool false, .int .i64 0, .int .i64 0, .slice none 0 0] 31 (0, 0))).c 0 (by decide)
  go_enter Tryz.func71, Tryz.ntmps71
  go_wp2_with fail
  clear f1
  have b1 := Is.made w #[.int .i64 0, .bool false, .int .i64 0, .int .i64 0, .slice none 0 0] 31
  replace kx := kx.alloc (.cells #[.int .i64 0, .bool false, .int .i64 0, .int .i64 0, .slice none 0 0] 31 (0, 0))
  replace bwd := bwd0.out.kb kx
  replace gl := gl0.out.kb kx
  (with_reducible refine ((Cf.out (fcharV a) _ gl)).mono ?_)
  rintro r w1 ⟨rfl, k1⟩
  replace bwd := bwd.kb k1
  replace gl := gl.kb k1
  replace b1 := b1.kb k1
  replace kx := kx.trans k1
  have s1 := k1.size
  simp only [World.size_alloc] at s1
  clear k1
  have j2 := (Is.made w1 #[.int .i64 (chV a), .bool false, .int .i64 0, .int .i64 0, .slice none 0 0] 31)
  have f3 := j2.c (i := 0) rfl
  have f4 := j2.c (i := 1) rfl
  have f5 := j2.c (i := 2) rfl
  have f6 := j2.c (i := 3) rfl
  have f7 := j2.c (i := 4) rfl
  have j8 := (b1.alloc (.cells #[.int .i64 (chV a), .bool false, .int .i64 0, .int .i64 0, .slice none 0 0] 31 (0, 0)))
  have f9 := j8.c (i := 0) rfl
  have f10 := j8.f 0
  have f11 := j8.c (i := 1) rfl
  have f12 := j8.f 1
  have f13 := j8.c (i := 2) rfl
  have f14 := j8.f 2
  have f15 := j8.c (i := 3) rfl
  have f16 := j8.f 3
  have f17 := j8.c (i := 4) rfl
  have f18 := j8.f 4
  go_wp2
  clear f3 f4 f5 f6 f7 f9 f10 f11 f12 f13 f14 f15 f16 f17 f18
  replace b1 := (b1.alloc (.cells #[.int .i64 (chV a), .bool false, .int .i64 0, .int .i64 0, .slice none 0 0] 31 (0, 0)))
  replace b1 : Is _ _ #[.int .i64 (chV a), .bool false, .int .i64 0, .int .i64 0, .slice none 0 0] _ := b1.set 0 (.int .i64 (chV a))
  replace b1 : Is _ _ #[.int .i64 (chV a), .bool false, .int .i64 0, .int .i64 0, .slice none 0 0] _ := b1.set 1 (.bool false)
  replace b1 : Is _ _ #[.int .i64 (chV a), .bool false, .int .i64 0, .int .i64 0, .slice none 0 0] _ := b1.set 2 (.int .i64 0)
  replace b1 : Is _ _ #[.int .i64 (chV a), .bool false, .int .i64 0, .int .i64 0, .slice none 0 0] _ := b1.set 3 (.int .i64 0)
  replace b1 : Is _ _ #[.int .i64 (chV a), .bool false, .int .i64 0, .int .i64 0, .slice none 0 0] _ := b1.set 4 (.slice none 0 0)
  replace kx := (((((kx.alloc (.cells #[.int .i64 (chV a), .bool false, .int .i64 0, .int .i64 0, .slice none 0 0] 31 (0, 0))).setCell (p := ⟨w.heap.size, 0, none⟩) (show w.heap.size ≤ w.heap.size by omega) (.int .i64 (chV a))).setCell (p := ⟨w.heap.size, 1, none⟩) (show w.heap.size ≤ w.heap.size by omega) (.bool false)).setCell (p := ⟨w.heap.size, 2, none⟩) (show w.heap.size ≤ w.heap.size by omega) (.int .i64 0)).setCell (p := ⟨w.heap.size, 3, none⟩) (show w.heap.size ≤ w.heap.size by omega) (.int .i64 0)).setCell (p := ⟨w.heap.size, 4, none⟩) (show w.heap.size ≤ w.heap.size by omega) (.slice none 0 0)
  refine ret_row Tryz.results71 rfl rfl b1 Tryz.underlying31 rfl (by kernel_rfl) ?_
  exact ⟨rfl, kx⟩
set_option maxRecDepth 100000 in
set_option maxHeartbeats 4000000 in
theorem fread2_1 (w0 : World) (bw : Nat) (a : ByteArray) (b : ByteArray)     (hb : (b.toList == ([100, 105, 115, 99] : List UInt8)) = true) (w : World) (gl : Gf w0 w) (bwd : WdG bw 2 [.string a, .string b] w)  : Calls Tryz.prog 71 #[.slice (some ⟨bw, 0, none⟩) 2 2] w fun r W' => r = .returned (.agg #[.int .i64 (chV a), .bool true, .int .i64 0, .int .i64 0, .slice none 0 0]) ∧ Kb w W' := by
  have kx := Kb.refl w
  have bwd0 := Lib.hid bwd
  have gl0 := Lib.hid gl
  have hbl := World.block_lt_of_cell? w _ (bwd 0 (by decide))
  have f1 : (w.alloc (.cells #[.int .i64 0, .bool false, .int .i64 0, .int .i64 0, .slice none 0 0] 31 (0, 0))).cell? ⟨bw, 0, none⟩ = some (.string a) := (bwd.alloc (.cells #[.int .i64 0, .bool false, .int .i64 0, .int .i64 0, .slice none 0 0] 31 (0, 0))).c 0 (by decide)
  go_enter Tryz.func71, Tryz.ntmps71
  go_wp2_with fail
  clear f1
  have b1 := Is.made w #[.int .i64 0, .bool false, .int .i64 0, .int .i64 0, .slice none 0 0] 31
  replace kx := kx.alloc (.cells #[.int .i64 0, .bool false, .int .i64 0, .int .i64 0, .slice none 0 0] 31 (0, 0))
  replace bwd := bwd0.out.kb kx
  replace gl := gl0.out.kb kx
  (with_reducible refine ((Cf.out (fcharV a) _ gl)).mono ?_)
  rintro r w1 ⟨rfl, k1⟩
  replace bwd := bwd.kb k1
  replace gl := gl.kb k1
  replace b1 := b1.kb k1
  replace kx := kx.trans k1
  have s1 := k1.size
  simp only [World.size_alloc] at s1
  clear k1
  have f2 : (w1.alloc (.cells #[.int .i64 (chV a), .bool false, .int .i64 0, .int .i64 0, .slice none 0 0] 31 (0, 0))).cell? ⟨bw, 1, none⟩ = some (.string b) := (bwd.alloc (.cells #[.int .i64 (chV a), .bool false, .int .i64 0, .int .i64 0, .slice none 0 0] 31 (0, 0))).c 1 (by decide)
  go_wp2_with fail
  clear f2
  replace b1 := (b1.alloc (.cells #[.int .i64 (chV a), .bool false, .int .i64 0, .int .i64 0, .slice none 0 0] 31 (0, 0)))
  have b2 := Is.made w1 #[.int .i64 (chV a), .bool false, .int .i64 0, .int .i64 0, .slice none 0 0] 31
  replace kx := kx.alloc (.cells #[.int .i64 (chV a), .bool false, .int .i64 0, .int .i64 0, .slice none 0 0] 31 (0, 0))
  replace bwd := bwd0.out.kb kx
  replace gl := gl0.out.kb kx
  replace bwd := bwd.drew
  replace gl := gl.drew
  replace b1 := b1.drew
  replace b2 := b2.drew
  rw [oF_lit]
  refine o_law (⟨70, [some 26, some 27, some 28, none, some 0], [26, 27, 28, 28, 0], [[], [0], [], [2], [1]], [[0], [], [3], [], []]⟩ : OT) (Gz w1.heap.size #[.int .i64 (chV a), .bool false, .int .i64 0, .int .i64 0, .slice none 0 0] #[.int .i64 (chV a), .bool true, .int .i64 0, .int .i64 0, .slice none 0 0] 31) (RL [fun vv _ => vv = .slice (some ⟨bw, 1, none⟩) 1 1, fun vv _ => vv = .slice (some ⟨bw, 1, none⟩) 0 0, fun vv _ => vv = .pointer (some ⟨w1.heap.size, 1, none⟩), fun _ ww => Is ww w1.heap.size #[.int .i64 (chV a), .bool true, .int .i64 0, .int .i64 0, .slice none 0 0] 31, fun vv _ => vv = .slice (some ⟨bw, 1, none⟩) 0 0]) (by kernel_rfl) ?hk ?hR ?fin
  case hk => kernel_rfl
  case hR =>
    refine ⟨fun _ => (Gz.refl _ _ _ _ _), fun _ _ _ => Gz.trans, rl_stab ⟨fun _ _ _ _ h => h, fun _ _ _ _ h => h, fun _ _ _ _ h => h, (fun v w w' k h => k.2.1 h), fun _ _ _ _ h => h, trivial⟩, ?_⟩
    refine allO_cons ?_ (allO_cons ?_ (allO_cons ?_ (allO_cons ?_ (allO_cons ?_ (allO_nil)))))
    · intro T w9 hG hD hO Q
      have q0 := hO.1
      have e0 : (oF 70 T).eval (.tmp 0) = .slice (some ⟨bw, 1, none⟩) 1 1 := (oF_eval (by decide)).trans (show T 0 = _ from q0)
      refine og_none rfl ?_
      exact o_val (v := .slice (some ⟨bw, 1, none⟩) 1 1) (w' := w9) (by generalize (oF 70 T).eval = rr at *; simp [execOp, go_sem, e0]) rfl rfl (Gz.refl _ _ _ _ _)
    · intro T w9 hG hD hO Q
      have d0 := hD.1
      have e0 : (oF 70 T).eval (.tmp 26) = .slice (some ⟨bw, 1, none⟩) 1 1 := (oF_eval (by decide)).trans (show T 26 = _ from d0)
      have e1 : (oF 70 T).eval (.const (.int .i64 1)) = .int .i64 1 := rfl
      refine og_none rfl ?_
      exact o_val (v := .slice (some ⟨bw, 1, none⟩) 0 0) (w' := w9) (by generalize (oF 70 T).eval = rr at *; simp [execOp, go_sem, e0, e1]) rfl rfl (Gz.refl _ _ _ _ _)
    · intro T w9 hG hD hO Q
      have q0 := hO.1
      have e0 : (oF 70 T).eval (.tmp 3) = .pointer (some ⟨w1.heap.size, 0, none⟩) := (oF_eval (by decide)).trans (show T 3 = _ from q0)
      refine og_none rfl ?_
      exact o_val (v := .pointer (some ⟨w1.heap.size, 1, none⟩)) (w' := w9) (by generalize (oF 70 T).eval = rr at *; simp [execOp, go_sem, e0]) rfl rfl (Gz.refl _ _ _ _ _)
    · intro T w9 hG hD hO Q
      have d0 := hD.1
      have e0 : (oF 70 T).eval (.tmp 28) = .pointer (some ⟨w1.heap.size, 1, none⟩) := (oF_eval (by decide)).trans (show T 28 = _ from d0)
      have e1 : (oF 70 T).eval (.const (.bool true)) = .bool true := rfl
      refine og_none rfl ?_
      have io : Is w9 w1.heap.size #[.int .i64 (chV a), .bool false, .int .i64 0, .int .i64 0, .slice none 0 0] 31 ∨ Is w9 w1.heap.size #[.int .i64 (chV a), .bool true, .int .i64 0, .int .i64 0, .slice none 0 0] 31 := hG.2.2 (.inl b2)
      rcases io with io | io
      · have zn := io
        replace zn : Is (w9.setCell ⟨w1.heap.size, 1, none⟩ (.bool true)) (w1.heap.size) #[.int .i64 (chV a), .bool true, .int .i64 0, .int .i64 0, .slice none 0 0] 31 := zn.set 1 _
        have pt := ((Pt.refl w1.heap.size w9).set 1 (.bool true))
        have m1 := io.c (i := 1) rfl
        have f1 := io.f 1
        clear io
        exact o_skip (w' := (w9.setCell ⟨w1.heap.size, 1, none⟩ (.bool true))) (by generalize (oF 70 T).eval = rr at *; simp [execOp, go_sem, e0, e1, m1, f1]) rfl zn (pt.gz zn)
      · have zn := io
        replace zn : Is (w9.setCell ⟨w1.heap.size, 1, none⟩ (.bool true)) (w1.heap.size) #[.int .i64 (chV a), .bool true, .int .i64 0, .int .i64 0, .slice none 0 0] 31 := zn.set 1 _
        have pt := ((Pt.refl w1.heap.size w9).set 1 (.bool true))
        have m1 := io.c (i := 1) rfl
        have f1 := io.f 1
        clear io
        exact o_skip (w' := (w9.setCell ⟨w1.heap.size, 1, none⟩ (.bool true))) (by generalize (oF 70 T).eval = rr at *; simp [execOp, go_sem, e0, e1, m1, f1]) rfl zn (pt.gz zn)
    · intro T w9 hG hD hO Q
      have d0 := hD.1
      have e0 : (oF 70 T).eval (.tmp 27) = .slice (some ⟨bw, 1, none⟩) 0 0 := (oF_eval (by decide)).trans (show T 27 = _ from d0)
      refine og_none rfl ?_
      exact o_val (v := .slice (some ⟨bw, 1, none⟩) 0 0) (w' := w9) (by generalize (oF 70 T).eval = rr at *; simp [execOp, go_sem, e0]) rfl rfl (Gz.refl _ _ _ _ _)
  case fin =>
    intro T w2 hout hval hG
    have s2 := hG.1.2.2.2.1
    simp only [World.size_drew, World.size_alloc] at s2
    rw [show oF 70 T = (⟨#[T 0, T 1, T 2, T 3, T 4, T 5, T 6, T 7, T 8, T 9, T 10, T 11, T 12, T 13, T 14, T 15, T 16, T 17, T 18, T 19, T 20, T 21, T 22, T 23, T 24, T 25, T 26, T 27, T 28, T 29, T 30, T 31, T 32, T 33, T 34, T 35, T 36, T 37, T 38, T 39, T 40, T 41, T 42, T 43, T 44, T 45, T 46, T 47, T 48, T 49, T 50, T 51, T 52, T 53, T 54, T 55, T 56, T 57, T 58, T 59, T 60, T 61, T 62, T 63, T 64, T 65, T 66, T 67, T 68, T 69], []⟩ : Act) from oF_list 70 T]
    rw [show T 0 = .slice (some ⟨bw, 1, none⟩) 0 0 from hval 4 (by decide : 4 < 5)]
    rw [show T 2 = .pointer (some ⟨w.heap.size, 0, none⟩) from hout 2 rfl]
    rw [show T 3 = .pointer (some ⟨w1.heap.size, 0, none⟩) from hout 3 rfl]
    rw [show T 10 = .slice (some ⟨bw, 0, none⟩) 2 2 from hout 10 rfl]
    rw [show T 11 = .pointer (some ⟨bw, 0, none⟩) from hout 11 rfl]
    rw [show T 12 = .string a from hout 12 rfl]
    rw [show T 13 = .int .i64 (chV a) from hout 13 rfl]
    rw [show T 14 = .agg #[.int .i64 (chV a), .bool false, .int .i64 0, .int .i64 0, .slice none 0 0] from hout 14 rfl]
    rw [show T 15 = .slice (some ⟨bw, 0, none⟩) 2 2 from hout 15 rfl]
    rw [show T 16 = .slice (some ⟨bw, 1, none⟩) 1 1 from hout 16 rfl]
    rw [show T 17 = .slice (some ⟨bw, 1, none⟩) 1 1 from hout 17 rfl]
    rw [show T 18 = .int .i64 1 from hout 18 rfl]
    rw [show T 19 = .bool true from hout 19 rfl]
    rw [show T 20 = .bool true from hout 20 rfl]
    rw [show T 21 = .slice (some ⟨bw, 1, none⟩) 1 1 from hout 21 rfl]
    rw [show T 22 = .pointer (some ⟨bw, 1, none⟩) from hout 22 rfl]
    rw [show T 23 = .string b from hout 23 rfl]
    rw [show T 24 = .bool true from hout 24 rfl]
    rw [show T 25 = .bool true from hout 25 rfl]
    replace b1 := b1.kx hG.1 (by simp only [List.mem_singleton]; omega)
    replace b2 := hval 3 (by decide)
    replace b2 : Is _ (w1.heap.size) #[.int .i64 (chV a), .bool true, .int .i64 0, .int .i64 0, .slice none 0 0] 31 := b2
    replace kx := hG.1.old kx.drew (by intro x hx; simp only [List.mem_singleton] at hx; subst hx; omega)
    replace bwd := bwd0.out.kb kx
    replace gl := gl0.out.kb kx
    clear hout hval hG
    have f3 := b2.c (i := 0) rfl
    have f4 := b2.c (i := 1) rfl
    have f5 := b2.c (i := 2) rfl
    have f6 := b2.c (i := 3) rfl
    have f7 := b2.c (i := 4) rfl
    have f8 := b1.c (i := 0) rfl
    have f9 := b1.f 0
    have f10 := b1.c (i := 1) rfl
    have f11 := b1.f 1
    have f12 := b1.c (i := 2) rfl
    have f13 := b1.f 2
    have f14 := b1.c (i := 3) rfl
    have f15 := b1.f 3
    have f16 := b1.c (i := 4) rfl
    have f17 := b1.f 4
    go_wp2
    clear f3 f4 f5 f6 f7 f8 f9 f10 f11 f12 f13 f14 f15 f16 f17
    replace b1 : Is _ _ #[.int .i64 (chV a), .bool false, .int .i64 0, .int .i64 0, .slice none 0 0] _ := b1.set 0 (.int .i64 (chV a))
    replace b1 : Is _ _ #[.int .i64 (chV a), .bool true, .int .i64 0, .int .i64 0, .slice none 0 0] _ := b1.set 1 (.bool true)
    replace b1 : Is _ _ #[.int .i64 (chV a), .bool true, .int .i64 0, .int .i64 0, .slice none 0 0] _ := b1.set 2 (.int .i64 0)
    replace b1 : Is _ _ #[.int .i64 (chV a), .bool true, .int .i64 0, .int .i64 0, .slice none 0 0] _ := b1.set 3 (.int .i64 0)
    replace b1 : Is _ _ #[.int .i64 (chV a), .bool true, .int .i64 0, .int .i64 0, .slice none 0 0] _ := b1.set 4 (.slice none 0 0)
    replace kx := ((((kx.setCell (p := ⟨w.heap.size, 0, none⟩) (show w.heap.size ≤ w.heap.size by omega) (.int .i64 (chV a))).setCell (p := ⟨w.heap.size, 1, none⟩) (show w.heap.size ≤ w.heap.size by omega) (.bool true)).setCell (p := ⟨w.heap.size, 2, none⟩) (show w.heap.size ≤ w.heap.size by omega) (.int .i64 0)).setCell (p := ⟨w.heap.size, 3, none⟩) (show w.heap.size ≤ w.heap.size by omega) (.int .i64 0)).setCell (p := ⟨w.heap.size, 4, none⟩) (show w.heap.size ≤ w.heap.size by omega) (.slice none 0 0)
    refine ret_row Tryz.results71 rfl rfl b1 Tryz.underlying31 rfl (by kernel_rfl) ?_
    exact ⟨rfl, kx⟩
set_option maxRecDepth 100000 in
set_option maxHeartbeats 4000000 in
theorem fread3z_1 (w0 : World) (bw : Nat) (a : ByteArray) (b : ByteArray)     (hb : (b.toList == ([100, 105, 115, 99] : List UInt8)) = false) (hz1 : b.size ≤ 1000000) (hz2 : (spV b).1.size ≤ 1000000) (w : World) (gl : Gf w0 w) (bwd : WdG bw 2 [.string a, .string b] w)  : Calls Tryz.prog 71 #[.slice (some ⟨bw, 0, none⟩) 2 2] w fun r W' => r = .returned (.agg #[.int .i64 (chV a), .bool false, .int .i64 (atV (spV b).1), .int .i64 ((spV b).2), .slice none 0 0]) ∧ Kb w W' := by
  have kx := Kb.refl w
  have bwd0 := Lib.hid bwd
  have gl0 := Lib.hid gl
  have hbl := World.block_lt_of_cell? w _ (bwd 0 (by decide))
  have f1 : (w.alloc (.cells #[.int .i64 0, .bool false, .int .i64 0, .int .i64 0, .slice none 0 0] 31 (0, 0))).cell? ⟨bw, 0, none⟩ = some (.string a) := (bwd.alloc (.cells #[.int .i64 0, .bool false, .int .i64 0, .int .i64 0, .slice none 0 0] 31 (0, 0))).c 0 (by decide)
  go_enter Tryz.func71, Tryz.ntmps71
  go_wp2_with fail
  clear f1
  have b1 := Is.made w #[.int .i64 0, .bool false, .int .i64 0, .int .i64 0, .slice none 0 0] 31
  replace kx := kx.alloc (.cells #[.int .i64 0, .bool false, .int .i64 0, .int .i64 0, .slice none 0 0] 31 (0, 0))
  replace bwd := bwd0.out.kb kx
  replace gl := gl0.out.kb kx
  (with_reducible refine ((Cf.out (fcharV a) _ gl)).mono ?_)
  rintro r w1 ⟨rfl, k1⟩
  replace bwd := bwd.kb k1
  replace gl := gl.kb k1
  replace b1 := b1.kb k1
  replace kx := kx.trans k1
  have s1 := k1.size
  simp only [World.size_alloc] at s1
  clear k1
  have f2 : (w1.alloc (.cells #[.int .i64 (chV a), .bool false, .int .i64 0, .int .i64 0, .slice none 0 0] 31 (0, 0))).cell? ⟨bw, 1, none⟩ = some (.string b) := (bwd.alloc (.cells #[.int .i64 (chV a), .bool false, .int .i64 0, .int .i64 0, .slice none 0 0] 31 (0, 0))).c 1 (by decide)
  go_wp2_with fail
  clear f2
  replace b1 := (b1.alloc (.cells #[.int .i64 (chV a), .bool false, .int .i64 0, .int .i64 0, .slice none 0 0] 31 (0, 0)))
  have b2 := Is.made w1 #[.int .i64 (chV a), .bool false, .int .i64 0, .int .i64 0, .slice none 0 0] 31
  replace kx := kx.alloc (.cells #[.int .i64 (chV a), .bool false, .int .i64 0, .int .i64 0, .slice none 0 0] 31 (0, 0))
  replace bwd := bwd0.out.kb kx
  replace gl := gl0.out.kb kx
  (with_reducible refine ((Cf.out (fsplitV b hz1) _ gl)).mono ?_)
  rintro r w2 ⟨rfl, k2⟩
  replace bwd := bwd.kb k2
  replace gl := gl.kb k2
  replace b1 := b1.kb k2
  replace b2 := b2.kb k2
  replace kx := kx.trans k2
  have s2 := k2.size
  simp only [World.size_alloc] at s2
  clear k2
  go_wp2_with fail
  (with_reducible refine (fAtoi (spV b).1 hz2 _ gl).mono ?_)
  rintro r w3 ⟨⟨ev, rfl⟩, k3⟩
  replace bwd := bwd.kb k3
  replace gl := gl.kb k3
  replace b1 := b1.kb k3
  replace b2 := b2.kb k3
  replace kx := kx.trans k3
  have s3 := k3.size
  skip
  clear k3
  have f3 := b2.c (i := 2) rfl
  have f4 := b2.f 2
  have j5 := (b2.set 2 (.int .i64 (atV (spV b).1)))
  have f6 := j5.c (i := 3) rfl
  have f7 := j5.f 3
  go_wp2_with fail
  refine wp_loop_rounds 1 ?_
  rw [rounds_succ]
  have j8 := ((b2.set 2 (.int .i64 (atV (spV b).1))).set 3 (.int .i64 ((spV b).2)))
  have f9 := j8.c (i := 0) rfl
  have f10 := j8.c (i := 1) rfl
  have f11 := j8.c (i := 2) rfl
  have f12 := j8.c (i := 3) rfl
  have f13 := j8.c (i := 4) rfl
  have j14 := ((b1.far (p := ⟨w1.heap.size, 2, none⟩) (show w.heap.size ≠ w1.heap.size by omega) (.int .i64 (atV (spV b).1))).far (p := ⟨w1.heap.size, 3, none⟩) (show w.heap.size ≠ w1.heap.size by omega) (.int .i64 ((spV b).2)))
  have f15 := j14.c (i := 0) rfl
  have f16 := j14.f 0
  have f17 := j14.c (i := 1) rfl
  have f18 := j14.f 1
  have f19 := j14.c (i := 2) rfl
  have f20 := j14.f 2
  have f21 := j14.c (i := 3) rfl
  have f22 := j14.f 3
  have f23 := j14.c (i := 4) rfl
  have f24 := j14.f 4
  go_wp2
  clear f3 f4 f6 f7 f9 f10 f11 f12 f13 f15 f16 f17 f18 f19 f20 f21 f22 f23 f24
  replace b1 := (b1.far (p := ⟨w1.heap.size, 2, none⟩) (show w.heap.size ≠ w1.heap.size by omega) (.int .i64 (atV (spV b).1)))
  replace b1 := (b1.far (p := ⟨w1.heap.size, 3, none⟩) (show w.heap.size ≠ w1.heap.size by omega) (.int .i64 ((spV b).2)))
  replace b1 : Is _ _ #[.int .i64 (chV a), .bool false, .int .i64 0, .int .i64 0, .slice none 0 0] _ := b1.set 0 (.int .i64 (chV a))
  replace b1 : Is _ _ #[.int .i64 (chV a), .bool false, .int .i64 0, .int .i64 0, .slice none 0 0] _ := b1.set 1 (.bool false)
  replace b1 : Is _ _ #[.int .i64 (chV a), .bool false, .int .i64 (atV (spV b).1), .int .i64 0, .slice none 0 0] _ := b1.set 2 (.int .i64 (atV (spV b).1))
  replace b1 : Is _ _ #[.int .i64 (chV a), .bool false, .int .i64 (atV (spV b).1), .int .i64 ((spV b).2), .slice none 0 0] _ := b1.set 3 (.int .i64 ((spV b).2))
  replace b1 : Is _ _ #[.int .i64 (chV a), .bool false, .int .i64 (atV (spV b).1), .int .i64 ((spV b).2), .slice none 0 0] _ := b1.set 4 (.slice none 0 0)
  replace kx := ((((((kx.setCell (p := ⟨w1.heap.size, 2, none⟩) (show w.heap.size ≤ w1.heap.size by omega) (.int .i64 (atV (spV b).1))).setCell (p := ⟨w1.heap.size, 3, none⟩) (show w.heap.size ≤ w1.heap.size by omega) (.int .i64 ((spV b).2))).setCell (p := ⟨w.heap.size, 0, none⟩) (show w.heap.size ≤ w.heap.size by omega) (.int .i64 (chV a))).setCell (p := ⟨w.heap.size, 1, none⟩) (show w.heap.size ≤ w.heap.size by omega) (.bool false)).setCell (p := ⟨w.heap.size, 2, none⟩) (show w.heap.size ≤ w.heap.size by omega) (.int .i64 (atV (spV b).1))).setCell (p := ⟨w.heap.size, 3, none⟩) (show w.heap.size ≤ w.heap.size by omega) (.int .i64 ((spV b).2))).setCell (p := ⟨w.heap.size, 4, none⟩) (show w.heap.size ≤ w.heap.size by omega) (.slice none 0 0)
  refine ret_row Tryz.results71 rfl rfl b1 Tryz.underlying31 rfl (by kernel_rfl) ?_
  exact ⟨rfl, kx⟩
set_option maxRecDepth 100000 in
set_option maxHeartbeats 4000000 in
theorem fread3s_1 (w0 w : World) (bw : Nat) (a : ByteArray) (b : ByteArray) (n : Nat) (l : List ByteArray)     (hb : (b.toList == ([100, 105, 115, 99] : List UInt8)) = false) (hz1 : b.size ≤ 1000000) (hz2 : (spV b).1.size ≤ 1000000) (hln : l.length = n + 1) (hn5 : n + 1 ≤ 5000) (hwl : ∀ i s, l[i]? = some s → w.cell? ⟨bw, 2 + i, none⟩ = some (.string s)) (hzl : ∀ s ∈ l, s.size ≤ 1000000) (gl : Gf w0 w) (bwd : WdG bw 2 [.string a, .string b] w)  : Calls Tryz.prog 71 #[.slice (some ⟨bw, 0, none⟩) (n + 3) (n + 3)] w fun r W' => (∃ dp dc, r = .returned (.agg #[.int .i64 (chV a), .bool false, .int .i64 (atV (spV b).1), .int .i64 (spV b).2, .slice dp (n + 1) dc]) ∧ DatN w W' (.slice dp (n + 1) dc) (l.map spV) ∧ n + 1 ≤ dc) ∧ Kb w W' := by
  have kx := Kb.refl w
  have bwd0 := Lib.hid bwd
  have gl0 := Lib.hid gl
  have hbl := World.block_lt_of_cell? w _ (bwd 0 (by decide))
  have hs0a : (1 : Int) ≤ (n : Int) + 3 := by omega
  have hs0b : (0 : Int) < (n : Int) + 3 := by omega
  have hs0c : (((n : Int) + 3) == 0) = false := by simp only [beq_eq_false_iff_ne]; omega
  have hs0d : (0 : Int) ≤ (n : Int) + 3 := by omega
  have hs1a : (1 : Int) ≤ (n : Int) + 2 := by omega
  have hs1b : (0 : Int) < (n : Int) + 2 := by omega
  have hs1c : (((n : Int) + 2) == 0) = false := by simp only [beq_eq_false_iff_ne]; omega
  have hs1d : (0 : Int) ≤ (n : Int) + 2 := by omega
  have hs2a : (1 : Int) ≤ (n : Int) + 1 := by omega
  have hs2b : (0 : Int) < (n : Int) + 1 := by omega
  have hs2c : (((n : Int) + 1) == 0) = false := by simp only [beq_eq_false_iff_ne]; omega
  have hs2d : (0 : Int) ≤ (n : Int) + 1 := by omega
  have f1 : (w.alloc (.cells #[.int .i64 0, .bool false, .int .i64 0, .int .i64 0, .slice none 0 0] 31 (0, 0))).cell? ⟨bw, 0, none⟩ = some (.string a) := (bwd.alloc (.cells #[.int .i64 0, .bool false, .int .i64 0, .int .i64 0, .slice none 0 0] 31 (0, 0))).c 0 (by decide)
  go_enter Tryz.func71, Tryz.ntmps71
  go_wp2_with fail
  clear f1
  have b1 := Is.made w #[.int .i64 0, .bool false, .int .i64 0, .int .i64 0, .slice none 0 0] 31
  replace kx := kx.alloc (.cells #[.int .i64 0, .bool false, .int .i64 0, .int .i64 0, .slice none 0 0] 31 (0, 0))
  replace bwd := bwd0.out.kb kx
  replace gl := gl0.out.kb kx
  (with_reducible refine ((Cf.out (fcharV a) _ gl)).mono ?_)
  rintro r w1 ⟨rfl, k1⟩
  replace bwd := bwd.kb k1
  replace gl := gl.kb k1
  replace b1 := b1.kb k1
  replace kx := kx.trans k1
  have s1 := k1.size
  simp only [World.size_alloc] at s1
  clear k1
  have f2 : (w1.alloc (.cells #[.int .i64 (chV a), .bool false, .int .i64 0, .int .i64 0, .slice none 0 0] 31 (0, 0))).cell? ⟨bw, 1, none⟩ = some (.string b) := (bwd.alloc (.cells #[.int .i64 (chV a), .bool false, .int .i64 0, .int .i64 0, .slice none 0 0] 31 (0, 0))).c 1 (by decide)
  go_wp2_with fail
  clear f2
  replace b1 := (b1.alloc (.cells #[.int .i64 (chV a), .bool false, .int .i64 0, .int .i64 0, .slice none 0 0] 31 (0, 0)))
  have b2 := Is.made w1 #[.int .i64 (chV a), .bool false, .int .i64 0, .int .i64 0, .slice none 0 0] 31
  replace kx := kx.alloc (.cells #[.int .i64 (chV a), .bool false, .int .i64 0, .int .i64 0, .slice none 0 0] 31 (0, 0))
  replace bwd := bwd0.out.kb kx
  replace gl := gl0.out.kb kx
  (with_reducible refine ((Cf.out (fsplitV b hz1) _ gl)).mono ?_)
  rintro r w2 ⟨rfl, k2⟩
  replace bwd := bwd.kb k2
  replace gl := gl.kb k2
  replace b1 := b1.kb k2
  replace b2 := b2.kb k2
  replace kx := kx.trans k2
  have s2 := k2.size
  simp only [World.size_alloc] at s2
  clear k2
  go_wp2_with fail
  (with_reducible refine (fAtoi (spV b).1 hz2 _ gl).mono ?_)
  rintro r w3 ⟨⟨ev, rfl⟩, k3⟩
  replace bwd := bwd.kb k3
  replace gl := gl.kb k3
  replace b1 := b1.kb k3
  replace b2 := b2.kb k3
  replace kx := kx.trans k3
  have s3 := k3.size
  skip
  clear k3
  have f3 := b2.c (i := 2) rfl
  have f4 := b2.f 2
  have j5 := (b2.set 2 (.int .i64 (atV (spV b).1)))
  have f6 := j5.c (i := 3) rfl
  have f7 := j5.f 3
  go_wp2_with fail
  clear f3 f4 f6 f7
  replace b1 := ((b1.far (p := ⟨w1.heap.size, 2, none⟩) (show w.heap.size ≠ w1.heap.size by omega) (.int .i64 (atV (spV b).1))).far (p := ⟨w1.heap.size, 3, none⟩) (show w.heap.size ≠ w1.heap.size by omega) (.int .i64 ((spV b).2)))
  replace b2 : Is _ _ #[.int .i64 (chV a), .bool false, .int .i64 (atV (spV b).1), .int .i64 0, .slice none 0 0] _ := b2.set 2 (.int .i64 (atV (spV b).1))
  replace b2 : Is _ _ #[.int .i64 (chV a), .bool false, .int .i64 (atV (spV b).1), .int .i64 ((spV b).2), .slice none 0 0] _ := b2.set 3 (.int .i64 ((spV b).2))
  replace kx := (kx.setCell (p := ⟨w1.heap.size, 2, none⟩) (show w.heap.size ≤ w1.heap.size by omega) (.int .i64 (atV (spV b).1))).setCell (p := ⟨w1.heap.size, 3, none⟩) (show w.heap.size ≤ w1.heap.size by omega) (.int .i64 ((spV b).2))
  clear j5
  replace bwd := bwd0.out.kb kx
  replace gl := gl0.out.kb kx
  have s4 : w3.heap.size ≤ ((w3.setCell ⟨w1.heap.size, 2, none⟩ (.int .i64 (atV (spV b).1))).setCell ⟨w1.heap.size, 3, none⟩ (.int .i64 ((spV b).2))).heap.size := by simp only [World.size_setCell]; exact Nat.le_refl _
  generalize ((w3.setCell ⟨w1.heap.size, 2, none⟩ (.int .i64 (atV (spV b).1))).setCell ⟨w1.heap.size, 3, none⟩ (.int .i64 ((spV b).2))) = w4 at *
  obtain ⟨i0, hi0, hz0, hzs1, hzs2⟩ := info_parts dat_info
  have hRA : w.heap.size < w1.heap.size := by omega
  have hXA : w1.heap.size < w4.heap.size := b2.lt
  have hRB : w.heap.size ≤ w.heap.size := by omega
  have HN := Lib.hid (show l.length = n + 1 from hln)
  have HW := Lib.hid hwl
  have HZ := Lib.hid hzl
  have HX0 : Hid (w4.ownsRow w4.heap.size 76 2 (.slice none 0 0) 0 (flatD ((l.map spV).take 0))) := Lib.hid (World.ownsRow_nil _ _ _ _)
  generalize hA1 : w.heap.size = ra at *
  generalize hA2 : w1.heap.size = xa at *
  generalize hB1 : w4.heap.size = b0 at *
  have hn0 : (0 : Int) ≤ (n : Int) := by omega
  clear hln hwl hzl
  go_loopg [51] (n + 1) (fun gk s51 wr => ∃ (i : Nat) (v : Value), s51 = .int .i64 i ∧ i + gk = n + 1 ∧ Is wr xa #[.int .i64 (chV a), .bool false, .int .i64 (atV (spV b).1), .int .i64 ((spV b).2), v] 31 ∧ Is wr ra #[.int .i64 0, .bool false, .int .i64 0, .int .i64 0, .slice none 0 0] 31 ∧ Hid (wr.ownsRow b0 76 2 v i (flatD ((l.map spV).take i))) ∧ Kb w wr ∧ Hid (b0 ≤ wr.heap.size))
  case atStart => exact ⟨0, .slice none 0 0, rfl, by omega, b2, b1, HX0, kx, Lib.hid (show b0 ≤ w4.heap.size by omega)⟩
  case round =>
    obtain ⟨i, v, rfl, hi9, bx, br, hO, kr, hS⟩ := hrel
    have hi00 : (0 : Int) ≤ (i : Int) := by omega
    by_cases hlt : i < n + 1
    · have hlt2 : (i : Int) < (n : Int) + 1 := by omega
      have hli := HN.out
      obtain ⟨sw, hsw⟩ : ∃ sw, l[i]? = some sw := ⟨_, List.getElem?_eq_getElem (by omega)⟩
      have hc := kr.cell (HW.out i sw hsw)
      have hzz := HZ.out sw (List.mem_of_getElem? hsw)
      have hst : (l.map spV).take (i + 1) = (l.map spV).take i ++ [spV sw] := by rw [List.take_add_one, List.getElem?_map, hsw]; rfl
      have hfl : flatD ((l.map spV).take (i + 1)) = flatD ((l.map spV).take i) ++ datRow (spV sw) := by rw [hst, flatD_snoc]
      have hq := Lib.hid ((fsplitV (w0 := w0) sw hzz).out wr (gl0.out.kb kr))
      have Hi9 := Lib.hid hi9
      have HF := Lib.hid hfl
      obtain ⟨⟨sn, sm⟩, hsp⟩ : ∃ z, z = spV sw := ⟨_, rfl⟩
      rw [← hsp] at hq HF
      have HSP := Lib.hid hsp
      have lim := Lib.hid (show n + 1 ≤ 5000 from hn5)
      clear hsw hst hfl hi9 hsp hzz hli
      go_wp2_with fail
      refine (hq.out).mono ?_
      rintro r w1 ⟨rfl, k1⟩
      have kr1 := kr.trans k1
      have bx1 := bx.kb k1
      have br1 := br.kb k1
      have hO1 := owns_kb hO.out k1
      have sz := k1.size
      have x4 := bx1.c (i := 4) rfl
      have HS := Lib.hid (show b0 ≤ w1.heap.size from Nat.le_trans hS.out sz)
      clear hq hc
      go_wp2_with (first | (at_builtin; refine wpList_append_own _ rfl _ _ 29 rfl b0 76 i0 (.agg #[.string ⟨#[]⟩, .int .i64 0]) 2 24 Tryz.underlying29 hi0 hz0 hzs1 hzs2 rfl (by decide) _ _ _ rfl (hO1.alloc _) ⟨w1.heap.size, 0, none⟩ 1 1 (datRow (sn, sm)) rfl rfl ?c1 ?c2 ?c3 ?c4 ?c5 ?_) | fail)
      case c1 => exact World.news_of_block (show (w1.heap.push _)[w1.heap.size]? = some (.cells #[.string sn, .int .i64 sm] 76 (0, 0)) by simp)
      case c2 => intro u hu; simp [datRow] at hu; rcases hu with rfl | rfl <;> rfl
      case c3 => have := lim.out; unfold maxLen; omega
      case c4 => have := lim.out; omega
      case c5 => have := HS.out; simp; omega
      intro v' w2 hO2 hg2 _
      have hne : v.ownBlock ≠ some xa := fun e => by have := owns_far hO1 _ e; omega
      have hne2 : v.ownBlock ≠ some ra := fun e => by have := owns_far hO1 _ e; omega
      have bx2 := (bx1.alloc (.cells #[.string sn, .int .i64 sm] 76 (0, 0))).grown hg2 hne
      have br2 := (br1.alloc (.cells #[.string sn, .int .i64 sm] 76 (0, 0))).grown hg2 hne2
      have kr2 := (kr1.alloc (.cells #[.string sn, .int .i64 sm] 76 (0, 0))).grown hg2 (fun j hj => by have := owns_far hO1 _ hj; omega)
      have HS2 := Lib.hid (show b0 ≤ w2.heap.size by have := HS.out; have := hg2.size; simp at this; omega)
      rw [← HF.out] at hO2
      obtain ⟨ao, cap, rfl, hcap⟩ := owns_slice hO2
      have z4 := bx2.c (i := 4) rfl
      have f4 := bx2.f 4
      have HO2 := Lib.hid hO2
      have Hi := Hi9
      clear hO2 hg2 hO1 hO x4 bx1 br1 hne hne2 bx br
      go_wp2_with fail
      have hi9 := Hi.out
      go_roundg (gk - 1)
      case measure => omega
      case rel => exact ⟨i + 1, .slice ao (i + 1) cap, by go_num, by omega, bx2.set 4 _, br2.far (by show ra ≠ xa; omega) _, Lib.hid (owns_set HO2.out _ (show xa < b0 by omega) _), kr2.setCell (show w.heap.size ≤ xa by omega) _, Lib.hid (by simpa using HS2.out)⟩
    · obtain rfl : i = n + 1 := by omega
      have hall : (l.map spV).take (n + 1) = l.map spV := List.take_of_length_le (by rw [List.length_map]; have := HN.out; omega)
      rw [hall] at hO
      obtain ⟨dp, dc, rfl, hcap⟩ := owns_slice hO.out
      have x0 := bx.c (i := 0) rfl
      have x1 := bx.c (i := 1) rfl
      have x2 := bx.c (i := 2) rfl
      have x3 := bx.c (i := 3) rfl
      have x4 := bx.c (i := 4) rfl
      have z0 := br.c (i := 0) rfl
      have z1 := br.c (i := 1) rfl
      have z2 := br.c (i := 2) rfl
      have z3 := br.c (i := 3) rfl
      have z4 := br.c (i := 4) rfl
      have f0 := br.f 0
      have f1 := br.f 1
      have f2 := br.f 2
      have f3 := br.f 3
      have f4 := br.f 4
      have BR := Lib.hid br
      have KR := Lib.hid kr
      have hRW := Lib.hid (show w.heap.size ≤ ra by omega)
      have hRb := Lib.hid (show ra < b0 by omega)
      have hWB := Lib.hid (show w.heap.size ≤ b0 by omega)
      have HO := hO
      clear hO bx br kr hi9 hall
      go_wp2
      have b1 := (((((BR.out.set 0 (.int .i64 (chV a))).set 1 (.bool false)).set 2 (.int .i64 (atV (spV b).1))).set 3 (.int .i64 ((spV b).2))).set 4 (.slice dp (n + 1) dc))
      have k2 := (((((KR.out.setCell (p := ⟨ra, 0, none⟩) hRW.out (.int .i64 (chV a))).setCell (p := ⟨ra, 1, none⟩) hRW.out (.bool false)).setCell (p := ⟨ra, 2, none⟩) hRW.out (.int .i64 (atV (spV b).1))).setCell (p := ⟨ra, 3, none⟩) hRW.out (.int .i64 ((spV b).2))).setCell (p := ⟨ra, 4, none⟩) hRW.out (.slice dp (n + 1) dc))
      have o2 := owns_set (owns_set (owns_set (owns_set (owns_set HO.out ⟨ra, 0, none⟩ hRb.out (.int .i64 (chV a))) ⟨ra, 1, none⟩ hRb.out (.bool false)) ⟨ra, 2, none⟩ hRb.out (.int .i64 (atV (spV b).1))) ⟨ra, 3, none⟩ hRb.out (.int .i64 ((spV b).2))) ⟨ra, 4, none⟩ hRb.out (.slice dp (n + 1) dc)
      refine ret_row Tryz.results71 rfl rfl b1 Tryz.underlying31 rfl (by kernel_rfl) ?_
      exact ⟨⟨dp, dc, rfl, fun L hL => owns_datsL o2 (by rw [List.length_map]; exact HN.out) L (fun x hx => Nat.lt_of_lt_of_le (hL x hx) hWB.out), hcap⟩, k2⟩
set_option maxRecDepth 100000 in
set_option maxHeartbeats 4000000 in
theorem fread4z_1 (w0 : World) (bw : Nat) (a : ByteArray) (b : ByteArray) (e : ByteArray)     (hb : (b.toList == ([100, 105, 115, 99] : List UInt8)) = true) (hz1 : e.size ≤ 1000000) (hz2 : (spV e).1.size ≤ 1000000) (w : World) (gl : Gf w0 w) (bwd : WdG bw 3 [.string a, .string b, .string e] w)  : Calls Tryz.prog 71 #[.slice (some ⟨bw, 0, none⟩) 3 3] w fun r W' => r = .returned (.agg #[.int .i64 (chV a), .bool true, .int .i64 (atV (spV e).1), .int .i64 ((spV e).2), .slice none 0 0]) ∧ Kb w W' := by
  have kx := Kb.refl w
  have bwd0 := Lib.hid bwd
  have gl0 := Lib.hid gl
  have hbl := World.block_lt_of_cell? w _ (bwd 0 (by decide))
  have f1 : (w.alloc (.cells #[.int .i64 0, .bool false, .int .i64 0, .int .i64 0, .slice none 0 0] 31 (0, 0))).cell? ⟨bw, 0, none⟩ = some (.string a) := (bwd.alloc (.cells #[.int .i64 0, .bool false, .int .i64 0, .int .i64 0, .slice none 0 0] 31 (0, 0))).c 0 (by decide)
  go_enter Tryz.func71, Tryz.ntmps71
  go_wp2_with fail
  clear f1
  have b1 := Is.made w #[.int .i64 0, .bool false, .int .i64 0, .int .i64 0, .slice none 0 0] 31
  replace kx := kx.alloc (.cells #[.int .i64 0, .bool false, .int .i64 0, .int .i64 0, .slice none 0 0] 31 (0, 0))
  replace bwd := bwd0.out.kb kx
  replace gl := gl0.out.kb kx
  (with_reducible refine ((Cf.out (fcharV a) _ gl)).mono ?_)
  rintro r w1 ⟨rfl, k1⟩
  replace bwd := bwd.kb k1
  replace gl := gl.kb k1
  replace b1 := b1.kb k1
  replace kx := kx.trans k1
  have s1 := k1.size
  simp only [World.size_alloc] at s1
  clear k1
  have f2 : (w1.alloc (.cells #[.int .i64 (chV a), .bool false, .int .i64 0, .int .i64 0, .slice none 0 0] 31 (0, 0))).cell? ⟨bw, 1, none⟩ = some (.string b) := (bwd.alloc (.cells #[.int .i64 (chV a), .bool false, .int .i64 0, .int .i64 0, .slice none 0 0] 31 (0, 0))).c 1 (by decide)
  go_wp2_with fail
  clear f2
  replace b1 := (b1.alloc (.cells #[.int .i64 (chV a), .bool false, .int .i64 0, .int .i64 0, .slice none 0 0] 31 (0, 0)))
  have b2 := Is.made w1 #[.int .i64 (chV a), .bool false, .int .i64 0, .int .i64 0, .slice none 0 0] 31
  replace kx := kx.alloc (.cells #[.int .i64 (chV a), .bool false, .int .i64 0, .int .i64 0, .slice none 0 0] 31 (0, 0))
  replace bwd := bwd0.out.kb kx
  replace gl := gl0.out.kb kx
  replace bwd := bwd.drew
  replace gl := gl.drew
  replace b1 := b1.drew
  replace b2 := b2.drew
  rw [oF_lit]
  refine o_law (⟨70, [some 26, some 27, some 28, none, some 0], [26, 27, 28, 28, 0], [[], [0], [], [2], [1]], [[0], [], [3], [], []]⟩ : OT) (Gz w1.heap.size #[.int .i64 (chV a), .bool false, .int .i64 0, .int .i64 0, .slice none 0 0] #[.int .i64 (chV a), .bool true, .int .i64 0, .int .i64 0, .slice none 0 0] 31) (RL [fun vv _ => vv = .slice (some ⟨bw, 1, none⟩) 2 2, fun vv _ => vv = .slice (some ⟨bw, 2, none⟩) 1 1, fun vv _ => vv = .pointer (some ⟨w1.heap.size, 1, none⟩), fun _ ww => Is ww w1.heap.size #[.int .i64 (chV a), .bool true, .int .i64 0, .int .i64 0, .slice none 0 0] 31, fun vv _ => vv = .slice (some ⟨bw, 2, none⟩) 1 1]) (by kernel_rfl) ?hk ?hR ?fin
  case hk => kernel_rfl
  case hR =>
    refine ⟨fun _ => (Gz.refl _ _ _ _ _), fun _ _ _ => Gz.trans, rl_stab ⟨fun _ _ _ _ h => h, fun _ _ _ _ h => h, fun _ _ _ _ h => h, (fun v w w' k h => k.2.1 h), fun _ _ _ _ h => h, trivial⟩, ?_⟩
    refine allO_cons ?_ (allO_cons ?_ (allO_cons ?_ (allO_cons ?_ (allO_cons ?_ (allO_nil)))))
    · intro T w9 hG hD hO Q
      have q0 := hO.1
      have e0 : (oF 70 T).eval (.tmp 0) = .slice (some ⟨bw, 1, none⟩) 2 2 := (oF_eval (by decide)).trans (show T 0 = _ from q0)
      refine og_none rfl ?_
      exact o_val (v := .slice (some ⟨bw, 1, none⟩) 2 2) (w' := w9) (by generalize (oF 70 T).eval = rr at *; simp [execOp, go_sem, e0]) rfl rfl (Gz.refl _ _ _ _ _)
    · intro T w9 hG hD hO Q
      have d0 := hD.1
      have e0 : (oF 70 T).eval (.tmp 26) = .slice (some ⟨bw, 1, none⟩) 2 2 := (oF_eval (by decide)).trans (show T 26 = _ from d0)
      have e1 : (oF 70 T).eval (.const (.int .i64 1)) = .int .i64 1 := rfl
      refine og_none rfl ?_
      exact o_val (v := .slice (some ⟨bw, 2, none⟩) 1 1) (w' := w9) (by generalize (oF 70 T).eval = rr at *; simp [execOp, go_sem, e0, e1]) rfl rfl (Gz.refl _ _ _ _ _)
    · intro T w9 hG hD hO Q
      have q0 := hO.1
      have e0 : (oF 70 T).eval (.tmp 3) = .pointer (some ⟨w1.heap.size, 0, none⟩) := (oF_eval (by decide)).trans (show T 3 = _ from q0)
      refine og_none rfl ?_
      exact o_val (v := .pointer (some ⟨w1.heap.size, 1, none⟩)) (w' := w9) (by generalize (oF 70 T).eval = rr at *; simp [execOp, go_sem, e0]) rfl rfl (Gz.refl _ _ _ _ _)
    · intro T w9 hG hD hO Q
      have d0 := hD.1
      have e0 : (oF 70 T).eval (.tmp 28) = .pointer (some ⟨w1.heap.size, 1, none⟩) := (oF_eval (by decide)).trans (show T 28 = _ from d0)
      have e1 : (oF 70 T).eval (.const (.bool true)) = .bool true := rfl
      refine og_none rfl ?_
      have io : Is w9 w1.heap.size #[.int .i64 (chV a), .bool false, .int .i64 0, .int .i64 0, .slice none 0 0] 31 ∨ Is w9 w1.heap.size #[.int .i64 (chV a), .bool true, .int .i64 0, .int .i64 0, .slice none 0 0] 31 := hG.2.2 (.inl b2)
      rcases io with io | io
      · have zn := io
        replace zn : Is (w9.setCell ⟨w1.heap.size, 1, none⟩ (.bool true)) (w1.heap.size) #[.int .i64 (chV a), .bool true, .int .i64 0, .int .i64 0, .slice none 0 0] 31 := zn.set 1 _
        have pt := ((Pt.refl w1.heap.size w9).set 1 (.bool true))
        have m1 := io.c (i := 1) rfl
        have f1 := io.f 1
        clear io
        exact o_skip (w' := (w9.setCell ⟨w1.heap.size, 1, none⟩ (.bool true))) (by generalize (oF 70 T).eval = rr at *; simp [execOp, go_sem, e0, e1, m1, f1]) rfl zn (pt.gz zn)
      · have zn := io
        replace zn : Is (w9.setCell ⟨w1.heap.size, 1, none⟩ (.bool true)) (w1.heap.size) #[.int .i64 (chV a), .bool true, .int .i64 0, .int .i64 0, .slice none 0 0] 31 := zn.set 1 _
        have pt := ((Pt.refl w1.heap.size w9).set 1 (.bool true))
        have m1 := io.c (i := 1) rfl
        have f1 := io.f 1
        clear io
        exact o_skip (w' := (w9.setCell ⟨w1.heap.size, 1, none⟩ (.bool true))) (by generalize (oF 70 T).eval = rr at *; simp [execOp, go_sem, e0, e1, m1, f1]) rfl zn (pt.gz zn)
    · intro T w9 hG hD hO Q
      have d0 := hD.1
      have e0 : (oF 70 T).eval (.tmp 27) = .slice (some ⟨bw, 2, none⟩) 1 1 := (oF_eval (by decide)).trans (show T 27 = _ from d0)
      refine og_none rfl ?_
      exact o_val (v := .slice (some ⟨bw, 2, none⟩) 1 1) (w' := w9) (by generalize (oF 70 T).eval = rr at *; simp [execOp, go_sem, e0]) rfl rfl (Gz.refl _ _ _ _ _)
  case fin =>
    intro T w2 hout hval hG
    have s2 := hG.1.2.2.2.1
    simp only [World.size_drew, World.size_alloc] at s2
    rw [show oF 70 T = (⟨#[T 0, T 1, T 2, T 3, T 4, T 5, T 6, T 7, T 8, T 9, T 10, T 11, T 12, T 13, T 14, T 15, T 16, T 17, T 18, T 19, T 20, T 21, T 22, T 23, T 24, T 25, T 26, T 27, T 28, T 29, T 30, T 31, T 32, T 33, T 34, T 35, T 36, T 37, T 38, T 39, T 40, T 41, T 42, T 43, T 44, T 45, T 46, T 47, T 48, T 49, T 50, T 51, T 52, T 53, T 54, T 55, T 56, T 57, T 58, T 59, T 60, T 61, T 62, T 63, T 64, T 65, T 66, T 67, T 68, T 69], []⟩ : Act) from oF_list 70 T]
    rw [show T 0 = .slice (some ⟨bw, 2, none⟩) 1 1 from hval 4 (by decide : 4 < 5)]
    rw [show T 2 = .pointer (some ⟨w.heap.size, 0, none⟩) from hout 2 rfl]
    rw [show T 3 = .pointer (some ⟨w1.heap.size, 0, none⟩) from hout 3 rfl]
    rw [show T 10 = .slice (some ⟨bw, 0, none⟩) 3 3 from hout 10 rfl]
    rw [show T 11 = .pointer (some ⟨bw, 0, none⟩) from hout 11 rfl]
    rw [show T 12 = .string a from hout 12 rfl]
    rw [show T 13 = .int .i64 (chV a) from hout 13 rfl]
    rw [show T 14 = .agg #[.int .i64 (chV a), .bool false, .int .i64 0, .int .i64 0, .slice none 0 0] from hout 14 rfl]
    rw [show T 15 = .slice (some ⟨bw, 0, none⟩) 3 3 from hout 15 rfl]
    rw [show T 16 = .slice (some ⟨bw, 1, none⟩) 2 2 from hout 16 rfl]
    rw [show T 17 = .slice (some ⟨bw, 1, none⟩) 2 2 from hout 17 rfl]
    rw [show T 18 = .int .i64 2 from hout 18 rfl]
    rw [show T 19 = .bool true from hout 19 rfl]
    rw [show T 20 = .bool true from hout 20 rfl]
    rw [show T 21 = .slice (some ⟨bw, 1, none⟩) 2 2 from hout 21 rfl]
    rw [show T 22 = .pointer (some ⟨bw, 1, none⟩) from hout 22 rfl]
    rw [show T 23 = .string b from hout 23 rfl]
    rw [show T 24 = .bool true from hout 24 rfl]
    rw [show T 25 = .bool true from hout 25 rfl]
    replace b1 := b1.kx hG.1 (by simp only [List.mem_singleton]; omega)
    replace b2 := hval 3 (by decide)
    replace b2 : Is _ (w1.heap.size) #[.int .i64 (chV a), .bool true, .int .i64 0, .int .i64 0, .slice none 0 0] 31 := b2
    replace kx := hG.1.old kx.drew (by intro x hx; simp only [List.mem_singleton] at hx; subst hx; omega)
    replace bwd := bwd0.out.kb kx
    replace gl := gl0.out.kb kx
    clear hout hval hG
    have f3 : w2.cell? ⟨bw, 2, none⟩ = some (.string e) := bwd.c 2 (by decide)
    go_wp2_with fail
    clear f3
    (with_reducible refine ((Cf.out (fsplitV e hz1) _ gl)).mono ?_)
    rintro r w3 ⟨rfl, k3⟩
    replace bwd := bwd.kb k3
    replace gl := gl.kb k3
    replace b1 := b1.kb k3
    replace b2 := b2.kb k3
    replace kx := kx.trans k3
    have s3 := k3.size
    skip
    clear k3
    go_wp2_with fail
    (with_reducible refine (fAtoi (spV e).1 hz2 _ gl).mono ?_)
    rintro r w4 ⟨⟨ev, rfl⟩, k4⟩
    replace bwd := bwd.kb k4
    replace gl := gl.kb k4
    replace b1 := b1.kb k4
    replace b2 := b2.kb k4
    replace kx := kx.trans k4
    have s4 := k4.size
    skip
    clear k4
    have f4 := b2.c (i := 2) rfl
    have f5 := b2.f 2
    have j6 := (b2.set 2 (.int .i64 (atV (spV e).1)))
    have f7 := j6.c (i := 3) rfl
    have f8 := j6.f 3
    go_wp2_with fail
    refine wp_loop_rounds 1 ?_
    rw [rounds_succ]
    have j9 := ((b2.set 2 (.int .i64 (atV (spV e).1))).set 3 (.int .i64 ((spV e).2)))
    have f10 := j9.c (i := 0) rfl
    have f11 := j9.c (i := 1) rfl
    have f12 := j9.c (i := 2) rfl
    have f13 := j9.c (i := 3) rfl
    have f14 := j9.c (i := 4) rfl
    have j15 := ((b1.far (p := ⟨w1.heap.size, 2, none⟩) (show w.heap.size ≠ w1.heap.size by omega) (.int .i64 (atV (spV e).1))).far (p := ⟨w1.heap.size, 3, none⟩) (show w.heap.size ≠ w1.heap.size by omega) (.int .i64 ((spV e).2)))
    have f16 := j15.c (i := 0) rfl
    have f17 := j15.f 0
    have f18 := j15.c (i := 1) rfl
    have f19 := j15.f 1
    have f20 := j15.c (i := 2) rfl
    have f21 := j15.f 2
    have f22 := j15.c (i := 3) rfl
    have f23 := j15.f 3
    have f24 := j15.c (i := 4) rfl
    have f25 := j15.f 4
    go_wp2
    clear f4 f5 f7 f8 f10 f11 f12 f13 f14 f16 f17 f18 f19 f20 f21 f22 f23 f24 f25
    replace b1 := (b1.far (p := ⟨w1.heap.size, 2, none⟩) (show w.heap.size ≠ w1.heap.size by omega) (.int .i64 (atV (spV e).1)))
    replace b1 := (b1.far (p := ⟨w1.heap.size, 3, none⟩) (show w.heap.size ≠ w1.heap.size by omega) (.int .i64 ((spV e).2)))
    replace b1 : Is _ _ #[.int .i64 (chV a), .bool false, .int .i64 0, .int .i64 0, .slice none 0 0] _ := b1.set 0 (.int .i64 (chV a))
    replace b1 : Is _ _ #[.int .i64 (chV a), .bool true, .int .i64 0, .int .i64 0, .slice none 0 0] _ := b1.set 1 (.bool true)
    replace b1 : Is _ _ #[.int .i64 (chV a), .bool true, .int .i64 (atV (spV e).1), .int .i64 0, .slice none 0 0] _ := b1.set 2 (.int .i64 (atV (spV e).1))
    replace b1 : Is _ _ #[.int .i64 (chV a), .bool true, .int .i64 (atV (spV e).1), .int .i64 ((spV e).2), .slice none 0 0] _ := b1.set 3 (.int .i64 ((spV e).2))
    replace b1 : Is _ _ #[.int .i64 (chV a), .bool true, .int .i64 (atV (spV e).1), .int .i64 ((spV e).2), .slice none 0 0] _ := b1.set 4 (.slice none 0 0)
    replace kx := ((((((kx.setCell (p := ⟨w1.heap.size, 2, none⟩) (show w.heap.size ≤ w1.heap.size by omega) (.int .i64 (atV (spV e).1))).setCell (p := ⟨w1.heap.size, 3, none⟩) (show w.heap.size ≤ w1.heap.size by omega) (.int .i64 ((spV e).2))).setCell (p := ⟨w.heap.size, 0, none⟩) (show w.heap.size ≤ w.heap.size by omega) (.int .i64 (chV a))).setCell (p := ⟨w.heap.size, 1, none⟩) (show w.heap.size ≤ w.heap.size by omega) (.bool true)).setCell (p := ⟨w.heap.size, 2, none⟩) (show w.heap.size ≤ w.heap.size by omega) (.int .i64 (atV (spV e).1))).setCell (p := ⟨w.heap.size, 3, none⟩) (show w.heap.size ≤ w.heap.size by omega) (.int .i64 ((spV e).2))).setCell (p := ⟨w.heap.size, 4, none⟩) (show w.heap.size ≤ w.heap.size by omega) (.slice none 0 0)
    refine ret_row Tryz.results71 rfl rfl b1 Tryz.underlying31 rfl (by kernel_rfl) ?_
    exact ⟨rfl, kx⟩
set_option maxRecDepth 100000 in
set_option maxHeartbeats 4000000 in
theorem fread4s_1 (w0 w : World) (bw : Nat) (a : ByteArray) (b : ByteArray) (e : ByteArray) (n : Nat) (l : List ByteArray)     (hb : (b.toList == ([100, 105, 115, 99] : List UInt8)) = true) (hz1 : e.size ≤ 1000000) (hz2 : (spV e).1.size ≤ 1000000) (hln : l.length = n + 1) (hn5 : n + 1 ≤ 5000) (hwl : ∀ i s, l[i]? = some s → w.cell? ⟨bw, 3 + i, none⟩ = some (.string s)) (hzl : ∀ s ∈ l, s.size ≤ 1000000) (gl : Gf w0 w) (bwd : WdG bw 3 [.string a, .string b, .string e] w)  : Calls Tryz.prog 71 #[.slice (some ⟨bw, 0, none⟩) (n + 4) (n + 4)] w fun r W' => (∃ dp dc, r = .returned (.agg #[.int .i64 (chV a), .bool true, .int .i64 (atV (spV e).1), .int .i64 (spV e).2, .slice dp (n + 1) dc]) ∧ DatN w W' (.slice dp (n + 1) dc) (l.map spV) ∧ n + 1 ≤ dc) ∧ Kb w W' := by
  have kx := Kb.refl w
  have bwd0 := Lib.hid bwd
  have gl0 := Lib.hid gl
  have hbl := World.block_lt_of_cell? w _ (bwd 0 (by decide))
  have hs0a : (1 : Int) ≤ (n : Int) + 4 := by omega
  have hs0b : (0 : Int) < (n : Int) + 4 := by omega
  have hs0c : (((n : Int) + 4) == 0) = false := by simp only [beq_eq_false_iff_ne]; omega
  have hs0d : (0 : Int) ≤ (n : Int) + 4 := by omega
  have hs1a : (1 : Int) ≤ (n : Int) + 3 := by omega
  have hs1b : (0 : Int) < (n : Int) + 3 := by omega
  have hs1c : (((n : Int) + 3) == 0) = false := by simp only [beq_eq_false_iff_ne]; omega
  have hs1d : (0 : Int) ≤ (n : Int) + 3 := by omega
  have hs2a : (1 : Int) ≤ (n : Int) + 2 := by omega
  have hs2b : (0 : Int) < (n : Int) + 2 := by omega
  have hs2c : (((n : Int) + 2) == 0) = false := by simp only [beq_eq_false_iff_ne]; omega
  have hs2d : (0 : Int) ≤ (n : Int) + 2 := by omega
  have hs3a : (1 : Int) ≤ (n : Int) + 1 := by omega
  have hs3b : (0 : Int) < (n : Int) + 1 := by omega
  have hs3c : (((n : Int) + 1) == 0) = false := by simp only [beq_eq_false_iff_ne]; omega
  have hs3d : (0 : Int) ≤ (n : Int) + 1 := by omega
  have f1 : (w.alloc (.cells #[.int .i64 0, .bool false, .int .i64 0, .int .i64 0, .slice none 0 0] 31 (0, 0))).cell? ⟨bw, 0, none⟩ = some (.string a) := (bwd.alloc (.cells #[.int .i64 0, .bool false, .int .i64 0, .int .i64 0, .slice none 0 0] 31 (0, 0))).c 0 (by decide)
  go_enter Tryz.func71, Tryz.ntmps71
  go_wp2_with fail
  clear f1
  have b1 := Is.made w #[.int .i64 0, .bool false, .int .i64 0, .int .i64 0, .slice none 0 0] 31
  replace kx := kx.alloc (.cells #[.int .i64 0, .bool false, .int .i64 0, .int .i64 0, .slice none 0 0] 31 (0, 0))
  replace bwd := bwd0.out.kb kx
  replace gl := gl0.out.kb kx
  (with_reducible refine ((Cf.out (fcharV a) _ gl)).mono ?_)
  rintro r w1 ⟨rfl, k1⟩
  replace bwd := bwd.kb k1
  replace gl := gl.kb k1
  replace b1 := b1.kb k1
  replace kx := kx.trans k1
  have s1 := k1.size
  simp only [World.size_alloc] at s1
  clear k1
  have f2 : (w1.alloc (.cells #[.int .i64 (chV a), .bool false, .int .i64 0, .int .i64 0, .slice none 0 0] 31 (0, 0))).cell? ⟨bw, 1, none⟩ = some (.string b) := (bwd.alloc (.cells #[.int .i64 (chV a), .bool false, .int .i64 0, .int .i64 0, .slice none 0 0] 31 (0, 0))).c 1 (by decide)
  go_wp2_with fail
  clear f2
  replace b1 := (b1.alloc (.cells #[.int .i64 (chV a), .bool false, .int .i64 0, .int .i64 0, .slice none 0 0] 31 (0, 0)))
  have b2 := Is.made w1 #[.int .i64 (chV a), .bool false, .int .i64 0, .int .i64 0, .slice none 0 0] 31
  replace kx := kx.alloc (.cells #[.int .i64 (chV a), .bool false, .int .i64 0, .int .i64 0, .slice none 0 0] 31 (0, 0))
  replace bwd := bwd0.out.kb kx
  replace gl := gl0.out.kb kx
  replace bwd := bwd.drew
  replace gl := gl.drew
  replace b1 := b1.drew
  replace b2 := b2.drew
  rw [oF_lit]
  refine o_law (⟨70, [some 26, some 27, some 28, none, some 0], [26, 27, 28, 28, 0], [[], [0], [], [2], [1]], [[0], [], [3], [], []]⟩ : OT) (Gz w1.heap.size #[.int .i64 (chV a), .bool false, .int .i64 0, .int .i64 0, .slice none 0 0] #[.int .i64 (chV a), .bool true, .int .i64 0, .int .i64 0, .slice none 0 0] 31) (RL [fun vv _ => vv = .slice (some ⟨bw, 1, none⟩) (n + 3) (n + 3), fun vv _ => vv = .slice (some ⟨bw, 2, none⟩) (n + 2) (n + 2), fun vv _ => vv = .pointer (some ⟨w1.heap.size, 1, none⟩), fun _ ww => Is ww w1.heap.size #[.int .i64 (chV a), .bool true, .int .i64 0, .int .i64 0, .slice none 0 0] 31, fun vv _ => vv = .slice (some ⟨bw, 2, none⟩) (n + 2) (n + 2)]) (by kernel_rfl) ?hk ?hR ?fin
  case hk => kernel_rfl
  case hR =>
    refine ⟨fun _ => (Gz.refl _ _ _ _ _), fun _ _ _ => Gz.trans, rl_stab ⟨fun _ _ _ _ h => h, fun _ _ _ _ h => h, fun _ _ _ _ h => h, (fun v w w' k h => k.2.1 h), fun _ _ _ _ h => h, trivial⟩, ?_⟩
    refine allO_cons ?_ (allO_cons ?_ (allO_cons ?_ (allO_cons ?_ (allO_cons ?_ (allO_nil)))))
    · intro T w9 hG hD hO Q
      have q0 := hO.1
      have e0 : (oF 70 T).eval (.tmp 0) = .slice (some ⟨bw, 1, none⟩) (n + 3) (n + 3) := (oF_eval (by decide)).trans (show T 0 = _ from q0)
      refine og_none rfl ?_
      exact o_val (v := .slice (some ⟨bw, 1, none⟩) (n + 3) (n + 3)) (w' := w9) (by generalize (oF 70 T).eval = rr at *; simp [execOp, go_sem, e0]) rfl rfl (Gz.refl _ _ _ _ _)
    · intro T w9 hG hD hO Q
      have d0 := hD.1
      have e0 : (oF 70 T).eval (.tmp 26) = .slice (some ⟨bw, 1, none⟩) (n + 3) (n + 3) := (oF_eval (by decide)).trans (show T 26 = _ from d0)
      have e1 : (oF 70 T).eval (.const (.int .i64 1)) = .int .i64 1 := rfl
      refine og_none rfl ?_
      exact o_val (v := .slice (some ⟨bw, 2, none⟩) (n + 2) (n + 2)) (w' := w9) (by generalize (oF 70 T).eval = rr at *; simp [execOp, go_sem, e0, e1, hs1a]) rfl rfl (Gz.refl _ _ _ _ _)
    · intro T w9 hG hD hO Q
      have q0 := hO.1
      have e0 : (oF 70 T).eval (.tmp 3) = .pointer (some ⟨w1.heap.size, 0, none⟩) := (oF_eval (by decide)).trans (show T 3 = _ from q0)
      refine og_none rfl ?_
      exact o_val (v := .pointer (some ⟨w1.heap.size, 1, none⟩)) (w' := w9) (by generalize (oF 70 T).eval = rr at *; simp [execOp, go_sem, e0]) rfl rfl (Gz.refl _ _ _ _ _)
    · intro T w9 hG hD hO Q
      have d0 := hD.1
      have e0 : (oF 70 T).eval (.tmp 28) = .pointer (some ⟨w1.heap.size, 1, none⟩) := (oF_eval (by decide)).trans (show T 28 = _ from d0)
      have e1 : (oF 70 T).eval (.const (.bool true)) = .bool true := rfl
      refine og_none rfl ?_
      have io : Is w9 w1.heap.size #[.int .i64 (chV a), .bool false, .int .i64 0, .int .i64 0, .slice none 0 0] 31 ∨ Is w9 w1.heap.size #[.int .i64 (chV a), .bool true, .int .i64 0, .int .i64 0, .slice none 0 0] 31 := hG.2.2 (.inl b2)
      rcases io with io | io
      · have zn := io
        replace zn : Is (w9.setCell ⟨w1.heap.size, 1, none⟩ (.bool true)) (w1.heap.size) #[.int .i64 (chV a), .bool true, .int .i64 0, .int .i64 0, .slice none 0 0] 31 := zn.set 1 _
        have pt := ((Pt.refl w1.heap.size w9).set 1 (.bool true))
        have m1 := io.c (i := 1) rfl
        have f1 := io.f 1
        clear io
        exact o_skip (w' := (w9.setCell ⟨w1.heap.size, 1, none⟩ (.bool true))) (by generalize (oF 70 T).eval = rr at *; simp [execOp, go_sem, e0, e1, m1, f1]) rfl zn (pt.gz zn)
      · have zn := io
        replace zn : Is (w9.setCell ⟨w1.heap.size, 1, none⟩ (.bool true)) (w1.heap.size) #[.int .i64 (chV a), .bool true, .int .i64 0, .int .i64 0, .slice none 0 0] 31 := zn.set 1 _
        have pt := ((Pt.refl w1.heap.size w9).set 1 (.bool true))
        have m1 := io.c (i := 1) rfl
        have f1 := io.f 1
        clear io
        exact o_skip (w' := (w9.setCell ⟨w1.heap.size, 1, none⟩ (.bool true))) (by generalize (oF 70 T).eval = rr at *; simp [execOp, go_sem, e0, e1, m1, f1]) rfl zn (pt.gz zn)
    · intro T w9 hG hD hO Q
      have d0 := hD.1
      have e0 : (oF 70 T).eval (.tmp 27) = .slice (some ⟨bw, 2, none⟩) (n + 2) (n + 2) := (oF_eval (by decide)).trans (show T 27 = _ from d0)
      refine og_none rfl ?_
      exact o_val (v := .slice (some ⟨bw, 2, none⟩) (n + 2) (n + 2)) (w' := w9) (by generalize (oF 70 T).eval = rr at *; simp [execOp, go_sem, e0]) rfl rfl (Gz.refl _ _ _ _ _)
  case fin =>
    intro T w2 hout hval hG
    have s2 := hG.1.2.2.2.1
    simp only [World.size_drew, World.size_alloc] at s2
    rw [show oF 70 T = (⟨#[T 0, T 1, T 2, T 3, T 4, T 5, T 6, T 7, T 8, T 9, T 10, T 11, T 12, T 13, T 14, T 15, T 16, T 17, T 18, T 19, T 20, T 21, T 22, T 23, T 24, T 25, T 26, T 27, T 28, T 29, T 30, T 31, T 32, T 33, T 34, T 35, T 36, T 37, T 38, T 39, T 40, T 41, T 42, T 43, T 44, T 45, T 46, T 47, T 48, T 49, T 50, T 51, T 52, T 53, T 54, T 55, T 56, T 57, T 58, T 59, T 60, T 61, T 62, T 63, T 64, T 65, T 66, T 67, T 68, T 69], []⟩ : Act) from oF_list 70 T]
    rw [show T 0 = .slice (some ⟨bw, 2, none⟩) (n + 2) (n + 2) from hval 4 (by decide : 4 < 5)]
    rw [show T 2 = .pointer (some ⟨w.heap.size, 0, none⟩) from hout 2 rfl]
    rw [show T 3 = .pointer (some ⟨w1.heap.size, 0, none⟩) from hout 3 rfl]
    rw [show T 10 = .slice (some ⟨bw, 0, none⟩) (n + 4) (n + 4) from hout 10 rfl]
    rw [show T 11 = .pointer (some ⟨bw, 0, none⟩) from hout 11 rfl]
    rw [show T 12 = .string a from hout 12 rfl]
    rw [show T 13 = .int .i64 (chV a) from hout 13 rfl]
    rw [show T 14 = .agg #[.int .i64 (chV a), .bool false, .int .i64 0, .int .i64 0, .slice none 0 0] from hout 14 rfl]
    rw [show T 15 = .slice (some ⟨bw, 0, none⟩) (n + 4) (n + 4) from hout 15 rfl]
    rw [show T 16 = .slice (some ⟨bw, 1, none⟩) (n + 3) (n + 3) from hout 16 rfl]
    rw [show T 17 = .slice (some ⟨bw, 1, none⟩) (n + 3) (n + 3) from hout 17 rfl]
    rw [show T 18 = .int .i64 ((n : Int) + 3) from hout 18 rfl]
    rw [show T 19 = .bool true from hout 19 rfl]
    rw [show T 20 = .bool true from hout 20 rfl]
    rw [show T 21 = .slice (some ⟨bw, 1, none⟩) (n + 3) (n + 3) from hout 21 rfl]
    rw [show T 22 = .pointer (some ⟨bw, 1, none⟩) from hout 22 rfl]
    rw [show T 23 = .string b from hout 23 rfl]
    rw [show T 24 = .bool true from hout 24 rfl]
    rw [show T 25 = .bool true from hout 25 rfl]
    replace b1 := b1.kx hG.1 (by simp only [List.mem_singleton]; omega)
    replace b2 := hval 3 (by decide)
    replace b2 : Is _ (w1.heap.size) #[.int .i64 (chV a), .bool true, .int .i64 0, .int .i64 0, .slice none 0 0] 31 := b2
    replace kx := hG.1.old kx.drew (by intro x hx; simp only [List.mem_singleton] at hx; subst hx; omega)
    replace bwd := bwd0.out.kb kx
    replace gl := gl0.out.kb kx
    clear hout hval hG
    have f3 : w2.cell? ⟨bw, 2, none⟩ = some (.string e) := bwd.c 2 (by decide)
    go_wp2_with fail
    clear f3
    (with_reducible refine ((Cf.out (fsplitV e hz1) _ gl)).mono ?_)
    rintro r w3 ⟨rfl, k3⟩
    replace bwd := bwd.kb k3
    replace gl := gl.kb k3
    replace b1 := b1.kb k3
    replace b2 := b2.kb k3
    replace kx := kx.trans k3
    have s3 := k3.size
    skip
    clear k3
    go_wp2_with fail
    (with_reducible refine (fAtoi (spV e).1 hz2 _ gl).mono ?_)
    rintro r w4 ⟨⟨ev, rfl⟩, k4⟩
    replace bwd := bwd.kb k4
    replace gl := gl.kb k4
    replace b1 := b1.kb k4
    replace b2 := b2.kb k4
    replace kx := kx.trans k4
    have s4 := k4.size
    skip
    clear k4
    have f4 := b2.c (i := 2) rfl
    have f5 := b2.f 2
    have j6 := (b2.set 2 (.int .i64 (atV (spV e).1)))
    have f7 := j6.c (i := 3) rfl
    have f8 := j6.f 3
    go_wp2_with fail
    clear f4 f5 f7 f8
    replace b1 := ((b1.far (p := ⟨w1.heap.size, 2, none⟩) (show w.heap.size ≠ w1.heap.size by omega) (.int .i64 (atV (spV e).1))).far (p := ⟨w1.heap.size, 3, none⟩) (show w.heap.size ≠ w1.heap.size by omega) (.int .i64 ((spV e).2)))
    replace b2 : Is _ _ #[.int .i64 (chV a), .bool true, .int .i64 (atV (spV e).1), .int .i64 0, .slice none 0 0] _ := b2.set 2 (.int .i64 (atV (spV e).1))
    replace b2 : Is _ _ #[.int .i64 (chV a), .bool true, .int .i64 (atV (spV e).1), .int .i64 ((spV e).2), .slice none 0 0] _ := b2.set 3 (.int .i64 ((spV e).2))
    replace kx := (kx.setCell (p := ⟨w1.heap.size, 2, none⟩) (show w.heap.size ≤ w1.heap.size by omega) (.int .i64 (atV (spV e).1))).setCell (p := ⟨w1.heap.size, 3, none⟩) (show w.heap.size ≤ w1.heap.size by omega) (.int .i64 ((spV e).2))
    clear j6
    replace bwd := bwd0.out.kb kx
    replace gl := gl0.out.kb kx
    have s5 : w4.heap.size ≤ ((w4.setCell ⟨w1.heap.size, 2, none⟩ (.int .i64 (atV (spV e).1))).setCell ⟨w1.heap.size, 3, none⟩ (.int .i64 ((spV e).2))).heap.size := by simp only [World.size_setCell]; exact Nat.le_refl _
    generalize ((w4.setCell ⟨w1.heap.size, 2, none⟩ (.int .i64 (atV (spV e).1))).setCell ⟨w1.heap.size, 3, none⟩ (.int .i64 ((spV e).2))) = w5 at *
    obtain ⟨i0, hi0, hz0, hzs1, hzs2⟩ := info_parts dat_info
    have hRA : w.heap.size < w1.heap.size := by omega
    have hXA : w1.heap.size < w5.heap.size := b2.lt
    have hRB : w.heap.size ≤ w.heap.size := by omega
    have HN := Lib.hid (show l.length = n + 1 from hln)
    have HW := Lib.hid hwl
    have HZ := Lib.hid hzl
    have HX0 : Hid (w5.ownsRow w5.heap.size 76 2 (.slice none 0 0) 0 (flatD ((l.map spV).take 0))) := Lib.hid (World.ownsRow_nil _ _ _ _)
    generalize hA1 : w.heap.size = ra at *
    generalize hA2 : w1.heap.size = xa at *
    generalize hB1 : w5.heap.size = b0 at *
    have hn0 : (0 : Int) ≤ (n : Int) := by omega
    clear hln hwl hzl
    go_loopg [51] (n + 1) (fun gk s51 wr => ∃ (i : Nat) (v : Value), s51 = .int .i64 i ∧ i + gk = n + 1 ∧ Is wr xa #[.int .i64 (chV a), .bool true, .int .i64 (atV (spV e).1), .int .i64 ((spV e).2), v] 31 ∧ Is wr ra #[.int .i64 0, .bool false, .int .i64 0, .int .i64 0, .slice none 0 0] 31 ∧ Hid (wr.ownsRow b0 76 2 v i (flatD ((l.map spV).take i))) ∧ Kb w wr ∧ Hid (b0 ≤ wr.heap.size))
    case atStart => exact ⟨0, .slice none 0 0, rfl, by omega, b2, b1, HX0, kx, Lib.hid (show b0 ≤ w5.heap.size by omega)⟩
    case round =>
      obtain ⟨i, v, rfl, hi9, bx, br, hO, kr, hS⟩ := hrel
      have hi00 : (0 : Int) ≤ (i : Int) := by omega
      by_cases hlt : i < n + 1
      · have hlt2 : (i : Int) < (n : Int) + 1 := by omega
        have hli := HN.out
        obtain ⟨sw, hsw⟩ : ∃ sw, l[i]? = some sw := ⟨_, List.getElem?_eq_getElem (by omega)⟩
        have hc := kr.cell (HW.out i sw hsw)
        have hzz := HZ.out sw (List.mem_of_getElem? hsw)
        have hst : (l.map spV).take (i + 1) = (l.map spV).take i ++ [spV sw] := by rw [List.take_add_one, List.getElem?_map, hsw]; rfl
        have hfl : flatD ((l.map spV).take (i + 1)) = flatD ((l.map spV).take i) ++ datRow (spV sw) := by rw [hst, flatD_snoc]
        have hq := Lib.hid ((fsplitV (w0 := w0) sw hzz).out wr (gl0.out.kb kr))
        have Hi9 := Lib.hid hi9
        have HF := Lib.hid hfl
        obtain ⟨⟨sn, sm⟩, hsp⟩ : ∃ z, z = spV sw := ⟨_, rfl⟩
        rw [← hsp] at hq HF
        have HSP := Lib.hid hsp
        have lim := Lib.hid (show n + 1 ≤ 5000 from hn5)
        clear hsw hst hfl hi9 hsp hzz hli
        go_wp2_with fail
        refine (hq.out).mono ?_
        rintro r w1 ⟨rfl, k1⟩
        have kr1 := kr.trans k1
        have bx1 := bx.kb k1
        have br1 := br.kb k1
        have hO1 := owns_kb hO.out k1
        have sz := k1.size
        have x4 := bx1.c (i := 4) rfl
        have HS := Lib.hid (show b0 ≤ w1.heap.size from Nat.le_trans hS.out sz)
        clear hq hc
        go_wp2_with (first | (at_builtin; refine wpList_append_own _ rfl _ _ 29 rfl b0 76 i0 (.agg #[.string ⟨#[]⟩, .int .i64 0]) 2 24 Tryz.underlying29 hi0 hz0 hzs1 hzs2 rfl (by decide) _ _ _ rfl (hO1.alloc _) ⟨w1.heap.size, 0, none⟩ 1 1 (datRow (sn, sm)) rfl rfl ?c1 ?c2 ?c3 ?c4 ?c5 ?_) | fail)
        case c1 => exact World.news_of_block (show (w1.heap.push _)[w1.heap.size]? = some (.cells #[.string sn, .int .i64 sm] 76 (0, 0)) by simp)
        case c2 => intro u hu; simp [datRow] at hu; rcases hu with rfl | rfl <;> rfl
        case c3 => have := lim.out; unfold maxLen; omega
        case c4 => have := lim.out; omega
        case c5 => have := HS.out; simp; omega
        intro v' w2 hO2 hg2 _
        have hne : v.ownBlock ≠ some xa := fun e => by have := owns_far hO1 _ e; omega
        have hne2 : v.ownBlock ≠ some ra := fun e => by have := owns_far hO1 _ e; omega
        have bx2 := (bx1.alloc (.cells #[.string sn, .int .i64 sm] 76 (0, 0))).grown hg2 hne
        have br2 := (br1.alloc (.cells #[.string sn, .int .i64 sm] 76 (0, 0))).grown hg2 hne2
        have kr2 := (kr1.alloc (.cells #[.string sn, .int .i64 sm] 76 (0, 0))).grown hg2 (fun j hj => by have := owns_far hO1 _ hj; omega)
        have HS2 := Lib.hid (show b0 ≤ w2.heap.size by have := HS.out; have := hg2.size; simp at this; omega)
        rw [← HF.out] at hO2
        obtain ⟨ao, cap, rfl, hcap⟩ := owns_slice hO2
        have z4 := bx2.c (i := 4) rfl
        have f4 := bx2.f 4
        have HO2 := Lib.hid hO2
        have Hi := Hi9
        clear hO2 hg2 hO1 hO x4 bx1 br1 hne hne2 bx br
        go_wp2_with fail
        have hi9 := Hi.out
        go_roundg (gk - 1)
        case measure => omega
        case rel => exact ⟨i + 1, .slice ao (i + 1) cap, by go_num, by omega, bx2.set 4 _, br2.far (by show ra ≠ xa; omega) _, Lib.hid (owns_set HO2.out _ (show xa < b0 by omega) _), kr2.setCell (show w.heap.size ≤ xa by omega) _, Lib.hid (by simpa using HS2.out)⟩
      · obtain rfl : i = n + 1 := by omega
        have hall : (l.map spV).take (n + 1) = l.map spV := List.take_of_length_le (by rw [List.length_map]; have := HN.out; omega)
        rw [hall] at hO
        obtain ⟨dp, dc, rfl, hcap⟩ := owns_slice hO.out
        have x0 := bx.c (i := 0) rfl
        have x1 := bx.c (i := 1) rfl
        have x2 := bx.c (i := 2) rfl
        have x3 := bx.c (i := 3) rfl
        have x4 := bx.c (i := 4) rfl
        have z0 := br.c (i := 0) rfl
        have z1 := br.c (i := 1) rfl
        have z2 := br.c (i := 2) rfl
        have z3 := br.c (i := 3) rfl
        have z4 := br.c (i := 4) rfl
        have f0 := br.f 0
        have f1 := br.f 1
        have f2 := br.f 2
        have f3 := br.f 3
        have f4 := br.f 4
        have BR := Lib.hid br
        have KR := Lib.hid kr
        have hRW := Lib.hid (show w.heap.size ≤ ra by omega)
        have hRb := Lib.hid (show ra < b0 by omega)
        have hWB := Lib.hid (show w.heap.size ≤ b0 by omega)
        have HO := hO
        clear hO bx br kr hi9 hall
        go_wp2
        have b1 := (((((BR.out.set 0 (.int .i64 (chV a))).set 1 (.bool true)).set 2 (.int .i64 (atV (spV e).1))).set 3 (.int .i64 ((spV e).2))).set 4 (.slice dp (n + 1) dc))
        have k2 := (((((KR.out.setCell (p := ⟨ra, 0, none⟩) hRW.out (.int .i64 (chV a))).setCell (p := ⟨ra, 1, none⟩) hRW.out (.bool true)).setCell (p := ⟨ra, 2, none⟩) hRW.out (.int .i64 (atV (spV e).1))).setCell (p := ⟨ra, 3, none⟩) hRW.out (.int .i64 ((spV e).2))).setCell (p := ⟨ra, 4, none⟩) hRW.out (.slice dp (n + 1) dc))
        have o2 := owns_set (owns_set (owns_set (owns_set (owns_set HO.out ⟨ra, 0, none⟩ hRb.out (.int .i64 (chV a))) ⟨ra, 1, none⟩ hRb.out (.bool true)) ⟨ra, 2, none⟩ hRb.out (.int .i64 (atV (spV e).1))) ⟨ra, 3, none⟩ hRb.out (.int .i64 ((spV e).2))) ⟨ra, 4, none⟩ hRb.out (.slice dp (n + 1) dc)
        refine ret_row Tryz.results71 rfl rfl b1 Tryz.underlying31 rfl (by kernel_rfl) ?_
        exact ⟨⟨dp, dc, rfl, fun L hL => owns_datsL o2 (by rw [List.length_map]; exact HN.out) L (fun x hx => Nat.lt_of_lt_of_le (hL x hx) hWB.out), hcap⟩, k2⟩
end Go.Proofs.YtlimjohnimgnhaaGreatDoor
