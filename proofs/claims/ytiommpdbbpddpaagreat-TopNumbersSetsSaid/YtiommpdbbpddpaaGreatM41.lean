/- Texts Is6, Is7: each says in its own first comment what it proves. -/
import Derived.Test.YtiommpdbbpddpaaGreatM40
import Derived.Deep.RegionHeld3
import Derived.Deep.DrawnRows
/- The sweep of package interval: collect. -/
namespace Go.Proofs.YtiommpdbbpddpaaGreat
open Go.RowKit
open Go.Lib (nDigits itoa decDigits)

/-- one more piece of texts -/
def collT (f : List Tx) (p : Tx) : List Tx := match f.getLast? with
  | none => [p]
  | some s => if s.2 = p.1 then f.dropLast ++ [(s.1, p.2)] else f ++ [p]
/-- what belongs: a function without a bound value -/
def Bel (c : Nat) (bel : Bool → Bool → Bool) : Prop := Hid (∀ (x y : Bool) (W : World), Calls Tryz.prog c #[.bool x, .bool y] W fun e w' => e = .returned (.bool (bel x y)) ∧ Kp [] W w')
theorem SwB.drew {w : World} {b : Nat} {F fv : Value} {o0 o1 : Int} (h : SwB w b F o0 o1 fv) : SwB w.drew b F o0 o1 fv := h
attribute [local go_sem ↓] Go.wp_at_zero Go.wp_at_succ
set_option maxRecDepth 100000 in
set_option maxHeartbeats 4000000 in
theorem sColl_no (b c : Nat) (bel : Bool → Bool → Bool) (o0 o1 : Int) (fv : Value) (lo hi : ByteArray) (w : World) (hs : SwB w b (.func (.func c) #[] #[]) o0 o1 fv) (he : ∀ args w, (callFunc c args).run Tryz.prog w = .ok (.enter c args) w) (q : Bel c bel) (hb : bel (decide (0 < o0)) (decide (0 < o1)) = false) :
    Calls Tryz.prog 60 #[.pointer (some ⟨b, 0, none⟩), .string lo, .string hi] w fun r w' => r = .returned (.tuple #[]) ∧ Kp [] w w' := by
  unfold Bel at q
  have kk := Kp.refl [] w
  generalize hx : decide (0 < o0) = x at *
  generalize hy : decide (0 < o1) = y at *
  go_enter Tryz.func60, Tryz.ntmps60
  go_wp2_with fail
  go_region_held3 (fun w' => w'.cell? ⟨b, 0, none⟩ = some (.func (.func c) #[] #[]) ∧ w'.cell? ⟨b, 1, none⟩ = some (.int .i64 o0) ∧ w'.cell? ⟨b, 2, none⟩ = some (.int .i64 o1))
    (first
      | exact ⟨hs.c0, hs.c1, hs.c2⟩
      | exact ⟨hs1.c0, hs1.c1, hs1.c2⟩
      | go_keep)
    (first | (go_at_fn c; refine (q.out _ _ _).mono ?_; rintro e w1 ⟨rfl, k1⟩; have hs1 := SwB.kept (SwB.drew hs) k1 (by simp)))
  go_wp2
  refine bodyPost_ret (results_none rfl _ _ _) rfl ?_
  exact ⟨rfl, kk.drew.trans k1⟩
theorem span_info : (Tryz.prog.info? 26).map (fun i => (i.zero, i.size, i.bytes)) = some (some (.agg #[.string ⟨#[]⟩, .string ⟨#[]⟩]), 2, 32) := by kernel_rfl
theorem flS_append (a b : List Tx) : (a ++ b).flatMap enS = a.flatMap enS ++ b.flatMap enS := by rw [List.flatMap_append]
/-- a new row with one span more -/
theorem OwS.of_append {w : World} {base g cap : Nat} {l : List Tx} {s : Tx} {m : Nat} (hm : m = l.length + 1) (h : w.ownsRow base 26 2 (.slice (some ⟨g, 0, none⟩) m cap) m (l.flatMap enS ++ [.string s.1, .string s.2])) : OwS w base (.slice (some ⟨g, 0, none⟩) m cap) (l ++ [s]) := by
  unfold OwS
  rw [flS_append, show [s].flatMap enS = [.string s.1, .string s.2] from rfl, List.length_append, List.length_singleton, ← hm]
  exact h
theorem getLast?_split {f : List Tx} {s : Tx} (h : f.getLast? = some s) : ∃ f', f = f' ++ [s] := by
  rcases List.eq_nil_or_concat f with rfl | ⟨f', t, rfl⟩
  · simp at h
  · rw [List.concat_eq_append] at h ⊢
    exact ⟨f', by simpa using h⟩
theorem flS_set (f : List Tx) (a lo hi : ByteArray) : (f ++ [(a, hi)]).flatMap enS = ((f ++ [(a, lo)]).flatMap enS).set (f.length * 2 + 1) (.string hi) := by
  rw [flS_append, flS_append, List.set_append_right _ _ (by rw [flS_len]; omega), flS_len, show f.length * 2 + 1 - f.length * 2 = 1 by omega]
  rfl
set_option maxRecDepth 100000 in
set_option maxHeartbeats 4000000 in
theorem sColl_one (b c base : Nat) (bel : Bool → Bool → Bool) (o0 o1 : Int) (fv : Value) (f : List Tx) (lo hi : ByteArray) (w0 w : World) (hs : SwB w b (.func (.func c) #[] #[]) o0 o1 fv) (hf : OwS w base fv f) (hb0 : w0.heap.size = base) (k0 : Kp [b] w0 w) (hbb : b < base) (hn : f.length ≤ 1000)
    (he : ∀ args w, (callFunc c args).run Tryz.prog w = .ok (.enter c args) w) (q : Bel c bel) (hb : bel (decide (0 < o0)) (decide (0 < o1)) = true) (hlast : f = [] ∨ ∃ s, f.getLast? = some s ∧ s.2 ≠ lo) :
    Calls Tryz.prog 60 #[.pointer (some ⟨b, 0, none⟩), .string lo, .string hi] w fun r w' => r = .returned (.tuple #[]) ∧ ∃ fv', SwB w' b (.func (.func c) #[] #[]) o0 o1 fv' ∧ OwS w' base fv' (f ++ [(lo, hi)]) ∧ Kp [b] w0 w' := by
  unfold Bel at q
  obtain ⟨i0, hi0, hz0, hz1, hz2⟩ := info_parts span_info
  have hf0 := hf
  obtain ⟨p, cap, g, o, rfl, hp, hc⟩ := hf.slT.op
  have hfl : Hid (f.length ≤ 1000) := Lib.hid hn
  have hbo : b ∉ ownL (.slice p f.length cap) := fun hx => by have := (hf0.base b hx).1; omega
  have HO : Hid (∀ W, Kp [] w W → W.ownsRow base 26 2 (.slice p f.length cap) f.length (f.flatMap enS)) := Lib.hid fun W k => hf0.kept k (by simp)
  have hk : Hid (∀ W W', Kp [b] w0 W → Kp (ownL (.slice p f.length cap)) W W' → Kp [b] w0 W') := Lib.hid fun W W' k k' => k.step k' (fun x hx => .inr (by rw [hb0]; exact (hf0.base x hx).1))
  have hz : base ≤ w.heap.size := by rw [← hb0]; exact k0.size
  have done : Hid (∀ (W W' : World) (g2 cap2 : Nat), W'.ownsRow base 26 2 (.slice (some ⟨g2, 0, none⟩) (f.length + 1) cap2) (f.length + 1) (f.flatMap enS ++ [.string lo, .string hi]) → SwB W b (.func (.func c) #[] #[]) o0 o1 (.slice p f.length cap) → Kp [b] w0 W → Kp (ownL (.slice p f.length cap)) W W' → base ≤ g2 →
      SwB W' b (.func (.func c) #[] #[]) o0 o1 (.slice p f.length cap) ∧ ∃ fv', SwB (W'.setCell ⟨b, 3, none⟩ (.slice (some ⟨g2, 0, none⟩) (f.length + 1) cap2)) b (.func (.func c) #[] #[]) o0 o1 fv' ∧ OwS (W'.setCell ⟨b, 3, none⟩ (.slice (some ⟨g2, 0, none⟩) (f.length + 1) cap2)) base fv' (f ++ [(lo, hi)]) ∧ Kp [b] w0 (W'.setCell ⟨b, 3, none⟩ (.slice (some ⟨g2, 0, none⟩) (f.length + 1) cap2))) := Lib.hid fun W W' g2 cap2 ho hS k k' hg => by
    have h1 := hS.kept k' hbo
    have h2 := OwS.of_append (s := (lo, hi)) rfl ho
    refine ⟨h1, _, h1.set3 _, h2.kept ((Kp.refl [b] W').setCell (p := ⟨b, 3, none⟩) (.inl (by simp)) _) (fun x hx => ?_), (hk.out W W' k k').setCell (p := ⟨b, 3, none⟩) (.inl (by simp)) _⟩
    rw [List.mem_singleton] at hx
    subst hx
    rw [ownL_some, List.mem_singleton]
    omega
  have hn1 : (f.length : Int) ≤ 1000 := by omega
  have hn0 : 0 ≤ (f.length : Int) := by omega
  generalize hx : decide (0 < o0) = x at *
  generalize hy : decide (0 < o1) = y at *
  rcases hlast with h0 | ⟨s, hl, hne⟩
  · have hl0 : f.length = 0 := by rw [h0]; rfl
    have HL0 := Lib.hid hl0
    clear hl0
    generalize hN : f.length = N at *
    obtain rfl : N = 0 := HL0.out
    clear hc hp hf hf0 hn hbo h0 HL0 hn0 hn1 hfl hN
    go_enter Tryz.func60, Tryz.ntmps60
    go_wp2_with fail
    go_region_held3 (fun w' => w'.cell? ⟨b, 0, none⟩ = some (.func (.func c) #[] #[]) ∧ w'.cell? ⟨b, 1, none⟩ = some (.int .i64 o0) ∧ w'.cell? ⟨b, 2, none⟩ = some (.int .i64 o1))
      (first
        | exact ⟨hs.c0, hs.c1, hs.c2⟩
        | exact ⟨hs1.c0, hs1.c1, hs1.c2⟩
        | go_keep)
      (first | (go_at_fn c; refine (q.out _ _ _).mono ?_; rintro e w1 ⟨rfl, k1⟩; have hs1 := SwB.kept (SwB.drew hs) k1 (by simp)))
    have c3 := hs1.c3
    have f3 := hs1.f 3
    have kw : Kp [] w w1 := ((Kp.refl [] w).drew).trans k1
    have hown := HO.out w1 kw
    have kk := k0.trans (kw.mono (S' := [b]) (fun _ h => by cases h))
    have hz1' : base ≤ w1.heap.size := Nat.le_trans hz kw.size
    clear hs HO k1 k0
    go_wp2_with (first | (at_builtin; refine wpList_append_kp rfl _ _ 22 rfl base 26 i0 (.agg #[.string ⟨#[]⟩, .string ⟨#[]⟩]) 2 32 Tryz.underlying22 hi0 hz0 hz1 hz2 rfl (by decide) _ _ _ rfl (World.ownsRow.alloc hown _) ⟨w1.heap.size, 0, none⟩ 1 1 [.string lo, .string hi] rfl rfl ?c1 ?c2 ?c3 ?c4 ?c5 ?c6 ?_) | fail)
    case c1 => exact World.news_of_block (heap_alloc_new w1 _)
    case c2 => intro u hu; simp at hu; rcases hu with rfl | rfl <;> rfl
    case c3 => omega
    case c4 => unfold maxLen; omega
    case c5 => omega
    case c6 => simp; omega
    intro g2 cap2 w2 hown2 k2 hg2 _
    obtain ⟨hs2, fin⟩ := done.out _ w2 g2 cap2 hown2 (hs1.alloc _) (kk.alloc _) k2 hg2
    have Fin := Lib.hid fin
    have b3 := hs2.c3
    have bf := hs2.f 3
    clear fin done hs1 hs2 hown hown2 k2 kk kw c3 f3 hk
    go_wp2
    go_end0
    exact ⟨rfl, Fin.out⟩
  · have hN0 : 0 < f.length := List.length_pos_iff.2 (fun e => by rw [e] at hl; simp at hl)
    obtain ⟨f', hf'⟩ := getLast?_split hl
    have hm : f.length = f'.length + 1 := by rw [hf']; simp
    have hg : gL f f'.length = s := by rw [gL_eq (by omega)]; simp [hf']
    obtain rfl := hp hN0
    have HC := Lib.hid (hc f'.length (by omega))
    rw [hg] at HC
    have e2 : (s.2.toList == lo.toList) = false := by
      rw [Bool.eq_false_iff]
      intro e
      exact hne (ba_inj (by simpa using e))
    have l1 : (f.length : Int) - 1 = (f'.length : Int) := by omega
    have l2 : (f'.length : Int) < (f.length : Int) := by omega
    have l3 : 0 ≤ (f'.length : Int) := by omega
    generalize f'.length = m at *
    generalize hN : f.length = N at *
    have HM := Lib.hid hm
    clear hc hp hf hf0 hn hbo hl hne hf' hg hN0 hm hN
    go_enter Tryz.func60, Tryz.ntmps60
    go_wp2_with fail
    go_region_held3 (fun w' => w'.cell? ⟨b, 0, none⟩ = some (.func (.func c) #[] #[]) ∧ w'.cell? ⟨b, 1, none⟩ = some (.int .i64 o0) ∧ w'.cell? ⟨b, 2, none⟩ = some (.int .i64 o1))
      (first
        | exact ⟨hs.c0, hs.c1, hs.c2⟩
        | exact ⟨hs1.c0, hs1.c1, hs1.c2⟩
        | go_keep)
      (first | (go_at_fn c; refine (q.out _ _ _).mono ?_; rintro e w1 ⟨rfl, k1⟩; have hs1 := SwB.kept (SwB.drew hs) k1 (by simp)))
    have c3 := hs1.c3
    have f3 := hs1.f 3
    have kw : Kp [] w w1 := ((Kp.refl [] w).drew).trans k1
    have hown := HO.out w1 kw
    obtain ⟨x0, x1⟩ := HC.out w1 kw
    have kk := k0.trans (kw.mono (S' := [b]) (fun _ h => by cases h))
    have hz1' : base ≤ w1.heap.size := Nat.le_trans hz kw.size
    clear hs HO k1 k0
    go_wp2_with (first | (at_builtin; refine wpList_append_kp rfl _ _ 22 rfl base 26 i0 (.agg #[.string ⟨#[]⟩, .string ⟨#[]⟩]) 2 32 Tryz.underlying22 hi0 hz0 hz1 hz2 rfl (by decide) _ _ _ rfl (World.ownsRow.alloc hown _) ⟨w1.heap.size, 0, none⟩ 1 1 [.string lo, .string hi] rfl rfl ?c1 ?c2 ?c3 ?c4 ?c5 ?c6 ?_) | fail)
    case c1 => exact World.news_of_block (heap_alloc_new w1 _)
    case c2 => intro u hu; simp at hu; rcases hu with rfl | rfl <;> rfl
    case c3 => omega
    case c4 => unfold maxLen; omega
    case c5 => omega
    case c6 => simp; omega
    intro g2 cap2 w2 hown2 k2 hg2 _
    obtain ⟨hs2, fin⟩ := done.out _ w2 g2 cap2 hown2 (hs1.alloc _) (kk.alloc _) k2 hg2
    have Fin := Lib.hid fin
    have b3 := hs2.c3
    have bf := hs2.f 3
    clear fin done hs1 hs2 hown hown2 k2 kk kw c3 f3 hk
    go_wp2
    go_end0
    exact ⟨rfl, Fin.out⟩
set_option maxRecDepth 100000 in
set_option maxHeartbeats 4000000 in
theorem sColl_grow (b c base : Nat) (bel : Bool → Bool → Bool) (o0 o1 : Int) (fv : Value) (f : List Tx) (lo hi a : ByteArray) (w0 w : World) (hs : SwB w b (.func (.func c) #[] #[]) o0 o1 fv) (hf : OwS w base fv (f ++ [(a, lo)])) (hb0 : w0.heap.size = base) (k0 : Kp [b] w0 w) (hbb : b < base) (hn : f.length ≤ 1000)
    (he : ∀ args w, (callFunc c args).run Tryz.prog w = .ok (.enter c args) w) (q : Bel c bel) (hb : bel (decide (0 < o0)) (decide (0 < o1)) = true) :
    Calls Tryz.prog 60 #[.pointer (some ⟨b, 0, none⟩), .string lo, .string hi] w fun r w' => r = .returned (.tuple #[]) ∧ SwB w' b (.func (.func c) #[] #[]) o0 o1 fv ∧ OwS w' base fv (f ++ [(a, hi)]) ∧ Kp [b] w0 w' := by
  unfold Bel at q
  obtain ⟨g, cap, rfl⟩ : ∃ g cap, fv = .slice (some ⟨g, 0, none⟩) (f.length + 1) cap := by
    rcases hf.2 with ⟨_, h0⟩ | ⟨g, cap, cur, rfl, _⟩
    · simp at h0
    · exact ⟨g, cap, by simp⟩
  have hgb : base ≤ g ∧ g < w.heap.size := hf.base g (by rw [ownL_some]; simp)
  have hgn : g ≠ b := by omega
  have HC : Hid (∀ W, Kp [] w W → W.cell? ⟨g, f.length * 2 + 1, none⟩ = some (.string lo) ∧ W.frozen? ⟨g, f.length * 2 + 1, none⟩ = false) := Lib.hid fun W k => by
    have ho : W.ownsRow base 26 2 (.slice (some ⟨g, 0, none⟩) (f.length + 1) cap) (f ++ [(a, lo)]).length ((f ++ [(a, lo)]).flatMap enS) := hf.kept k (by simp)
    have hx := (flS_get (l := f ++ [(a, lo)]) (i := f.length) (by simp)).2
    rw [List.getElem_concat_length rfl] at hx
    rw [List.length_append, List.length_singleton] at ho
    exact ⟨(ho.cellAt _ (by omega)).trans hx, ho.frozenAt _⟩
  have done : Hid (∀ W, Kp [] w W → SwB W b (.func (.func c) #[] #[]) o0 o1 (.slice (some ⟨g, 0, none⟩) (f.length + 1) cap) → SwB (W.setCell ⟨g, f.length * 2 + 1, none⟩ (.string hi)) b (.func (.func c) #[] #[]) o0 o1 (.slice (some ⟨g, 0, none⟩) (f.length + 1) cap) ∧ OwS (W.setCell ⟨g, f.length * 2 + 1, none⟩ (.string hi)) base (.slice (some ⟨g, 0, none⟩) (f.length + 1) cap) (f ++ [(a, hi)]) ∧ Kp [b] w0 (W.setCell ⟨g, f.length * 2 + 1, none⟩ (.string hi))) := Lib.hid fun W k hS => by
    have ho : W.ownsRow base 26 2 (.slice (some ⟨g, 0, none⟩) (f.length + 1) cap) (f ++ [(a, lo)]).length ((f ++ [(a, lo)]).flatMap enS) := hf.kept k (by simp)
    rw [List.length_append, List.length_singleton] at ho
    refine ⟨hS.kept ((Kp.refl [g] W).setCell (p := ⟨g, f.length * 2 + 1, none⟩) (.inl (by simp)) _) (by simpa using fun e => hgn e.symm), ?_, ?_⟩
    · unfold OwS
      rw [List.length_append, List.length_singleton, flS_set f a lo hi]
      exact (ho.stored _ _).1
    · exact (k0.trans (k.mono (S' := [b]) (fun _ h => by cases h))).setCell (p := ⟨g, f.length * 2 + 1, none⟩) (.inr (by rw [hb0]; exact hgb.1)) _
  have l0 : ((f.length + 1 : Nat) : Int) = (f.length : Int) + 1 := by omega
  have l2 : (f.length : Int) < (f.length : Int) + 1 := by omega
  have l3 : 0 ≤ (f.length : Int) := by omega
  have l4 : (f.length : Int) ≤ 1000 := by omega
  generalize hx : decide (0 < o0) = x at *
  generalize hy : decide (0 < o1) = y at *
  generalize hN : f.length = m at *
  clear hf hn hN
  go_enter Tryz.func60, Tryz.ntmps60
  go_wp2_with fail
  go_region_held3 (fun w' => w'.cell? ⟨b, 0, none⟩ = some (.func (.func c) #[] #[]) ∧ w'.cell? ⟨b, 1, none⟩ = some (.int .i64 o0) ∧ w'.cell? ⟨b, 2, none⟩ = some (.int .i64 o1))
    (first
      | exact ⟨hs.c0, hs.c1, hs.c2⟩
      | exact ⟨hs1.c0, hs1.c1, hs1.c2⟩
      | go_keep)
    (first | (go_at_fn c; refine (q.out _ _ _).mono ?_; rintro e w1 ⟨rfl, k1⟩; have hs1 := SwB.kept (SwB.drew hs) k1 (by simp)))
  have c3 := hs1.c3
  have f3 := hs1.f 3
  have kw : Kp [] w w1 := ((Kp.refl [] w).drew).trans k1
  obtain ⟨x1, x2⟩ := HC.out w1 kw
  have Fin := Lib.hid (done.out w1 kw hs1)
  clear hs HC k1 k0 done kw hs1
  go_wp2
  refine bodyPost_ret (results_none rfl _ _ _) rfl ?_
  exact ⟨rfl, Fin.out⟩
/-- collect, whatever belongs: the piece is added if it belongs -/
theorem sColl (b c base : Nat) (bel : Bool → Bool → Bool) (o0 o1 : Int) (fv : Value) (f : List Tx) (lo hi : ByteArray) (w0 w : World) (hs : SwB w b (.func (.func c) #[] #[]) o0 o1 fv) (hf : OwS w base fv f) (hb0 : w0.heap.size = base) (k0 : Kp [b] w0 w) (hbb : b < base) (hn : f.length ≤ 1000)
    (he : ∀ args w, (callFunc c args).run Tryz.prog w = .ok (.enter c args) w) (q : Bel c bel) :
    Calls Tryz.prog 60 #[.pointer (some ⟨b, 0, none⟩), .string lo, .string hi] w fun r w' => r = .returned (.tuple #[]) ∧ ∃ fv', SwB w' b (.func (.func c) #[] #[]) o0 o1 fv' ∧ OwS w' base fv' (if bel (decide (0 < o0)) (decide (0 < o1)) = true then collT f (lo, hi) else f) ∧ Kp [b] w0 w' := by
  by_cases hb : bel (decide (0 < o0)) (decide (0 < o1)) = true
  · rw [if_pos hb]
    unfold collT
    cases hl : f.getLast? with
    | none => 
      have e : f = [] := by simpa using hl
      subst e
      exact sColl_one b c base bel o0 o1 fv [] lo hi w0 w hs hf hb0 k0 hbb hn he q hb (.inl rfl)
    | some s =>
      simp only
      by_cases h2 : s.2 = lo
      · rw [if_pos h2]
        obtain ⟨f', rfl⟩ := getLast?_split hl
        rw [List.dropLast_concat]
        subst h2
        refine (sColl_grow b c base bel o0 o1 fv f' s.2 hi s.1 w0 w hs hf hb0 k0 hbb (by simp at hn; omega) he q hb).mono ?_
        rintro r w' ⟨h, h1, h2, h3⟩
        exact ⟨h, fv, h1, h2, h3⟩
      · rw [if_neg h2]
        exact sColl_one b c base bel o0 o1 fv f lo hi w0 w hs hf hb0 k0 hbb hn he q hb (.inr ⟨s, hl, h2⟩)
  · rw [if_neg hb]
    refine (sColl_no b c bel o0 o1 fv lo hi w hs he q (by simpa using hb)).mono ?_
    rintro r w' ⟨h, k⟩
    exact ⟨h, fv, hs.kept k (by simp), hf.kept k (by simp), k0.trans (k.mono (fun _ h => by cases h))⟩
/-- spans of numbers as texts -/
def txI (l : List Iv) : List Tx := l.map fun s => (RS s.1, RS s.2)
def SmI (l : List Iv) : Prop := ∀ s ∈ l, Sm 30 s.1 ∧ Sm 30 s.2
theorem txI_len (l : List Iv) : (txI l).length = l.length := by unfold txI; simp
theorem collT_tx {f : List Iv} {p : Iv} (hf : SmI f) (hp : Sm 30 p.1 ∧ Sm 30 p.2) : collT (txI f) (RS p.1, RS p.2) = txI (coll f p) ∧ SmI (coll f p) := by
  rcases List.eq_nil_or_concat f with rfl | ⟨f', s, rfl⟩
  · exact ⟨rfl, fun t ht => by rw [coll_nil] at ht; obtain rfl : t = p := by simpa using ht
                               exact hp⟩
  · rw [List.concat_eq_append] at *
    have hs := hf s (by simp)
    have hf' : SmI f' := fun t ht => hf t (by simp [ht])
    rw [coll_snoc]
    have e1 : txI (f' ++ [s]) = txI f' ++ [(RS s.1, RS s.2)] := by unfold txI; simp
    unfold collT
    rw [e1, List.getLast?_concat]
    simp only [List.dropLast_concat]
    by_cases he : s.2 = p.1
    · rw [if_pos he, if_pos (by rw [he])]
      refine ⟨by unfold txI; simp, fun t ht => ?_⟩
      rcases List.mem_append.1 ht with ht | ht
      · exact hf' t ht
      · obtain rfl : t = (s.1, p.2) := by simpa using ht
        exact ⟨hs.1, hp.2⟩
    · rw [if_neg he, if_neg (fun h => he (RS_inj (hs.2.ok (by omega)) (hp.1.ok (by omega)) h))]
      refine ⟨by unfold txI; simp, fun t ht => ?_⟩
      rcases List.mem_append.1 ht with ht | ht
      · exact hf t ht
      · obtain rfl : t = p := by simpa using ht
        exact hp
theorem coll_len (f : List Iv) (p : Iv) : (coll f p).length ≤ f.length + 1 := by
  rcases List.eq_nil_or_concat f with rfl | ⟨f', s, rfl⟩
  · simp [coll_nil]
  · rw [List.concat_eq_append, coll_snoc]
    split <;> simp
end Go.Proofs.YtiommpdbbpddpaaGreat

/- The sweep of package interval: along. -/
namespace Go.Proofs.YtiommpdbbpddpaaGreat
open Go.RowKit
open Go.Lib (nDigits itoa decDigits)

/-- what is left behind the first k ends -/
def restE (d : List Ee) (k : Nat) : List En := (d.map Ee.en).drop k
theorem preE_eq (d : List Ee) (k : Nat) : preE d k = (d.map Ee.en).take k := by unfold preE; rw [List.map_take]
/-- the ends from i on, up to k -/
def segE (d : List Ee) (i k : Nat) : List En := ((d.map Ee.en).drop i).take (k - i)
theorem rest_seg (d : List Ee) {i k : Nat} (h : i ≤ k) : restE d i = segE d i k ++ restE d k := by
  unfold restE segE
  have := (List.take_append_drop (k - i) ((d.map Ee.en).drop i)).symm
  rw [List.drop_drop, show i + (k - i) = k by omega] at this
  exact this
theorem pre_seg (d : List Ee) {i k : Nat} (h : i ≤ k) : preE d i ++ segE d i k = preE d k := by
  rw [preE_eq, preE_eq]
  unfold segE
  have := (List.take_add (l := d.map Ee.en) (i := i) (j := k - i)).symm
  rwa [show i + (k - i) = k by omega] at this
theorem mem_seg {d : List Ee} {i k : Nat} (hk : k ≤ d.length) {e : En} (h : e ∈ segE d i k) : ∃ j, i ≤ j ∧ j < k ∧ j < d.length ∧ e = (gE d j).en := by
  unfold segE at h
  obtain ⟨m, hm, rfl⟩ := List.mem_iff_getElem.1 h
  have hm' := hm
  rw [List.length_take, List.length_drop, List.length_map] at hm'
  refine ⟨i + m, by omega, by omega, by omega, ?_⟩
  rw [List.getElem_take, List.getElem_drop, List.getElem_map, gE_eq (by omega)]
theorem head_rest {d : List Ee} {i : Nat} {e : En} (h : e ∈ (restE d i).head?) : i < d.length ∧ e = (gE d i).en := by
  unfold restE at h
  rw [List.head?_drop] at h
  have h2 := Option.mem_def.1 h
  rw [List.getElem?_eq_some_iff] at h2
  obtain ⟨hi, he⟩ := h2
  rw [List.length_map] at hi
  refine ⟨hi, ?_⟩
  rw [← he, List.getElem_map, gE_eq hi]
theorem al_step {bel : Bool → Bool → Bool} {d : List Ee} {j j1 j2 : Nat} {N : List Rat} {f : List Iv} {y : Rat} (h : AlI bel (d.map Ee.en) (preE d j) (restE d j) N f) (hs : (d.map Ee.en).Pairwise leE)
    (hj : j < d.length) (h1 : j ≤ j1) (h2 : j1 ≤ j2) (h3 : j2 ≤ d.length) (hy : (gE d j).num = y) (a1 : ∀ k, k < d.length → j ≤ k → k < j1 → (gE d k).num = y ∧ (gE d k).beg = true) (a2 : j1 < d.length → ¬ ((gE d j1).num = y ∧ (gE d j1).beg = true))
    (a3 : ∀ k, k < d.length → j1 ≤ k → k < j2 → (gE d k).num = y ∧ (gE d k).beg = false) (a4 : j2 < d.length → ¬ ((gE d j2).num = y ∧ (gE d j2).beg = false)) :
    AlI bel (d.map Ee.en) (preE d j2) (restE d j2) (N ++ [y]) (nextF (bel (decide (0 < bal false (preE d j2))) (decide (0 < bal true (preE d j2)))) y (if bel (decide (0 < bal false (preE d j1))) (decide (0 < bal true (preE d j1))) then coll f (y, y) else f) (restE d j2)) := by
  rw [rest_seg d h1, rest_seg d h2] at h
  have hh : (segE d j j1 ++ (segE d j1 j2 ++ restE d j2)).head?.map En.num = some y := by
    rw [← rest_seg d h2, ← rest_seg d h1]
    unfold restE
    rw [List.head?_drop, List.getElem?_eq_getElem (by simpa using hj), List.getElem_map, Option.map_some, ← gE_eq hj]
    exact congrArg some hy
  have key := AlI.step h hs hh (fun x hx => by
      obtain ⟨k, k1, k2, k3, rfl⟩ := mem_seg (by omega) hx
      exact a1 k k3 k1 k2) (fun x hx => by
      obtain ⟨k, k1, k2, k3, rfl⟩ := mem_seg h3 hx
      exact a3 k k3 k1 k2) (fun e he => by
      rw [← rest_seg d h2] at he
      obtain ⟨hk, rfl⟩ := head_rest he
      exact a2 hk) (fun e he => by
      obtain ⟨hk, rfl⟩ := head_rest he
      exact a4 hk)
  rw [← List.append_assoc, pre_seg d h1, pre_seg d h2] at key
  exact key
theorem al_more {d : List Ee} {j j1 j2 n : Nat} {y : Rat} (hn : d.length = n) (hj : j < n) (h1 : j ≤ j1) (h2 : j1 ≤ j2) (hy : (gE d j).num = y) (a2 : j1 < d.length → ¬ ((gE d j1).num = y ∧ (gE d j1).beg = true)) (a4 : j2 < d.length → ¬ ((gE d j2).num = y ∧ (gE d j2).beg = false)) : j < j2 := by
  subst hn
  rcases Nat.lt_or_ge j j2 with h | h
  · exact h
  · exfalso
    obtain rfl : j = j1 := by omega
    obtain rfl : j = j2 := by omega
    cases hb : (gE d j).beg with
    | true => exact a2 hj ⟨hy, hb⟩
    | false => exact a4 hj ⟨hy, hb⟩

set_option maxRecDepth 100000 in
set_option maxHeartbeats 8000000 in
theorem sAlong (b c gl cap n : Nat) (bel : Bool → Bool → Bool) (d : List Ee) (p0 : Option Addr) (w0 : World) (hd : EnL w0 gl 0 d) (hg : gl < w0.heap.size) (hne : gl ≠ b) (hs : SwB w0 b (.func (.func c) #[] #[]) 0 0 (.slice none 0 0)) (hl : d.length = n) (hn : n ≤ 400) (hsort : (d.map Ee.en).Pairwise leE)
    (he : ∀ args w, (callFunc c args).run Tryz.prog w = .ok (.enter c args) w) (q : Bel c bel) (hp0 : 0 < n → p0 = some ⟨gl, 0, none⟩) (hcap : n ≤ cap) :
    Calls Tryz.prog 39 #[.pointer (some ⟨b, 0, none⟩), .slice p0 n cap] w0 fun r w' => r = .returned (.tuple #[]) ∧
      ∃ (fv : Value) (f : List Iv) (N : List Rat) (o0 o1 : Int), SwB w' b (.func (.func c) #[] #[]) o0 o1 fv ∧ OwS w' w0.heap.size fv (txI f) ∧ SmI f ∧ f.length ≤ n + n ∧ AlI bel (d.map Ee.en) (d.map Ee.en) [] N f ∧ Kp [b] w0 w' := by
  have hbl := hs.lt
  have QB : Hid (∀ (i0 r0 c0 : Nat) (p : Option Addr) (fv : Value) (y : Rat) (W : World), Kp [b] w0 W → Sm 30 y → SwB W b (.func (.func c) #[] #[]) (bal false (preE d i0)) (bal true (preE d i0)) fv → i0 + r0 = n → r0 ≤ c0 → (0 < r0 → p = some ⟨gl, i0 * 3, none⟩) →
      Calls Tryz.prog 59 #[.pointer (some ⟨b, 0, none⟩), .slice p r0 c0, .string (RS y), .int .i64 1] W fun r w' => ∃ j q p c', r = .returned (.slice p q c') ∧ j + q = n ∧ q ≤ c' ∧ (0 < q → p = some ⟨gl, j * 3, none⟩) ∧ i0 ≤ j ∧ SwB w' b (.func (.func c) #[] #[]) (bal false (preE d j)) (bal true (preE d j)) fv ∧ Kp [b] W w' ∧
        (∀ k (_ : k < d.length), i0 ≤ k → k < j → (gE d k).num = y ∧ (gE d k).beg = true) ∧ (∀ _ : j < d.length, ¬ ((gE d j).num = y ∧ (gE d j).beg = true))) := Lib.hid fun i0 r0 c0 p fv y W k hy hS h1 h2 h3 =>
    sPass b gl n i0 r0 c0 p d _ fv y hy true W (hd.kept k (by simpa using hne) hg) hl (by omega) (Nat.lt_of_lt_of_le hg k.size) hne hS h1 h2 h3
  have QE : Hid (∀ (i0 r0 c0 : Nat) (p : Option Addr) (fv : Value) (y : Rat) (W : World), Kp [b] w0 W → Sm 30 y → SwB W b (.func (.func c) #[] #[]) (bal false (preE d i0)) (bal true (preE d i0)) fv → i0 + r0 = n → r0 ≤ c0 → (0 < r0 → p = some ⟨gl, i0 * 3, none⟩) →
      Calls Tryz.prog 59 #[.pointer (some ⟨b, 0, none⟩), .slice p r0 c0, .string (RS y), .int .i64 (-1)] W fun r w' => ∃ j q p c', r = .returned (.slice p q c') ∧ j + q = n ∧ q ≤ c' ∧ (0 < q → p = some ⟨gl, j * 3, none⟩) ∧ i0 ≤ j ∧ SwB w' b (.func (.func c) #[] #[]) (bal false (preE d j)) (bal true (preE d j)) fv ∧ Kp [b] W w' ∧
        (∀ k (_ : k < d.length), i0 ≤ k → k < j → (gE d k).num = y ∧ (gE d k).beg = false) ∧ (∀ _ : j < d.length, ¬ ((gE d j).num = y ∧ (gE d j).beg = false))) := Lib.hid fun i0 r0 c0 p fv y W k hy hS h1 h2 h3 =>
    sPass b gl n i0 r0 c0 p d _ fv y hy false W (hd.kept k (by simpa using hne) hg) hl (by omega) (Nat.lt_of_lt_of_le hg k.size) hne hS h1 h2 h3
  have QC : Hid (∀ (o0 o1 : Int) (fv : Value) (f : List Iv) (x y : Rat) (W : World), SwB W b (.func (.func c) #[] #[]) o0 o1 fv → OwS W w0.heap.size fv (txI f) → Kp [b] w0 W → SmI f → Sm 30 x → Sm 30 y → f.length ≤ 1000 →
      Calls Tryz.prog 60 #[.pointer (some ⟨b, 0, none⟩), .string (RS x), .string (RS y)] W fun r w' => r = .returned (.tuple #[]) ∧ ∃ fv', SwB w' b (.func (.func c) #[] #[]) o0 o1 fv' ∧ OwS w' w0.heap.size fv' (txI (if bel (decide (0 < o0)) (decide (0 < o1)) = true then coll f (x, y) else f)) ∧ SmI (if bel (decide (0 < o0)) (decide (0 < o1)) = true then coll f (x, y) else f) ∧ Kp [b] w0 w') := Lib.hid fun o0 o1 fv f x y W hS hO k hf hx hy hn => by
    refine (sColl b c w0.heap.size bel o0 o1 fv (txI f) (RS x) (RS y) w0 W hS hO rfl k hbl (by rw [txI_len]; exact hn) he q).mono ?_
    rintro r w' ⟨h1, fv', h2, h3, h4⟩
    refine ⟨h1, fv', h2, ?_, ?_, h4⟩
    · split
      · rename_i hb
        rw [if_pos hb] at h3
        rw [← (collT_tx (p := (x, y)) hf ⟨hx, hy⟩).1]; exact h3
      · rename_i hb
        rw [if_neg hb] at h3
        exact h3
    · split
      · exact (collT_tx (p := (x, y)) hf ⟨hx, hy⟩).2
      · exact hf
  have HC : Hid (∀ k, k < n → ∀ W, Kp [b] w0 W → W.cell? ⟨gl, k * 3, none⟩ = some (.string (RS (gE d k).num))) := Lib.hid fun k h W kk => by
    have := (hd.kept kk (by simpa using hne) hg k (by omega)).1
    rw [Nat.zero_add, ← gE_eq (by omega)] at this
    exact this
  have I0 : AlI bel (d.map Ee.en) (preE d 0) (restE d 0) [] [] := AlI.start bel _
  have s0 : SwB w0 b (.func (.func c) #[] #[]) (bal false (preE d 0)) (bal true (preE d 0)) (.slice none 0 0) := hs
  have k0 := Kp.refl [b] w0
  have hn1 : (n : Int) ≤ 400 := by omega
  clear hs hd
  go_enter Tryz.func39, Tryz.ntmps39
  go_wp2_with fail
  go_loopg [1] n (fun gk s1 wr => ∃ j p c' fv f N, s1 = .slice p gk c' ∧ j + gk = n ∧ gk ≤ c' ∧ (0 < gk → p = some ⟨gl, j * 3, none⟩) ∧ SwB wr b (.func (.func c) #[] #[]) (bal false (preE d j)) (bal true (preE d j)) fv ∧ OwS wr w0.heap.size fv (txI f) ∧ SmI f ∧ f.length ≤ j + j ∧ AlI bel (d.map Ee.en) (preE d j) (restE d j) N f ∧ Kp [b] w0 wr)
  case atStart => exact ⟨0, p0, cap, _, [], [], rfl, by omega, hcap, fun h => by rw [hp0 h], s0, OwS.nil _ _, fun _ h => by simp at h, Nat.le_refl _, I0, k0⟩
  case round =>
    clear s0 k0 I0 hp0 hcap
    obtain ⟨j, p, c', fv, f, N, rfl, hj, hc, hp, hS, hO, hf, hfl, hI, kk⟩ := hrel
    by_cases h0 : 0 < gk
    · obtain rfl := hp h0
      have x0 := HC.out j (by omega) wr kk
      have hy : Sm 30 (gE d j).num := (gE d j).ok
      have z1 : (0 : Int) < (gk : Int) := by omega
      have z2 : (gk : Int) ≤ 400 := by omega
      have HY : Hid ((gE d j).num = (gE d j).num) := Lib.hid rfl
      generalize hyy : (gE d j).num = y at *
      have q1 := Lib.hid (QB.out j gk c' _ fv y wr kk hy hS hj hc hp)
      have HYY := Lib.hid hyy
      have HJ := Lib.hid hj
      have HL := Lib.hid hfl
      clear hyy hj hc hp hfl hS h0
      go_wp2_with fail
      with_reducible refine q1.out.mono ?_
      rintro r w1 ⟨j1, g1, p1, c1, rfl, hj1, hc1, hp1, hi1, hS1, k1, a1, a2⟩
      have hO1 := hO.kept k1 (fun x hx hx2 => by rw [List.mem_singleton] at hx; subst hx; have := (hO.base x hx2).1; omega)
      have kk1 := kk.trans k1
      have q2 := Lib.hid (QC.out _ _ fv f y y w1 hS1 hO1 kk1 hf hy hy (by have := HL.out; have := HJ.out; omega))
      clear q1 hO k1 kk x0 hS1 hO1
      go_wp2_with fail
      with_reducible refine q2.out.mono ?_
      rintro r w2 ⟨rfl, fv2, hS2, hO2, hf2, kk2⟩
      have q3 := Lib.hid (QE.out j1 g1 c1 p1 fv2 y w2 kk2 hy hS2 hj1 hc1 hp1)
      clear q2 hS2 kk1
      go_wp2_with fail
      with_reducible refine q3.out.mono ?_
      rintro r w3 ⟨j2, g2, p2, c2, rfl, hj2, hc2, hp2, hi2, hS3, k3, a3, a4⟩
      have hO3 := hO2.kept k3 (fun x hx hx2 => by rw [List.mem_singleton] at hx; subst hx; have := (hO2.base x hx2).1; omega)
      have kk3 := kk2.trans k3
      have hjj : j < n := by have := HJ.out; omega
      have hI2 := al_step hI hsort (by omega) hi1 hi2 (by omega) HYY.out a1 a2 a3 a4
      have hlt := al_more hl hjj hi1 hi2 HYY.out a2 a4
      have HLt := Lib.hid hlt
      have hlen : (if bel (decide (0 < bal false (preE d j1))) (decide (0 < bal true (preE d j1))) = true then coll f (y, y) else f).length ≤ j + j + 1 := by
        have := HL.out
        have := coll_len f (y, y)
        split <;> omega
      generalize (if bel (decide (0 < bal false (preE d j1))) (decide (0 < bal true (preE d j1))) = true then coll f (y, y) else f) = f2 at *
      have HLen := Lib.hid hlen
      have HJ2 := Lib.hid hj2
      clear q3 hO2 k3 kk2 hI a1 a2 a3 a4 hlen hjj hlt hj1 hc1 hp1 hi1 hi2 hf
      by_cases h2 : 0 < g2
      · obtain rfl := hp2 h2
        have hj2n : j2 < n := by omega
        have x2 := HC.out j2 hj2n w3 kk3
        have hz : Sm 30 (gE d j2).num := (gE d j2).ok
        have er : restE d j2 = (gE d j2).en :: restE d (j2 + 1) := by
          unfold restE
          rw [List.drop_eq_getElem_cons (by simp; omega), List.getElem_map, gE_eq (by omega)]
        have q4 := Lib.hid (QC.out _ _ fv2 f2 y (gE d j2).num w3 hS3 hO3 kk3 hf2 hy hz (by have := HLen.out; have := HJ.out; omega))
        have HI2 : Hid (AlI bel (d.map Ee.en) (preE d j2) (restE d j2) (N ++ [y]) (if bel (decide (0 < bal false (preE d j2))) (decide (0 < bal true (preE d j2))) = true then coll f2 (y, (gE d j2).num) else f2)) := Lib.hid (by rw [er] at hI2; rw [er]; exact hI2)
        have z3 : (0 : Int) < (g2 : Int) := by omega
        have z4 : (g2 : Int) ≤ 400 := by omega
        have HC2 := Lib.hid hc2
        have hlen2 : Hid ((if bel (decide (0 < bal false (preE d j2))) (decide (0 < bal true (preE d j2))) = true then coll f2 (y, (gE d j2).num) else f2).length ≤ j2 + j2) := Lib.hid (by
          have := HLen.out
          have := HLt.out
          have := coll_len f2 (y, (gE d j2).num)
          split <;> omega)
        clear hS3 hO3 kk3 hI2 er hp2 hj2 hc2 hj2n h2
        generalize (gE d j2).num = z at *
        go_wp2_with fail
        with_reducible refine q4.out.mono ?_
        rintro r w4 ⟨rfl, fv4, hS4, hO4, hf4, kk4⟩
        have hS4' := Lib.hid hS4
        clear q4 hS4 x2
        go_wp2
        go_roundg g2
        case measure => have := HJ.out; have := HJ2.out; have := HLt.out; omega
        case rel => exact ⟨j2, _, c2, fv4, _, _, rfl, HJ2.out, HC2.out, fun _ => rfl, hS4'.out, hO4, hf4, hlen2.out, HI2.out, kk4⟩
      · obtain rfl : g2 = 0 := by omega
        have er : restE d j2 = [] := by
          unfold restE
          rw [List.drop_of_length_le (by simp; omega)]
        have HI2 : Hid (AlI bel (d.map Ee.en) (preE d j2) (restE d j2) (N ++ [y]) f2) := Lib.hid (by rw [er] at hI2; rw [er]; exact hI2)
        have HS3 := Lib.hid hS3
        clear hI2 hS3 h2 hj2
        go_wp2
        go_roundg 0
        case measure => omega
        case rel => exact ⟨j2, p2, c2, fv2, f2, _, rfl, HJ2.out, hc2, hp2, HS3.out, hO3, hf2, by have := HLen.out; have := HLt.out; omega, HI2.out, kk3⟩
    · obtain rfl : gk = 0 := by omega
      obtain rfl : j = n := by omega
      go_wp2
      go_end0
      subst hl
      have e1 : preE d d.length = d.map Ee.en := by rw [preE_eq, List.take_of_length_le (by simp)]
      have e2 : restE d d.length = [] := by unfold restE; rw [List.drop_of_length_le (by simp)]
      rw [e2, e1] at hI
      exact ⟨rfl, fv, f, N, _, _, hS, hO, hf, hfl, hI, kk⟩
end Go.Proofs.YtiommpdbbpddpaaGreat
