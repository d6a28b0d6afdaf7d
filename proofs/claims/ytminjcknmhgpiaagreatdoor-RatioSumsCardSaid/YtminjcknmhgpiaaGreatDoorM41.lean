/- Texts RSums, Ratio, Ratio2: each says in its own first comment what it proves. -/
import Derived.Test.YtminjcknmhgpiaaGreatDoorM34
import Derived.Test.YtminjcknmhgpiaaGreatDoorM08
import Derived.Test.YtminjcknmhgpiaaGreatDoorM40
/- Sum of package ratio, for any texts. -/
namespace Go.Proofs.YtminjcknmhgpiaaGreatDoor
open Go.RowKit
open Go.Lib (nDigits itoa decDigits)

/-- block t holds m texts f -/
def Tb (w : World) (t m : Nat) (f : Nat → ByteArray) : Prop :=
  ∃ cs T, w.heap[t]? = some (.cells cs T (0, 0)) ∧ cs.size = m ∧ ∀ i, i < m → cs[i]? = some (.string (f i))
def updS (f : Nat → ByteArray) (i : Nat) (x : ByteArray) : Nat → ByteArray := fun j => if i = j then x else f j
section
variable {w w' : World} {t m i : Nat} {f : Nat → ByteArray} {L : List Nat}
theorem Tb.lt (hb : Tb w t m f) : t < w.heap.size := by
  obtain ⟨cs, T, hb, _⟩ := hb
  rcases Nat.lt_or_ge t w.heap.size with hlt | hge
  · exact hlt
  · rw [Array.getElem?_eq_none hge] at hb; cases hb
theorem Tb.c (hb : Tb w t m f) (hi : i < m) : w.cell? ⟨t, i, none⟩ = some (.string (f i)) := by
  obtain ⟨cs, T, hb, hs, hw⟩ := hb
  simp [World.cell?, hb, hw i hi]
theorem Tb.free (hb : Tb w t m f) (i : Nat) : w.frozen? ⟨t, i, none⟩ = false := by
  obtain ⟨cs, T, hb, _⟩ := hb
  simp [World.frozen?, hb]
theorem Tb.same (hb : Tb w t m f) (e : w'.heap[t]? = w.heap[t]?) : Tb w' t m f := by
  obtain ⟨cs, T, h1, h2⟩ := hb
  exact ⟨cs, T, e.trans h1, h2⟩
theorem Tb.kept (hb : Tb w t m f) (k : Kp L w w') (h : t ∉ L) : Tb w' t m f := hb.same (k.block t hb.lt h)
theorem Tb.alloc (hb : Tb w t m f) (o : Obj) : Tb (w.alloc o) t m f := hb.same (Below.heap_alloc w o t hb.lt)
theorem Tb.far (hb : Tb w t m f) {p : Addr} (hp : t ≠ p.block) (u : Value) : Tb (w.setCell p u) t m f := hb.same (Below.heap_setCell w p u t hp)
theorem Tb.set (hb : Tb w t m f) (hi : i < m) (x : ByteArray) : Tb (w.setCell ⟨t, i, none⟩ (.string x)) t m (updS f i x) := by
  obtain ⟨cs, T, h1, h2, h3⟩ := hb
  refine ⟨cs.setIfInBounds i (.string x), T, by simp [World.setCell, Array.getElem?_modify, h1], by simpa using h2, fun j hj => ?_⟩
  unfold updS
  rw [Array.getElem?_setIfInBounds]
  by_cases e : i = j
  · subst e; simp; omega
  · rw [if_neg e, if_neg (fun h => e h)]; exact h3 j hj
end
theorem fr_info : (Tryz.prog.info? 86).map (fun i => (i.zero, i.size, i.bytes)) = some (some (.agg #[.string ⟨#[]⟩, .string ⟨#[]⟩]), 2, 32) := by kernel_rfl
theorem make_frs (n : Nat) (hn : n ≤ 1000000) (w : World) :
    (Instr.makeSlice 112 (.int .i64 (n : Int)) (.int .i64 (n : Int))).run Tryz.prog w = .ok (.slice (some ⟨w.heap.size, 0, none⟩) n n) (w.alloc (.cells (madeCells #[.string ⟨#[]⟩, .string ⟨#[]⟩] (n * 2)) 86)) := by
  have hi := fr_info
  cases hq : Tryz.prog.info? 86 with
  | none => rw [hq] at hi; cases hi
  | some i =>
    rw [hq] at hi
    simp only [Option.map_some, Option.some.injEq, Prod.mk.injEq] at hi
    have hr := run_make (P := Tryz.prog) w 112 86 i (.agg #[.string ⟨#[]⟩, .string ⟨#[]⟩]) Tryz.underlying112 hq hi.1 .i64 .i64 n n (by omega) (by omega) (by rw [hi.2.2]; omega) (by omega)
    rw [hi.2.1] at hr
    simpa [Value.cells] using hr
theorem Tb.made (w : World) (n : Nat) : Tb (w.alloc (.cells (madeCells #[.string ⟨#[]⟩, .string ⟨#[]⟩] (n * 2)) 86)) w.heap.size (n * 2) (fun _ => ⟨#[]⟩) := by
  refine ⟨_, _, heap_alloc_new w _, size_madeCells _ _, fun i h2 => ?_⟩
  rcases Nat.mod_two_eq_zero_or_one i with h | h
  · simp [madeCells, h2, h]
  · simp [madeCells, h2, h]
/-- a block that holds a slice of rationals -/
def SlB (w : World) (b : Nat) (p : Option Addr) (n c : Nat) : Prop := w.heap[b]? = some (.cells #[.slice p n c] 57 (0, 0))
section
variable {w w' : World} {b n q : Nat} {p : Option Addr} {L : List Nat}
theorem SlB.lt (h : SlB w b p n q) : b < w.heap.size := (Array.getElem?_eq_some_iff.1 h).1
theorem SlB.c (h : SlB w b p n q) : w.cell? ⟨b, 0, none⟩ = some (.slice p n q) := by unfold SlB at h; simp [World.cell?, h]
theorem SlB.kept (h : SlB w b p n q) (k : Kp L w w') (hb : b ∉ L) : SlB w' b p n q := (k.block b h.lt hb).trans h
theorem SlB.alloc (h : SlB w b p n q) (x : Obj) : SlB (w.alloc x) b p n q := (Below.heap_alloc w x b h.lt).trans h
theorem SlB.made (w : World) (p : Option Addr) (n q : Nat) : SlB (w.alloc (.cells #[.slice p n q] 57 (0, 0))) w.heap.size p n q := heap_alloc_new w _
end

/-- the first error of the texts, and the running total with its error -/
def spL (ss : List ByteArray) : Int := ss.foldl (fun e s => kp e (spE s)) 0
def smStep (a : ByteArray × ByteArray × Int) (s : ByteArray) : ByteArray × ByteArray × Int := (suN a.1 a.2.1 (cN s) (cD s), suD a.1 a.2.1 (cN s) (cD s), kp a.2.2 (suE a.1 a.2.1 (cN s) (cD s)))
def smT (ss : List ByteArray) : ByteArray × ByteArray × Int := ss.foldl smStep (⟨#[48]⟩, ⟨#[49]⟩, spL ss)

set_option maxRecDepth 100000 in
set_option maxHeartbeats 4000000 in
theorem sum_in (g b l o c : Nat) (p : Option Addr) (ss : List ByteArray) (w : World) (h : KE w g 0) (hb : SlB w b p ss.length c) (hs : Strs w l o ss) (hp : 0 < ss.length → p = some ⟨l, o, none⟩ ∧ l < w.heap.size ∧ l ≠ g) (hn : ss.length ≤ 4096) (hz : ∀ s ∈ ss, s.size ≤ 9223372036854775807)
    (_gb : b ≠ g) :
    Calls Tryz.prog 96 #[.pointer (some ⟨g, 0, none⟩), .pointer (some ⟨b, 0, none⟩)] w fun x w' => x = .returned (.agg #[.string (smT ss).1, .string (smT ss).2.1]) ∧ KE w' g (smT ss).2.2 ∧ Kp [g] w w' := by
  have hg := h.lt
  have hmk := make_frs ss.length (by omega)
  have t0 := FrB.made w ⟨#[]⟩ ⟨#[]⟩
  have hb1 := (hb.alloc (.cells #[.string ⟨#[]⟩, .string ⟨#[]⟩] 86 (0, 0)))
  have hbc := hb1.c
  have hb2 := hb1.alloc (.cells (madeCells #[.string ⟨#[]⟩, .string ⟨#[]⟩] (ss.length * 2)) 86)
  have hbc2 := hb2.c
  have hE2 := (h.alloc (.cells #[.string ⟨#[]⟩, .string ⟨#[]⟩] 86 (0, 0))).alloc (.cells (madeCells #[.string ⟨#[]⟩, .string ⟨#[]⟩] (ss.length * 2)) 86)
  have T2 := Tb.made (w.alloc (.cells #[.string ⟨#[]⟩, .string ⟨#[]⟩] 86 (0, 0))) ss.length
  have hl1 : (ss.length : Int) ≤ 4096 := by omega
  have t2 := t0.alloc (.cells (madeCells #[.string ⟨#[]⟩, .string ⟨#[]⟩] (ss.length * 2)) 86)
  have k2 : Kp [g] w ((w.alloc (.cells #[.string ⟨#[]⟩, .string ⟨#[]⟩] 86 (0, 0))).alloc (.cells (madeCells #[.string ⟨#[]⟩, .string ⟨#[]⟩] (ss.length * 2)) 86)) := ((Kp.refl _ _).alloc _).alloc _
  generalize hN : ss.length = n at *
  go_enter Tryz.func96, Tryz.ntmps96
  go_wp2_with (rw [hmk])
  clear hmk hbc hbc2 hb1 hb2 t0
  simp only [World.size_alloc] at T2
  go_loopg [15] n (fun gk s15 wr => ∃ (k : Nat) (f : Nat → ByteArray), s15 = .int .i64 k ∧ k + gk = n ∧ Tb wr (w.heap.size + 1) (n * 2) f ∧ (∀ i, i < k → f (i * 2) = cN (ss.getD i ⟨#[]⟩) ∧ f (i * 2 + 1) = cD (ss.getD i ⟨#[]⟩)) ∧ FrB wr w.heap.size ⟨#[]⟩ ⟨#[]⟩ ∧ KE wr g (spL (ss.take k)) ∧ Kp [g] w wr)
  case atStart => exact ⟨0, _, rfl, by omega, T2, fun i hi => by omega, t2, hE2, k2⟩
  case round =>
    obtain ⟨k, f, rfl, hk, hT, hf, hF, hE, hkp⟩ := hrel
    by_cases hlt : k < n
    · obtain ⟨rfl, hl, gl⟩ := hp (by omega)
      have hstr := hs.kp hl hkp (nmem_one gl)
      have hcell := hstr k (by omega)
      have hq := Lib.hid (fun W E hE => k_split g E (ss[k]'(by omega)) W hE (hz _ (List.getElem_mem _)))
      have hsum : Hid (spL (ss.take (k + 1)) = kp (spL (ss.take k)) (spE (ss[k]'(by omega)))) := by
        show _ = _
        rw [List.take_succ_eq_append_getElem (by omega)]
        unfold spL
        rw [List.foldl_append]
        rfl
      have hget : Hid (ss.getD k ⟨#[]⟩ = ss[k]'(by omega)) := by
        show _ = _
        rw [List.getD_eq_getElem?_getD, List.getElem?_eq_getElem (by omega)]
        rfl
      generalize ss[k]'(by omega) = s at *
      have hlt' : (k : Int) < (n : Int) := by omega
      have hz1 : 0 ≤ (k : Int) := by omega
      have Hk := Lib.hid hk
      clear hk
      go_wp2_with fail
      with_reducible refine (hq.out _ _ hE).mono ?_
      rintro x w2 ⟨rfl, hE2', k2'⟩
      have hT2 := hT.kept k2' (nmem_one (by omega))
      have a0 := hT2.c (i := k * 2) (by omega)
      have a1 := hT2.c (i := k * 2 + 1) (by omega)
      have y0 := hT2.free (k * 2)
      have y1 := hT2.free (k * 2 + 1)
      go_wp2
      have hk := Hk.out
      go_roundg (gk - 1)
      case measure => omega
      case rel =>
        refine ⟨k + 1, updS (updS f (k * 2) (cN s)) (k * 2 + 1) (cD s), by go_num, by omega, (hT2.set (by omega) _).set (by omega) _, ?_, ?_, ?_, ?_⟩
        · intro i hi
          unfold updS
          by_cases e : i = k
          · subst e
            rw [hget.out, if_neg (by omega), if_pos rfl, if_pos rfl]
            exact ⟨rfl, rfl⟩
          · rw [if_neg (by omega), if_neg (by omega), if_neg (by omega), if_neg (by omega)]
            exact hf i (by omega)
        · exact (Below.heap_setCell _ ⟨w.heap.size + 1, k * 2 + 1, none⟩ _ _ (by simp)).trans ((Below.heap_setCell _ ⟨w.heap.size + 1, k * 2, none⟩ _ _ (by simp)).trans (hF.kept k2' (nmem_one (by omega))))
        · rw [hsum.out]
          exact (hE2'.far (p := ⟨w.heap.size + 1, k * 2, none⟩) (by simp; omega) _).far (p := ⟨w.heap.size + 1, k * 2 + 1, none⟩) (by simp; omega) _
        · exact ((hkp.trans k2').setCell (p := ⟨w.heap.size + 1, k * 2, none⟩) (.inr (by simp)) _).setCell (p := ⟨w.heap.size + 1, k * 2 + 1, none⟩) (.inr (by simp)) _
    · obtain rfl : k = n := by omega
      have hE1 : KE wr g (spL ss) := by rw [← List.take_length (l := ss), hN]; exact hE
      have F2 := FrB.made wr ⟨#[48]⟩ ⟨#[49]⟩
      have hwr := hkp.size
      have E2 := hE1.alloc (.cells #[.string ⟨#[48]⟩, .string ⟨#[49]⟩] 86 (0, 0))
      have K2 := hkp.alloc (.cells #[.string ⟨#[48]⟩, .string ⟨#[49]⟩] 86 (0, 0))
      have T4 := hT.alloc (.cells #[.string ⟨#[48]⟩, .string ⟨#[49]⟩] 86 (0, 0))
      have F4 := hF.alloc (.cells #[.string ⟨#[48]⟩, .string ⟨#[49]⟩] 86 (0, 0))
      have hTl := hT.lt
      have hFl := hF.lt
      have hgl := hE1.lt
      clear hlt hk hE hT hF hE2 T2 t2 k2 h
      go_wp2
      generalize wr.alloc (.cells #[.string ⟨#[48]⟩, .string ⟨#[49]⟩] 86 (0, 0)) = w3 at *
      generalize wr.heap.size = X at *
      go_loopg [30] k (fun gk s30 wq => ∃ (j : Nat) (a : ByteArray × ByteArray × Int), s30 = .int .i64 j ∧ j + gk = k ∧ a = (ss.take j).foldl smStep (⟨#[48]⟩, ⟨#[49]⟩, spL ss) ∧ a.1.size ≤ 4000000000 ∧ a.2.1.size ≤ 4000000000 ∧ Tb wq (w.heap.size + 1) (k * 2) f ∧ FrB wq w.heap.size ⟨#[]⟩ ⟨#[]⟩ ∧ FrB wq X a.1 a.2.1 ∧ KE wq g a.2.2 ∧ Kp [g] w wq)
      case atStart => exact ⟨0, (⟨#[48]⟩, ⟨#[49]⟩, spL ss), rfl, by omega, rfl, show (⟨#[48]⟩ : ByteArray).size ≤ 4000000000 by decide, show (⟨#[49]⟩ : ByteArray).size ≤ 4000000000 by decide, T4, F4, F2, E2, K2⟩
      case round =>
        obtain ⟨j, a, rfl, hj, ha, hs1, hs2, hT, hF, hX, hE, hkq⟩ := hrel
        obtain ⟨N, D, EE⟩ := a
        simp only [] at hs1 hs2 hX hE
        by_cases hlt : j < k
        · have hff := hf j hlt
          have hget : Hid (ss.getD j ⟨#[]⟩ = ss[j]'(by omega)) := by
            show _ = _
            rw [List.getD_eq_getElem?_getD, List.getElem?_eq_getElem (by omega)]
            rfl
          rw [hget.out] at hff
          have hsz := hz (ss[j]'(by omega)) (List.getElem_mem _)
          have hq := Lib.hid (fun W E hE => k_sum g E N D (cN (ss[j]'(by omega))) (cD (ss[j]'(by omega))) W hE (le9 hs1) (le9 hs2) (cN_size hsz) (cD_size hsz))
          have hstep : Hid ((ss.take (j + 1)).foldl smStep (⟨#[48]⟩, ⟨#[49]⟩, spL ss) = (suN N D (cN (ss[j]'(by omega))) (cD (ss[j]'(by omega))), suD N D (cN (ss[j]'(by omega))) (cD (ss[j]'(by omega))), kp EE (suE N D (cN (ss[j]'(by omega))) (cD (ss[j]'(by omega)))))) := by
            show _ = _
            rw [List.take_succ_eq_append_getElem (by omega), List.foldl_append, ← ha]
            rfl
          generalize ss[j]'(by omega) = s at *
          have b0 := hT.c (i := j * 2) (by omega)
          have b1 := hT.c (i := j * 2 + 1) (by omega)
          rw [hff.1] at b0
          rw [hff.2] at b1
          have z6 := suN_size N D (cN s) (cD s)
          have z7 := suD_size N D (cN s) (cD s)
          generalize suN N D (cN s) (cD s) = N2 at *
          generalize suD N D (cN s) (cD s) = D2 at *
          generalize suE N D (cN s) (cD s) = E3 at *
          generalize cN s = m at *
          generalize cD s = q at *
          have hTl' := hT.lt
          have hXl := hX.lt
          have hql := hE.lt
          have hFl' := hF.lt
          have G2 := FrB.made wr m q
          have X3 := hX.alloc (.cells #[.string m, .string q] 86 (0, 0))
          have F3 := hF.alloc (.cells #[.string m, .string q] 86 (0, 0))
          have E5 := hE.alloc (.cells #[.string m, .string q] 86 (0, 0))
          have K3 := hkq.alloc (.cells #[.string m, .string q] 86 (0, 0))
          have T3 := hT.alloc (.cells #[.string m, .string q] 86 (0, 0))
          have d0 := X3.c0
          have d1 := X3.c1
          have d2 := G2.c0
          have d3 := G2.c1
          have hlt' : (j : Int) < (k : Int) := by omega
          have hz1 : 0 ≤ (j : Int) := by omega
          have Hj := Lib.hid hj
          clear hj ha hff
          go_wp2_with fail
          with_reducible refine (hq.out _ _ E5).mono ?_
          rintro x w5 ⟨rfl, hE5, k5⟩
          have X5 := X3.kept k5 (nmem_one (by omega))
          have F5 := F3.kept k5 (nmem_one (by omega))
          have T5 := T3.kept k5 (nmem_one (by omega))
          have r0 := X5.c0
          have r1 := X5.c1
          have s0 := X5.f0 0
          have s1 := X5.f0 1
          clear d0 d1 d2 d3 b0 b1
          go_wp2
          have hj := Hj.out
          go_roundg (gk - 1)
          case measure => omega
          case rel =>
            refine ⟨j + 1, (N2, D2, kp EE E3), by go_num, by omega, hstep.out.symm, z6, z7, (T5.far (p := ⟨X, 0, none⟩) (by simp; omega) _).far (p := ⟨X, 1, none⟩) (by simp; omega) _, F5.far2 (by omega) _ _, X5.set2, ke_set2 hE5 (by omega) _ _, kp_set2 (K3.trans k5) (by omega) _ _⟩
        · obtain rfl : j = k := by omega
          have hfin : Hid (smT ss = (N, D, EE)) := by
            show _ = _
            unfold smT
            rw [ha, ← hN, List.take_length]
          have r0 := hX.c0
          have r1 := hX.c1
          have q0 := hF.c0
          have q1 := hF.c1
          have s0 := hF.f0 0
          have s1 := hF.f0 1
          have F6 := hF.set2 (x := N) (y := D)
          have hql := hE.lt
          have hFl' := hF.lt
          have E6 := ke_set2 hE (b := w.heap.size) (by omega) (.string N) (.string D)
          have K6 := kp_set2 hkq (b := w.heap.size) (by omega) (.string N) (.string D)
          clear hlt hj ha
          go_wp2
          generalize (wr.setCell ⟨w.heap.size, 0, none⟩ (.string N)).setCell ⟨w.heap.size, 1, none⟩ (.string D) = W at *
          have i0 := F6.c0
          have i1 := F6.c1
          refine bodyPost_ret (v := .agg #[.string N, .string D]) (by simp [results, Tryz.results96, go_sem, i0, i1]) rfl ?_
          exact ⟨by rw [hfin.out], by rw [hfin.out]; exact E6, K6⟩

theorem smT_size (ss : List ByteArray) : (smT ss).1.size ≤ 4000000000 ∧ (smT ss).2.1.size ≤ 4000000000 := by
  unfold smT
  generalize hE : spL ss = E
  clear hE
  have : ∀ (ss : List ByteArray) (a : ByteArray × ByteArray × Int), a.1.size ≤ 4000000000 → a.2.1.size ≤ 4000000000 → (ss.foldl smStep a).1.size ≤ 4000000000 ∧ (ss.foldl smStep a).2.1.size ≤ 4000000000 := by
    intro ss
    induction ss with
    | nil => intro a h1 h2; exact ⟨h1, h2⟩
    | cons s t ih => intro a h1 h2; exact ih _ (suN_size _ _ _ _) (suD_size _ _ _ _)
  exact this ss _ (show (⟨#[48]⟩ : ByteArray).size ≤ 4000000000 by decide) (show (⟨#[49]⟩ : ByteArray).size ≤ 4000000000 by decide)

/-- the text and the error of Sum -/
def qSumB (ss : List ByteArray) : ByteArray := if 4096 < ss.length then ⟨#[]⟩ else rT (smT ss).1 (smT ss).2.1 (smT ss).2.2
def qSumE (ss : List ByteArray) : Int := if 4096 < ss.length then 5 else (smT ss).2.2

set_option maxRecDepth 100000 in
set_option maxHeartbeats 1000000 in
theorem qSum_sl (l o c : Nat) (p : Option Addr) (ss : List ByteArray) (w : World) (hs : Strs w l o ss) (hp : 0 < ss.length → p = some ⟨l, o, none⟩ ∧ l < w.heap.size) (hz : ∀ s ∈ ss, s.size ≤ 9223372036854775807) (hn : ss.length ≤ 1000000000) :
    Calls Tryz.prog 40 #[.slice p ss.length c] w fun x w' => x = .returned (.tuple #[.string (qSumB ss), .int .i64 (qSumE ss)]) ∧ Kp [] w w' := by
  have s0 := SlB.made w p ss.length c
  have k0 : Kp [] w (w.alloc (.cells #[.slice p ss.length c] 57 (0, 0))) := (Kp.refl _ _).alloc _
  have c0 := s0.c
  by_cases hlt : 4096 < ss.length
  · have e1 : Hid (qSumB ss = ⟨#[]⟩) := if_pos hlt
    have e2 : Hid (qSumE ss = 5) := if_pos hlt
    rw [e1.out, e2.out]
    have hlt' : (4096 : Int) < (ss.length : Int) := by omega
    clear hs hp hz s0
    generalize ss.length = n at *
    go_enter Tryz.func40, Tryz.ntmps40
    go_wp2
    go_ret2
    exact ⟨rfl, k0⟩
  · have e1 : Hid (qSumB ss = if (smT ss).2.2 = 0 then (if isOne (smT ss).2.1 then (smT ss).1 else (smT ss).1 ++ ⟨#[47]⟩ ++ (smT ss).2.1) else ⟨#[]⟩) := by
      show _ = _
      unfold qSumB
      rw [if_neg hlt]
      rfl
    have e2 : Hid (qSumE ss = (smT ss).2.2) := if_neg hlt
    have q1 : Term1 96 w.heap.size (w.alloc (.cells #[.slice p ss.length c] 57 (0, 0))) (smT ss).1 (smT ss).2.1 (smT ss).2.2 := by
      intro W g hE hg hk
      have hg' : w.heap.size + 1 ≤ g := by simpa using hg
      have hst : Strs W l o ss := by
        intro i hi
        obtain ⟨_, hl⟩ := hp (by omega)
        exact ((hs.kp hl k0 (by simp)).kp (by simp; omega) hk (by simp)) i hi
      exact sum_in g _ l o c p ss W hE (s0.kept hk (by simp)) hst (fun h0 => by
        obtain ⟨e, hl⟩ := hp h0
        exact ⟨e, Nat.lt_of_lt_of_le (by simp; omega) hk.size, by omega⟩) (by omega) hz (by omega)
    have q2 := Lib.hid (result1 96 _ _ _ _ _ (smT_size ss).1 (smT_size ss).2 (enters_of Tryz.func96 (by kernel_rfl) rfl) q1)
    rw [← e1.out, ← e2.out] at q2
    have hlt' : ¬ (4096 : Int) < (ss.length : Int) := by omega
    clear q1 hs hp hz s0 e1 e2
    generalize qSumB ss = B at *
    generalize qSumE ss = E at *
    generalize ss.length = n at *
    go_enter Tryz.func40, Tryz.ntmps40
    go_wp2_with fail
    with_reducible refine q2.out.mono ?_
    rintro x w1 ⟨rfl, k1⟩
    have kk := k0.trans k1
    go_wp2
    go_ret2
    exact ⟨rfl, kk⟩
theorem qSum_any (l o c : Nat) (ss : List ByteArray) (w : World) (hs : Strs w l o ss) (hl : l < w.heap.size) (hz : ∀ s ∈ ss, s.size ≤ 9223372036854775807) (hn : ss.length ≤ 1000000000) :
    Calls Tryz.prog 40 #[.slice (some ⟨l, o, none⟩) ss.length c] w fun x w' => x = .returned (.tuple #[.string (qSumB ss), .int .i64 (qSumE ss)]) ∧ Kp [] w w' :=
  qSum_sl l o c _ ss w hs (fun _ => ⟨rfl, hl⟩) hz hn
end Go.Proofs.YtminjcknmhgpiaaGreatDoor

/- Fractions in lowest terms, as core's Rat. -/
namespace Go.Proofs.YtminjcknmhgpiaaGreatDoor
open Go.RowKit
open Go.Lib (nDigits itoa decDigits)

theorem gcdI_eq (n d : Int) : gcdI n d = (d.gcd n : Int) := by
  unfold gcdI Int.gcd
  rw [Nat.gcd_comm]
theorem sgn_pos {d : Int} (h : 0 < d) : sgn d = 1 := by unfold sgn; rw [if_neg (by omega), if_neg (by omega)]
theorem sgn_neg {d : Int} (h : d < 0) : sgn d = -1 := by unfold sgn; rw [if_pos h]

theorem red_val (n d : Int) (hd : d ≠ 0) :
    n.fdiv (sgn d * gcdI n d) = (Rat.divInt n d).num ∧ d.fdiv (sgn d * gcdI n d) = ((Rat.divInt n d).den : Int) := by
  rw [Rat.num_divInt, Rat.den_divInt, if_neg hd, gcdI_eq]
  have g1 : (d.gcd n : Int) ∣ n := Int.gcd_dvd_right ..
  have g2 : (d.gcd n : Int) ∣ d := Int.gcd_dvd_left ..
  have gp : 0 < d.gcd n := Int.gcd_pos_of_ne_zero_left _ hd
  generalize d.gcd n = G at *
  have gz : (G : Int) ≠ 0 := by omega
  obtain ⟨a, rfl⟩ := g1
  obtain ⟨b, rfl⟩ := g2
  have hb : b ≠ 0 := fun e => hd (by rw [e, Int.mul_zero])
  rcases Int.lt_or_gt_of_ne hd with h | h
  · rw [sgn_neg h, Int.sign_eq_neg_one_of_neg h]
    have hb' : b < 0 := by
      rcases Int.lt_or_gt_of_ne hb with h2 | h2
      · exact h2
      · have := Int.mul_pos (show (0 : Int) < G by omega) h2
        omega
    constructor
    · rw [show (-1 : Int) * (G * a) = G * (-a) by rw [Int.mul_neg, Int.neg_mul, Int.one_mul], Int.mul_ediv_cancel_left _ gz]
      rw [show (G : Int) * a = (-1 * (G : Int)) * (-a) by rw [Int.neg_mul, Int.one_mul, Int.neg_mul_neg]]
      exact Int.mul_fdiv_cancel_left _ (by omega)
    · rw [show (G : Int) * b = (-1 * (G : Int)) * (-b) by rw [Int.neg_mul, Int.one_mul, Int.neg_mul_neg], Int.mul_fdiv_cancel_left _ (by omega)]
      rw [show (-1 * (G : Int)) * (-b) = (G : Int) * b by rw [Int.neg_mul, Int.one_mul, Int.neg_mul_neg], Int.natAbs_mul, Int.natAbs_natCast, Nat.mul_div_cancel_left _ gp]
      omega
  · rw [sgn_pos h, Int.sign_eq_one_of_pos h, Int.one_mul, Int.one_mul]
    have hb' : 0 < b := by
      rcases Int.lt_or_gt_of_ne hb with h2 | h2
      · have := Int.mul_neg_of_pos_of_neg (show (0 : Int) < G by omega) h2
        omega
      · exact h2
    constructor
    · rw [Int.mul_fdiv_cancel_left _ gz, Int.mul_ediv_cancel_left _ gz]
    · rw [Int.mul_fdiv_cancel_left _ gz, Int.natAbs_mul, Int.natAbs_natCast, Nat.mul_div_cancel_left _ gp]
      omega
set_option exponentiation.threshold 2000 in
theorem ok_le {x y : Int} (h : Ok y) (hl : x.natAbs ≤ y.natAbs) : Ok x := by
  unfold Ok at *
  exact (nd_le_iff (by omega)).2 (Nat.lt_of_le_of_lt hl ((nd_le_iff (by omega)).1 h))
theorem chkL_S2 {x y : Int} (hx : Ok x) (hy : Ok y) : chkL [S x, S y] = 0 := by
  have := chkL_map (zs := [x, y]) (by intro z hz; simp at hz; rcases hz with rfl | rfl <;> assumption)
  exact this
theorem chk_S0 {x : Int} (hx : Ok x) : chk (S x).data.toList = 0 := by rw [S_list, chk_ok hx]
theorem signI_S {x : Int} (hx : Ok x) : signI (S x) = sgn x := by unfold signI; rw [if_pos (chk_S0 hx), valS_S]
theorem one_list : (S 1).data.toList = [49] := by
  rw [S_list, show itoa 1 = decDigits 1 from rfl, dec_small (by omega)]
  rfl
theorem isOne_S (x : Int) : isOne (S x) = decide (x = 1) := by
  unfold isOne
  rw [ByteArray.toList_eq]
  by_cases h : x = 1
  · subst h; rw [one_list]; rfl
  · rw [decide_eq_false h]
    refine beq_eq_false_iff_ne.2 (fun e => h ?_)
    have h1 : val (S x).data.toList = val (S 1).data.toList := by rw [e, one_list]
    have : valS (S x) = valS (S 1) := h1
    rwa [valS_S, valS_S] at this
theorem gcdI_le {n d : Int} (hd : d ≠ 0) : (gcdI n d).natAbs ≤ d.natAbs := by
  unfold gcdI
  rw [Int.natAbs_natCast]
  exact Nat.le_of_dvd (by omega) (Nat.gcd_dvd_right ..)
theorem gcdI_nn (n d : Int) : 0 ≤ gcdI n d := by unfold gcdI; omega

/-- the divisor, with the sign of the denominator -/
theorem redG_S {n d : Int} (hn : Ok n) (hd : Ok d) (h0 : d ≠ 0) : redG (S n) (S d) = S (sgn d * gcdI n d) ∧ redGE (S n) (S d) = 0 ∧ Ok (gcdI n d) := by
  have hg : Ok (gcdI n d) := ok_le hd (gcdI_le h0)
  have hb : binB gcdI (S n) (S d) = S (gcdI n d) := by rw [binB_S (chkL_S2 hn hd)]; exact if_pos hg
  have he : binE gcdI (S n) (S d) = 0 := by unfold binE; rw [if_pos (chkL_S2 hn hd), valS_S, valS_S]; exact if_pos hg
  refine ⟨?_, ?_, hg⟩
  · unfold redG
    rw [signI_S hd, hb]
    rcases Int.lt_or_gt_of_ne h0 with h | h
    · rw [sgn_neg h, if_pos (by omega)]
      unfold unB
      rw [if_pos (chk_S0 hg), valS_S]
      show S (-gcdI n d) = _
      congr 1
      omega
    · rw [sgn_pos h, if_neg (by omega), Int.one_mul]
  · unfold redGE
    rw [signI_S hd, hb, he, chk_S0 hd, chk_S0 hg, kp_zero, kp_zero]
    split <;> rfl

theorem ok_num {n d : Int} (hn : Ok n) (hd : d ≠ 0) : Ok (Rat.divInt n d).num := by
  refine ok_le hn ?_
  rw [Rat.num_divInt]
  have gp : 0 < d.gcd n := Int.gcd_pos_of_ne_zero_left _ hd
  have h1 : (d.sign * n).natAbs = n.natAbs := by
    rw [Int.natAbs_mul, Int.natAbs_sign_of_ne_zero hd, Nat.one_mul]
  have := Int.natAbs_ediv_le_natAbs (d.sign * n) (d.gcd n)
  omega
theorem ok_den {n d : Int} (hd : Ok d) (h0 : d ≠ 0) : Ok ((Rat.divInt n d).den : Int) := by
  refine ok_le hd ?_
  rw [Rat.den_divInt, if_neg h0, Int.natAbs_natCast]
  exact Nat.div_le_self _ _
theorem divBE_S {f : Int → Int → Int} {x y : Int} (hx : Ok x) (hy : Ok y) (h0 : y ≠ 0) (hf : Ok (f x y)) : divB f (S x) (S y) = S (f x y) ∧ divE f (S x) (S y) = 0 := by
  unfold divB divE
  rw [if_pos (chkL_S2 hx hy), if_pos (chkL_S2 hx hy), valS_S, valS_S, if_neg h0, if_neg h0]
  exact ⟨if_pos hf, if_pos hf⟩

/-- REDUCE: the texts of n and d in lowest terms, with no error -/
theorem red_S {n d : Int} (hn : Ok n) (hd : Ok d) (h0 : d ≠ 0) :
    redN (S n) (S d) = S (Rat.divInt n d).num ∧ redD (S n) (S d) = S ((Rat.divInt n d).den : Int) ∧ redE (S n) (S d) = 0 := by
  obtain ⟨h1, h2, h3⟩ := redG_S hn hd h0
  obtain ⟨v1, v2⟩ := red_val n d h0
  unfold redN redD redE
  rw [h1, h2, isOne_S]
  by_cases hone : sgn d * gcdI n d = 1
  · rw [decide_eq_true hone, if_pos rfl, if_pos rfl, if_pos rfl]
    rw [hone, Int.fdiv_one] at v1 v2
    exact ⟨by rw [← v1], by rw [← v2], rfl⟩
  · rw [decide_eq_false hone, if_neg (by decide), if_neg (by decide), if_neg (by decide)]
    have hs : Ok (sgn d * gcdI n d) := by
      rcases Int.lt_or_gt_of_ne h0 with h | h
      · rw [sgn_neg h]; exact ok_le h3 (by omega)
      · rw [sgn_pos h, Int.one_mul]; exact h3
    have hz : sgn d * gcdI n d ≠ 0 := by
      have : 0 < gcdI n d := by rw [gcdI_eq]; have := Int.gcd_pos_of_ne_zero_left n h0; omega
      rcases Int.lt_or_gt_of_ne h0 with h | h
      · rw [sgn_neg h]; omega
      · rw [sgn_pos h]; omega
    have o1 := ok_num hn h0
    have o2 := ok_den (n := n) hd h0
    obtain ⟨a1, a2⟩ := divBE_S (f := Int.fdiv) hn hs hz (by rw [v1]; exact o1)
    obtain ⟨b1, b2⟩ := divBE_S (f := Int.fdiv) hd hs hz (by rw [v2]; exact o2)
    rw [a1, a2, b1, b2, v1, v2]
    exact ⟨rfl, rfl, rfl⟩
end Go.Proofs.YtminjcknmhgpiaaGreatDoor

/- Texts of rational numbers. -/
namespace Go.Proofs.YtminjcknmhgpiaaGreatDoor
open Go.RowKit
open Go.Lib (nDigits itoa decDigits)

/-- the text of a rational number -/
def RS (q : Rat) : ByteArray := if q.den = 1 then S q.num else S q.num ++ ⟨#[47]⟩ ++ S (q.den : Int)
def OkR (q : Rat) : Prop := Ok q.num ∧ Ok (q.den : Int)

theorem noslash (z : Int) : ∀ c ∈ (S z).data.toList, c ≠ 47 := by
  rw [S_list]
  intro c hc
  have hd : ∀ u c, c ∈ decDigits u → c ≠ 47 := by
    intro u c h e
    have := List.all_eq_true.1 (dec_all u) c h
    rw [isDig_iff] at this
    subst e
    exact absurd this.1 (by decide)
  unfold itoa at hc
  split at hc
  · rcases List.mem_cons.1 hc with rfl | h
    · decide
    · exact hd _ _ h
  · exact hd _ _ hc
theorem find_none (l : List UInt8) (h : ∀ c ∈ l, c ≠ 47) : l.findIdx (· == 47) = l.length := by
  induction l with
  | nil => rfl
  | cons a t ih =>
    have ha : (a == 47) = false := by simpa using h a (List.mem_cons_self ..)
    rw [List.findIdx_cons, ha, ih (fun c hc => h c (List.mem_cons_of_mem _ hc))]
    rfl
theorem find_app (l r : List UInt8) (h : ∀ c ∈ l, c ≠ 47) : (l ++ 47 :: r).findIdx (· == 47) = l.length := by
  induction l with
  | nil => simp [List.findIdx_cons]
  | cons a t ih =>
    have ha : (a == 47) = false := by simpa using h a (List.mem_cons_self ..)
    rw [List.cons_append, List.findIdx_cons, ha, ih (fun c hc => h c (List.mem_cons_of_mem _ hc))]
    rfl
theorem bytes_eq {a b : ByteArray} (h : a.data.toList = b.data.toList) : a = b := by
  cases a; cases b
  congr 1
  exact Array.toList_inj.1 h

theorem split_bare (z : Int) : cN (S z) = S z ∧ cD (S z) = S 1 ∧ cW (S z) = false := by
  have hs : slashAt (S z) = (S z).size := by
    unfold slashAt
    rw [find_none _ (noslash z), Lib.size_eq]
  unfold cN cD cW
  rw [hs]
  refine ⟨?_, ?_, by simp⟩
  · apply bytes_eq
    rw [Lib.extract_data, List.drop_zero, List.take_of_length_le (by rw [Lib.size_eq]; omega)]
  · rw [if_neg (by omega)]
    exact bytes_eq (by rw [one_list])
theorem split_both (x y : Int) : cN (S x ++ ⟨#[47]⟩ ++ S y) = S x ∧ cD (S x ++ ⟨#[47]⟩ ++ S y) = S y ∧ cW (S x ++ ⟨#[47]⟩ ++ S y) = true := by
  have hl : (S x ++ ⟨#[47]⟩ ++ S y).data.toList = (S x).data.toList ++ 47 :: (S y).data.toList := by
    simp [ByteArray.data_append]
  have hz : (S x ++ ⟨#[47]⟩ ++ S y).size = (S x).size + 1 + (S y).size := by
    rw [Lib.size_eq, hl, List.length_append, List.length_cons, ← Lib.size_eq, ← Lib.size_eq]; omega
  have hs : slashAt (S x ++ ⟨#[47]⟩ ++ S y) = (S x).size := by
    unfold slashAt
    rw [hl, find_app _ _ (noslash x), Lib.size_eq]
  unfold cN cD cW
  rw [hs, hz]
  refine ⟨?_, ?_, decide_eq_true (by omega)⟩
  · apply bytes_eq
    rw [Lib.extract_data, hl, List.drop_zero, List.take_append_of_le_length (by rw [Lib.size_eq]; omega), List.take_of_length_le (by rw [Lib.size_eq]; omega)]
  · rw [if_pos (by omega)]
    apply bytes_eq
    rw [Lib.extract_data, hl]
    rw [show (S x).size + 1 = ((S x).data.toList ++ [47]).length by rw [List.length_append, ← Lib.size_eq]; rfl]
    rw [show (S x).data.toList ++ 47 :: (S y).data.toList = ((S x).data.toList ++ [47]) ++ (S y).data.toList by simp]
    rw [List.drop_left, List.take_of_length_le (by rw [List.length_append, ← Lib.size_eq, ← Lib.size_eq]; simp)]
theorem okq_one : Ok 1 := by
  unfold Ok
  rw [show (1 : Int).natAbs = 1 from rfl, Lib.nDigits_small (by omega)]
  omega
theorem one_S : (⟨#[49]⟩ : ByteArray) = S 1 := bytes_eq (by rw [one_list])
theorem cmpV_S {x y : Int} (hx : Ok x) (hy : Ok y) : cmpV (S x) (S y) = cmpI x y := by
  unfold cmpV
  rw [if_pos (chkL_S2 hx hy), valS_S, valS_S]
theorem gcdBE_S {x y : Int} (hx : Ok x) (hy : Ok y) (h0 : y ≠ 0) : binB gcdI (S x) (S y) = S (gcdI x y) := by
  rw [binB_S (chkL_S2 hx hy)]
  exact if_pos (ok_le hy (gcdI_le h0))
theorem lowB_S {x y : Int} (hx : Ok x) (hy : Ok y) : lowB (S x) (S y) = (decide (1 < y) && decide (gcdI x y = 1)) := by
  unfold lowB
  rw [one_S, cmpV_S hy okq_one]
  by_cases h : 1 < y
  · have h1 : cmpI y 1 = 1 := by unfold cmpI; rw [if_neg (by omega), if_neg (by omega)]
    rw [h1, decide_eq_true h, gcdBE_S hx hy (by omega), isOne_S]
    rfl
  · have h1 : cmpI y 1 ≤ 0 := by unfold cmpI; split; · omega
                                 · split <;> omega
    rw [decide_eq_true h1, decide_eq_false h]
    rfl

/-- every right text is that of one number, and the number's text is right -/
theorem sp_RS {q : Rat} (h : OkR q) : cN (RS q) = S q.num ∧ cD (RS q) = S (q.den : Int) ∧ spE (RS q) = 0 := by
  obtain ⟨h1, h2⟩ := h
  unfold RS
  by_cases hd : q.den = 1
  · rw [if_pos hd]
    obtain ⟨a, b, c⟩ := split_bare q.num
    refine ⟨a, by rw [b, hd]; rfl, ?_⟩
    unfold spE frE
    rw [a, b, c, chk_S0 h1, chk_S0 okq_one]
    simp
  · rw [if_neg hd]
    obtain ⟨a, b, c⟩ := split_both q.num (q.den : Int)
    refine ⟨a, b, ?_⟩
    have hg : gcdI q.num (q.den : Int) = 1 := by
      unfold gcdI
      rw [Int.natAbs_natCast, q.reduced.gcd_eq_one]
      rfl
    have hp := q.den_pos
    unfold spE frE
    rw [a, b, c, chk_S0 h1, chk_S0 h2, lowB_S h1 h2, decide_eq_true (by omega : (1 : Int) < (q.den : Int)), decide_eq_true hg]
    simp
theorem RS_of_sp {a : ByteArray} (h : spE a = 0) : ∃ q, a = RS q ∧ OkR q := by
  have hd : chk (cD a).data.toList = 0 := by
    refine Classical.byContradiction fun hne => ?_
    unfold spE frE at h
    split at h
    · cases h
    · exact hne h
  have hn : chk (cN a).data.toList = 0 := by
    refine Classical.byContradiction fun hne => ?_
    unfold spE frE at h
    split at h
    · cases h
    · rw [if_neg (fun x => x hd)] at h; exact hne h
  have hlow : cW a = true → lowB (cN a) (cD a) = true := by
    intro hw
    unfold spE frE at h
    rw [hn, hd, hw] at h
    cases hb : lowB (cN a) (cD a)
    · rw [hb] at h; simp at h
    · rfl
  obtain ⟨x, hx, ox⟩ := of_chk_zero hn
  obtain ⟨y, hy, oy⟩ := of_chk_zero hd
  by_cases hw : slashAt a < a.size
  · have hc : cW a = true := decide_eq_true hw
    have hl := hlow hc
    rw [hx, hy, lowB_S ox oy, Bool.and_eq_true, decide_eq_true_eq, decide_eq_true_eq] at hl
    obtain ⟨l1, l2⟩ := hl
    refine ⟨⟨x, y.toNat, by omega, ?_⟩, ?_, ?_⟩
    · unfold gcdI at l2
      have : y.natAbs = y.toNat := by omega
      rw [this] at l2
      exact Nat.coprime_iff_gcd_eq_one.2 (by exact_mod_cast l2)
    · have e2 : ((y.toNat : Nat) : Int) = y := by omega
      unfold RS
      simp only []
      rw [if_neg (by omega), e2, ← hx, ← hy]
      unfold cN cD
      rw [if_pos hw]
      apply bytes_eq
      have hfind : slashAt a < a.data.toList.length := by rw [← Lib.size_eq]; exact hw
      have hat : a.data.toList[slashAt a]'hfind = 47 := by
        have := List.findIdx_getElem (p := (· == (47 : UInt8))) (xs := a.data.toList) (w := hfind)
        exact beq_iff_eq.1 this
      simp only [ByteArray.data_append, Array.toList_append, Lib.extract_data, List.drop_zero, Nat.sub_zero]
      rw [List.take_of_length_le (l := a.data.toList.drop (slashAt a + 1)) (Nat.le_of_eq (by rw [List.length_drop, Lib.size_eq]))]
      have := List.take_append_drop (slashAt a) a.data.toList
      rw [List.drop_eq_getElem_cons hfind, hat] at this
      rw [List.append_assoc]
      exact this.symm
    · exact ⟨ox, by show Ok ((y.toNat : Nat) : Int); rw [show ((y.toNat : Nat) : Int) = y by omega]; exact oy⟩
  · refine ⟨⟨x, 1, by omega, Nat.coprime_one_right ..⟩, ?_, ox, okq_one⟩
    unfold RS
    simp only []
    rw [if_pos trivial, ← hx]
    unfold cN
    have := slash_le a
    apply bytes_eq
    rw [Lib.extract_data, List.drop_zero, List.take_of_length_le (by rw [← Lib.size_eq]; omega)]
end Go.Proofs.YtminjcknmhgpiaaGreatDoor
