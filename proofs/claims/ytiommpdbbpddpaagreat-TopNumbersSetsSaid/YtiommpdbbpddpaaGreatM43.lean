/- Texts Im2, Is13, Is14, Is16, Is17: each says in its own first comment what it proves. -/
import Derived.Test.YtiommpdbbpddpaaGreatM42
import Derived.Deep.RegionHeld3
import Derived.Deep.DrawnRows
/- Normal sets: how many spans they have, where their ends are, their length; what a sweep of known sets finds. No program is named here. -/
namespace Go.Proofs.YtiommpdbbpddpaaGreat
open Go.RowKit
open Go.Lib (nDigits itoa decDigits)

theorem nrm_len : ∀ {f A : List Iv}, Nrm f → RtI A → (∀ z, InS z f ↔ InS z A) → f.length ≤ A.length
  | [], _, _, _, _ => by simp
  | s :: f, A, h, hA, he => by
    have hs := h.head
    have key : ∀ z, InS z f ↔ InS z (A.filter fun a => decide (s.2 < a.1)) := fun z => by
      constructor
      · intro hz
        have hz2 := h.gt hz
        obtain ⟨a, ha, h1, h2⟩ := (he z).1 (inS_cons.2 (.inr hz))
        refine ⟨a, List.mem_filter.2 ⟨ha, ?_⟩, h1, h2⟩
        rw [decide_eq_true_eq]
        by_cases h3 : s.2 < a.1
        · exact h3
        · exfalso
          cases f with
          | nil => exact inS_nil hz
          | cons t f =>
            have ht := h.lt (t := t) (by simp)
            have hge := h.tail.ge hz
            have hw : InS ((s.2 + t.1) / 2) A := ⟨a, ha, by grind, by grind⟩
            rcases inS_cons.1 ((he _).2 hw) with h4 | h4
            · have := h4.2; grind
            · have := h.tail.ge h4; grind
      · rintro ⟨a, ha, h1, h2⟩
        obtain ⟨ha, h3⟩ := List.mem_filter.1 ha
        rw [decide_eq_true_eq] at h3
        rcases inS_cons.1 ((he z).2 ⟨a, ha, h1, h2⟩) with h4 | h4
        · have := h4.2; exfalso; grind
        · exact h4
    have ih := nrm_len h.tail (A := A.filter fun a => decide (s.2 < a.1)) (fun t ht => hA t (List.mem_filter.1 ht).1) key
    obtain ⟨a, ha, h1, h2⟩ := (he s.1).1 (inS_cons.2 (.inl ⟨Rat.le_refl, hs⟩))
    have : (A.filter fun a => decide (s.2 < a.1)).length < A.length := by
      rw [List.length_filter_lt_length_iff_exists]
      exact ⟨a, ha, by rw [decide_eq_true_eq]; intro h3; grind⟩
    simp only [List.length_cons]
    omega
theorem coll_ends {N : List Rat} {f : List Iv} {p : Iv} (hf : ∀ s ∈ f, s.1 ∈ N ∧ s.2 ∈ N) (hp : p.1 ∈ N ∧ p.2 ∈ N) : ∀ s ∈ coll f p, s.1 ∈ N ∧ s.2 ∈ N := by
  rcases List.eq_nil_or_concat f with rfl | ⟨f', t, rfl⟩
  · intro s hs
    rw [coll_nil] at hs
    obtain rfl : s = p := by simpa using hs
    exact hp
  · rw [List.concat_eq_append] at *
    intro s hs
    rw [coll_snoc] at hs
    have ht := hf t (by simp)
    by_cases he : t.2 = p.1
    · rw [if_pos he] at hs
      rcases List.mem_append.1 hs with hs | hs
      · exact hf s (by simp [hs])
      · obtain rfl : s = (t.1, p.2) := by simpa using hs
        exact ⟨ht.1, hp.2⟩
    · rw [if_neg he] at hs
      rcases List.mem_append.1 hs with hs | hs
      · exact hf s hs
      · obtain rfl : s = p := by simpa using hs
        exact hp
theorem colls_ends {N : List Rat} : ∀ {ps f : List Iv}, (∀ s ∈ f, s.1 ∈ N ∧ s.2 ∈ N) → (∀ p ∈ ps, p.1 ∈ N ∧ p.2 ∈ N) → ∀ s ∈ colls f ps, s.1 ∈ N ∧ s.2 ∈ N
  | [], _, h, _ => h
  | p :: ps, f, h, h2 => by
    show ∀ s ∈ colls (coll f p) ps, _
    exact colls_ends (coll_ends h (h2 p (by simp))) (fun q hq => h2 q (by simp [hq]))
theorem pieces_ends (c : Rat → Bool) (o : Rat → Rat → Bool) (N : List Rat) : ∀ p ∈ pieces c o N, p.1 ∈ N ∧ p.2 ∈ N := fun p hp => by
  rcases mem_pieces.1 hp with ⟨x, h, _, rfl⟩ | ⟨x, y, h, _, rfl⟩
  · exact ⟨h, h⟩
  · exact adj_mem h
/-- an end of one of the spans -/
def EndOf (A : List Iv) (x : Rat) : Prop := ∃ t ∈ A, x = t.1 ∨ x = t.2
theorem ends_num {A B : List Iv} {e : En} (h : e ∈ ends A false ++ ends B true) : EndOf (A ++ B) e.num := by
  unfold ends at h
  rcases List.mem_append.1 h with h | h
  · obtain ⟨s, hs, h⟩ := List.mem_flatMap.1 h
    simp only [List.mem_cons, List.not_mem_nil, or_false] at h
    rcases h with rfl | rfl
    · exact ⟨s, by simp [hs], .inl rfl⟩
    · exact ⟨s, by simp [hs], .inr rfl⟩
  · obtain ⟨s, hs, h⟩ := List.mem_flatMap.1 h
    simp only [List.mem_cons, List.not_mem_nil, or_false] at h
    rcases h with rfl | rfl
    · exact ⟨s, by simp [hs], .inl rfl⟩
    · exact ⟨s, by simp [hs], .inr rfl⟩
theorem Swept.endOf {bel : Bool → Bool → Bool} {A B f : List Iv} (h : Swept bel A B f) : ∀ s ∈ f, EndOf (A ++ B) s.1 ∧ EndOf (A ++ B) s.2 := by
  obtain ⟨N, D, hp, hI⟩ := h
  obtain ⟨_, _, hm, rfl⟩ := hI.done
  intro s hs
  obtain ⟨h1, h2⟩ := colls_ends (fun s h => by simp at h) (pieces_ends _ _ _) s hs
  obtain ⟨e, he, h3⟩ := (hm _).1 h1
  obtain ⟨e2, he2, h4⟩ := (hm _).1 h2
  exact ⟨by rw [← h3]; exact ends_num (hp.mem_iff.1 he), by rw [← h4]; exact ends_num (hp.mem_iff.1 he2)⟩
theorem Swept.nrm {bel : Bool → Bool → Bool} {A B f : List Iv} (h : Swept bel A B f) : Nrm f := by
  obtain ⟨N, D, hp, hI⟩ := h
  obtain ⟨_, ha, hm, rfl⟩ := hI.done
  exact (sweep_ok ha).1
/-- what a sweep of known sets finds -/
theorem Swept.eval {bel : Bool → Bool → Bool} {A B f : List Iv} (h : Swept bel A B f) (N0 : List Rat) (hN : Asc N0) (hE : ∀ x, x ∈ N0 ↔ ∃ e ∈ ends A false ++ ends B true, e.num = x) :
    f = colls [] (pieces (swC bel (ends A false ++ ends B true)) (swO bel (ends A false ++ ends B true)) N0) := by
  obtain ⟨N, D, hp, hI⟩ := h
  obtain ⟨_, ha, hm, rfl⟩ := hI.done
  have e1 : N = N0 := asc_unique ha hN fun x => by
    rw [hm, hE]
    constructor
    · rintro ⟨e, h1, h2⟩; exact ⟨e, hp.mem_iff.1 h1, h2⟩
    · rintro ⟨e, h1, h2⟩; exact ⟨e, hp.mem_iff.2 h1, h2⟩
  have e2 : swC bel D = swC bel (ends A false ++ ends B true) := by
    funext x
    unfold swC
    rw [bal_perm (hp.filter _), bal_perm (hp.filter _)]
  have e3 : swO bel D = swO bel (ends A false ++ ends B true) := by
    funext x y
    unfold swO
    rw [bal_perm (hp.filter _), bal_perm (hp.filter _)]
  rw [e1, e2, e3]
/-- the sum of the widths of the first k spans -/
def wsum (f : List Iv) : Nat → Rat
  | 0 => 0
  | k + 1 => wsum f k + ((gI f k).2 - (gI f k).1)
def lenI (f : List Iv) : Rat := wsum f f.length
theorem wsum_sm {j : Nat} {f : List Iv} (h : ∀ s ∈ f, Sm j s.1 ∧ Sm j s.2) : ∀ k, k ≤ f.length → Sm ((j + j + 2) * k + 1) (wsum f k)
  | 0, _ => by unfold Sm wsum; simp
  | k + 1, hk => by
    have hs := h _ (List.getElem_mem (show k < f.length by omega))
    have e : gI f k = f[k] := gI_eq (by omega)
    have := (wsum_sm h k (by omega)).add ((hs.2.sub hs.1))
    show Sm _ (wsum f k + ((gI f k).2 - (gI f k).1))
    rw [e]
    refine this.mono ?_
    rw [Nat.mul_add]
    omega
end Go.Proofs.YtiommpdbbpddpaaGreat

/- Length of package interval. -/
namespace Go.Proofs.YtiommpdbbpddpaaGreat
open Go.RowKit
open Go.Lib (nDigits itoa decDigits)

set_option maxRecDepth 100000 in
set_option maxHeartbeats 4000000 in
theorem iLen_cl (g bn : Nat) (v : Value) (l : List Tx) (T D : Nat → ByteArray) (w0 w : World) (hR : RE w g 0) (hb : SlBx w bn v) (k0 : Kp [] w0 w) (sl : SlT w0 v l) (_hg : w0.heap.size ≤ g) (hn : l.length ≤ 1000) (hT0 : T 0 = ⟨#[48]⟩)
    (q1 : ∀ j, j < l.length → KC g 26 #[.pointer (some ⟨g, 0, none⟩), .func (.func 27) #[] #[], .string (gL l j).2, .string (gL l j).1] 0 (.string (D j)) 0)
    (q2 : ∀ j, j < l.length → KC g 26 #[.pointer (some ⟨g, 0, none⟩), .func (.func 14) #[] #[], .string (T j), .string (D j)] 0 (.string (T (j + 1))) 0) :
    Calls Tryz.prog 25 #[.pointer (some ⟨g, 0, none⟩), .pointer (some ⟨bn, 0, none⟩)] w fun r w' => r = .returned (.string (T l.length)) ∧ RE w' g 0 ∧ Kp [g] w w' := by
  obtain ⟨p, c, gl, o, rfl, hp, hc⟩ := sl.op
  have b0 := hb.c
  have HC := Lib.hid hc
  have HP := Lib.hid hp
  have Q1 := Lib.hid q1
  have Q2 := Lib.hid q2
  have hn1 : (l.length : Int) ≤ 1000 := by omega
  have hn0 : 0 ≤ (l.length : Int) := by omega
  have k1 := Kp.refl [g] w
  have K0 := Lib.hid k0
  have HR0 := Lib.hid hR
  have t0 : Value.string ⟨#[48]⟩ = .string (T 0) := by rw [hT0]
  generalize gL l = G at *
  generalize l.length = n at *
  clear hc hp q1 q2 hn sl hb k0
  go_enter Tryz.func25, Tryz.ntmps25
  go_wp2_with fail
  go_loopg [4, 9] n (fun gk s4 s9 wr => ∃ k : Nat, s9 = .int .i64 k ∧ k + gk = n ∧ s4 = .string (T k) ∧ RE wr g 0 ∧ Kp [g] w wr)
  case atStart => exact ⟨0, rfl, by omega, t0, hR, k1⟩
  case round =>
    clear k1 hR t0 b0
    obtain ⟨k, rfl, hk, rfl, hR, kk⟩ := hrel
    by_cases hlt : k < n
    · obtain rfl := HP.out (by omega)
      have kr := K0.out.trans (kp_same_keeper kk HR0.out hR)
      obtain ⟨c0, c1⟩ := HC.out k hlt wr kr
      have r1 := Q1.out k hlt
      have r2 := Q2.out k hlt
      unfold KC at r1 r2
      have hlt' : (k : Int) < (n : Int) := by omega
      have z1 : 0 ≤ (k : Int) := by omega
      have Hk := Lib.hid hk; have Hl := Lib.hid hlt
      have s := SpB.made wr (G k).1 (G k).2
      have s0 := s.c0
      have s1 := s.c1
      have f0 := s.f 0
      have f1 := s.f 1
      have ka := kk.alloc (.cells #[.string (G k).1, .string (G k).2] 26 (0, 0))
      have ra := hR.alloc (.cells #[.string (G k).1, .string (G k).2] 26 (0, 0))
      clear hk hlt HC HP Q1 Q2 hR kk kr
      generalize (G k).1 = lo at *
      generalize (G k).2 = hi at *
      generalize D k = dk at *
      have HT : Hid (T (k + 1) = T (k + 1)) := Lib.hid rfl
      generalize hT1 : T (k + 1) = t1 at *
      have HT1 := Lib.hid hT1
      clear hT1 HT
      go_wp2_with fail
      with_reducible refine (r1.out _ ra).mono ?_
      rintro x w1 ⟨rfl, h1, k1⟩
      have q := Lib.hid (r2.out _ h1)
      clear s s0 s1 f0 f1 c0 c1 r1 r2 ra h1
      go_wp2_with fail
      with_reducible refine q.out.mono ?_
      rintro x w2 ⟨rfl, h2, k2⟩
      have H2 := Lib.hid h2
      have kf := (ka.trans k1).trans k2
      clear q h2 k1 k2 ka
      go_wp2
      have hk := Hk.out; have hlt := Hl.out
      go_roundg (gk - 1)
      case measure => omega
      case rel => exact ⟨k + 1, by go_num, by omega, by rw [HT1.out], H2.out, kf⟩
    · obtain rfl : k = n := by omega
      have H2 := Lib.hid hR
      clear hR
      go_wp2
      go_ret
      exact ⟨rfl, H2.out, kk⟩
set_option maxRecDepth 100000 in
set_option maxHeartbeats 4000000 in
theorem iLength_0 (p : Option Addr) (n c : Nat) (R : ByteArray → Prop) (w : World)
    (q : Hid (Calls Tryz.prog 23 #[.slice p n c] w fun x w' => ∃ p' n' c' L, R L ∧ x = .returned (.tuple #[.slice p' n' c', .int .i64 0]) ∧ Kp [] w w' ∧ (∀ W g bn, RE W g 0 → w'.heap.size ≤ g → Kp [] w' W → SlBx W bn (.slice p' n' c') → Calls Tryz.prog 25 #[.pointer (some ⟨g, 0, none⟩), .pointer (some ⟨bn, 0, none⟩)] W fun r w'' => r = .returned (.string L) ∧ RE w'' g 0 ∧ Kp [g] W w''))) :
    Calls Tryz.prog 13 #[.slice p n c] w fun x w' => ∃ L, R L ∧ x = .returned (.tuple #[.string L, .int .i64 0]) ∧ Kp [] w w' := by
  go_enter Tryz.func13, Tryz.ntmps13
  go_wp2_with fail
  with_reducible refine q.out.mono ?_
  rintro x w1 ⟨p', n', c', L, hL, rfl, k, hc⟩
  have HL := Lib.hid hL
  have m := SlBx.made w1 (.slice p' n' c')
  have ka := k.alloc (.cells #[.slice p' n' c'] 22 (0, 0))
  have kb : Kp [] w1 (w1.alloc (.cells #[.slice p' n' c'] 22 (0, 0))) := (Kp.refl _ _).alloc _
  have q2 := Lib.hid (kresult_rat 25 #[.pointer (some ⟨w1.heap.size, 0, none⟩)] L 0 (w1.alloc (.cells #[.slice p' n' c'] 22 (0, 0))) (enters_of Tryz.func25 (by kernel_rfl) rfl)
    (Lib.hid fun W g hR hg k2 => hc W g w1.heap.size hR (Nat.le_trans kb.size hg) (kb.trans k2) (m.kept k2 (by simp))))
  rw [show zV 0 (.string L) (.string ⟨#[]⟩) = .string L from if_pos rfl] at q2
  clear q k hc m kb hL
  go_wp2_with fail
  with_reducible refine q2.out.mono ?_
  rintro x w2 ⟨rfl, k2⟩
  go_wp2
  go_ret2
  exact ⟨L, HL.out, rfl, ka.trans k2⟩
end Go.Proofs.YtiommpdbbpddpaaGreat

/- Length of package interval, of right sets; its sets in numbers. -/
namespace Go.Proofs.YtiommpdbbpddpaaGreat
open Go.RowKit
open Go.Lib (nDigits itoa decDigits)

def SmJ (j : Nat) (l : List Iv) : Prop := ∀ s ∈ l, Sm j s.1 ∧ Sm j s.2
theorem SmJ.up {j : Nat} {l : List Iv} (h : SmJ j l) (hj : j ≤ 30) : SmI l := fun s hs => ⟨(h s hs).1.mono hj, (h s hs).2.mono hj⟩
theorem endOf_sm {j : Nat} {A : List Iv} {x : Rat} (h : SmJ j A) (hx : EndOf A x) : Sm j x := by
  obtain ⟨t, ht, rfl | rfl⟩ := hx
  · exact (h t ht).1
  · exact (h t ht).2
theorem Swept.smJ {j : Nat} {bel : Bool → Bool → Bool} {A B f : List Iv} (h : Swept bel A B f) (hA : SmJ j A) (hB : SmJ j B) : SmJ j f := fun s hs => by
  obtain ⟨h1, h2⟩ := h.endOf s hs
  have hAB : SmJ j (A ++ B) := fun t ht => (List.mem_append.1 ht).elim (hA t) (hB t)
  exact ⟨endOf_sm hAB h1, endOf_sm hAB h2⟩
theorem gL_tx {f : List Iv} {k : Nat} (h : k < f.length) : gL (txI f) k = (RS (gI f k).1, RS (gI f k).2) := by
  rw [gL_eq (by rw [txI_len]; exact h), gI_eq h]
  simp [txI]
theorem kc_sub (g : Nat) {j k : Nat} {q r : Rat} (hq : Sm j q) (hr : Sm k r) (h : j + k < 1024) : KC g 26 #[.pointer (some ⟨g, 0, none⟩), .func (.func 27) #[] #[], .string (RS q), .string (RS r)] 0 (.string (RS (q - r))) 0 :=
  Lib.hid fun V hR => by
    have := kOf 27 g 0 0 _ _ _ V hR (Lib.hid fun V => sub_c hq hr h V) (enters_of Tryz.func27 (by kernel_rfl) rfl)
    rwa [kp_zero] at this
theorem kc_add (g : Nat) {j k : Nat} {q r : Rat} (hq : Sm j q) (hr : Sm k r) (h : j + k < 1024) : KC g 26 #[.pointer (some ⟨g, 0, none⟩), .func (.func 14) #[] #[], .string (RS q), .string (RS r)] 0 (.string (RS (q + r))) 0 :=
  Lib.hid fun V hR => by
    have := kOf 14 g 0 0 _ _ _ V hR (Lib.hid fun V => add_c hq hr h V) (enters_of Tryz.func14 (by kernel_rfl) rfl)
    rwa [kp_zero] at this
/-- the length of a right set is that of its normal set -/
theorem iLen_0 {j : Nat} (v : Value) (A : List Iv) (w : World) (sa : SlT w v (txI A)) (hA : SmJ j A) (hj : j ≤ 30) (rA : RtI A) (hn : A.length ≤ 40) (hb : (j + j + 2) * A.length + 1 + (j + j + 1) < 1024) :
    Calls Tryz.prog 13 #[v] w fun x w' => ∃ f, x = .returned (.tuple #[.string (RS (lenI f)), .int .i64 0]) ∧ Nrm f ∧ (∀ z, InS z f ↔ InS z A) ∧ Kp [] w w' := by
  have sa0 := sa
  obtain ⟨p, c, rfl, _⟩ := sa
  refine (iLength_0 p _ c (fun L => ∃ f, L = RS (lenI f) ∧ Nrm f ∧ ∀ z, InS z f ↔ InS z A) w (Lib.hid ((iNormal_0 _ A w sa0 (hA.up hj) rA hn).mono ?_))).mono ?_
  · rintro x w' ⟨v', f, h1, h2, h3, h4, h5, h6, h7, k⟩
    have hf : SmJ j f := h5.smJ hA (fun _ h => by simp at h)
    have hlen := nrm_len h6 rA h7
    have h20 := h2
    obtain ⟨p', c', rfl, _⟩ := h2
    rw [txI_len] at h1
    refine ⟨p', f.length, c', RS (lenI f), ⟨f, rfl, h6, h7⟩, h1, k, fun W g bn hR hg k2 hB => ?_⟩
    have hmul : (j + j + 2) * f.length ≤ (j + j + 2) * A.length := Nat.mul_le_mul_left _ hlen
    have := iLen_cl g bn _ (txI f) (fun i => RS (wsum f i)) (fun i => RS ((gI f i).2 - (gI f i).1)) w' W hR (by rw [txI_len]; exact hB) k2 h20 hg (by rw [txI_len]; omega) l_0
      (fun i hi => by
        rw [txI_len] at hi
        have hm := hf _ (List.getElem_mem hi)
        rw [gL_tx hi, gI_eq hi]
        exact kc_sub g hm.2 hm.1 (by omega))
      (fun i hi => by
        rw [txI_len] at hi
        have hm := hf _ (List.getElem_mem hi)
        rw [gI_eq hi]
        have e : wsum f (i + 1) = wsum f i + (f[i].2 - f[i].1) := by
          show wsum f i + ((gI f i).2 - (gI f i).1) = _
          rw [gI_eq hi]
        rw [e]
        have hmi : (j + j + 2) * i ≤ (j + j + 2) * f.length := Nat.mul_le_mul_left _ (by omega)
        exact kc_add g (wsum_sm hf i (by omega)) (hm.2.sub hm.1) (by omega))
    rw [txI_len] at this
    exact this
  · rintro x w' ⟨L, ⟨f, rfl, h1, h2⟩, h3, k⟩
    exact ⟨f, h3, h1, h2, k⟩
end Go.Proofs.YtiommpdbbpddpaaGreat

/- Layer 3's examples: the sets' values. -/
namespace Go.Proofs.YtiommpdbbpddpaaGreat
open Go.RowKit
open Go.Lib (nDigits itoa decDigits)

instance : DecidableEq En := fun a b => if h : a.num = b.num ∧ a.sec = b.sec ∧ a.beg = b.beg then .isTrue (by cases a; cases b; simp_all) else .isFalse (fun e => h (by subst e; simp))
/-- what a slice holds, and its length known -/
theorem SlT.len {w : World} {v : Value} {l : List Tx} (h : SlT w v l) : ∃ p c, v = .slice p l.length c := by
  obtain ⟨p, c, e, _⟩ := h
  exact ⟨p, c, e⟩
-- the slices of the examples as texts
end Go.Proofs.YtiommpdbbpddpaaGreat

/- Layer 3's examples. -/
namespace Go.Proofs.YtiommpdbbpddpaaGreat
open Go.RowKit
open Go.Lib (nDigits itoa decDigits)

attribute [local go_sem ↓] Go.wp_at_zero Go.wp_at_succ
theorem same_true {u v : Value} {l : List Tx} {W : World} (h1 : SlT W u l) (h2 : SlT W v l) (hn : l.length ≤ 1000000) : Calls Tryz.prog 12 #[u, v] W fun x w' => x = .returned (.bool true) ∧ Kp [] W w' := by
  have := r3Same u v l l W h1 h2 hn hn
  rwa [decide_eq_true rfl] at this
end Go.Proofs.YtiommpdbbpddpaaGreat
