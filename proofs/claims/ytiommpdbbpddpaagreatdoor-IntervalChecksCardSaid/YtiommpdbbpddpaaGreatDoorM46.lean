/- Texts Im2, Is13, Is14, Is15, Is16, Is17: each says in its own first comment what it proves. -/
import Derived.Test.YtiommpdbbpddpaaGreatDoorM45
import Derived.Deep.RegionHeld3
import Derived.Deep.DrawnRows
/- Normal sets: how many spans they have, where their ends are, their length; what a sweep of known sets finds. No program is named here. -/
namespace Go.Proofs.YtiommpdbbpddpaaGreatDoor
open Go.RowKit
open Go.Lib (nDigits itoa decDigits)

theorem nrm_len : ∀ {f A : List Iv}, Nrm f → RtI A → (∀ z, InS z f ↔ InS z A) → f.length ≤ A.length
  | [], _, _, _, _ => by simp
  | s :: f, A, h, hA, he => by
    have hs := h.head
    have key : ∀ z, InS z f ↔ InS z (A.filter fun a => decide (s.2 < a.1)) := fun z => by
      constructor
      · intro hz
        have hz2 := h.gt hz
        obtain ⟨a, ha, h1, h2⟩ := (he z).1 (inS_cons.2 (.inr hz))
        refine ⟨a, List.mem_filter.2 ⟨ha, ?_⟩, h1, h2⟩
        rw [decide_eq_true_eq]
        by_cases h3 : s.2 < a.1
        · exact h3
        · exfalso
          cases f with
          | nil => exact inS_nil hz
          | cons t f =>
            have ht := h.lt (t := t) (by simp)
            have hge := h.tail.ge hz
            have hw : InS ((s.2 + t.1) / 2) A := ⟨a, ha, by grind, by grind⟩
            rcases inS_cons.1 ((he _).2 hw) with h4 | h4
            · have := h4.2; grind
            · have := h.tail.ge h4; grind
      · rintro ⟨a, ha, h1, h2⟩
        obtain ⟨ha, h3⟩ := List.mem_filter.1 ha
        rw [decide_eq_true_eq] at h3
        rcases inS_cons.1 ((he z).2 ⟨a, ha, h1, h2⟩) with h4 | h4
        · have := h4.2; exfalso; grind
        · exact h4
    have ih := nrm_len h.tail (A := A.filter fun a => decide (s.2 < a.1)) (fun t ht => hA t (List.mem_filter.1 ht).1) key
    obtain ⟨a, ha, h1, h2⟩ := (he s.1).1 (inS_cons.2 (.inl ⟨Rat.le_refl, hs⟩))
    have : (A.filter fun a => decide (s.2 < a.1)).length < A.length := by
      rw [List.length_filter_lt_length_iff_exists]
      exact ⟨a, ha, by rw [decide_eq_true_eq]; intro h3; grind⟩
    simp only [List.length_cons]
    omega
theorem coll_ends {N : List Rat} {f : List Iv} {p : Iv} (hf : ∀ s ∈ f, s.1 ∈ N ∧ s.2 ∈ N) (hp : p.1 ∈ N ∧ p.2 ∈ N) : ∀ s ∈ coll f p, s.1 ∈ N ∧ s.2 ∈ N := by
  rcases List.eq_nil_or_concat f with rfl | ⟨f', t, rfl⟩
  · intro s hs
    rw [coll_nil] at hs
    obtain rfl : s = p := by simpa using hs
    exact hp
  · rw [List.concat_eq_append] at *
    intro s hs
    rw [coll_snoc] at hs
    have ht := hf t (by simp)
    by_cases he : t.2 = p.1
    · rw [if_pos he] at hs
      rcases List.mem_append.1 hs with hs | hs
      · exact hf s (by simp [hs])
      · obtain rfl : s = (t.1, p.2) := by simpa using hs
        exact ⟨ht.1, hp.2⟩
    · rw [if_neg he] at hs
      rcases List.mem_append.1 hs with hs | hs
      · exact hf s hs
      · obtain rfl : s = p := by simpa using hs
        exact hp
theorem colls_ends {N : List Rat} : ∀ {ps f : List Iv}, (∀ s ∈ f, s.1 ∈ N ∧ s.2 ∈ N) → (∀ p ∈ ps, p.1 ∈ N ∧ p.2 ∈ N) → ∀ s ∈ colls f ps, s.1 ∈ N ∧ s.2 ∈ N
  | [], _, h, _ => h
  | p :: ps, f, h, h2 => by
    show ∀ s ∈ colls (coll f p) ps, _
    exact colls_ends (coll_ends h (h2 p (by simp))) (fun q hq => h2 q (by simp [hq]))
theorem pieces_ends (c : Rat → Bool) (o : Rat → Rat → Bool) (N : List Rat) : ∀ p ∈ pieces c o N, p.1 ∈ N ∧ p.2 ∈ N := fun p hp => by
  rcases mem_pieces.1 hp with ⟨x, h, _, rfl⟩ | ⟨x, y, h, _, rfl⟩
  · exact ⟨h, h⟩
  · exact adj_mem h
/-- an end of one of the spans -/
def EndOf (A : List Iv) (x : Rat) : Prop := ∃ t ∈ A, x = t.1 ∨ x = t.2
theorem ends_num {A B : List Iv} {e : En} (h : e ∈ ends A false ++ ends B true) : EndOf (A ++ B) e.num := by
  unfold ends at h
  rcases List.mem_append.1 h with h | h
  · obtain ⟨s, hs, h⟩ := List.mem_flatMap.1 h
    simp only [List.mem_cons, List.not_mem_nil, or_false] at h
    rcases h with rfl | rfl
    · exact ⟨s, by simp [hs], .inl rfl⟩
    · exact ⟨s, by simp [hs], .inr rfl⟩
  · obtain ⟨s, hs, h⟩ := List.mem_flatMap.1 h
    simp only [List.mem_cons, List.not_mem_nil, or_false] at h
    rcases h with rfl | rfl
    · exact ⟨s, by simp [hs], .inl rfl⟩
    · exact ⟨s, by simp [hs], .inr rfl⟩
theorem Swept.endOf {bel : Bool → Bool → Bool} {A B f : List Iv} (h : Swept bel A B f) : ∀ s ∈ f, EndOf (A ++ B) s.1 ∧ EndOf (A ++ B) s.2 := by
  obtain ⟨N, D, hp, hI⟩ := h
  obtain ⟨_, _, hm, rfl⟩ := hI.done
  intro s hs
  obtain ⟨h1, h2⟩ := colls_ends (fun s h => by simp at h) (pieces_ends _ _ _) s hs
  obtain ⟨e, he, h3⟩ := (hm _).1 h1
  obtain ⟨e2, he2, h4⟩ := (hm _).1 h2
  exact ⟨by rw [← h3]; exact ends_num (hp.mem_iff.1 he), by rw [← h4]; exact ends_num (hp.mem_iff.1 he2)⟩
theorem Swept.nrm {bel : Bool → Bool → Bool} {A B f : List Iv} (h : Swept bel A B f) : Nrm f := by
  obtain ⟨N, D, hp, hI⟩ := h
  obtain ⟨_, ha, hm, rfl⟩ := hI.done
  exact (sweep_ok ha).1
/-- what a sweep of known sets finds -/
theorem Swept.eval {bel : Bool → Bool → Bool} {A B f : List Iv} (h : Swept bel A B f) (N0 : List Rat) (hN : Asc N0) (hE : ∀ x, x ∈ N0 ↔ ∃ e ∈ ends A false ++ ends B true, e.num = x) :
    f = colls [] (pieces (swC bel (ends A false ++ ends B true)) (swO bel (ends A false ++ ends B true)) N0) := by
  obtain ⟨N, D, hp, hI⟩ := h
  obtain ⟨_, ha, hm, rfl⟩ := hI.done
  have e1 : N = N0 := asc_unique ha hN fun x => by
    rw [hm, hE]
    constructor
    · rintro ⟨e, h1, h2⟩; exact ⟨e, hp.mem_iff.1 h1, h2⟩
    · rintro ⟨e, h1, h2⟩; exact ⟨e, hp.mem_iff.2 h1, h2⟩
  have e2 : swC bel D = swC bel (ends A false ++ ends B true) := by
    funext x
    unfold swC
    rw [bal_perm (hp.filter _), bal_perm (hp.filter _)]
  have e3 : swO bel D = swO bel (ends A false ++ ends B true) := by
    funext x y
    unfold swO
    rw [bal_perm (hp.filter _), bal_perm (hp.filter _)]
  rw [e1, e2, e3]
/-- the sum of the widths of the first k spans -/
def wsum (f : List Iv) : Nat → Rat
  | 0 => 0
  | k + 1 => wsum f k + ((gI f k).2 - (gI f k).1)
def lenI (f : List Iv) : Rat := wsum f f.length
theorem wsum_sm {j : Nat} {f : List Iv} (h : ∀ s ∈ f, Sm j s.1 ∧ Sm j s.2) : ∀ k, k ≤ f.length → Sm ((j + j + 2) * k + 1) (wsum f k)
  | 0, _ => by unfold Sm wsum; simp
  | k + 1, hk => by
    have hs := h _ (List.getElem_mem (show k < f.length by omega))
    have e : gI f k = f[k] := gI_eq (by omega)
    have := (wsum_sm h k (by omega)).add ((hs.2.sub hs.1))
    show Sm _ (wsum f k + ((gI f k).2 - (gI f k).1))
    rw [e]
    refine this.mono ?_
    rw [Nat.mul_add]
    omega
end Go.Proofs.YtiommpdbbpddpaaGreatDoor

/- Length of package interval. -/
namespace Go.Proofs.YtiommpdbbpddpaaGreatDoor
open Go.RowKit
open Go.Lib (nDigits itoa decDigits)

set_option maxRecDepth 100000 in
set_option maxHeartbeats 4000000 in
theorem iLen_cl (g bn : Nat) (v : Value) (l : List Tx) (T D : Nat → ByteArray) (w0 w : World) (hR : RE w g 0) (hb : SlBx w bn v) (k0 : Kp [] w0 w) (sl : SlT w0 v l) (_hg : w0.heap.size ≤ g) (hn : l.length ≤ 1000) (hT0 : T 0 = ⟨#[48]⟩)
    (q1 : ∀ j, j < l.length → KC g 28 #[.pointer (some ⟨g, 0, none⟩), .func (.func 29) #[] #[], .string (gL l j).2, .string (gL l j).1] 0 (.string (D j)) 0)
    (q2 : ∀ j, j < l.length → KC g 28 #[.pointer (some ⟨g, 0, none⟩), .func (.func 36) #[] #[], .string (T j), .string (D j)] 0 (.string (T (j + 1))) 0) :
    Calls Tryz.prog 49 #[.pointer (some ⟨g, 0, none⟩), .pointer (some ⟨bn, 0, none⟩)] w fun r w' => r = .returned (.string (T l.length)) ∧ RE w' g 0 ∧ Kp [g] w w' := by
  obtain ⟨p, c, gl, o, rfl, hp, hc⟩ := sl.op
  have b0 := hb.c
  have HC := Lib.hid hc
  have HP := Lib.hid hp
  have Q1 := Lib.hid q1
  have Q2 := Lib.hid q2
  have hn1 : (l.length : Int) ≤ 1000 := by omega
  have hn0 : 0 ≤ (l.length : Int) := by omega
  have k1 := Kp.refl [g] w
  have K0 := Lib.hid k0
  have HR0 := Lib.hid hR
  have t0 : Value.string ⟨#[48]⟩ = .string (T 0) := by rw [hT0]
  generalize gL l = G at *
  generalize l.length = n at *
  clear hc hp q1 q2 hn sl hb k0
  go_enter Tryz.func49, Tryz.ntmps49
  go_wp2_with fail
  go_loopg [4, 9] n (fun gk s4 s9 wr => ∃ k : Nat, s9 = .int .i64 k ∧ k + gk = n ∧ s4 = .string (T k) ∧ RE wr g 0 ∧ Kp [g] w wr)
  case atStart => exact ⟨0, rfl, by omega, t0, hR, k1⟩
  case round =>
    clear k1 hR t0 b0
    obtain ⟨k, rfl, hk, rfl, hR, kk⟩ := hrel
    by_cases hlt : k < n
    · obtain rfl := HP.out (by omega)
      have kr := K0.out.trans (kp_same_keeper kk HR0.out hR)
      obtain ⟨c0, c1⟩ := HC.out k hlt wr kr
      have r1 := Q1.out k hlt
      have r2 := Q2.out k hlt
      unfold KC at r1 r2
      have hlt' : (k : Int) < (n : Int) := by omega
      have z1 : 0 ≤ (k : Int) := by omega
      have Hk := Lib.hid hk; have Hl := Lib.hid hlt
      have s := SpB.made wr (G k).1 (G k).2
      have s0 := s.c0
      have s1 := s.c1
      have f0 := s.f 0
      have f1 := s.f 1
      have ka := kk.alloc (.cells #[.string (G k).1, .string (G k).2] 24 (0, 0))
      have ra := hR.alloc (.cells #[.string (G k).1, .string (G k).2] 24 (0, 0))
      clear hk hlt HC HP Q1 Q2 hR kk kr
      generalize (G k).1 = lo at *
      generalize (G k).2 = hi at *
      generalize D k = dk at *
      have HT : Hid (T (k + 1) = T (k + 1)) := Lib.hid rfl
      generalize hT1 : T (k + 1) = t1 at *
      have HT1 := Lib.hid hT1
      clear hT1 HT
      go_wp2_with fail
      with_reducible refine (r1.out _ ra).mono ?_
      rintro x w1 ⟨rfl, h1, k1⟩
      have q := Lib.hid (r2.out _ h1)
      clear s s0 s1 f0 f1 c0 c1 r1 r2 ra h1
      go_wp2_with fail
      with_reducible refine q.out.mono ?_
      rintro x w2 ⟨rfl, h2, k2⟩
      have H2 := Lib.hid h2
      have kf := (ka.trans k1).trans k2
      clear q h2 k1 k2 ka
      go_wp2
      have hk := Hk.out; have hlt := Hl.out
      go_roundg (gk - 1)
      case measure => omega
      case rel => exact ⟨k + 1, by go_num, by omega, by rw [HT1.out], H2.out, kf⟩
    · obtain rfl : k = n := by omega
      have H2 := Lib.hid hR
      clear hR
      go_wp2
      go_ret
      exact ⟨rfl, H2.out, kk⟩
set_option maxRecDepth 100000 in
set_option maxHeartbeats 4000000 in
theorem iLength_0 (p : Option Addr) (n c : Nat) (R : ByteArray → Prop) (w : World)
    (q : Hid (Calls Tryz.prog 19 #[.slice p n c] w fun x w' => ∃ p' n' c' L, R L ∧ x = .returned (.tuple #[.slice p' n' c', .int .i64 0]) ∧ Kp [] w w' ∧ (∀ W g bn, RE W g 0 → w'.heap.size ≤ g → Kp [] w' W → SlBx W bn (.slice p' n' c') → Calls Tryz.prog 49 #[.pointer (some ⟨g, 0, none⟩), .pointer (some ⟨bn, 0, none⟩)] W fun r w'' => r = .returned (.string L) ∧ RE w'' g 0 ∧ Kp [g] W w''))) :
    Calls Tryz.prog 20 #[.slice p n c] w fun x w' => ∃ L, R L ∧ x = .returned (.tuple #[.string L, .int .i64 0]) ∧ Kp [] w w' := by
  go_enter Tryz.func20, Tryz.ntmps20
  go_wp2_with fail
  with_reducible refine q.out.mono ?_
  rintro x w1 ⟨p', n', c', L, hL, rfl, k, hc⟩
  have HL := Lib.hid hL
  have m := SlBx.made w1 (.slice p' n' c')
  have ka := k.alloc (.cells #[.slice p' n' c'] 43 (0, 0))
  have kb : Kp [] w1 (w1.alloc (.cells #[.slice p' n' c'] 43 (0, 0))) := (Kp.refl _ _).alloc _
  have q2 := Lib.hid (kresult_rat 49 #[.pointer (some ⟨w1.heap.size, 0, none⟩)] L 0 (w1.alloc (.cells #[.slice p' n' c'] 43 (0, 0))) (enters_of Tryz.func49 (by kernel_rfl) rfl)
    (Lib.hid fun W g hR hg k2 => hc W g w1.heap.size hR (Nat.le_trans kb.size hg) (kb.trans k2) (m.kept k2 (by simp))))
  rw [show zV 0 (.string L) (.string ⟨#[]⟩) = .string L from if_pos rfl] at q2
  clear q k hc m kb hL
  go_wp2_with fail
  with_reducible refine q2.out.mono ?_
  rintro x w2 ⟨rfl, k2⟩
  go_wp2
  go_ret2
  exact ⟨L, HL.out, rfl, ka.trans k2⟩
end Go.Proofs.YtiommpdbbpddpaaGreatDoor

/- Length of package interval, of right sets; its sets in numbers. -/
namespace Go.Proofs.YtiommpdbbpddpaaGreatDoor
open Go.RowKit
open Go.Lib (nDigits itoa decDigits)

def SmJ (j : Nat) (l : List Iv) : Prop := ∀ s ∈ l, Sm j s.1 ∧ Sm j s.2
theorem SmJ.up {j : Nat} {l : List Iv} (h : SmJ j l) (hj : j ≤ 30) : SmI l := fun s hs => ⟨(h s hs).1.mono hj, (h s hs).2.mono hj⟩
theorem endOf_sm {j : Nat} {A : List Iv} {x : Rat} (h : SmJ j A) (hx : EndOf A x) : Sm j x := by
  obtain ⟨t, ht, rfl | rfl⟩ := hx
  · exact (h t ht).1
  · exact (h t ht).2
theorem Swept.smJ {j : Nat} {bel : Bool → Bool → Bool} {A B f : List Iv} (h : Swept bel A B f) (hA : SmJ j A) (hB : SmJ j B) : SmJ j f := fun s hs => by
  obtain ⟨h1, h2⟩ := h.endOf s hs
  have hAB : SmJ j (A ++ B) := fun t ht => (List.mem_append.1 ht).elim (hA t) (hB t)
  exact ⟨endOf_sm hAB h1, endOf_sm hAB h2⟩
theorem gL_tx {f : List Iv} {k : Nat} (h : k < f.length) : gL (txI f) k = (RS (gI f k).1, RS (gI f k).2) := by
  rw [gL_eq (by rw [txI_len]; exact h), gI_eq h]
  simp [txI]
theorem kc_sub (g : Nat) {j k : Nat} {q r : Rat} (hq : Sm j q) (hr : Sm k r) (h : j + k < 1024) : KC g 28 #[.pointer (some ⟨g, 0, none⟩), .func (.func 29) #[] #[], .string (RS q), .string (RS r)] 0 (.string (RS (q - r))) 0 :=
  Lib.hid fun V hR => by
    have := kOf 29 g 0 0 _ _ _ V hR (Lib.hid fun V => sub_c hq hr h V) (enters_of Tryz.func29 (by kernel_rfl) rfl)
    rwa [kp_zero] at this
theorem kc_add (g : Nat) {j k : Nat} {q r : Rat} (hq : Sm j q) (hr : Sm k r) (h : j + k < 1024) : KC g 28 #[.pointer (some ⟨g, 0, none⟩), .func (.func 36) #[] #[], .string (RS q), .string (RS r)] 0 (.string (RS (q + r))) 0 :=
  Lib.hid fun V hR => by
    have := kOf 36 g 0 0 _ _ _ V hR (Lib.hid fun V => add_c hq hr h V) (enters_of Tryz.func36 (by kernel_rfl) rfl)
    rwa [kp_zero] at this
/-- the length of a right set is that of its normal set -/
theorem iLen_0 {j : Nat} (v : Value) (A : List Iv) (w : World) (sa : SlT w v (txI A)) (hA : SmJ j A) (hj : j ≤ 30) (rA : RtI A) (hn : A.length ≤ 40) (hb : (j + j + 2) * A.length + 1 + (j + j + 1) < 1024) :
    Calls Tryz.prog 20 #[v] w fun x w' => ∃ f, x = .returned (.tuple #[.string (RS (lenI f)), .int .i64 0]) ∧ Nrm f ∧ (∀ z, InS z f ↔ InS z A) ∧ Kp [] w w' := by
  have sa0 := sa
  obtain ⟨p, c, rfl, _⟩ := sa
  refine (iLength_0 p _ c (fun L => ∃ f, L = RS (lenI f) ∧ Nrm f ∧ ∀ z, InS z f ↔ InS z A) w (Lib.hid ((iNormal_0 _ A w sa0 (hA.up hj) rA hn).mono ?_))).mono ?_
  · rintro x w' ⟨v', f, h1, h2, h3, h4, h5, h6, h7, k⟩
    have hf : SmJ j f := h5.smJ hA (fun _ h => by simp at h)
    have hlen := nrm_len h6 rA h7
    have h20 := h2
    obtain ⟨p', c', rfl, _⟩ := h2
    rw [txI_len] at h1
    refine ⟨p', f.length, c', RS (lenI f), ⟨f, rfl, h6, h7⟩, h1, k, fun W g bn hR hg k2 hB => ?_⟩
    have hmul : (j + j + 2) * f.length ≤ (j + j + 2) * A.length := Nat.mul_le_mul_left _ hlen
    have := iLen_cl g bn _ (txI f) (fun i => RS (wsum f i)) (fun i => RS ((gI f i).2 - (gI f i).1)) w' W hR (by rw [txI_len]; exact hB) k2 h20 hg (by rw [txI_len]; omega) l_0
      (fun i hi => by
        rw [txI_len] at hi
        have hm := hf _ (List.getElem_mem hi)
        rw [gL_tx hi, gI_eq hi]
        exact kc_sub g hm.2 hm.1 (by omega))
      (fun i hi => by
        rw [txI_len] at hi
        have hm := hf _ (List.getElem_mem hi)
        rw [gI_eq hi]
        have e : wsum f (i + 1) = wsum f i + (f[i].2 - f[i].1) := by
          show wsum f i + ((gI f i).2 - (gI f i).1) = _
          rw [gI_eq hi]
        rw [e]
        have hmi : (j + j + 2) * i ≤ (j + j + 2) * f.length := Nat.mul_le_mul_left _ (by omega)
        exact kc_add g (wsum_sm hf i (by omega)) (hm.2.sub hm.1) (by omega))
    rw [txI_len] at this
    exact this
  · rintro x w' ⟨L, ⟨f, rfl, h1, h2⟩, h3, k⟩
    exact ⟨f, h3, h1, h2, k⟩
end Go.Proofs.YtiommpdbbpddpaaGreatDoor

/- Layer 3's examples: their values. -/
namespace Go.Proofs.YtiommpdbbpddpaaGreatDoor
open Go.RowKit
open Go.Lib (nDigits itoa decDigits)

set_option maxRecDepth 100000 in
set_option maxHeartbeats 4000000 in
theorem spanC (u v : ByteArray) (w : World) : Calls Tryz.prog 15 #[.string u, .string v] w fun x w' => x = .returned (.agg #[.string u, .string v]) ∧ Kp [] w w' := by
  have s := SpB.made w ⟨#[]⟩ ⟨#[]⟩
  have z := SpB.made w u v
  have d0 := z.c0
  have d1 := z.c1
  have x0 := s.c0
  have y0 := s.f 0
  have t := s.set1 u
  have x1 := t.c1
  have y1 := t.f 1
  have kk : Kp [] w (w.alloc (.cells #[.string u, .string v] 24 (0, 0))) := (Kp.refl _ _).alloc _
  clear s z t
  go_enter Tryz.func15, Tryz.ntmps15
  go_wp2
  refine bodyPost_ret (v := .agg #[.string u, .string v]) (by simp [results, Tryz.results15, go_sem, d0, d1]) rfl ?_
  exact ⟨rfl, kk⟩
theorem icE_of {q r : Rat} (hq : Sm 30 q) (hr : Sm 30 r) (h : q ≤ r) : icE (RS q) (RS r) = 0 := icE_rt (s := (q, r)) ⟨hq, hr⟩ h
theorem iAdd_v {q1 r1 q2 r2 : Rat} (hq1 : Sm 30 q1) (hr1 : Sm 30 r1) (hq2 : Sm 30 q2) (hr2 : Sm 30 r2) (h1 : q1 ≤ r1) (h2 : q2 ≤ r2) (a : shB (RS q1) = true) (b : shB (RS r1) = true) (c : shB (RS q2) = true) (d : shB (RS r2) = true) :
    Ca 16 #[.agg #[.string (RS q1), .string (RS r1)], .agg #[.string (RS q2), .string (RS r2)]] (.tuple #[.agg #[.string (RS (q1 + q2)), .string (RS (r1 + r2))], .int .i64 0]) := Lib.hid fun W => by
  obtain ⟨v1, v2⟩ := add_v hq1 hq2 (by omega)
  obtain ⟨v3, v4⟩ := add_v hr1 hr2 (by omega)
  have := iAdd_any _ _ _ _ a b c d _ rfl W
  rw [icE_of hq1 hr1 h1, icE_of hq2 hr2 h2, v1, v2, v3, v4] at this
  simpa only [kp_zero, zB_z] using this
theorem iSub_v {q1 r1 q2 r2 : Rat} (hq1 : Sm 30 q1) (hr1 : Sm 30 r1) (hq2 : Sm 30 q2) (hr2 : Sm 30 r2) (h1 : q1 ≤ r1) (h2 : q2 ≤ r2) (a : shB (RS q1) = true) (b : shB (RS r1) = true) (c : shB (RS q2) = true) (d : shB (RS r2) = true) :
    Ca 17 #[.agg #[.string (RS q1), .string (RS r1)], .agg #[.string (RS q2), .string (RS r2)]] (.tuple #[.agg #[.string (RS (q1 - r2)), .string (RS (r1 - q2))], .int .i64 0]) := Lib.hid fun W => by
  obtain ⟨v1, v2⟩ := sub_v hq1 hr2 (by omega)
  obtain ⟨v3, v4⟩ := sub_v hr1 hq2 (by omega)
  have := iSub_any _ _ _ _ a b c d _ rfl W
  rw [icE_of hq1 hr1 h1, icE_of hq2 hr2 h2, v1, v2, v3, v4] at this
  simpa only [kp_zero, zB_z] using this
-- the literals
theorem l3_4 : RS (4 : Rat) = ⟨#[52]⟩ := RS_int (n := 4) (by decide +kernel) (by decide +kernel) (l := [52]) (by simp [itoa, decDigits])
theorem l3_5 : RS (5 : Rat) = ⟨#[53]⟩ := RS_int (n := 5) (by decide +kernel) (by decide +kernel) (l := [53]) (by simp [itoa, decDigits])
theorem l3_m4 : RS (-4 : Rat) = ⟨#[45, 52]⟩ := RS_int (n := -4) (by decide +kernel) (by decide +kernel) (l := [45, 52]) (by simp [itoa, decDigits])
theorem l3_1_2 : RS (1 / 2 : Rat) = ⟨#[49, 47, 50]⟩ := RS_lit (n := 1) (d := 2) (by decide +kernel) (by decide +kernel) (by decide) (l := [49]) (m := [50]) (by simp [itoa, decDigits]) (by simp [itoa, decDigits])
theorem l3_5_2 : RS (5 / 2 : Rat) = ⟨#[53, 47, 50]⟩ := RS_lit (n := 5) (d := 2) (by decide +kernel) (by decide +kernel) (by decide) (l := [53]) (m := [50]) (by simp [itoa, decDigits]) (by simp [itoa, decDigits])
theorem l3_m1_2 : RS (-1 / 2 : Rat) = ⟨#[45, 49, 47, 50]⟩ := RS_lit (n := -1) (d := 2) (by decide +kernel) (by decide +kernel) (by decide) (l := [45, 49]) (m := [50]) (by simp [itoa, decDigits]) (by simp [itoa, decDigits])
theorem sml (q : Rat) (h : q.num.natAbs < 100 ∧ q.den < 100) : Sm 30 q := sm_lit30 h
theorem ex_add : Ca 16 #[.agg #[.string ⟨#[49]⟩, .string ⟨#[50]⟩], .agg #[.string ⟨#[45, 49, 47, 50]⟩, .string ⟨#[51]⟩]] (.tuple #[.agg #[.string ⟨#[49, 47, 50]⟩, .string ⟨#[53]⟩], .int .i64 0]) := by
  have := iAdd_v (q1 := 1) (r1 := 2) (q2 := -1 / 2) (r2 := 3) (sml _ (by decide +kernel)) (sml _ (by decide +kernel)) (sml _ (by decide +kernel)) (sml _ (by decide +kernel)) (by decide +kernel) (by decide +kernel) (by rw [l_1]; decide) (by rw [l_2]; decide) (by rw [l3_m1_2]; decide) (by rw [l_3]; decide)
  rwa [show (1 : Rat) + -1 / 2 = 1 / 2 by decide +kernel, show (2 : Rat) + 3 = 5 by decide +kernel, l_1, l_2, l_3, l3_m1_2, l3_1_2, l3_5] at this
theorem ex_sub : Ca 17 #[.agg #[.string ⟨#[49]⟩, .string ⟨#[50]⟩], .agg #[.string ⟨#[45, 49, 47, 50]⟩, .string ⟨#[51]⟩]] (.tuple #[.agg #[.string ⟨#[45, 50]⟩, .string ⟨#[53, 47, 50]⟩], .int .i64 0]) := by
  have := iSub_v (q1 := 1) (r1 := 2) (q2 := -1 / 2) (r2 := 3) (sml _ (by decide +kernel)) (sml _ (by decide +kernel)) (sml _ (by decide +kernel)) (sml _ (by decide +kernel)) (by decide +kernel) (by decide +kernel) (by rw [l_1]; decide) (by rw [l_2]; decide) (by rw [l3_m1_2]; decide) (by rw [l_3]; decide)
  rwa [show (1 : Rat) - 3 = -2 by decide +kernel, show (2 : Rat) - -1 / 2 = 5 / 2 by decide +kernel, l_1, l_2, l_3, l3_m1_2, l_m2, l3_5_2] at this
theorem ex_scale : Ca 18 #[.agg #[.string ⟨#[49]⟩, .string ⟨#[50]⟩], .string ⟨#[45, 50]⟩] (.tuple #[.agg #[.string ⟨#[45, 52]⟩, .string ⟨#[45, 50]⟩], .int .i64 0]) := by
  have := scale_v (q := 1) (r := 2) (x := -2) (j := 30) (k := 30) (i := 30) (sml _ (by decide +kernel)) (sml _ (by decide +kernel)) (sml _ (by decide +kernel)) (by omega) (by omega) (by decide +kernel) (by rw [l_1]; decide) (by rw [l_2]; decide) (by rw [l_m2]; decide)
  rwa [if_pos (by decide +kernel), if_pos (by decide +kernel), show (2 : Rat) * -2 = -4 by decide +kernel, show (1 : Rat) * -2 = -2 by decide +kernel, l_1, l_2, l_m2, l3_m4] at this
end Go.Proofs.YtiommpdbbpddpaaGreatDoor

/- Layer 3's examples: the sets' values. -/
namespace Go.Proofs.YtiommpdbbpddpaaGreatDoor
open Go.RowKit
open Go.Lib (nDigits itoa decDigits)

instance : DecidableEq En := fun a b => if h : a.num = b.num ∧ a.sec = b.sec ∧ a.beg = b.beg then .isTrue (by cases a; cases b; simp_all) else .isFalse (fun e => h (by subst e; simp))
/-- what a slice holds, and its length known -/
theorem SlT.len {w : World} {v : Value} {l : List Tx} (h : SlT w v l) : ∃ p c, v = .slice p l.length c := by
  obtain ⟨p, c, e, _⟩ := h
  exact ⟨p, c, e⟩
def litN : List Iv := [(0, 1), (1, 2), (4, 4)]
def litL : List Iv := [(0, 2), (4, 4)]
def litB : List Iv := [(1, 3)]
def litC : List Iv := [(1, 1)]
def litD : List Iv := [(0, 1), (4, 4)]
theorem smJ_lit {l : List Iv} (h : l.all (fun s => decide (s.1.num.natAbs < 100 ∧ s.1.den < 100) && decide (s.2.num.natAbs < 100 ∧ s.2.den < 100)) = true) : SmJ 2 l := fun s hs => by
  have := List.all_eq_true.1 h s hs
  rw [Bool.and_eq_true, decide_eq_true_eq, decide_eq_true_eq] at this
  exact ⟨this.1, this.2⟩
theorem rt_lit {l : List Iv} (h : l.all (fun s => decide (s.1 ≤ s.2)) = true) : RtI l := fun s hs => by
  have := List.all_eq_true.1 h s hs
  rwa [decide_eq_true_eq] at this
theorem mem_iff_lit {N0 : List Rat} {L : List En} (h : N0.all (fun x => L.any fun e => decide (e.num = x)) = true) (h2 : L.all (fun e => decide (e.num ∈ N0)) = true) : ∀ x, x ∈ N0 ↔ ∃ e ∈ L, e.num = x := fun x => by
  constructor
  · intro hx
    have := List.all_eq_true.1 h x hx
    obtain ⟨e, he, h3⟩ := List.any_eq_true.1 this
    exact ⟨e, he, by simpa using h3⟩
  · rintro ⟨e, he, rfl⟩
    have := List.all_eq_true.1 h2 e he
    simpa using this
theorem asc_lit {N0 : List Rat} (h : decide (N0.Pairwise (· < ·)) = true) : Asc N0 := by unfold Asc; simpa using h
theorem ex_norm (v : Value) (W : World) (h : SlT W v (txI litN)) : Calls Tryz.prog 19 #[v] W fun x w' => ∃ p c, x = .returned (.tuple #[.slice p 2 c, .int .i64 0]) ∧ SlT w' (.slice p 2 c) (txI litL) ∧ Kp [] W w' := by
  refine (iNormal_0 v litN W h ((smJ_lit (by decide +kernel)).up (by omega)) (rt_lit (by decide +kernel)) (by decide)).mono ?_
  rintro x w' ⟨v', f, h1, h2, _, _, h5, _, _, k⟩
  have e := h5.eval [0, 1, 2, 4] (asc_lit (by decide +kernel)) (mem_iff_lit (by decide +kernel) (by decide +kernel))
  rw [show colls [] (pieces (swC (fun a _ => a) (ends litN false ++ ends [] true)) (swO (fun a _ => a) (ends litN false ++ ends [] true)) [0, 1, 2, 4]) = litL by decide +kernel] at e
  subst e
  obtain ⟨p, c, rfl⟩ := h2.len
  exact ⟨p, c, h1, h2, k⟩
theorem ex_len (v : Value) (W : World) (h : SlT W v (txI litL)) : Calls Tryz.prog 20 #[v] W fun x w' => x = .returned (.tuple #[.string ⟨#[50]⟩, .int .i64 0]) ∧ Kp [] W w' := by
  refine (iLen_0 (j := 2) v litL W h (smJ_lit (by decide +kernel)) (by omega) (rt_lit (by decide +kernel)) (by decide) (by decide)).mono ?_
  rintro x w' ⟨f, h1, h2, h3, k⟩
  have e : f = litL := nrm_unique h2 ⟨rt_lit (by decide +kernel), by decide +kernel⟩ h3
  rw [e, show lenI litL = 2 by decide +kernel, l_2] at h1
  exact ⟨h1, k⟩
theorem ex_diff1 (u v : Value) (W : World) (h : SlT W u (txI litL)) (h2 : SlT W v (txI litB)) : Calls Tryz.prog 22 #[u, v] W fun x w' => ∃ p c, x = .returned (.tuple #[.slice p 2 c, .int .i64 0]) ∧ SlT w' (.slice p 2 c) (txI litD) ∧ Kp [] W w' := by
  refine (iDifference_0 u v litL litB W h h2 ((smJ_lit (by decide +kernel)).up (by omega)) ((smJ_lit (by decide +kernel)).up (by omega)) (rt_lit (by decide +kernel)) (rt_lit (by decide +kernel)) (by decide)).mono ?_
  rintro x w' ⟨v', f, h1, h2, _, _, h5, k⟩
  have e := h5.eval [0, 1, 2, 3, 4] (asc_lit (by decide +kernel)) (mem_iff_lit (by decide +kernel) (by decide +kernel))
  rw [show colls [] (pieces (swC (fun a b => a && !b) (ends litL false ++ ends litB true)) (swO (fun a b => a && !b) (ends litL false ++ ends litB true)) [0, 1, 2, 3, 4]) = litD by decide +kernel] at e
  subst e
  obtain ⟨p, c, rfl⟩ := h2.len
  exact ⟨p, c, h1, h2, k⟩
theorem ex_diff2 (u v : Value) (W : World) (h : SlT W u (txI litL)) (h2 : SlT W v (txI litC)) : Calls Tryz.prog 22 #[u, v] W fun x w' => ∃ p c, x = .returned (.tuple #[.slice p 2 c, .int .i64 0]) ∧ SlT w' (.slice p 2 c) (txI litL) ∧ Kp [] W w' := by
  refine (iDifference_0 u v litL litC W h h2 ((smJ_lit (by decide +kernel)).up (by omega)) ((smJ_lit (by decide +kernel)).up (by omega)) (rt_lit (by decide +kernel)) (rt_lit (by decide +kernel)) (by decide)).mono ?_
  rintro x w' ⟨v', f, h1, h2, _, _, h5, k⟩
  have e := h5.eval [0, 1, 2, 4] (asc_lit (by decide +kernel)) (mem_iff_lit (by decide +kernel) (by decide +kernel))
  rw [show colls [] (pieces (swC (fun a b => a && !b) (ends litL false ++ ends litC true)) (swO (fun a b => a && !b) (ends litL false ++ ends litC true)) [0, 1, 2, 4]) = litL by decide +kernel] at e
  subst e
  obtain ⟨p, c, rfl⟩ := h2.len
  exact ⟨p, c, h1, h2, k⟩
-- the slices of the examples as texts
theorem tx_N : txI litN = [(⟨#[48]⟩, ⟨#[49]⟩), (⟨#[49]⟩, ⟨#[50]⟩), (⟨#[52]⟩, ⟨#[52]⟩)] := by unfold txI litN; simp only [List.map_cons, List.map_nil]; rw [l_0, l_1, l_2, l3_4]
theorem tx_L : txI litL = [(⟨#[48]⟩, ⟨#[50]⟩), (⟨#[52]⟩, ⟨#[52]⟩)] := by unfold txI litL; simp only [List.map_cons, List.map_nil]; rw [l_0, l_2, l3_4]
theorem tx_B : txI litB = [(⟨#[49]⟩, ⟨#[51]⟩)] := by unfold txI litB; simp only [List.map_cons, List.map_nil]; rw [l_1, l_3]
theorem tx_C : txI litC = [(⟨#[49]⟩, ⟨#[49]⟩)] := by unfold txI litC; simp only [List.map_cons, List.map_nil]; rw [l_1]
theorem tx_D : txI litD = [(⟨#[48]⟩, ⟨#[49]⟩), (⟨#[52]⟩, ⟨#[52]⟩)] := by unfold txI litD; simp only [List.map_cons, List.map_nil]; rw [l_0, l_1, l3_4]
end Go.Proofs.YtiommpdbbpddpaaGreatDoor

/- Layer 3's examples. -/
namespace Go.Proofs.YtiommpdbbpddpaaGreatDoor
open Go.RowKit
open Go.Lib (nDigits itoa decDigits)

attribute [local go_sem ↓] Go.wp_at_zero Go.wp_at_succ
theorem eqSp_same (a b : ByteArray) (W : World) : (Op.equalIn 10000 24 (.agg #[.string a, .string b]) (.agg #[.string a, .string b])).run Tryz.prog W = .ok true W := by rw [eqSp]; simp
theorem same_true {u v : Value} {l : List Tx} {W : World} (h1 : SlT W u l) (h2 : SlT W v l) (hn : l.length ≤ 1000000) : Calls Tryz.prog 21 #[u, v] W fun x w' => x = .returned (.bool true) ∧ Kp [] W w' := by
  have := r3Same u v l l W h1 h2 hn hn
  rwa [decide_eq_true rfl] at this
theorem SlT.lit1 {w : World} {b : Nat} {x y : ByteArray} (h : w.heap[b]? = some (.cells #[.string x, .string y] 24 (0, 0))) : SlT w (.slice (some ⟨b, 0, none⟩) 1 1) [(x, y)] :=
  ⟨_, 1, rfl, fun _ => ⟨b, 0, rfl, (Array.getElem?_eq_some_iff.1 h).1, fun i hi => by
    obtain rfl : i = 0 := by simpa using hi
    simp [World.cell?, h]⟩⟩
theorem SlT.lit2 {w : World} {b : Nat} {x y x' y' : ByteArray} (h : w.heap[b]? = some (.cells #[.string x, .string y, .string x', .string y'] 24 (0, 0))) : SlT w (.slice (some ⟨b, 0, none⟩) 2 2) [(x, y), (x', y')] :=
  ⟨_, 2, rfl, fun _ => ⟨b, 0, rfl, (Array.getElem?_eq_some_iff.1 h).1, fun i hi => by
    match i, hi with
    | 0, _ => simp [World.cell?, h]
    | 1, _ => simp [World.cell?, h]⟩⟩
theorem SlT.lit3 {w : World} {b : Nat} {x y x' y' x2 y2 : ByteArray} (h : w.heap[b]? = some (.cells #[.string x, .string y, .string x', .string y', .string x2, .string y2] 24 (0, 0))) : SlT w (.slice (some ⟨b, 0, none⟩) 3 3) [(x, y), (x', y'), (x2, y2)] :=
  ⟨_, 3, rfl, fun _ => ⟨b, 0, rfl, (Array.getElem?_eq_some_iff.1 h).1, fun i hi => by
    match i, hi with
    | 0, _ => simp [World.cell?, h]
    | 1, _ => simp [World.cell?, h]
    | 2, _ => simp [World.cell?, h]⟩⟩
set_option maxRecDepth 100000 in
set_option maxHeartbeats 8000000 in
theorem awake3 (w : World) : Calls Tryz.prog 5 #[] w fun x w' => x = .returned (.bool true) ∧ Kp [] w w' := by
  have qsp : Hid (∀ (u v : ByteArray) (W : World), Calls Tryz.prog 15 #[.string u, .string v] W fun x w' => x = .returned (.agg #[.string u, .string v]) ∧ Kp [] W w') := Lib.hid fun u v W => spanC u v W
  have qad := ex_add
  have qsu := ex_sub
  have qsc := ex_scale
  unfold Ca at qad qsu qsc
  have k0 := Kp.refl [] w
  go_enter Tryz.func5, Tryz.ntmps5
  go_wp2_with fail
  with_reducible refine (qsp.out _ _ _).mono ?_
  rintro x w1 ⟨rfl, k1⟩
  go_wp2_with fail
  with_reducible refine (qsp.out _ _ _).mono ?_
  rintro x w2 ⟨rfl, k2⟩
  replace k0 := (k0.trans k1).trans k2
  clear k1 k2
  -- W3
  have sa := (SpB.made w2 ⟨#[49]⟩ ⟨#[50]⟩).alloc (.cells #[.string ⟨#[45, 49, 47, 50]⟩, .string ⟨#[51]⟩] 24 (0, 0))
  have sb := SpB.made (w2.alloc (.cells #[.string ⟨#[49]⟩, .string ⟨#[50]⟩] 24 (0, 0))) ⟨#[45, 49, 47, 50]⟩ ⟨#[51]⟩
  rw [World.size_alloc] at sb
  replace k0 := (k0.alloc (.cells #[.string ⟨#[49]⟩, .string ⟨#[50]⟩] 24 (0, 0))).alloc (.cells #[.string ⟨#[45, 49, 47, 50]⟩, .string ⟨#[51]⟩] 24 (0, 0))
  have a0 := sa.c0; have a1 := sa.c1; have b0 := sb.c0; have b1 := sb.c1
  go_wp2_with fail
  generalize hB : w2.heap.size = ba at *
  with_reducible refine (qad.out _).mono ?_
  rintro x w3 ⟨rfl, k⟩
  replace sa := sa.kept k (by simp); replace sb := sb.kept k (by simp); replace k0 := k0.trans k; clear k a0 a1 b0 b1 hB qad
  replace sa := sa.alloc (.cells #[.string ⟨#[49, 47, 50]⟩, .string ⟨#[53]⟩] 24 (0, 0))
  replace sb := sb.alloc (.cells #[.string ⟨#[49, 47, 50]⟩, .string ⟨#[53]⟩] 24 (0, 0))
  have sc := SpB.made w3 ⟨#[49, 47, 50]⟩ ⟨#[53]⟩
  replace k0 := k0.alloc (.cells #[.string ⟨#[49, 47, 50]⟩, .string ⟨#[53]⟩] 24 (0, 0))
  have a0 := sa.c0; have a1 := sa.c1; have b0 := sb.c0; have b1 := sb.c1
  go_wp2_with fail
  generalize hB : w3.heap.size = bc at *
  with_reducible refine (qsu.out _).mono ?_
  rintro x w4 ⟨rfl, k⟩
  replace sa := sa.kept k (by simp); replace sb := sb.kept k (by simp); replace sc := sc.kept k (by simp); replace k0 := k0.trans k; clear k a0 a1 b0 b1 hB qsu
  replace sa := sa.alloc (.cells #[.string ⟨#[45, 50]⟩, .string ⟨#[53, 47, 50]⟩] 24 (0, 0))
  replace sb := sb.alloc (.cells #[.string ⟨#[45, 50]⟩, .string ⟨#[53, 47, 50]⟩] 24 (0, 0))
  replace sc := sc.alloc (.cells #[.string ⟨#[45, 50]⟩, .string ⟨#[53, 47, 50]⟩] 24 (0, 0))
  have sd := SpB.made w4 ⟨#[45, 50]⟩ ⟨#[53, 47, 50]⟩
  replace k0 := k0.alloc (.cells #[.string ⟨#[45, 50]⟩, .string ⟨#[53, 47, 50]⟩] 24 (0, 0))
  have a0 := sa.c0; have a1 := sa.c1
  go_wp2_with fail
  generalize hB : w4.heap.size = bd at *
  with_reducible refine (qsc.out _).mono ?_
  rintro x w5 ⟨rfl, k⟩
  replace sc := sc.kept k (by simp); replace sd := sd.kept k (by simp); replace k0 := k0.trans k; clear k a0 a1 sa sb hB qsc
  replace sc := sc.alloc (.cells #[.string ⟨#[45, 52]⟩, .string ⟨#[45, 50]⟩] 24 (0, 0))
  replace sd := sd.alloc (.cells #[.string ⟨#[45, 52]⟩, .string ⟨#[45, 50]⟩] 24 (0, 0))
  have se := SpB.made w5 ⟨#[45, 52]⟩ ⟨#[45, 50]⟩
  replace k0 := k0.alloc (.cells #[.string ⟨#[45, 52]⟩, .string ⟨#[45, 50]⟩] 24 (0, 0))
  have eA : ∀ W : World, (Op.equalIn 10000 24 (.agg #[.string ⟨#[49, 47, 50]⟩, .string ⟨#[53]⟩]) (.agg #[.string ⟨#[49, 47, 50]⟩, .string ⟨#[53]⟩])).run Tryz.prog W = .ok true W := fun W => eqSp_same _ _ W
  have eB : ∀ W : World, (Op.equalIn 10000 24 (.agg #[.string ⟨#[45, 50]⟩, .string ⟨#[53, 47, 50]⟩]) (.agg #[.string ⟨#[45, 50]⟩, .string ⟨#[53, 47, 50]⟩])).run Tryz.prog W = .ok true W := fun W => eqSp_same _ _ W
  have eC : ∀ W : World, (Op.equalIn 10000 24 (.agg #[.string ⟨#[45, 52]⟩, .string ⟨#[45, 50]⟩]) (.agg #[.string ⟨#[45, 52]⟩, .string ⟨#[45, 50]⟩])).run Tryz.prog W = .ok true W := fun W => eqSp_same _ _ W
  go_wp2_with fail
  generalize hB : w5.heap.size = be at *
  go_region_held3 (fun w' => w'.cell? ⟨bc, 0, none⟩ = some (.string ⟨#[49, 47, 50]⟩) ∧ w'.cell? ⟨bc, 1, none⟩ = some (.string ⟨#[53]⟩) ∧ w'.cell? ⟨bd, 0, none⟩ = some (.string ⟨#[45, 50]⟩) ∧ w'.cell? ⟨bd, 1, none⟩ = some (.string ⟨#[53, 47, 50]⟩) ∧ w'.cell? ⟨be, 0, none⟩ = some (.string ⟨#[45, 52]⟩) ∧ w'.cell? ⟨be, 1, none⟩ = some (.string ⟨#[45, 50]⟩) ∧ Kp [] w w')
    (first
    | exact ⟨sc.c0, sc.c1, sd.c0, sd.c1, se.c0, se.c1, k0.drew⟩
    | (go_split_ands
       exact ⟨kp_cell k1 (by simp) (by assumption), kp_cell k1 (by simp) (by assumption), kp_cell k1 (by simp) (by assumption), kp_cell k1 (by simp) (by assumption), kp_cell k1 (by simp) (by assumption), kp_cell k1 (by simp) (by assumption), Kp.trans (by assumption) k1⟩)
    | go_keep)
  (first
    | (go_at_call 15; refine (qsp.out _ _ _).mono ?_; rintro e w9 ⟨rfl, k1⟩))
  go_split_ands
  have kN : Kp [] w w9 := by assumption
  clear eA eB eC sc sd se qsp
  have qsp : Hid (∀ (u v : ByteArray) (W : World), Calls Tryz.prog 15 #[.string u, .string v] W fun x w' => x = .returned (.agg #[.string u, .string v]) ∧ Kp [] W w') := Lib.hid fun u v W => spanC u v W
  go_wp2_with fail
  with_reducible refine (qsp.out _ _ _).mono ?_
  rintro x w10 ⟨rfl, k⟩
  replace kN := kN.trans k
  clear k
  go_wp2_with fail
  with_reducible refine (qsp.out _ _ _).mono ?_
  rintro x w11 ⟨rfl, k⟩
  replace kN := kN.trans k
  clear k
  go_wp2_with fail
  with_reducible refine (qsp.out _ _ _).mono ?_
  rintro x w12 ⟨rfl, k⟩
  replace kN := kN.trans k
  clear k
  have hS : SlT (w12.alloc (.cells #[.string ⟨#[48]⟩, .string ⟨#[49]⟩, .string ⟨#[49]⟩, .string ⟨#[50]⟩, .string ⟨#[52]⟩, .string ⟨#[52]⟩] 24 (0, 0))) (.slice (some ⟨w12.heap.size, 0, none⟩) 3 3) (txI litN) := by rw [tx_N]; exact SlT.lit3 (heap_alloc_new w12 _)
  replace kN := kN.alloc (.cells #[.string ⟨#[48]⟩, .string ⟨#[49]⟩, .string ⟨#[49]⟩, .string ⟨#[50]⟩, .string ⟨#[52]⟩, .string ⟨#[52]⟩] 24 (0, 0))
  have q := Lib.hid (ex_norm _ _ hS)
  clear hS
  go_wp2_with fail
  with_reducible refine q.out.mono ?_
  rintro x w13 ⟨pL, cL, rfl, hL, k⟩
  replace kN := kN.trans k
  clear q k
  have q := Lib.hid (ex_len _ _ hL)
  go_wp2_with fail
  with_reducible refine q.out.mono ?_
  rintro x w14 ⟨rfl, k⟩
  replace kN := kN.trans k
  replace hL := hL.kp k
  clear q k
  go_wp2_with fail
  with_reducible refine (qsp.out _ _ _).mono ?_
  rintro x w15 ⟨rfl, k⟩
  replace kN := kN.trans k
  replace hL := hL.kp k
  clear k
  go_wp2_with fail
  with_reducible refine (qsp.out _ _ _).mono ?_
  rintro x w16 ⟨rfl, k⟩
  replace kN := kN.trans k
  replace hL := hL.kp k
  clear k
  have hS : SlT (w16.alloc (.cells #[.string ⟨#[48]⟩, .string ⟨#[50]⟩, .string ⟨#[52]⟩, .string ⟨#[52]⟩] 24 (0, 0))) (.slice (some ⟨w16.heap.size, 0, none⟩) 2 2) (txI litL) := by rw [tx_L]; exact SlT.lit2 (heap_alloc_new w16 _)
  have hL2 := hL.kp (((Kp.refl [] w16).alloc (.cells #[.string ⟨#[48]⟩, .string ⟨#[50]⟩, .string ⟨#[52]⟩, .string ⟨#[52]⟩] 24 (0, 0))))
  replace kN := kN.alloc (.cells #[.string ⟨#[48]⟩, .string ⟨#[50]⟩, .string ⟨#[52]⟩, .string ⟨#[52]⟩] 24 (0, 0))
  have q := Lib.hid (same_true hL2 hS (by decide))
  clear hS hL2
  go_wp2_with fail
  with_reducible refine q.out.mono ?_
  rintro x w17 ⟨rfl, k⟩
  replace hL := (hL.kp ((Kp.refl [] w16).alloc (.cells #[.string ⟨#[48]⟩, .string ⟨#[50]⟩, .string ⟨#[52]⟩, .string ⟨#[52]⟩] 24 (0, 0)))).kp k
  replace kN := kN.trans k
  clear q k
  go_wp2_with fail
  with_reducible refine (qsp.out _ _ _).mono ?_
  rintro x w18 ⟨rfl, k⟩
  replace kN := kN.trans k
  replace hL := hL.kp k
  clear k
  have hS : SlT (w18.alloc (.cells #[.string ⟨#[49]⟩, .string ⟨#[51]⟩] 24 (0, 0))) (.slice (some ⟨w18.heap.size, 0, none⟩) 1 1) (txI litB) := by rw [tx_B]; exact SlT.lit1 (heap_alloc_new w18 _)
  replace hL := hL.kp ((Kp.refl [] w18).alloc (.cells #[.string ⟨#[49]⟩, .string ⟨#[51]⟩] 24 (0, 0)))
  replace kN := kN.alloc (.cells #[.string ⟨#[49]⟩, .string ⟨#[51]⟩] 24 (0, 0))
  have q := Lib.hid (ex_diff1 _ _ _ hL hS)
  clear hS
  go_wp2_with fail
  with_reducible refine q.out.mono ?_
  rintro x w19 ⟨pM, cM, rfl, hM, k⟩
  replace kN := kN.trans k
  replace hL := hL.kp k
  clear q k
  go_wp2_with fail
  with_reducible refine (qsp.out _ _ _).mono ?_
  rintro x w20 ⟨rfl, k⟩
  replace kN := kN.trans k
  replace hL := hL.kp k
  replace hM := hM.kp k
  clear k
  have hS : SlT (w20.alloc (.cells #[.string ⟨#[49]⟩, .string ⟨#[49]⟩] 24 (0, 0))) (.slice (some ⟨w20.heap.size, 0, none⟩) 1 1) (txI litC) := by rw [tx_C]; exact SlT.lit1 (heap_alloc_new w20 _)
  replace hL := hL.kp ((Kp.refl [] w20).alloc (.cells #[.string ⟨#[49]⟩, .string ⟨#[49]⟩] 24 (0, 0)))
  replace hM := hM.kp ((Kp.refl [] w20).alloc (.cells #[.string ⟨#[49]⟩, .string ⟨#[49]⟩] 24 (0, 0)))
  replace kN := kN.alloc (.cells #[.string ⟨#[49]⟩, .string ⟨#[49]⟩] 24 (0, 0))
  have q := Lib.hid (ex_diff2 _ _ _ hL hS)
  clear hS
  go_wp2_with fail
  with_reducible refine q.out.mono ?_
  rintro x w21 ⟨pO, cO, rfl, hO, k⟩
  replace kN := kN.trans k
  replace hL := hL.kp k
  replace hM := hM.kp k
  clear q k
  go_wp2_with fail
  with_reducible refine (qsp.out _ _ _).mono ?_
  rintro x w22 ⟨rfl, k⟩
  replace kN := kN.trans k
  replace hL := hL.kp k
  replace hM := hM.kp k
  replace hO := hO.kp k
  clear k
  go_wp2_with fail
  with_reducible refine (qsp.out _ _ _).mono ?_
  rintro x w23 ⟨rfl, k⟩
  replace kN := kN.trans k
  replace hL := hL.kp k
  replace hM := hM.kp k
  replace hO := hO.kp k
  clear k
  have hS : SlT (w23.alloc (.cells #[.string ⟨#[48]⟩, .string ⟨#[49]⟩, .string ⟨#[52]⟩, .string ⟨#[52]⟩] 24 (0, 0))) (.slice (some ⟨w23.heap.size, 0, none⟩) 2 2) (txI litD) := by rw [tx_D]; exact SlT.lit2 (heap_alloc_new w23 _)
  replace hL := hL.kp ((Kp.refl [] w23).alloc (.cells #[.string ⟨#[48]⟩, .string ⟨#[49]⟩, .string ⟨#[52]⟩, .string ⟨#[52]⟩] 24 (0, 0)))
  replace hM := hM.kp ((Kp.refl [] w23).alloc (.cells #[.string ⟨#[48]⟩, .string ⟨#[49]⟩, .string ⟨#[52]⟩, .string ⟨#[52]⟩] 24 (0, 0)))
  replace hO := hO.kp ((Kp.refl [] w23).alloc (.cells #[.string ⟨#[48]⟩, .string ⟨#[49]⟩, .string ⟨#[52]⟩, .string ⟨#[52]⟩] 24 (0, 0)))
  replace kN := kN.alloc (.cells #[.string ⟨#[48]⟩, .string ⟨#[49]⟩, .string ⟨#[52]⟩, .string ⟨#[52]⟩] 24 (0, 0))
  have q := Lib.hid (same_true hM hS (by decide))
  clear hS hM
  go_wp2_with fail
  with_reducible refine q.out.mono ?_
  rintro x w24 ⟨rfl, k⟩
  replace kN := kN.trans k
  replace hL := hL.kp k
  replace hO := hO.kp k
  clear q k
  have q := Lib.hid (same_true hO hL (by decide))
  clear hL hO
  go_wp2_with fail
  with_reducible refine q.out.mono ?_
  rintro x w25 ⟨rfl, k⟩
  replace kN := kN.trans k
  clear q k
  go_wp2
  go_ret
  exact ⟨rfl, kN⟩
end Go.Proofs.YtiommpdbbpddpaaGreatDoor
