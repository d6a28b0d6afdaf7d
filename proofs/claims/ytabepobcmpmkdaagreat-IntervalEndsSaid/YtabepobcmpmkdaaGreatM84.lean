/- Texts Is18: each says in its own first comment what it proves. -/
import Derived.Test.YtabepobcmpmkdaaGreatM78
import Derived.Test.YtabepobcmpmkdaaGreatM82
/- Reference of layer 3: Few; the laws' own function right. -/
namespace Go.Proofs.YtabepobcmpmkdaaGreat
open Go.RowKit
open Go.Lib (nDigits itoa decDigits)

def stB (t : Tx) : Bool := shB t.1 && shB t.2
def fwB (l : List Tx) : Bool := if 8 < l.length then decide (256 < l.length) && decide (l.length ≤ 512) else l.all stB
/-- one span is right and has short ends -/
def rtB (t : Tx) : Bool := decide (icE t.1 t.2 = 0) && decide (t.1.size ≤ 15) && decide (t.2.size ≤ 15)
def rgB (l : List Tx) : Bool := decide (l.length ≤ 8) && l.all stB && l.all rtB
theorem all_gL {l : List Tx} {f : Tx → Bool} : l.all f = true ↔ ∀ j, j < l.length → f (gL l j) = true := by
  rw [List.all_eq_true]
  constructor
  · intro h j hj; rw [gL_eq hj]; exact h _ (List.getElem_mem hj)
  · intro h x hx
    obtain ⟨j, hj, rfl⟩ := List.mem_iff_getElem.1 hx
    have := h j hj
    rwa [gL_eq hj] at this
theorem all_gL_no {l : List Tx} {f : Tx → Bool} {j : Nat} (hj : j < l.length) (h : f (gL l j) = false) : l.all f = false := by
  cases e : l.all f with
  | false => rfl
  | true => have := all_gL.1 e j hj; rw [h] at this; cases this

set_option maxRecDepth 100000 in
set_option maxHeartbeats 4000000 in
theorem r3Few_big (p : Option Addr) (n c : Nat) (w : World) (hn : 8 < n) : Calls Tryz.prog 27 #[.slice p n c] w fun r w' => r = .returned (.bool (decide (256 < n) && decide (n ≤ 512))) ∧ Kp [] w w' := by
  have hn' : (8 : Int) < (n : Int) := by omega
  have kk := Kp.refl [] w
  by_cases h1 : 256 < n
  · have h1' : (256 : Int) < (n : Int) := by omega
    by_cases h2 : n ≤ 512
    · have h2' : (n : Int) ≤ 512 := by omega
      rw [decide_eq_true h1, decide_eq_true h2]
      clear hn h1 h2
      go_enter Tryz.func27, Tryz.ntmps27
      go_wp2
      go_ret
      exact ⟨rfl, kk⟩
    · have h2' : ¬ (n : Int) ≤ 512 := by omega
      rw [decide_eq_true h1, decide_eq_false h2]
      clear hn h1 h2
      go_enter Tryz.func27, Tryz.ntmps27
      go_wp2
      go_ret
      exact ⟨rfl, kk⟩
  · have h1' : ¬ (256 : Int) < (n : Int) := by omega
    rw [decide_eq_false h1, Bool.false_and]
    clear hn h1
    go_enter Tryz.func27, Tryz.ntmps27
    go_wp2
    go_ret
    exact ⟨rfl, kk⟩
set_option maxRecDepth 100000 in
set_option maxHeartbeats 4000000 in
theorem r3Few_small (v : Value) (l : List Tx) (e : Nat → Bool) (R : Bool) (w : World) (h : SlT w v l) (hn : l.length ≤ 8) (q : ∀ j, j < l.length → Ca 10 #[.agg #[.string (gL l j).1, .string (gL l j).2]] (.bool (e j)))
    (h1 : ∀ j, j < l.length → e j = false → R = false) (h0 : (∀ j, j < l.length → e j = true) → R = true) :
    Calls Tryz.prog 27 #[v] w fun r w' => r = .returned (.bool R) ∧ Kp [] w w' := by
  obtain ⟨p, c, g, o, rfl, hp, hc⟩ := h.op
  generalize gL l = G at *
  generalize l.length = n at *
  have HC := Lib.hid hc
  have HP := Lib.hid hp
  have Q := Lib.hid q
  have H1 := Lib.hid h1
  have H0 := Lib.hid h0
  have hn1 : ¬ (8 : Int) < (n : Int) := by omega
  have hn0 : 0 ≤ (n : Int) := by omega
  clear h hc hp q h1 h0 hn
  go_enter Tryz.func27, Tryz.ntmps27
  go_wp2_with fail
  go_loopg [3] n (fun gk s3 wr => ∃ k : Nat, s3 = .int .i64 k ∧ k + gk = n ∧ Hid (∀ i, i < k → e i = true) ∧ Kp [] w wr)
  case atStart => exact ⟨0, rfl, by omega, Lib.hid (fun _ h => by omega), Kp.refl _ _⟩
  case round =>
    obtain ⟨k, rfl, hk, hz, kk⟩ := hrel
    by_cases hlt : k < n
    · obtain rfl := HP.out (by omega)
      obtain ⟨c0, c1⟩ := HC.out k hlt wr kk
      have q := Q.out k hlt
      unfold Ca at q
      have hlt' : (k : Int) < (n : Int) := by omega
      have z1 : 0 ≤ (k : Int) := by omega
      have Hk := Lib.hid hk; have Hl := Lib.hid hlt
      have HB1 := Lib.hid (H1.out k hlt)
      clear hk hlt HC HP Q H1
      cases he : e k with
      | true =>
        rw [he] at q
        have He := Lib.hid he
        clear he HB1
        generalize (G k).1 = lo at *
        generalize (G k).2 = hi at *
        go_wp2_with fail
        with_reducible refine (q.out _).mono ?_
        rintro r w1 ⟨rfl, k1⟩
        go_wp2
        have hk := Hk.out; have hlt := Hl.out
        go_roundg (gk - 1)
        case measure => omega
        case rel => exact ⟨k + 1, by go_num, by omega, Lib.hid (fun i h => if e : i = k then (by rw [e]; exact He.out) else hz.out i (by omega)), kk.trans k1⟩
      | false =>
        rw [he] at q
        have HR := Lib.hid (HB1.out he)
        clear he HB1
        generalize (G k).1 = lo at *
        generalize (G k).2 = hi at *
        go_wp2_with fail
        with_reducible refine (q.out _).mono ?_
        rintro r w1 ⟨rfl, k1⟩
        go_wp2
        go_ret
        exact ⟨by rw [HR.out]; rfl, kk.trans k1⟩
    · have hlt' : ¬ (k : Int) < (n : Int) := by omega
      have HR := Lib.hid (H0.out (fun i h => hz.out i (by omega)))
      clear hlt hk
      go_wp2
      go_ret
      exact ⟨by rw [HR.out]; rfl, kk⟩
theorem r3Few_any (v : Value) (l : List Tx) (w : World) (h : SlT w v l) (hs : ∀ j, j < l.length → (gL l j).1.size ≤ 9223372036854775807 ∧ (gL l j).2.size ≤ 9223372036854775807) :
    Calls Tryz.prog 27 #[v] w fun r w' => r = .returned (.bool (fwB l)) ∧ Kp [] w w' := by
  by_cases h8 : 8 < l.length
  · obtain ⟨p, c, rfl, _⟩ := h
    unfold fwB
    rw [if_pos h8]
    exact r3Few_big p _ c w h8
  · have e : fwB l = l.all stB := if_neg h8
    rw [e]
    exact r3Few_small v l (fun j => stB (gL l j)) _ w h (by omega) (fun j hj => r3Short_c (hs j hj).1 (hs j hj).2) (fun j hj hf => all_gL_no hj hf) (fun ha => all_gL.2 ha)

/-- the parts of rgB that right looks at -/
theorem rg_few {l : List Tx} (h : fwB l = false) : rgB l = false := by
  unfold rgB fwB at *
  by_cases h8 : 8 < l.length
  · rw [decide_eq_false (by omega)]; rfl
  · rw [if_neg h8] at h; rw [h]; simp
theorem rg_long {l : List Tx} (h : 8 < l.length) : rgB l = false := by unfold rgB; rw [decide_eq_false (by omega)]; rfl
theorem rg_one {l : List Tx} {i : Nat} (hi : i < l.length) (h : rtB (gL l i) = false) : rgB l = false := by unfold rgB; rw [all_gL_no hi h]; simp
theorem few_st {l : List Tx} (h : fwB l = true) (h8 : ¬ 8 < l.length) {i : Nat} (hi : i < l.length) : shB (gL l i).1 = true ∧ shB (gL l i).2 = true := by
  unfold fwB at h
  rw [if_neg h8] at h
  have := all_gL.1 h i hi
  unfold stB at this
  simpa using this
theorem rg_all {l : List Tx} (h : fwB l = true) (h8 : ¬ 8 < l.length) (ha : ∀ i, i < l.length → rtB (gL l i) = true) : rgB l = true := by
  unfold fwB at h
  rw [if_neg h8] at h
  unfold rgB
  rw [h, decide_eq_true (by omega), all_gL.2 ha]; rfl

set_option maxRecDepth 100000 in
set_option maxHeartbeats 8000000 in
theorem right3_any (g o c m : Nat) (V : Nat → Value) (Lf : Nat → List Tx) (R : Bool) (w : World) (hm : m ≤ 4)
    (hc : ∀ j, j < m → ∀ W, Kp [] w W → W.cell? ⟨g, o + j, none⟩ = some (V j)) (hs : ∀ j, j < m → SlT w (V j) (Lf j))
    (hz : ∀ j, j < m → ∀ i, i < (Lf j).length → (gL (Lf j) i).1.size ≤ 9223372036854775807 ∧ (gL (Lf j) i).2.size ≤ 9223372036854775807)
    (h1 : ∀ j, j < m → rgB (Lf j) = false → R = false) (h0 : (∀ j, j < m → rgB (Lf j) = true) → R = true) :
    Calls Tryz.prog 41 #[.slice (some ⟨g, o, none⟩) m c] w fun r w' => r = .returned (.bool R) ∧ Kp [] w w' := by
  have HC := Lib.hid hc
  have HS := Lib.hid hs
  have HZ := Lib.hid hz
  have H1 := Lib.hid h1
  have H0 := Lib.hid h0
  have hm0 : 0 ≤ (m : Int) := by omega
  have hm1 : (m : Int) ≤ 4 := by omega
  clear hc hs hz h1 h0 hm
  go_enter Tryz.func41, Tryz.ntmps41
  go_wp2_with fail
  go_loopg [9] m (fun gk s9 wr => ∃ k : Nat, s9 = .int .i64 k ∧ k + gk = m ∧ Hid (∀ i, i < k → rgB (Lf i) = true) ∧ Kp [] w wr)
  case atStart => exact ⟨0, rfl, by omega, Lib.hid (fun _ h => by omega), Kp.refl _ _⟩
  case round =>
    rename World => wo
    rename Nat => g1
    obtain ⟨k, rfl, hk, hdone, kk⟩ := hrel
    by_cases hlt : k < m
    · have cV := HC.out k hlt wo kk
      have sV := (HS.out k hlt).kp kk
      have qf := Lib.hid (r3Few_any (V k) (Lf k) wo sV (HZ.out k hlt))
      have HB1 := Lib.hid (H1.out k hlt)
      have hlt' : (k : Int) < (m : Int) := by omega
      have z1 : 0 ≤ (k : Int) := by omega
      have Hk := Lib.hid hk; have Hl := Lib.hid hlt
      have HDk := Lib.hid (fun (h : rgB (Lf k) = true) (i : Nat) (hi : i < k + 1) => show rgB (Lf i) = true from if e : i = k then (by rw [e]; exact h) else hdone.out i (by omega))
      clear hk hlt HC HS HZ H1
      generalize Lf k = l at *
      cases hf : fwB l with
      | false =>
        have HR := Lib.hid (HB1.out (rg_few hf))
        rw [hf] at qf
        clear hf HB1 HDk sV
        generalize V k = vk at *
        go_wp2_with fail
        with_reducible refine qf.out.mono ?_
        rintro r w1 ⟨rfl, k1⟩
        go_wp2
        go_ret
        exact ⟨by rw [HR.out]; rfl, kk.trans k1⟩
      | true =>
        rw [hf] at qf
        by_cases h8 : 8 < l.length
        · have HR := Lib.hid (HB1.out (rg_long h8))
          obtain ⟨p, cc, ev, _⟩ := sV
          rw [ev] at qf cV
          have h8' : (8 : Int) < (l.length : Int) := by omega
          clear hf HB1 HDk ev h8
          generalize l.length = n at *
          go_wp2_with fail
          with_reducible refine qf.out.mono ?_
          rintro r w1 ⟨rfl, k1⟩
          go_wp2
          go_ret
          exact ⟨by rw [HR.out]; rfl, kk.trans k1⟩
        · have HST := Lib.hid (fun i (hi : i < l.length) => few_st hf h8 hi)
          have HA := Lib.hid (fun ha => HDk.out (rg_all hf h8 ha))
          have HN := Lib.hid (fun i (hi : i < l.length) hr => HB1.out (rg_one hi hr))
          obtain ⟨p, cc, gg, oo, ev, hp, hcc⟩ := sV.op
          rw [ev] at qf cV
          have HCC := Lib.hid hcc
          have HP := Lib.hid hp
          have h8' : ¬ (8 : Int) < (l.length : Int) := by omega
          have hn0 : 0 ≤ (l.length : Int) := by omega
          clear hf HB1 HDk ev h8 hcc hp sV
          generalize gL l = G at *
          generalize l.length = n at *
          go_wp2_with fail
          with_reducible refine qf.out.mono ?_
          rintro r w1 ⟨rfl, k1⟩
          clear qf cV
          go_wp2_with fail
          go_loopg [23] n (fun gk s23 wr => ∃ i : Nat, s23 = .int .i64 i ∧ i + gk = n ∧ Hid (∀ j, j < i → rtB (G j) = true) ∧ Kp [] wo wr)
          case atStart => exact ⟨0, rfl, by omega, Lib.hid (fun _ h => by omega), k1⟩
          case round =>
            obtain ⟨i, rfl, hi, hd2, kw⟩ := hrel
            by_cases hil : i < n
            · obtain rfl := HP.out (by omega)
              obtain ⟨c0, c1⟩ := HCC.out i hil wr kw
              obtain ⟨sx, sy⟩ := HST.out i hil
              have q := Lib.hid (fun W => r3check (G i).1 (G i).2 W sx sy)
              have hil' : (i : Int) < (n : Int) := by omega
              have z2 : 0 ≤ (i : Int) := by omega
              have Hi := Lib.hid hi; have Hil := Lib.hid hil
              have HN1 := Lib.hid (HN.out i hil)
              have HR2 : Hid (rtB (G i) = (decide (icE (G i).1 (G i).2 = 0) && decide ((G i).1.size ≤ 15) && decide ((G i).2.size ≤ 15))) := Lib.hid rfl
              clear hi hil HCC HP HST HN sx sy
              generalize hrt : rtB (G i) = rt at *
              have HRT := Lib.hid hrt
              clear hrt
              generalize (G i).1 = lo at *
              generalize (G i).2 = hi at *
              have s := SpB.made wr lo hi
              have s0 := s.c0; have s1 := s.c1
              have kq := kw.alloc (.cells #[.string lo, .string hi] 24 (0, 0))
              clear kw
              by_cases he : icE lo hi = 0
              · rw [he] at q
                by_cases h15 : lo.size ≤ 15
                · have h15' : ¬ (15 : Int) < (lo.size : Int) := by omega
                  by_cases h16 : hi.size ≤ 15
                  · have h16' : ¬ (15 : Int) < (hi.size : Int) := by omega
                    have HT : Hid (rt = true) := Lib.hid (by rw [HR2.out, he, decide_eq_true h15, decide_eq_true h16]; rfl)
                    clear he h15 h16 HR2 HN1
                    go_wp2_with fail
                    with_reducible refine (q.out _).mono ?_
                    rintro r w3 ⟨rfl, k2⟩
                    have z := s.kept k2 (by simp)
                    clear s0 s1 c0 c1 s q
                    have s0 := z.c0; have s1 := z.c1
                    clear z
                    go_wp2
                    have hi2 := Hi.out; have hil := Hil.out
                    go_roundg (gk - 1)
                    case measure => omega
                    case rel => exact ⟨i + 1, by go_num, by omega, Lib.hid (fun j h => if e : j = i then (by rw [e, HRT.out]; exact HT.out) else hd2.out j (by omega)), kq.trans k2⟩
                  · have h16' : (15 : Int) < (hi.size : Int) := by omega
                    have HR : Hid (R = false) := Lib.hid (HN1.out (by rw [HR2.out, decide_eq_false h16]; simp))
                    clear he h15 h16 HR2 HN1
                    go_wp2_with fail
                    with_reducible refine (q.out _).mono ?_
                    rintro r w3 ⟨rfl, k2⟩
                    have z := s.kept k2 (by simp)
                    clear s0 s1 c0 c1 s q
                    have s0 := z.c0; have s1 := z.c1
                    clear z
                    go_wp2
                    go_ret
                    exact ⟨by rw [HR.out]; rfl, kk.trans (kq.trans k2)⟩
                · have h15' : (15 : Int) < (lo.size : Int) := by omega
                  have HR : Hid (R = false) := Lib.hid (HN1.out (by rw [HR2.out, decide_eq_false h15]; simp))
                  clear he h15 HR2 HN1
                  go_wp2_with fail
                  with_reducible refine (q.out _).mono ?_
                  rintro r w3 ⟨rfl, k2⟩
                  have z := s.kept k2 (by simp)
                  clear s0 s1 c0 c1 s q
                  have s0 := z.c0
                  clear z
                  go_wp2
                  go_ret
                  exact ⟨by rw [HR.out]; rfl, kk.trans (kq.trans k2)⟩
              · have hb : (icE lo hi != 0) = true := by simp [he]
                have HR : Hid (R = false) := Lib.hid (HN1.out (by rw [HR2.out, decide_eq_false he]; rfl))
                clear he HR2 HN1
                generalize icE lo hi = E at *
                go_wp2_with fail
                with_reducible refine (q.out _).mono ?_
                rintro r w3 ⟨rfl, k2⟩
                clear s0 s1 c0 c1 s q
                go_wp2
                go_ret
                exact ⟨by rw [HR.out]; rfl, kk.trans (kq.trans k2)⟩
            · have hil' : ¬ (i : Int) < (n : Int) := by omega
              have HD := Lib.hid (HA.out (fun j h => hd2.out j (by omega)))
              clear hil hi
              go_wp2
              have hk := Hk.out; have hlt := Hl.out
              go_roundg (g1 - 1)
              case measure => omega
              case rel => exact ⟨k + 1, by go_num, by omega, Lib.hid (HD.out), kk.trans kw⟩
    · have hlt' : ¬ (k : Int) < (m : Int) := by omega
      have HR := Lib.hid (H0.out (fun i h => hdone.out i (by omega)))
      clear hlt hk
      go_wp2
      go_ret
      exact ⟨by rw [HR.out]; rfl, kk⟩
end Go.Proofs.YtabepobcmpmkdaaGreat
