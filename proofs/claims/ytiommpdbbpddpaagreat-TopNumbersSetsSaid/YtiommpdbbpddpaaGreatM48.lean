/- Texts Tn3: each says in its own first comment what it proves. -/
import Derived.Test.YtiommpdbbpddpaaGreatM47
import Derived.Test.YtiommpdbbpddpaaGreatM51
import Derived.Deep.RegionHeld3
/- The law TopNumbersSets. -/
namespace Go.Proofs.YtiommpdbbpddpaaGreat
open Go.RowKit
open Go.Lib (nDigits itoa decDigits)

attribute [local go_sem ↓] Go.wp_at_zero Go.wp_at_succ

theorem ends_in {f : List Iv} : ∀ {M : List Rat}, Nrm f → (∀ s ∈ f, s.1 ∈ M) → f.length ≤ M.length := by
  induction f with
  | nil => intro M _ _; simp
  | cons s f ih =>
    intro M hn hm
    have h1 : s.1 ∈ M := hm s (by simp)
    have h2 := ih (M := M.erase s.1) hn.tail (fun t ht => by
      have h3 := hn.lt ht
      have h4 := hn.head
      exact (List.mem_erase_of_ne (by grind)).2 (hm t (by simp [ht])))
    rw [List.length_erase_of_mem h1] at h2
    have := List.length_pos_of_mem h1
    simp only [List.length_cons]
    omega
theorem swept_len {bel : Bool → Bool → Bool} {A B f : List Iv} (h : Swept bel A B f) : f.length ≤ 2 * (A.length + B.length) := by
  have := ends_in (M := (A ++ B).map (·.1) ++ (A ++ B).map (·.2)) h.nrm fun s hs => by
    obtain ⟨t, ht, e | e⟩ := (h.endOf s hs).1
    · exact List.mem_append.2 (.inl (List.mem_map.2 ⟨t, ht, e.symm⟩))
    · exact List.mem_append.2 (.inr (List.mem_map.2 ⟨t, ht, e.symm⟩))
  simp only [List.length_append, List.length_map] at this
  omega
theorem rg_of {l : List Tx} (hl : l.length ≤ 6) (h : ∀ e ∈ l, bdB e = false) : rgB l = true := by
  have hh : ∀ e ∈ l, e.1.size ≤ 15 ∧ e.2.size ≤ 15 ∧ icE e.1 e.2 = 0 := fun e he => by
    have := h e he
    unfold bdB at this
    simp only [Bool.or_eq_false_iff, decide_eq_false_iff_not, bne_eq_false_iff_eq] at this
    omega
  unfold rgB
  rw [decide_eq_true (show l.length ≤ 8 by omega), Bool.true_and, Bool.and_eq_true]
  refine ⟨List.all_eq_true.2 fun e he => ?_, List.all_eq_true.2 fun e he => ?_⟩
  · obtain ⟨h1, h2, _⟩ := hh e he
    unfold stB
    rw [sh15 h1, sh15 h2]; rfl
  · obtain ⟨h1, h2, h3⟩ := hh e he
    unfold rtB
    rw [decide_eq_true h3, decide_eq_true h1, decide_eq_true h2]; rfl
theorem op_bsSl4 {a : Act} {w : World} {o : Oper} {x0 x1 x2 x3 : Operand} {p0 p1 p2 p3 : Option Addr} {n0 n1 n2 n3 c0 c1 c2 c3 : Nat} (h : o.op = .buildSlice 36 4 #[(0, x0), (1, x1), (2, x2), (3, x3)]) (h0 : a.eval x0 = .slice p0 n0 c0) (h1 : a.eval x1 = .slice p1 n1 c1) (h2 : a.eval x2 = .slice p2 n2 c2) (h3 : a.eval x3 = .slice p3 n3 c3) :
    (execOp a.eval o).run Tryz.prog w = .ok (.value (.slice (some ⟨w.heap.size, 0, none⟩) 4 4)) (w.alloc (.cells #[.slice p0 n0 c0, .slice p1 n1 c1, .slice p2 n2 c2, .slice p3 n3 c3] 22 (0, 0))) := by
  generalize a.eval = r at *
  simp [execOp, h, h0, h1, h2, h3, go_sem]

theorem rat_info : (Tryz.prog.info? 24).map (fun i => (i.zero, i.size, i.bytes)) = some (some (.string ⟨#[]⟩), 1, 16) := by kernel_rfl
/-- the region that tells whether the sets are passed over -/
def TQ (p1 p2 : Option Addr) (n1 c1 n2 c2 : Nat) (w : World) (B : Bool) : Prop :=
  Hid (Calls Tryz.prog 5 #[.slice (some ⟨w.heap.size, 0, none⟩) 2 2] (w.alloc (.cells #[.slice p1 n1 c1, .slice p2 n2 c2] 22 (0, 0))) fun r w' => ∃ v, r = .returned v ∧
    Hid (Calls Tryz.prog 4 #[v, .func (.func 6) #[] #[]] w' fun r2 w2 => r2 = .returned (.bool B) ∧ Kp [] w' w2) ∧ Kp [] (w.alloc (.cells #[.slice p1 n1 c1, .slice p2 n2 c2] 22 (0, 0))) w')
theorem tq_of (p1 p2 : Option Addr) (c1 c2 : Nat) (a b : List Tx) (w : World) (sa : SlT w (.slice p1 a.length c1) a) (sb : SlT w (.slice p2 b.length c2) b) (ha : a.length ≤ 6) (hb : b.length ≤ 6)
    (hz : ∀ e ∈ a ++ b, e.1.size ≤ 9223372036854775807 ∧ e.2.size ≤ 9223372036854775807) : TQ p1 p2 a.length c1 b.length c2 w ((a ++ b).any bdB) := by
  unfold TQ
  have k0 : Kp [] w (w.alloc (.cells #[.slice p1 a.length c1, .slice p2 b.length c2] 22 (0, 0))) := (Kp.refl _ _).alloc _
  refine Lib.hid ((tconcat p1 p2 c1 c2 a b w.heap.size _ (heap_alloc_new w _) (sa.kp k0) (sb.kp k0) ha hb).mono ?_)
  rintro r w' ⟨v, rfl, s, k⟩
  exact ⟨v, rfl, Lib.hid (scontains v (a ++ b) w' s (by rw [List.length_append]; omega) hz), k⟩

set_option maxRecDepth 100000 in
set_option maxHeartbeats 8000000 in
theorem tsets_1 (p1 p2 : Option Addr) (n1 c1 n2 c2 : Nat) (w : World) (g1 : (6 : Int) < (n1 : Int)) :
    Calls Tryz.prog 3 #[.slice p1 n1 c1, .slice p2 n2 c2] w fun r w' => r = .returned (.bool true) ∧ Kp [] w w' := by
  have qw := Lib.hid play_any
  go_enter Tryz.func3, Tryz.ntmps3
  go_wp2_with fail
  with_reducible refine (qw.out _).mono ?_
  rintro r w99 ⟨rfl, k⟩
  clear qw
  go_wp2
  go_ret
  exact ⟨rfl, k⟩
set_option maxRecDepth 100000 in
set_option maxHeartbeats 8000000 in
theorem tsets_2 (p1 p2 : Option Addr) (n1 c1 n2 c2 : Nat) (w : World) (g1 : ¬ (6 : Int) < (n1 : Int)) (g2 : (6 : Int) < (n2 : Int)) :
    Calls Tryz.prog 3 #[.slice p1 n1 c1, .slice p2 n2 c2] w fun r w' => r = .returned (.bool true) ∧ Kp [] w w' := by
  have qw := Lib.hid play_any
  go_enter Tryz.func3, Tryz.ntmps3
  go_wp2_with fail
  with_reducible refine (qw.out _).mono ?_
  rintro r w99 ⟨rfl, k⟩
  clear qw
  go_wp2
  go_ret
  exact ⟨rfl, k⟩
set_option maxRecDepth 100000 in
set_option maxHeartbeats 8000000 in
theorem tsets_3 (p1 p2 : Option Addr) (n1 c1 n2 c2 : Nat) (w : World) (g1 : ¬ (6 : Int) < (n1 : Int)) (g2 : ¬ (6 : Int) < (n2 : Int)) (qc : TQ p1 p2 n1 c1 n2 c2 w true) :
    Calls Tryz.prog 3 #[.slice p1 n1 c1, .slice p2 n2 c2] w fun r w' => r = .returned (.bool true) ∧ Kp [] w w' := by
  have qw := Lib.hid play_any
  unfold TQ at qc
  have kk : Kp [] w (w.alloc (.cells #[.slice p1 n1 c1, .slice p2 n2 c2] 22 (0, 0))) := (Kp.refl _ _).alloc _
  go_enter Tryz.func3, Tryz.ntmps3
  go_wp2_with fail
  with_reducible refine qc.out.mono ?_
  rintro r w1 ⟨v, rfl, qf, k⟩
  replace kk := kk.trans k
  clear k qc
  go_wp2_with fail
  with_reducible refine qf.out.mono ?_
  rintro r w2 ⟨rfl, k⟩
  replace kk := kk.trans k
  clear k qf
  go_wp2_with fail
  with_reducible refine (qw.out _).mono ?_
  rintro r w99 ⟨rfl, k⟩
  replace kk := kk.trans k
  clear k qw
  go_wp2
  go_ret
  exact ⟨rfl, kk⟩
set_option maxRecDepth 100000 in
set_option maxHeartbeats 8000000 in
theorem tsets_4 (p1 p2 : Option Addr) (n1 c1 n2 c2 : Nat) (A B : List Iv) (hA : SmJ 15 A) (hB : SmJ 15 B) (rA : RtI A) (rB : RtI B) (nA : A.length ≤ 6) (nB : B.length ≤ 6) (w : World) (sa : SlT w (.slice p1 n1 c1) (txI A)) (sb : SlT w (.slice p2 n2 c2) (txI B)) (g1 : ¬ (6 : Int) < (n1 : Int)) (g2 : ¬ (6 : Int) < (n2 : Int)) (qc : TQ p1 p2 n1 c1 n2 c2 w false) :
    Calls Tryz.prog 3 #[.slice p1 n1 c1, .slice p2 n2 c2] w fun r w' => r = .returned (.bool true) ∧ Kp [] w w' := by
  have qw := Lib.hid play_any
  unfold TQ at qc
  have HA := Lib.hid hA; have HB := Lib.hid hB; have RA := Lib.hid rA; have RB := Lib.hid rB; have SA := Lib.hid sa; have SB := Lib.hid sb; have NN := Lib.hid (And.intro nA nB)
  clear hA hB rA rB sa sb nA nB
  have kk : Kp [] w (w.alloc (.cells #[.slice p1 n1 c1, .slice p2 n2 c2] 22 (0, 0))) := (Kp.refl _ _).alloc _
  go_enter Tryz.func3, Tryz.ntmps3
  go_wp2_with fail
  with_reducible refine qc.out.mono ?_
  rintro r w1 ⟨v, rfl, qf, k⟩
  replace kk := kk.trans k
  clear k qc
  go_wp2_with fail
  with_reducible refine qf.out.mono ?_
  rintro r w2 ⟨rfl, k⟩
  replace kk := kk.trans k
  clear k qf
  have q := Lib.hid (iUnion_0 _ _ A B w2 (SA.out.kp kk) (SB.out.kp kk) (HA.out.up (by omega)) (HB.out.up (by omega)) RA.out RB.out (by have := NN.out; omega))
  go_wp2_with fail
  with_reducible refine q.out.mono ?_
  rintro r w3 ⟨u, U, rfl, y1, y2, y3, y4, k⟩
  replace kk := kk.trans k
  have HU := Lib.hid y1
  have SU := Lib.hid y4
  clear q y1 y2 y3 y4 k
  have q := Lib.hid (iIntersection_0 _ _ A B w3 (SA.out.kp kk) (SB.out.kp kk) (HA.out.up (by omega)) (HB.out.up (by omega)) RA.out RB.out (by have := NN.out; omega))
  go_wp2_with fail
  with_reducible refine q.out.mono ?_
  rintro r w4 ⟨x, X, rfl, y1, y2, y3, y4, k⟩
  replace kk := kk.trans k
  have HX := Lib.hid y1
  have SX := Lib.hid y4
  replace HU := Lib.hid (HU.out.kp k)
  clear q y1 y2 y3 y4 k
  have q := Lib.hid (iDifference_0 _ _ A B w4 (SA.out.kp kk) (SB.out.kp kk) (HA.out.up (by omega)) (HB.out.up (by omega)) RA.out RB.out (by have := NN.out; omega))
  go_wp2_with fail
  with_reducible refine q.out.mono ?_
  rintro r w5 ⟨d, D, rfl, y1, y2, y3, y4, k⟩
  replace kk := kk.trans k
  have HD := Lib.hid y1
  have SD := Lib.hid y4
  replace HU := Lib.hid (HU.out.kp k)
  replace HX := Lib.hid (HX.out.kp k)
  clear q y1 y2 y3 y4 k
  have JD := Lib.hid (SD.out.smJ HA.out HB.out)
  have LD := Lib.hid (swept_len SD.out)
  have q := Lib.hid (iUnion_0 _ _ D B w5 HD.out (SB.out.kp kk) (JD.out.up (by omega)) (HB.out.up (by omega)) SD.out.nrm.rt RB.out (by have := NN.out; have := LD.out; omega))
  go_wp2_with fail
  with_reducible refine q.out.mono ?_
  rintro r w6 ⟨v, V, rfl, y1, y2, y3, y4, k⟩
  replace kk := kk.trans k
  have HV := Lib.hid y1
  have SV := Lib.hid y4
  replace HU := Lib.hid (HU.out.kp k)
  replace HX := Lib.hid (HX.out.kp k)
  clear q y1 y2 y3 y4 k
  clear HD
  obtain rfl : V = U := nrm_unique SV.out.nrm SU.out.nrm fun z => by
    rw [SV.out.or_in SD.out.nrm.rt RB.out z, SU.out.or_in RA.out RB.out z]
    have h := SD.out.diff_in RA.out RB.out z
    exact ⟨fun h1 => h1.elim (fun d => .inl (h.1 d)) .inr, fun h1 => h1.elim (fun a => (Classical.em (InS z B)).elim .inr fun nb => .inl (h.2 a nb)) .inr⟩
  have JU := Lib.hid (SU.out.smJ HA.out HB.out)
  have JX := Lib.hid (SX.out.smJ HA.out HB.out)
  have LU := Lib.hid (or_len SU.out.nrm RA.out RB.out (SU.out.or_in RA.out RB.out))
  have LX := Lib.hid (and_len SX.out.nrm (SX.out.and_in RA.out RB.out))
  clear SV JD LD SD
  have q := Lib.hid (same_true HU.out HV.out (by rw [txI_len]; have := LU.out; have := NN.out; omega))
  go_wp2_with fail
  with_reducible refine q.out.mono ?_
  rintro r w7 ⟨rfl, k⟩
  replace kk := kk.trans k
  replace HU := Lib.hid (HU.out.kp k)
  replace HX := Lib.hid (HX.out.kp k)
  clear q k HV
  obtain ⟨i0, hi0, hz0, hz1, hz2⟩ := info_parts rat_info
  obtain ⟨pu, cu, eu, _⟩ := HU.out
  obtain ⟨px, cx, ex, _⟩ := HX.out
  generalize hnu : (txI V).length = nu at eu
  generalize hnx : (txI X).length = nx at ex
  subst eu
  subst ex
  clear hnu hnx
  have m8 := heap_alloc_new w7 (.cells #[.slice p1 n1 c1, .slice p2 n2 c2, .slice pu nu cu, .slice px nx cx] 22 (0, 0))
  have kw : Kp [] w7 (w7.alloc (.cells #[.slice p1 n1 c1, .slice p2 n2 c2, .slice pu nu cu, .slice px nx cx] 22 (0, 0))) := (Kp.refl _ _).alloc _
  go_wp2_with (refine wpList_stepN rfl (op_bsSl4 rfl rfl rfl rfl rfl) (by simp only [Act.put, World.size_alloc, List.setIfInBounds_toArray, List.set_cons_succ, List.set_cons_zero]; rfl) ?_)
  replace kk := kk.trans kw
  replace HU := Lib.hid (HU.out.kp kw)
  replace HX := Lib.hid (HX.out.kp kw)
  generalize hG8 : w7.heap.size = G at *
  generalize w7.alloc (.cells #[.slice p1 n1 c1, .slice p2 n2 c2, .slice pu nu cu, .slice px nx cx] 22 (0, 0)) = w8 at *
  clear kw hG8
  have hG : G < w8.heap.size := (Array.getElem?_eq_some_iff.1 m8).1
  have X0 : Hid (w8.cell? ⟨G, 0, none⟩ = some (.slice p1 n1 c1)) := Lib.hid (by unfold World.cell?; rw [m8]; rfl)
  have X1 : Hid (w8.cell? ⟨G, 1, none⟩ = some (.slice p2 n2 c2)) := Lib.hid (by unfold World.cell?; rw [m8]; rfl)
  have X2 : Hid (w8.cell? ⟨G, 2, none⟩ = some (.slice pu nu cu)) := Lib.hid (by unfold World.cell?; rw [m8]; rfl)
  have X3 : Hid (w8.cell? ⟨G, 3, none⟩ = some (.slice px nx cx)) := Lib.hid (by unfold World.cell?; rw [m8]; rfl)
  have KK := Lib.hid kk
  clear m8 kk g1 g2
  go_loopg [13, 80] 4 (fun gk s13 s80 wr => Kp [] w8 wr ∧ ((s80 = .int .i64 0 ∧ wr.ownsRow w8.heap.size 24 1 s13 0 [] ∧ gk = 4) ∨
    (s80 = .int .i64 1 ∧ gk = 3 ∧ ∃ fa, (Nrm fa ∧ ∀ z, InS z fa ↔ InS z A) ∧ wr.ownsRow w8.heap.size 24 1 s13 1 [.string (RS (lenI fa))]) ∨
    (s80 = .int .i64 2 ∧ gk = 2 ∧ ∃ fa fb, (Nrm fa ∧ ∀ z, InS z fa ↔ InS z A) ∧ (Nrm fb ∧ ∀ z, InS z fb ↔ InS z B) ∧ wr.ownsRow w8.heap.size 24 1 s13 2 [.string (RS (lenI fa)), .string (RS (lenI fb))]) ∨
    (s80 = .int .i64 3 ∧ gk = 1 ∧ ∃ fa fb, (Nrm fa ∧ ∀ z, InS z fa ↔ InS z A) ∧ (Nrm fb ∧ ∀ z, InS z fb ↔ InS z B) ∧ wr.ownsRow w8.heap.size 24 1 s13 3 [.string (RS (lenI fa)), .string (RS (lenI fb)), .string (RS (lenI V))]) ∨
    (s80 = .int .i64 4 ∧ gk = 0 ∧ ∃ fa fb, (Nrm fa ∧ ∀ z, InS z fa ↔ InS z A) ∧ (Nrm fb ∧ ∀ z, InS z fb ↔ InS z B) ∧ wr.ownsRow w8.heap.size 24 1 s13 4 [.string (RS (lenI fa)), .string (RS (lenI fb)), .string (RS (lenI V)), .string (RS (lenI X))])))
  case atStart => exact ⟨Kp.refl _ _, .inl ⟨rfl, World.ownsRow_nil _ _ _ _, rfl⟩⟩
  case round =>
    obtain ⟨kr, ⟨rfl, own, rfl⟩ | ⟨rfl, rfl, fa, na, own⟩ | ⟨rfl, rfl, fa, fb, na, nb, own⟩ | ⟨rfl, rfl, fa, fb, na, nb, own⟩ | ⟨rfl, rfl, fa, fb, na, nb, own⟩⟩ := hrel
    · have y0 : wr.cell? ⟨G, 0, none⟩ = some (.slice p1 n1 c1) := (World.cell?_of_block (kr.block G hG (by simp))).trans X0.out
      have q := Lib.hid (iLen_0 _ A wr ((SA.out.kp KK.out).kp kr) HA.out (by omega) RA.out (by have := NN.out; omega) (by have := NN.out; omega))
      have KR := Lib.hid kr
      have OW := Lib.hid own
      clear kr own
      go_wp2_with fail
      with_reducible refine q.out.mono ?_
      rintro r w9 ⟨f, rfl, y1, y2, k⟩
      have HN := Lib.hid (And.intro y1 y2)
      clear y1 y2
      have hown := own_kept OW.out k (fun x h => by simp at h)
      have kr := KR.out.trans k
      have hs := kr.size
      have KR2 := Lib.hid kr
      have OW2 := Lib.hid hown
      clear q k y0 kr KR OW
      go_wp2_with (first | (at_builtin; refine wpList_append_kp rfl _ _ 35 rfl w8.heap.size 24 i0 (.string ⟨#[]⟩) 1 16 Tryz.underlying35 hi0 hz0 hz1 hz2 rfl (by decide) _ 0 ([]) rfl (World.ownsRow.alloc hown _) ⟨w9.heap.size, 0, none⟩ 1 1 [.string (RS (lenI f))] rfl rfl ?c1 ?c2 ?c3 ?c4 ?c5 ?c6 ?_) | fail)
      case c1 => exact World.news_of_block (heap_alloc_new w9 _)
      case c2 => intro u hu; simp at hu; subst hu; rfl
      case c3 => omega
      case c4 => unfold maxLen; omega
      case c5 => omega
      case c6 => simp; omega
      intro g2 cap2 w10 own2 k2 hg2 _
      have K3 := Lib.hid (((KR2.out.alloc (.cells #[.string (RS (lenI f))] 24 (0, 0))).step k2 (fun x hx => .inr (own_base OW2.out x hx))))
      have O3 := Lib.hid own2
      clear k2 own2 hown OW2 KR2 hs hg2
      go_wp2
      go_roundg 3
      case measure => omega
      case rel => exact ⟨K3.out, .inr (.inl ⟨by go_num, rfl, f, HN.out, O3.out⟩)⟩
    · have y0 : wr.cell? ⟨G, 1, none⟩ = some (.slice p2 n2 c2) := (World.cell?_of_block (kr.block G hG (by simp))).trans X1.out
      have q := Lib.hid (iLen_0 _ B wr ((SB.out.kp KK.out).kp kr) HB.out (by omega) RB.out (by have := NN.out; omega) (by have := NN.out; omega))
      have KR := Lib.hid kr
      have OW := Lib.hid own
      clear kr own
      go_wp2_with fail
      with_reducible refine q.out.mono ?_
      rintro r w9 ⟨f, rfl, y1, y2, k⟩
      have HN := Lib.hid (And.intro y1 y2)
      clear y1 y2
      have hown := own_kept OW.out k (fun x h => by simp at h)
      have kr := KR.out.trans k
      have hs := kr.size
      have KR2 := Lib.hid kr
      have OW2 := Lib.hid hown
      clear q k y0 kr KR OW
      go_wp2_with (first | (at_builtin; refine wpList_append_kp rfl _ _ 35 rfl w8.heap.size 24 i0 (.string ⟨#[]⟩) 1 16 Tryz.underlying35 hi0 hz0 hz1 hz2 rfl (by decide) _ 1 ([.string (RS (lenI fa))]) rfl (World.ownsRow.alloc hown _) ⟨w9.heap.size, 0, none⟩ 1 1 [.string (RS (lenI f))] rfl rfl ?c1 ?c2 ?c3 ?c4 ?c5 ?c6 ?_) | fail)
      case c1 => exact World.news_of_block (heap_alloc_new w9 _)
      case c2 => intro u hu; simp at hu; subst hu; rfl
      case c3 => omega
      case c4 => unfold maxLen; omega
      case c5 => omega
      case c6 => simp; omega
      intro g2 cap2 w10 own2 k2 hg2 _
      have K3 := Lib.hid (((KR2.out.alloc (.cells #[.string (RS (lenI f))] 24 (0, 0))).step k2 (fun x hx => .inr (own_base OW2.out x hx))))
      have O3 := Lib.hid own2
      clear k2 own2 hown OW2 KR2 hs hg2
      go_wp2
      go_roundg 2
      case measure => omega
      case rel => exact ⟨K3.out, .inr (.inr (.inl ⟨by go_num, rfl, fa, f, na, HN.out, O3.out⟩))⟩
    · have y0 : wr.cell? ⟨G, 2, none⟩ = some (.slice pu nu cu) := (World.cell?_of_block (kr.block G hG (by simp))).trans X2.out
      have q := Lib.hid (iLen_0 _ V wr (HU.out.kp kr) JU.out (by omega) SU.out.nrm.rt (by have := LU.out; have := NN.out; omega) (by have := LU.out; have := NN.out; omega))
      have KR := Lib.hid kr
      have OW := Lib.hid own
      clear kr own
      go_wp2_with fail
      with_reducible refine q.out.mono ?_
      rintro r w9 ⟨f, rfl, y1, y2, k⟩
      obtain rfl : V = f := (nrm_unique y1 SU.out.nrm y2).symm
      clear y1 y2
      have hown := own_kept OW.out k (fun x h => by simp at h)
      have kr := KR.out.trans k
      have hs := kr.size
      have KR2 := Lib.hid kr
      have OW2 := Lib.hid hown
      clear q k y0 kr KR OW
      go_wp2_with (first | (at_builtin; refine wpList_append_kp rfl _ _ 35 rfl w8.heap.size 24 i0 (.string ⟨#[]⟩) 1 16 Tryz.underlying35 hi0 hz0 hz1 hz2 rfl (by decide) _ 2 ([.string (RS (lenI fa)), .string (RS (lenI fb))]) rfl (World.ownsRow.alloc hown _) ⟨w9.heap.size, 0, none⟩ 1 1 [.string (RS (lenI V))] rfl rfl ?c1 ?c2 ?c3 ?c4 ?c5 ?c6 ?_) | fail)
      case c1 => exact World.news_of_block (heap_alloc_new w9 _)
      case c2 => intro u hu; simp at hu; subst hu; rfl
      case c3 => omega
      case c4 => unfold maxLen; omega
      case c5 => omega
      case c6 => simp; omega
      intro g2 cap2 w10 own2 k2 hg2 _
      have K3 := Lib.hid (((KR2.out.alloc (.cells #[.string (RS (lenI V))] 24 (0, 0))).step k2 (fun x hx => .inr (own_base OW2.out x hx))))
      have O3 := Lib.hid own2
      clear k2 own2 hown OW2 KR2 hs hg2
      go_wp2
      go_roundg 1
      case measure => omega
      case rel => exact ⟨K3.out, .inr (.inr (.inr (.inl ⟨by go_num, rfl, fa, fb, na, nb, O3.out⟩)))⟩
    · have y0 : wr.cell? ⟨G, 3, none⟩ = some (.slice px nx cx) := (World.cell?_of_block (kr.block G hG (by simp))).trans X3.out
      have q := Lib.hid (iLen_0 _ X wr (HX.out.kp kr) JX.out (by omega) SX.out.nrm.rt (by have := LX.out; have := NN.out; omega) (by have := LX.out; have := NN.out; omega))
      have KR := Lib.hid kr
      have OW := Lib.hid own
      clear kr own
      go_wp2_with fail
      with_reducible refine q.out.mono ?_
      rintro r w9 ⟨f, rfl, y1, y2, k⟩
      obtain rfl : X = f := (nrm_unique y1 SX.out.nrm y2).symm
      clear y1 y2
      have hown := own_kept OW.out k (fun x h => by simp at h)
      have kr := KR.out.trans k
      have hs := kr.size
      have KR2 := Lib.hid kr
      have OW2 := Lib.hid hown
      clear q k y0 kr KR OW
      go_wp2_with (first | (at_builtin; refine wpList_append_kp rfl _ _ 35 rfl w8.heap.size 24 i0 (.string ⟨#[]⟩) 1 16 Tryz.underlying35 hi0 hz0 hz1 hz2 rfl (by decide) _ 3 ([.string (RS (lenI fa)), .string (RS (lenI fb)), .string (RS (lenI V))]) rfl (World.ownsRow.alloc hown _) ⟨w9.heap.size, 0, none⟩ 1 1 [.string (RS (lenI X))] rfl rfl ?c1 ?c2 ?c3 ?c4 ?c5 ?c6 ?_) | fail)
      case c1 => exact World.news_of_block (heap_alloc_new w9 _)
      case c2 => intro u hu; simp at hu; subst hu; rfl
      case c3 => omega
      case c4 => unfold maxLen; omega
      case c5 => omega
      case c6 => simp; omega
      intro g2 cap2 w10 own2 k2 hg2 _
      have K3 := Lib.hid (((KR2.out.alloc (.cells #[.string (RS (lenI X))] 24 (0, 0))).step k2 (fun x hx => .inr (own_base OW2.out x hx))))
      have O3 := Lib.hid own2
      clear k2 own2 hown OW2 KR2 hs hg2
      go_wp2
      go_roundg 0
      case measure => omega
      case rel => exact ⟨K3.out, .inr (.inr (.inr (.inr ⟨by go_num, rfl, fa, fb, na, nb, O3.out⟩)))⟩
    · rcases own.2 with ⟨_, h0⟩ | ⟨g, cap, cur, rfl, hb, hg, _⟩
      · omega
      have hgl := (Array.getElem?_eq_some_iff.1 hg).1
      have HF : Hid (∀ W : World, Kp [] wr W → W.cell? ⟨g, 0, none⟩ = some (.string (RS (lenI fa))) ∧ W.cell? ⟨g, 1, none⟩ = some (.string (RS (lenI fb))) ∧ W.cell? ⟨g, 2, none⟩ = some (.string (RS (lenI V))) ∧ W.cell? ⟨g, 3, none⟩ = some (.string (RS (lenI X)))) := Lib.hid fun W k => by
        have o := own_kept own k (fun x h => by simp at h)
        exact ⟨(World.ownsRow.cellAt o 0 (by omega)).trans rfl, (World.ownsRow.cellAt o 1 (by omega)).trans rfl, (World.ownsRow.cellAt o 2 (by omega)).trans rfl, (World.ownsRow.cellAt o 3 (by omega)).trans rfl⟩
      have NA := Lib.hid na
      have NB := Lib.hid nb
      obtain ⟨j1, j2, m1, m2, m3⟩ := sm_pair JU.out JX.out SU.out.nrm SX.out.nrm RA.out RB.out (SU.out.or_in RA.out RB.out) (SX.out.and_in RA.out RB.out) (by have := NN.out; omega) (by have := NN.out; omega)
      have a1 := cAdd m1 m2 m3
      obtain ⟨d1, d2⟩ := fab_sm SU.out HA.out HB.out RA.out RB.out NA.out.1 NA.out.2 NB.out.1 NB.out.2
      have a2 := cAdd (sm_len d1 (n := 8) (by have := nrm_len NA.out.1 RA.out NA.out.2; have := NN.out; omega)) (sm_len d2 (n := 8) (by have := nrm_len NB.out.1 RB.out NB.out.2; have := NN.out; omega)) (by omega)
      rw [← len_two SU.out SX.out RA.out RB.out NA.out.1 NA.out.2 NB.out.1 NB.out.2] at a2
      unfold Ca at a1 a2
      replace KK := Lib.hid (KK.out.trans kr)
      clear d1 d2 m1 m2 m3 NA NB SU SX JU JX LU LX HU HX HA HB RA RB SA SB NN na nb own kr hb hg hgl X0 X1 X2 X3 hG
      generalize RS (lenI V + lenI X) = T at *
      generalize RS (lenI fa) = T1 at *
      generalize RS (lenI fb) = T2 at *
      generalize RS (lenI V) = T3 at *
      generalize RS (lenI X) = T4 at *
      have c0 := HF.out _ (Kp.refl [] wr)
      go_wp2_with fail
      go_region_held3 (fun w' => w'.cell? ⟨g, 0, none⟩ = some (.string T1) ∧ w'.cell? ⟨g, 1, none⟩ = some (.string T2))
        (first
          | exact ⟨c11.1, c11.2.1⟩
          | exact ⟨c0.1, c0.2.1⟩
          | go_keep)
        (first | (go_at_call 14; with_reducible refine (a2.out _).mono ?_; rintro e w11 ⟨rfl, k11⟩; have c11 := HF.out _ ((Kp.drew (Kp.refl [] wr)).trans k11)))
      replace k11 := (Kp.drew (Kp.refl [] wr)).trans k11
      clear c0 a2
      go_wp2_with fail
      go_region_held3 (fun w' => w'.cell? ⟨g, 2, none⟩ = some (.string T3) ∧ w'.cell? ⟨g, 3, none⟩ = some (.string T4))
        (first
          | exact ⟨c12.2.2.1, c12.2.2.2⟩
          | exact ⟨c11.2.2.1, c11.2.2.2⟩
          | go_keep)
        (first | (go_at_call 14; with_reducible refine (a1.out _).mono ?_; rintro e w12 ⟨rfl, k12⟩; have c12 := HF.out _ ((Kp.drew k11).trans k12)))
      replace KK := Lib.hid (KK.out.trans ((Kp.drew k11).trans k12))
      clear c11 c12 k11 k12 HF a1
      go_wp2_with fail
      with_reducible refine (qw.out _).mono ?_
      rintro r w99 ⟨rfl, k⟩
      clear qw
      go_wp2
      go_ret
      exact ⟨rfl, KK.out.trans k⟩

theorem tsets5 (p1 p2 : Option Addr) (c1 c2 : Nat) (a b : List Tx) (w : World) (sa : SlT w (.slice p1 a.length c1) a) (sb : SlT w (.slice p2 b.length c2) b) (za : ∀ i, i < a.length → (gL a i).1.size ≤ 9223372036854775807 ∧ (gL a i).2.size ≤ 9223372036854775807) (zb : ∀ i, i < b.length → (gL b i).1.size ≤ 9223372036854775807 ∧ (gL b i).2.size ≤ 9223372036854775807) :
    Calls Tryz.prog 3 #[.slice p1 a.length c1, .slice p2 b.length c2] w fun r w' => r = .returned (.bool true) ∧ Kp [] w w' := by
  by_cases h1 : (6 : Int) < (a.length : Int)
  · exact tsets_1 _ _ _ _ _ _ w h1
  by_cases h2 : (6 : Int) < (b.length : Int)
  · exact tsets_2 _ _ _ _ _ _ w h1 h2
  have q := tq_of p1 p2 c1 c2 a b w sa sb (by omega) (by omega) (fun e he => by
    rcases List.mem_append.1 he with h | h
    · obtain ⟨i, hi, rfl⟩ := List.getElem_of_mem h
      have := za i hi
      rwa [gL_eq hi] at this
    · obtain ⟨i, hi, rfl⟩ := List.getElem_of_mem h
      have := zb i hi
      rwa [gL_eq hi] at this)
  cases hB : (a ++ b).any bdB with
  | true => rw [hB] at q; exact tsets_3 _ _ _ _ _ _ w h1 h2 q
  | false =>
    rw [hB] at q
    have hh : ∀ e ∈ a ++ b, bdB e = false := fun e he => by
      cases hc : bdB e with
      | false => rfl
      | true => rw [List.any_eq_true.2 ⟨e, he, hc⟩] at hB; cases hB
    have ra := rg_of (l := a) (by omega) fun e he => hh e (List.mem_append.2 (.inl he))
    have rb := rg_of (l := b) (by omega) fun e he => hh e (List.mem_append.2 (.inr he))
    obtain ⟨A, rfl, hA, rA, nA⟩ := rg_iv ra
    obtain ⟨B, rfl, hB2, rB, nB⟩ := rg_iv rb
    have l1 := txI_len A
    have l2 := txI_len B
    exact tsets_4 _ _ _ _ _ _ A B (rt15 hA ra) (rt15 hB2 rb) rA rB (by omega) (by omega) w sa sb h1 h2 q
end Go.Proofs.YtiommpdbbpddpaaGreat
