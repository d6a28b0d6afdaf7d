/- Texts Ik4, Ik5, Ik7, Ik8, Ik10, Ik11: each says in its own first comment what it proves. -/
import Derived.Test.YtabepobcmpmkdaaGreatM73
import Derived.Test.YtabepobcmpmkdaaGreatM42
import Derived.Test.YtabepobcmpmkdaaGreatM46
import Derived.Test.YtabepobcmpmkdaaGreatM40
import Derived.Test.YtabepobcmpmkdaaGreatM44
import Derived.Test.YtabepobcmpmkdaaGreatM45
import Derived.Test.YtabepobcmpmkdaaGreatM48
import Derived.Deep.Cut
import Derived.Deep.CutRange
/- Short texts: wrong, or those of small numbers; what interval's steps give on them. -/
namespace Go.Proofs.YtabepobcmpmkdaaGreat
open Go.RowKit
open Go.Lib (nDigits itoa decDigits)

theorem sh_cases {a : ByteArray} (h : shB a = true) : spE a ≠ 0 ∨ ∃ q, a = RS q ∧ Sm 30 q := by
  unfold shB at h
  by_cases hs : spE a = 0
  · right
    obtain ⟨q, rfl, hq⟩ := RS_of_sp hs
    obtain ⟨e1, e2, _⟩ := sp_RS hq
    rw [e1, e2, Bool.and_eq_true, decide_eq_true_eq, decide_eq_true_eq] at h
    have n1 : nDigits q.num.natAbs ≤ 30 := by
      have : nDigits q.num.natAbs ≤ (S q.num).size := by
        by_cases hn : q.num < 0
        · have := (S_neg hn).2; omega
        · have := (S_nn (z := q.num) (by omega)).2; omega
      omega
    have n2 : nDigits q.den ≤ 30 := by
      have := (S_nn (z := (q.den : Int)) (by omega)).2
      rw [Int.natAbs_natCast] at this
      omega
    exact ⟨q, rfl, ⟨nd_len_lt n1 (by omega), nd_len_lt n2 (by omega)⟩⟩
  · exact .inl hs
theorem sh_size {a : ByteArray} (h : shB a = true) : a.size ≤ 100 := by
  unfold shB at h
  rw [Bool.and_eq_true, decide_eq_true_eq, decide_eq_true_eq] at h
  have := cut_size a
  omega
theorem sh_size9 {a : ByteArray} (h : shB a = true) : a.size ≤ 9223372036854775807 := Nat.le_trans (sh_size h) (by decide)
section
variable {j k : Nat} {q r : Rat}
theorem add_v (hq : Sm j q) (hr : Sm k r) (h : j + k < 1024) : qAddB (RS q) (RS r) = RS (q + r) ∧ qAddE (RS q) (RS r) = 0 := by
  have oq := hq.ok (by omega)
  have or := hr.ok (by omega)
  have hc := hq.sumOk hr h
  unfold SumOk at hc
  have a := qAdd_RS oq or
  rw [if_pos hc, if_pos hc] at a
  exact ⟨a.2, a.1⟩
theorem sub_v (hq : Sm j q) (hr : Sm k r) (h : j + k < 1024) : qSubB (RS q) (RS r) = RS (q - r) ∧ qSubE (RS q) (RS r) = 0 := by
  have oq := hq.ok (by omega)
  have or := hr.ok (by omega)
  have hc : (Ok (q.num * (r.den : Int)) ∧ Ok (r.num * (q.den : Int)) ∧ Ok (q.num * (r.den : Int) - r.num * (q.den : Int))) ∧ Ok ((q.den : Int) * (r.den : Int)) :=
    ⟨⟨ok_pow (hq.nd hr) (by omega), ok_pow (hq.dn hr) (by omega), ok_pow (subI_lt (hq.nd hr) (hq.dn hr)) h⟩, ok_pow (hq.dd hr) (by omega)⟩
  have a := qSub_RS oq or
  rw [if_pos hc, if_pos hc] at a
  exact ⟨a.2, a.1⟩
theorem mul_v (hq : Sm j q) (hr : Sm k r) (h : j + k ≤ 1024) : qMulB (RS q) (RS r) = RS (q * r) ∧ qMulE (RS q) (RS r) = 0 := by
  have oq := hq.ok (by omega)
  have or := hr.ok (by omega)
  have hc : Ok (q.num * r.num) ∧ Ok ((q.den : Int) * (r.den : Int)) := ⟨ok_pow (hq.nn hr) h, ok_pow (hq.dd hr) h⟩
  have a := qMul_RS oq or
  rw [if_pos hc, if_pos hc] at a
  exact ⟨a.2, a.1⟩
theorem cmp_v (hq : Sm j q) (hr : Sm k r) (h : j + k ≤ 1024) : qCmV (RS q) (RS r) = cmR q r ∧ qCmE (RS q) (RS r) = 0 := by
  have oq := hq.ok (by omega)
  have or := hr.ok (by omega)
  have hc : Ok (q.num * (r.den : Int)) ∧ Ok (r.num * (q.den : Int)) := ⟨ok_pow (hq.nd hr) h, ok_pow (hq.dn hr) h⟩
  have a := qCompare_RS oq or
  rw [if_pos hc, if_pos hc, cmp_num] at a
  exact ⟨a.2, a.1⟩
theorem cmR_pos {q r : Rat} : 0 < cmR q r ↔ r < q := by
  unfold cmR
  by_cases h1 : q < r
  · rw [if_pos h1]; exact ⟨fun h => by omega, fun h => absurd h1 (Rat.not_lt.2 (Rat.le_of_lt h))⟩
  · rw [if_neg h1]
    by_cases h2 : q = r
    · rw [if_pos h2]; exact ⟨fun h => by omega, fun h => absurd (h2 ▸ h) Rat.lt_irrefl⟩
    · rw [if_neg h2]; exact ⟨fun _ => Rat.lt_of_le_of_ne (Rat.not_lt.1 h1) (fun e => h2 e.symm), fun _ => by omega⟩
theorem icE_v (hq : Sm j q) (hr : Sm k r) (h : j + k ≤ 1024) : icE (RS q) (RS r) = if r < q then 9 else 0 := by
  obtain ⟨h1, h2⟩ := cmp_v hq hr h
  unfold icE
  rw [h2, if_pos rfl, h1]
  by_cases h3 : r < q
  · rw [if_pos h3, if_pos (cmR_pos.2 h3)]
  · rw [if_neg h3, if_neg (fun h => h3 (cmR_pos.1 h))]
end
theorem icE_bad {lo hi : ByteArray} (h : spE lo ≠ 0 ∨ spE lo = 0 ∧ spE hi ≠ 0) : icE lo hi = (if spE lo = 0 then spE hi else spE lo) ∧ icE lo hi ≠ 0 := by
  have e : qCmE lo hi = if spE lo = 0 then spE hi else spE lo := by
    unfold qCmE
    rcases h with h | ⟨h, h2⟩
    · rw [if_neg h]; unfold kp; rw [if_neg h]
    · rw [if_pos h, h, kp_zero]; unfold kp; rw [if_neg h2]
  have e2 : qCmE lo hi ≠ 0 := by
    rw [e]
    rcases h with h | ⟨h, h2⟩
    · rw [if_neg h]; exact h
    · rw [if_pos h]; exact h2
  unfold icE
  rw [if_neg e2]
  exact ⟨e, e2⟩
/-- a short span: wrong, out of order, or that of two numbers -/
theorem ic_cases {lo hi : ByteArray} (h1 : shB lo = true) (h2 : shB hi = true) :
    (icE lo hi ≠ 0) ∨ (icE lo hi = 0 ∧ ∃ q r, lo = RS q ∧ hi = RS r ∧ Sm 30 q ∧ Sm 30 r ∧ q ≤ r) := by
  rcases sh_cases h1 with a | ⟨q, rfl, hq⟩
  · exact .inl (icE_bad (.inl a)).2
  · have oq := (sp_RS (hq.ok (by omega))).2.2
    rcases sh_cases h2 with b | ⟨r, rfl, hr⟩
    · exact .inl (icE_bad (.inr ⟨oq, b⟩)).2
    · rw [icE_v hq hr (by omega)]
      by_cases hlt : r < q
      · rw [if_pos hlt]; exact .inl (by omega)
      · rw [if_neg hlt]; exact .inr ⟨rfl, q, r, rfl, rfl, hq, hr, Rat.not_lt.1 hlt⟩

end Go.Proofs.YtabepobcmpmkdaaGreat

/- Reference of layer 3: Check, both, Order's users (Less, More, Common, In) on short texts. -/
namespace Go.Proofs.YtabepobcmpmkdaaGreat
open Go.RowKit
open Go.Lib (nDigits itoa decDigits)

set_option maxRecDepth 100000 in
set_option maxHeartbeats 4000000 in
theorem r3check_1 (lo hi : ByteArray) (e : Int) (w : World) (he : (e != 0) = true) (q : Hid (∀ W : World, Calls Tryz.prog 42 #[.string lo] W fun r w' => r = .returned (.int .i64 e) ∧ Kp [] W w')) :
    Calls Tryz.prog 62 #[.agg #[.string lo, .string hi]] w fun r w' => r = .returned (.int .i64 e) ∧ Kp [] w w' := by
  have s := SpB.made w lo hi
  have c0 := s.c0
  have c1 := s.c1
  have k0 : Kp [] w (w.alloc (.cells #[.string lo, .string hi] 24 (0, 0))) := (Kp.refl _ _).alloc _
  clear s
  go_enter Tryz.func62, Tryz.ntmps62
  go_wp2_with fail
  with_reducible refine (q.out _).mono ?_
  rintro r w1 ⟨rfl, k⟩
  replace k0 := k0.trans k
  clear k q c0 c1
  go_wp2
  go_ret
  exact ⟨rfl, k0⟩
set_option maxRecDepth 100000 in
set_option maxHeartbeats 4000000 in
theorem r3check_2 (lo hi : ByteArray) (e : Int) (w : World) (he : (e != 0) = true) (q : Hid (∀ W : World, Calls Tryz.prog 42 #[.string lo] W fun r w' => r = .returned (.int .i64 0) ∧ Kp [] W w')) (q2 : Hid (∀ W : World, Calls Tryz.prog 42 #[.string hi] W fun r w' => r = .returned (.int .i64 e) ∧ Kp [] W w')) :
    Calls Tryz.prog 62 #[.agg #[.string lo, .string hi]] w fun r w' => r = .returned (.int .i64 e) ∧ Kp [] w w' := by
  have s := SpB.made w lo hi
  have c0 := s.c0
  have k0 : Kp [] w (w.alloc (.cells #[.string lo, .string hi] 24 (0, 0))) := (Kp.refl _ _).alloc _
  go_enter Tryz.func62, Tryz.ntmps62
  go_wp2_with fail
  with_reducible refine (q.out _).mono ?_
  rintro r w1 ⟨rfl, k⟩
  have c1 := (s.kept k (by simp)).c1
  replace k0 := k0.trans k
  clear k q c0 s
  go_wp2_with fail
  with_reducible refine (q2.out _).mono ?_
  rintro r w2 ⟨rfl, k⟩
  replace k0 := k0.trans k
  clear k q2 c1
  go_wp2
  go_ret
  exact ⟨rfl, k0⟩
set_option maxRecDepth 100000 in
set_option maxHeartbeats 4000000 in
theorem r3check_3 (lo hi : ByteArray) (v : Int) (w : World) (q : Hid (∀ W : World, Calls Tryz.prog 42 #[.string lo] W fun r w' => r = .returned (.int .i64 0) ∧ Kp [] W w')) (q2 : Hid (∀ W : World, Calls Tryz.prog 42 #[.string hi] W fun r w' => r = .returned (.int .i64 0) ∧ Kp [] W w'))
    (q3 : Hid (∀ W : World, Calls Tryz.prog 64 #[.string lo, .string hi] W fun r w' => r = .returned (.int .i64 v) ∧ Kp [] W w')) :
    Calls Tryz.prog 62 #[.agg #[.string lo, .string hi]] w fun r w' => r = .returned (.int .i64 (if 0 < v then 9 else 0)) ∧ Kp [] w w' := by
  have s := SpB.made w lo hi
  have c0 := s.c0
  have k0 : Kp [] w (w.alloc (.cells #[.string lo, .string hi] 24 (0, 0))) := (Kp.refl _ _).alloc _
  by_cases hv : 0 < v
  · rw [if_pos hv]
    go_enter Tryz.func62, Tryz.ntmps62
    go_wp2_with fail
    with_reducible refine (q.out _).mono ?_
    rintro r w1 ⟨rfl, k⟩
    replace s := s.kept k (by simp)
    have c1 := s.c1
    replace k0 := k0.trans k
    clear k q c0
    go_wp2_with fail
    with_reducible refine (q2.out _).mono ?_
    rintro r w2 ⟨rfl, k⟩
    replace s := s.kept k (by simp)
    clear c1
    have c0 := s.c0
    have c1 := s.c1
    replace k0 := k0.trans k
    clear k q2 s
    go_wp2_with fail
    with_reducible refine (q3.out _).mono ?_
    rintro r w3 ⟨rfl, k⟩
    replace k0 := k0.trans k
    clear k q3 c0 c1
    go_wp2
    go_ret
    exact ⟨rfl, k0⟩
  · rw [if_neg hv]
    go_enter Tryz.func62, Tryz.ntmps62
    go_wp2_with fail
    with_reducible refine (q.out _).mono ?_
    rintro r w1 ⟨rfl, k⟩
    replace s := s.kept k (by simp)
    have c1 := s.c1
    replace k0 := k0.trans k
    clear k q c0
    go_wp2_with fail
    with_reducible refine (q2.out _).mono ?_
    rintro r w2 ⟨rfl, k⟩
    replace s := s.kept k (by simp)
    clear c1
    have c0 := s.c0
    have c1 := s.c1
    replace k0 := k0.trans k
    clear k q2 s
    go_wp2_with fail
    with_reducible refine (q3.out _).mono ?_
    rintro r w3 ⟨rfl, k⟩
    replace k0 := k0.trans k
    clear k q3 c0 c1
    go_wp2
    go_ret
    exact ⟨rfl, k0⟩

theorem r3check (lo hi : ByteArray) (w : World) (h1 : shB lo = true) (h2 : shB hi = true) :
    Calls Tryz.prog 62 #[.agg #[.string lo, .string hi]] w fun r w' => r = .returned (.int .i64 (icE lo hi)) ∧ Kp [] w w' := by
  have c1 : Hid (∀ W : World, Calls Tryz.prog 42 #[.string lo] W fun r w' => r = .returned (.int .i64 (spE lo)) ∧ Kp [] W w') := Lib.hid fun W => rCheck2_any lo W (sh_size9 h1)
  have c2 : Hid (∀ W : World, Calls Tryz.prog 42 #[.string hi] W fun r w' => r = .returned (.int .i64 (spE hi)) ∧ Kp [] W w') := Lib.hid fun W => rCheck2_any hi W (sh_size9 h2)
  rcases sh_cases h1 with a | ⟨q, rfl, hq⟩
  · have e := (icE_bad (hi := hi) (.inl a)).1
    rw [if_neg a] at e
    rw [e]
    exact r3check_1 lo hi _ w (by simp [a]) c1
  · have oq := (sp_RS (hq.ok (by omega))).2.2
    rw [oq] at c1
    rcases sh_cases h2 with b | ⟨r, rfl, hr⟩
    · have e := (icE_bad (.inr ⟨oq, b⟩)).1
      rw [if_pos oq] at e
      rw [e]
      exact r3check_2 _ hi _ w (by simp [b]) c1 c2
    · rw [(sp_RS (hr.ok (by omega))).2.2] at c2
      rw [icE_v hq hr (by omega)]
      have := r3check_3 (RS q) (RS r) (cmR q r) w c1 c2 (Lib.hid fun W => rorder2 hq hr (by omega) W)
      simp only [cmR_pos] at this
      exact this

end Go.Proofs.YtabepobcmpmkdaaGreat

/- Reference of layer 3: both, ended, Less, More, In, Add, Sub, Hull, Contains, Within, Middle: what their calls give is told by letters. -/
namespace Go.Proofs.YtabepobcmpmkdaaGreat
open Go.RowKit
open Go.Lib (nDigits itoa decDigits)

/-- a call that gives v in every world -/
def Ca (n : Nat) (args : Array Value) (v : Value) : Prop := Hid (∀ W : World, Calls Tryz.prog n args W fun r w' => r = .returned v ∧ Kp [] W w')

set_option maxRecDepth 100000 in
set_option maxHeartbeats 4000000 in
theorem r3both (l1 h1 l2 h2 : ByteArray) (e f : Int) (w : World) (q1 : Ca 62 #[.agg #[.string l1, .string h1]] (.int .i64 e)) (q2 : Ca 62 #[.agg #[.string l2, .string h2]] (.int .i64 f)) :
    Calls Tryz.prog 53 #[.agg #[.string l1, .string h1], .agg #[.string l2, .string h2]] w fun r w' => r = .returned (.int .i64 (kp e f)) ∧ Kp [] w w' := by
  unfold Ca at q1 q2
  have sa := (SpB.made w l1 h1).alloc (.cells #[.string l2, .string h2] 24 (0, 0))
  have sb := SpB.made (w.alloc (.cells #[.string l1, .string h1] 24 (0, 0))) l2 h2
  rw [World.size_alloc] at sb
  have kk : Kp [] w ((w.alloc (.cells #[.string l1, .string h1] 24 (0, 0))).alloc (.cells #[.string l2, .string h2] 24 (0, 0))) := ((Kp.refl _ _).alloc _).alloc _
  have a0 := sa.c0
  have a1 := sa.c1
  by_cases he : e = 0
  · subst he
    rw [kp_zero]
    go_enter Tryz.func53, Tryz.ntmps53
    go_wp2_with fail
    with_reducible refine (q1.out _).mono ?_
    rintro r w1 ⟨rfl, k⟩
    replace sb := sb.kept k (by simp)
    replace kk := kk.trans k
    clear a0 a1 k q1 sa
    have b0 := sb.c0
    have b1 := sb.c1
    go_wp2_with fail
    with_reducible refine (q2.out _).mono ?_
    rintro r w2 ⟨rfl, k⟩
    replace kk := kk.trans k
    clear b0 b1 k q2 sb
    go_wp2
    go_ret
    exact ⟨rfl, kk⟩
  · have hb : (e != 0) = true := by simp [he]
    rw [show kp e f = e from if_neg he]
    clear he
    go_enter Tryz.func53, Tryz.ntmps53
    go_wp2_with fail
    with_reducible refine (q1.out _).mono ?_
    rintro r w1 ⟨rfl, k⟩
    replace kk := kk.trans k
    clear a0 a1 k q1 q2 sa sb
    go_wp2
    go_ret
    exact ⟨rfl, kk⟩


set_option maxRecDepth 100000 in
set_option maxHeartbeats 4000000 in
theorem r3ended (u v : ByteArray) (w : World) :
    Calls Tryz.prog 55 #[.string u, .int .i64 0, .string v, .int .i64 0] w fun r w' => r = .returned (.tuple #[.agg #[.string u, .string v], .int .i64 0]) ∧ Kp [] w w' := by
  have z := SpB.made w u v
  have d0 := z.c0
  have d1 := z.c1
  have kf : Kp [] w (w.alloc (.cells #[.string u, .string v] 24 (0, 0))) := (Kp.refl [] w).alloc _
  clear z
  go_enter Tryz.func55, Tryz.ntmps55
  go_wp2
  refine bodyPost_ret (v := .tuple #[.agg #[.string u, .string v], .int .i64 0]) (by simp [results, Tryz.results55, go_sem, d0, d1]) rfl ?_
  exact ⟨rfl, kf⟩


set_option maxRecDepth 100000 in
set_option maxHeartbeats 4000000 in
theorem r3Less (a b : ByteArray) (v : Int) (w : World) (q : Ca 64 #[.string a, .string b] (.int .i64 v)) :
    Calls Tryz.prog 71 #[.string a, .string b] w fun r w' => r = .returned (.string (if v ≤ 0 then a else b)) ∧ Kp [] w w' := by
  unfold Ca at q
  by_cases h : v ≤ 0
  · rw [if_pos h]
    go_enter Tryz.func71, Tryz.ntmps71
    go_wp2_with fail
    with_reducible refine (q.out _).mono ?_
    rintro r w1 ⟨rfl, k⟩
    clear q
    go_wp2
    go_ret
    exact ⟨rfl, k⟩
  · rw [if_neg h]
    go_enter Tryz.func71, Tryz.ntmps71
    go_wp2_with fail
    with_reducible refine (q.out _).mono ?_
    rintro r w1 ⟨rfl, k⟩
    clear q
    go_wp2
    go_ret
    exact ⟨rfl, k⟩


set_option maxRecDepth 100000 in
set_option maxHeartbeats 4000000 in
theorem r3More (a b : ByteArray) (v : Int) (w : World) (q : Ca 64 #[.string a, .string b] (.int .i64 v)) :
    Calls Tryz.prog 46 #[.string a, .string b] w fun r w' => r = .returned (.string (if 0 ≤ v then a else b)) ∧ Kp [] w w' := by
  unfold Ca at q
  by_cases h : 0 ≤ v
  · rw [if_pos h]
    go_enter Tryz.func46, Tryz.ntmps46
    go_wp2_with fail
    with_reducible refine (q.out _).mono ?_
    rintro r w1 ⟨rfl, k⟩
    clear q
    go_wp2
    go_ret
    exact ⟨rfl, k⟩
  · rw [if_neg h]
    go_enter Tryz.func46, Tryz.ntmps46
    go_wp2_with fail
    with_reducible refine (q.out _).mono ?_
    rintro r w1 ⟨rfl, k⟩
    clear q
    go_wp2
    go_ret
    exact ⟨rfl, k⟩


set_option maxRecDepth 100000 in
set_option maxHeartbeats 4000000 in
theorem r3In (lo hi x : ByteArray) (u v : Int) (w : World) (q1 : Ca 64 #[.string lo, .string x] (.int .i64 u)) (q2 : Ca 64 #[.string x, .string hi] (.int .i64 v)) :
    Calls Tryz.prog 76 #[.agg #[.string lo, .string hi], .string x] w fun r w' => r = .returned (.bool (decide (u ≤ 0) && decide (v ≤ 0))) ∧ Kp [] w w' := by
  unfold Ca at q1 q2
  have s := SpB.made w lo hi
  have kk : Kp [] w (w.alloc (.cells #[.string lo, .string hi] 24 (0, 0))) := (Kp.refl _ _).alloc _
  have a0 := s.c0
  have a1 := s.c1
  by_cases h1 : u ≤ 0
  · have hd : decide (u ≤ 0) = true := decide_eq_true h1
    rw [hd, Bool.true_and]
    generalize hr : decide (v ≤ 0) = r0
    have Hr := Lib.hid hr
    clear hr
    go_enter Tryz.func76, Tryz.ntmps76
    go_wp2_with fail
    with_reducible refine (q1.out _).mono ?_
    rintro r w1 ⟨rfl, k⟩
    replace s := s.kept k (by simp)
    replace kk := kk.trans k
    clear a0 a1 k q1
    have a0 := s.c0
    have a1 := s.c1
    clear s
    go_wp2_with fail
    with_reducible refine (q2.out _).mono ?_
    rintro r w2 ⟨rfl, k⟩
    replace kk := kk.trans k
    clear a0 a1 k q2
    go_wp2
    go_ret
    exact ⟨by rw [← Hr.out]; rfl, kk⟩
  · have hd : decide (u ≤ 0) = false := decide_eq_false h1
    rw [hd, Bool.false_and]
    go_enter Tryz.func76, Tryz.ntmps76
    go_wp2_with fail
    with_reducible refine (q1.out _).mono ?_
    rintro r w1 ⟨rfl, k⟩
    replace kk := kk.trans k
    clear a0 a1 k q1 q2 s
    go_wp2
    go_ret
    exact ⟨rfl, kk⟩


set_option maxRecDepth 100000 in
set_option maxHeartbeats 4000000 in
theorem r3Add_e (l1 h1 l2 h2 : ByteArray) (e : Int) (w : World) (he : (e != 0) = true) (qb : Ca 53 #[.agg #[.string l1, .string h1], .agg #[.string l2, .string h2]] (.int .i64 e)) :
    Calls Tryz.prog 14 #[.agg #[.string l1, .string h1], .agg #[.string l2, .string h2]] w fun r w' => r = .returned (.tuple #[.agg #[.string ⟨#[]⟩, .string ⟨#[]⟩], .int .i64 e]) ∧ Kp [] w w' := by
  unfold Ca at *
  have sa := ((SpB.made w l1 h1).alloc (.cells #[.string l2, .string h2] 24 (0, 0))).alloc (.cells #[.string ⟨#[]⟩, .string ⟨#[]⟩] 24 (0, 0))
  have sb := (SpB.made (w.alloc (.cells #[.string l1, .string h1] 24 (0, 0))) l2 h2).alloc (.cells #[.string ⟨#[]⟩, .string ⟨#[]⟩] 24 (0, 0))
  rw [World.size_alloc] at sb
  have sr := SpB.made ((w.alloc (.cells #[.string l1, .string h1] 24 (0, 0))).alloc (.cells #[.string l2, .string h2] 24 (0, 0))) ⟨#[]⟩ ⟨#[]⟩
  rw [World.size_alloc, World.size_alloc] at sr
  have kk : Kp [] w (((w.alloc (.cells #[.string l1, .string h1] 24 (0, 0))).alloc (.cells #[.string l2, .string h2] 24 (0, 0))).alloc (.cells #[.string ⟨#[]⟩, .string ⟨#[]⟩] 24 (0, 0))) := (((Kp.refl _ _).alloc _).alloc _).alloc _
  have a0 := sa.c0
  have a1 := sa.c1
  have b0 := sb.c0
  have b1 := sb.c1
  go_enter Tryz.func14, Tryz.ntmps14
  go_wp2_with fail
  with_reducible refine (qb.out _).mono ?_
  rintro r w1 ⟨rfl, k⟩
  replace sa := sa.kept k (by simp)
  replace sb := sb.kept k (by simp)
  replace sr := sr.kept k (by simp)
  replace kk := kk.trans k
  clear a0 a1 b0 b1 k qb
  have x0 := sr.c0
  have x1 := sr.c1
  have y0 := sr.f 0
  have y1 := sr.f 1
  have z := sr.set2 ⟨#[]⟩ ⟨#[]⟩
  have d0 := z.c0
  have d1 := z.c1
  have kf := kp_set2 kk (b := w.heap.size + 1 + 1) (by omega) (.string ⟨#[]⟩) (.string ⟨#[]⟩)
  clear sr z kk sa sb
  go_wp2
  refine bodyPost_ret (v := .tuple #[.agg #[.string ⟨#[]⟩, .string ⟨#[]⟩], .int .i64 e]) (by simp [results, Tryz.results14, go_sem, d0, d1]) rfl ?_
  exact ⟨rfl, kf⟩


set_option maxRecDepth 100000 in
set_option maxHeartbeats 4000000 in
theorem r3Add_0 (l1 h1 l2 h2 u v : ByteArray) (w : World) (qb : Ca 53 #[.agg #[.string l1, .string h1], .agg #[.string l2, .string h2]] (.int .i64 0)) (q1 : Ca 54 #[.string l1, .string l2] (.tuple #[.string u, .int .i64 0])) (q2 : Ca 54 #[.string h1, .string h2] (.tuple #[.string v, .int .i64 0])) :
    Calls Tryz.prog 14 #[.agg #[.string l1, .string h1], .agg #[.string l2, .string h2]] w fun r w' => r = .returned (.tuple #[.agg #[.string u, .string v], .int .i64 0]) ∧ Kp [] w w' := by
  have q3 : Ca 55 #[.string u, .int .i64 0, .string v, .int .i64 0] (.tuple #[.agg #[.string u, .string v], .int .i64 0]) := Lib.hid fun W => r3ended u v W
  unfold Ca at *
  have sa := ((SpB.made w l1 h1).alloc (.cells #[.string l2, .string h2] 24 (0, 0))).alloc (.cells #[.string ⟨#[]⟩, .string ⟨#[]⟩] 24 (0, 0))
  have sb := (SpB.made (w.alloc (.cells #[.string l1, .string h1] 24 (0, 0))) l2 h2).alloc (.cells #[.string ⟨#[]⟩, .string ⟨#[]⟩] 24 (0, 0))
  rw [World.size_alloc] at sb
  have sr := SpB.made ((w.alloc (.cells #[.string l1, .string h1] 24 (0, 0))).alloc (.cells #[.string l2, .string h2] 24 (0, 0))) ⟨#[]⟩ ⟨#[]⟩
  rw [World.size_alloc, World.size_alloc] at sr
  have kk : Kp [] w (((w.alloc (.cells #[.string l1, .string h1] 24 (0, 0))).alloc (.cells #[.string l2, .string h2] 24 (0, 0))).alloc (.cells #[.string ⟨#[]⟩, .string ⟨#[]⟩] 24 (0, 0))) := (((Kp.refl _ _).alloc _).alloc _).alloc _
  have a0 := sa.c0
  have a1 := sa.c1
  have b0 := sb.c0
  have b1 := sb.c1
  go_enter Tryz.func14, Tryz.ntmps14
  go_wp2_with fail
  with_reducible refine (qb.out _).mono ?_
  rintro r w1 ⟨rfl, k⟩
  replace sa := sa.kept k (by simp)
  replace sb := sb.kept k (by simp)
  replace sr := sr.kept k (by simp)
  replace kk := kk.trans k
  clear a0 a1 b0 b1 k qb
  have a0 := sa.c0
  have b0 := sb.c0
  go_wp2_with fail
  with_reducible refine (q1.out _).mono ?_
  rintro r w2 ⟨rfl, k⟩
  replace sa := sa.kept k (by simp)
  replace sb := sb.kept k (by simp)
  replace sr := sr.kept k (by simp)
  replace kk := kk.trans k
  clear a0 b0 k q1
  have a1 := sa.c1
  have b1 := sb.c1
  go_wp2_with fail
  with_reducible refine (q2.out _).mono ?_
  rintro r w3 ⟨rfl, k⟩
  replace sr := sr.kept k (by simp)
  replace kk := kk.trans k
  clear a1 b1 k q2
  go_wp2_with fail
  with_reducible refine (q3.out _).mono ?_
  rintro r w4 ⟨rfl, k⟩
  replace sr := sr.kept k (by simp)
  replace kk := kk.trans k
  clear k q3
  have x0 := sr.c0
  have x1 := sr.c1
  have y0 := sr.f 0
  have y1 := sr.f 1
  have z := sr.set2 u v
  have d0 := z.c0
  have d1 := z.c1
  have kf := kp_set2 kk (b := w.heap.size + 1 + 1) (by omega) (.string u) (.string v)
  clear sr z kk sa sb
  go_wp2
  refine bodyPost_ret (v := .tuple #[.agg #[.string u, .string v], .int .i64 0]) (by simp [results, Tryz.results14, go_sem, d0, d1]) rfl ?_
  exact ⟨rfl, kf⟩


set_option maxRecDepth 100000 in
set_option maxHeartbeats 4000000 in
theorem r3Sub_e (l1 h1 l2 h2 : ByteArray) (e : Int) (w : World) (he : (e != 0) = true) (qb : Ca 53 #[.agg #[.string l1, .string h1], .agg #[.string l2, .string h2]] (.int .i64 e)) :
    Calls Tryz.prog 16 #[.agg #[.string l1, .string h1], .agg #[.string l2, .string h2]] w fun r w' => r = .returned (.tuple #[.agg #[.string ⟨#[]⟩, .string ⟨#[]⟩], .int .i64 e]) ∧ Kp [] w w' := by
  unfold Ca at *
  have sa := ((SpB.made w l1 h1).alloc (.cells #[.string l2, .string h2] 24 (0, 0))).alloc (.cells #[.string ⟨#[]⟩, .string ⟨#[]⟩] 24 (0, 0))
  have sb := (SpB.made (w.alloc (.cells #[.string l1, .string h1] 24 (0, 0))) l2 h2).alloc (.cells #[.string ⟨#[]⟩, .string ⟨#[]⟩] 24 (0, 0))
  rw [World.size_alloc] at sb
  have sr := SpB.made ((w.alloc (.cells #[.string l1, .string h1] 24 (0, 0))).alloc (.cells #[.string l2, .string h2] 24 (0, 0))) ⟨#[]⟩ ⟨#[]⟩
  rw [World.size_alloc, World.size_alloc] at sr
  have kk : Kp [] w (((w.alloc (.cells #[.string l1, .string h1] 24 (0, 0))).alloc (.cells #[.string l2, .string h2] 24 (0, 0))).alloc (.cells #[.string ⟨#[]⟩, .string ⟨#[]⟩] 24 (0, 0))) := (((Kp.refl _ _).alloc _).alloc _).alloc _
  have a0 := sa.c0
  have a1 := sa.c1
  have b0 := sb.c0
  have b1 := sb.c1
  go_enter Tryz.func16, Tryz.ntmps16
  go_wp2_with fail
  with_reducible refine (qb.out _).mono ?_
  rintro r w1 ⟨rfl, k⟩
  replace sa := sa.kept k (by simp)
  replace sb := sb.kept k (by simp)
  replace sr := sr.kept k (by simp)
  replace kk := kk.trans k
  clear a0 a1 b0 b1 k qb
  have x0 := sr.c0
  have x1 := sr.c1
  have y0 := sr.f 0
  have y1 := sr.f 1
  have z := sr.set2 ⟨#[]⟩ ⟨#[]⟩
  have d0 := z.c0
  have d1 := z.c1
  have kf := kp_set2 kk (b := w.heap.size + 1 + 1) (by omega) (.string ⟨#[]⟩) (.string ⟨#[]⟩)
  clear sr z kk sa sb
  go_wp2
  refine bodyPost_ret (v := .tuple #[.agg #[.string ⟨#[]⟩, .string ⟨#[]⟩], .int .i64 e]) (by simp [results, Tryz.results16, go_sem, d0, d1]) rfl ?_
  exact ⟨rfl, kf⟩


set_option maxRecDepth 100000 in
set_option maxHeartbeats 4000000 in
theorem r3Sub_0 (l1 h1 l2 h2 u v : ByteArray) (w : World) (qb : Ca 53 #[.agg #[.string l1, .string h1], .agg #[.string l2, .string h2]] (.int .i64 0)) (q1 : Ca 58 #[.string l1, .string h2] (.tuple #[.string u, .int .i64 0])) (q2 : Ca 58 #[.string h1, .string l2] (.tuple #[.string v, .int .i64 0])) :
    Calls Tryz.prog 16 #[.agg #[.string l1, .string h1], .agg #[.string l2, .string h2]] w fun r w' => r = .returned (.tuple #[.agg #[.string u, .string v], .int .i64 0]) ∧ Kp [] w w' := by
  have q3 : Ca 55 #[.string u, .int .i64 0, .string v, .int .i64 0] (.tuple #[.agg #[.string u, .string v], .int .i64 0]) := Lib.hid fun W => r3ended u v W
  unfold Ca at *
  have sa := ((SpB.made w l1 h1).alloc (.cells #[.string l2, .string h2] 24 (0, 0))).alloc (.cells #[.string ⟨#[]⟩, .string ⟨#[]⟩] 24 (0, 0))
  have sb := (SpB.made (w.alloc (.cells #[.string l1, .string h1] 24 (0, 0))) l2 h2).alloc (.cells #[.string ⟨#[]⟩, .string ⟨#[]⟩] 24 (0, 0))
  rw [World.size_alloc] at sb
  have sr := SpB.made ((w.alloc (.cells #[.string l1, .string h1] 24 (0, 0))).alloc (.cells #[.string l2, .string h2] 24 (0, 0))) ⟨#[]⟩ ⟨#[]⟩
  rw [World.size_alloc, World.size_alloc] at sr
  have kk : Kp [] w (((w.alloc (.cells #[.string l1, .string h1] 24 (0, 0))).alloc (.cells #[.string l2, .string h2] 24 (0, 0))).alloc (.cells #[.string ⟨#[]⟩, .string ⟨#[]⟩] 24 (0, 0))) := (((Kp.refl _ _).alloc _).alloc _).alloc _
  have a0 := sa.c0
  have a1 := sa.c1
  have b0 := sb.c0
  have b1 := sb.c1
  go_enter Tryz.func16, Tryz.ntmps16
  go_wp2_with fail
  with_reducible refine (qb.out _).mono ?_
  rintro r w1 ⟨rfl, k⟩
  replace sa := sa.kept k (by simp)
  replace sb := sb.kept k (by simp)
  replace sr := sr.kept k (by simp)
  replace kk := kk.trans k
  clear a0 a1 b0 b1 k qb
  have a0 := sa.c0
  have b0 := sb.c1
  go_wp2_with fail
  with_reducible refine (q1.out _).mono ?_
  rintro r w2 ⟨rfl, k⟩
  replace sa := sa.kept k (by simp)
  replace sb := sb.kept k (by simp)
  replace sr := sr.kept k (by simp)
  replace kk := kk.trans k
  clear a0 b0 k q1
  have a1 := sa.c1
  have b1 := sb.c0
  go_wp2_with fail
  with_reducible refine (q2.out _).mono ?_
  rintro r w3 ⟨rfl, k⟩
  replace sr := sr.kept k (by simp)
  replace kk := kk.trans k
  clear a1 b1 k q2
  go_wp2_with fail
  with_reducible refine (q3.out _).mono ?_
  rintro r w4 ⟨rfl, k⟩
  replace sr := sr.kept k (by simp)
  replace kk := kk.trans k
  clear k q3
  have x0 := sr.c0
  have x1 := sr.c1
  have y0 := sr.f 0
  have y1 := sr.f 1
  have z := sr.set2 u v
  have d0 := z.c0
  have d1 := z.c1
  have kf := kp_set2 kk (b := w.heap.size + 1 + 1) (by omega) (.string u) (.string v)
  clear sr z kk sa sb
  go_wp2
  refine bodyPost_ret (v := .tuple #[.agg #[.string u, .string v], .int .i64 0]) (by simp [results, Tryz.results16, go_sem, d0, d1]) rfl ?_
  exact ⟨rfl, kf⟩


set_option maxRecDepth 100000 in
set_option maxHeartbeats 4000000 in
theorem r3Hull_e (l1 h1 l2 h2 : ByteArray) (e : Int) (w : World) (he : (e != 0) = true) (qb : Ca 53 #[.agg #[.string l1, .string h1], .agg #[.string l2, .string h2]] (.int .i64 e)) :
    Calls Tryz.prog 22 #[.agg #[.string l1, .string h1], .agg #[.string l2, .string h2]] w fun r w' => r = .returned (.tuple #[.agg #[.string ⟨#[]⟩, .string ⟨#[]⟩], .int .i64 e]) ∧ Kp [] w w' := by
  unfold Ca at *
  have sa := ((SpB.made w l1 h1).alloc (.cells #[.string l2, .string h2] 24 (0, 0))).alloc (.cells #[.string ⟨#[]⟩, .string ⟨#[]⟩] 24 (0, 0))
  have sb := (SpB.made (w.alloc (.cells #[.string l1, .string h1] 24 (0, 0))) l2 h2).alloc (.cells #[.string ⟨#[]⟩, .string ⟨#[]⟩] 24 (0, 0))
  rw [World.size_alloc] at sb
  have sr := SpB.made ((w.alloc (.cells #[.string l1, .string h1] 24 (0, 0))).alloc (.cells #[.string l2, .string h2] 24 (0, 0))) ⟨#[]⟩ ⟨#[]⟩
  rw [World.size_alloc, World.size_alloc] at sr
  have kk : Kp [] w (((w.alloc (.cells #[.string l1, .string h1] 24 (0, 0))).alloc (.cells #[.string l2, .string h2] 24 (0, 0))).alloc (.cells #[.string ⟨#[]⟩, .string ⟨#[]⟩] 24 (0, 0))) := (((Kp.refl _ _).alloc _).alloc _).alloc _
  have a0 := sa.c0
  have a1 := sa.c1
  have b0 := sb.c0
  have b1 := sb.c1
  go_enter Tryz.func22, Tryz.ntmps22
  go_wp2_with fail
  with_reducible refine (qb.out _).mono ?_
  rintro r w1 ⟨rfl, k⟩
  replace sa := sa.kept k (by simp)
  replace sb := sb.kept k (by simp)
  replace sr := sr.kept k (by simp)
  replace kk := kk.trans k
  clear a0 a1 b0 b1 k qb
  have x0 := sr.c0
  have x1 := sr.c1
  have y0 := sr.f 0
  have y1 := sr.f 1
  have z := sr.set2 ⟨#[]⟩ ⟨#[]⟩
  have d0 := z.c0
  have d1 := z.c1
  have kf := kp_set2 kk (b := w.heap.size + 1 + 1) (by omega) (.string ⟨#[]⟩) (.string ⟨#[]⟩)
  clear sr z kk sa sb
  go_wp2
  refine bodyPost_ret (v := .tuple #[.agg #[.string ⟨#[]⟩, .string ⟨#[]⟩], .int .i64 e]) (by simp [results, Tryz.results22, go_sem, d0, d1]) rfl ?_
  exact ⟨rfl, kf⟩


end Go.Proofs.YtabepobcmpmkdaaGreat

/- Reference of layer 3: Hull, Contains, Within, Common, Meet: what their calls give is told by letters. -/
namespace Go.Proofs.YtabepobcmpmkdaaGreat
open Go.RowKit
open Go.Lib (nDigits itoa decDigits)

attribute [local go_sem ↓] Go.wp_at_zero Go.wp_at_succ

set_option maxRecDepth 100000 in
set_option maxHeartbeats 4000000 in
theorem r3Hull_0 (l1 h1 l2 h2 u v : ByteArray) (w : World) (qb : Ca 53 #[.agg #[.string l1, .string h1], .agg #[.string l2, .string h2]] (.int .i64 0)) (q1 : Ca 71 #[.string l1, .string l2] (.string u)) (q2 : Ca 46 #[.string h1, .string h2] (.string v)) :
    Calls Tryz.prog 22 #[.agg #[.string l1, .string h1], .agg #[.string l2, .string h2]] w fun r w' => r = .returned (.tuple #[.agg #[.string u, .string v], .int .i64 0]) ∧ Kp [] w w' := by
  unfold Ca at *
  have sa := ((SpB.made w l1 h1).alloc (.cells #[.string l2, .string h2] 24 (0, 0))).alloc (.cells #[.string ⟨#[]⟩, .string ⟨#[]⟩] 24 (0, 0))
  have sb := (SpB.made (w.alloc (.cells #[.string l1, .string h1] 24 (0, 0))) l2 h2).alloc (.cells #[.string ⟨#[]⟩, .string ⟨#[]⟩] 24 (0, 0))
  rw [World.size_alloc] at sb
  have sr := SpB.made ((w.alloc (.cells #[.string l1, .string h1] 24 (0, 0))).alloc (.cells #[.string l2, .string h2] 24 (0, 0))) ⟨#[]⟩ ⟨#[]⟩
  rw [World.size_alloc, World.size_alloc] at sr
  have kk : Kp [] w (((w.alloc (.cells #[.string l1, .string h1] 24 (0, 0))).alloc (.cells #[.string l2, .string h2] 24 (0, 0))).alloc (.cells #[.string ⟨#[]⟩, .string ⟨#[]⟩] 24 (0, 0))) := (((Kp.refl _ _).alloc _).alloc _).alloc _
  have a0 := sa.c0
  have a1 := sa.c1
  have b0 := sb.c0
  have b1 := sb.c1
  go_enter Tryz.func22, Tryz.ntmps22
  go_wp2_with fail
  with_reducible refine (qb.out _).mono ?_
  rintro r w1 ⟨rfl, k⟩
  replace kk := kk.trans k
  replace sa := sa.kept k (by simp)
  replace sb := sb.kept k (by simp)
  replace sr := sr.kept k (by simp)
  clear a0 a1 b0 b1 k qb
  have a0 := sa.c0
  have a1 := sa.c1
  have b0 := sb.c0
  have b1 := sb.c1
  go_wp2_with fail
  go_region_held3 (fun w' => w'.cell? ⟨w.heap.size, 0, none⟩ = some (.string l1) ∧ w'.cell? ⟨w.heap.size, 1, none⟩ = some (.string h1) ∧ w'.cell? ⟨w.heap.size + 1, 0, none⟩ = some (.string l2) ∧ w'.cell? ⟨w.heap.size + 1, 1, none⟩ = some (.string h2))
    (first
      | exact ⟨a4.c0, a4.c1, b4.c0, b4.c1⟩
      | exact ⟨a3.c0, a3.c1, b3.c0, b3.c1⟩
      | exact ⟨sa.c0, sa.c1, sb.c0, sb.c1⟩
      | exact ⟨(SpB.far2 a4 (by omega) _ _).c0, (SpB.far2 a4 (by omega) _ _).c1, (SpB.far2 b4 (by omega) _ _).c0, (SpB.far2 b4 (by omega) _ _).c1⟩
      | exact ⟨(SpB.alloc a4 _).c0, (SpB.alloc a4 _).c1, (SpB.alloc b4 _).c0, (SpB.alloc b4 _).c1⟩
      | exact ⟨(SpB.alloc a3 _).c0, (SpB.alloc a3 _).c1, (SpB.alloc b3 _).c0, (SpB.alloc b3 _).c1⟩
      | exact ⟨(SpB.alloc sa _).c0, (SpB.alloc sa _).c1, (SpB.alloc sb _).c0, (SpB.alloc sb _).c1⟩
      | go_keep)
    (first
      | (go_at_call 71; with_reducible refine (q1.out _).mono ?_; rintro r w3 ⟨rfl, k3⟩; have a3 := SpB.kept (SpB.drew sa) k3 (by simp); have b3 := SpB.kept (SpB.drew sb) k3 (by simp); have s3 := SpB.kept (SpB.drew sr) k3 (by simp))
      | (go_at_call 46; with_reducible refine (q2.out _).mono ?_; rintro r w4 ⟨rfl, k4⟩; have a4 := SpB.kept a3 k4 (by simp); have b4 := SpB.kept b3 k4 (by simp); have s4 := SpB.kept s3 k4 (by simp); have x0 := s4.c0; have x1 := s4.c1; have y0 := s4.f 0; have y1 := s4.f 1))
  have z4 := s4.set2 u v
  have kf := kp_set2 ((kk.drew.trans k3).trans k4) (b := w.heap.size + 1 + 1) (by omega) (.string u) (.string v)
  have d0 := z4.c0
  have d1 := z4.c1
  clear x0 x1 y0 y1 s4 s3 k3 k4 a3 a4 b3 b4 z4 kk sa sb sr a0 a1 b0 b1
  go_wp2
  refine bodyPost_ret (v := .tuple #[.agg #[.string u, .string v], .int .i64 0]) (by simp [results, Tryz.results22, go_sem, d0, d1]) rfl ?_
  exact ⟨rfl, kf⟩


set_option maxRecDepth 100000 in
set_option maxHeartbeats 4000000 in
theorem r3Contains_1 (lo hi x : ByteArray) (e : Int) (he : (e != 0) = true) (w : World) (q1 : Ca 62 #[.agg #[.string lo, .string hi]] (.int .i64 e)) :
    Calls Tryz.prog 24 #[.agg #[.string lo, .string hi], .string x] w fun r w' => r = .returned (.tuple #[.bool false, .int .i64 e]) ∧ Kp [] w w' := by
  unfold Ca at *
  have s := SpB.made w lo hi
  have kk : Kp [] w (w.alloc (.cells #[.string lo, .string hi] 24 (0, 0))) := (Kp.refl _ _).alloc _
  have a0 := s.c0
  have a1 := s.c1
  go_enter Tryz.func24, Tryz.ntmps24
  go_wp2_with fail
  with_reducible refine (q1.out _).mono ?_
  rintro r w1 ⟨rfl, k⟩
  replace kk := kk.trans k
  replace s := s.kept k (by simp)
  clear a0 a1 k q1
  clear s
  go_wp2
  go_ret2
  exact ⟨rfl, kk⟩


set_option maxRecDepth 100000 in
set_option maxHeartbeats 4000000 in
theorem r3Contains_2 (lo hi x : ByteArray) (e : Int) (he : (e != 0) = true) (w : World) (q1 : Ca 62 #[.agg #[.string lo, .string hi]] (.int .i64 0)) (q2 : Ca 42 #[.string x] (.int .i64 e)) :
    Calls Tryz.prog 24 #[.agg #[.string lo, .string hi], .string x] w fun r w' => r = .returned (.tuple #[.bool false, .int .i64 e]) ∧ Kp [] w w' := by
  unfold Ca at *
  have s := SpB.made w lo hi
  have kk : Kp [] w (w.alloc (.cells #[.string lo, .string hi] 24 (0, 0))) := (Kp.refl _ _).alloc _
  have a0 := s.c0
  have a1 := s.c1
  go_enter Tryz.func24, Tryz.ntmps24
  go_wp2_with fail
  with_reducible refine (q1.out _).mono ?_
  rintro r w1 ⟨rfl, k⟩
  replace kk := kk.trans k
  replace s := s.kept k (by simp)
  clear a0 a1 k q1
  go_wp2_with fail
  with_reducible refine (q2.out _).mono ?_
  rintro r w2 ⟨rfl, k⟩
  replace kk := kk.trans k
  replace s := s.kept k (by simp)
  clear k q2
  clear s
  go_wp2
  go_ret2
  exact ⟨rfl, kk⟩


set_option maxRecDepth 100000 in
set_option maxHeartbeats 4000000 in
theorem r3Contains_3 (lo hi x : ByteArray) (b : Bool) (w : World) (q1 : Ca 62 #[.agg #[.string lo, .string hi]] (.int .i64 0)) (q2 : Ca 42 #[.string x] (.int .i64 0)) (q3 : Ca 76 #[.agg #[.string lo, .string hi], .string x] (.bool b)) :
    Calls Tryz.prog 24 #[.agg #[.string lo, .string hi], .string x] w fun r w' => r = .returned (.tuple #[.bool b, .int .i64 0]) ∧ Kp [] w w' := by
  unfold Ca at *
  have s := SpB.made w lo hi
  have kk : Kp [] w (w.alloc (.cells #[.string lo, .string hi] 24 (0, 0))) := (Kp.refl _ _).alloc _
  have a0 := s.c0
  have a1 := s.c1
  go_enter Tryz.func24, Tryz.ntmps24
  go_wp2_with fail
  with_reducible refine (q1.out _).mono ?_
  rintro r w1 ⟨rfl, k⟩
  replace kk := kk.trans k
  replace s := s.kept k (by simp)
  clear a0 a1 k q1
  go_wp2_with fail
  with_reducible refine (q2.out _).mono ?_
  rintro r w2 ⟨rfl, k⟩
  replace kk := kk.trans k
  replace s := s.kept k (by simp)
  clear k q2
  have a0 := s.c0
  have a1 := s.c1
  go_wp2_with fail
  with_reducible refine (q3.out _).mono ?_
  rintro r w3 ⟨rfl, k⟩
  replace kk := kk.trans k
  clear k q3 a0 a1
  clear s
  go_wp2
  go_ret2
  exact ⟨rfl, kk⟩


end Go.Proofs.YtabepobcmpmkdaaGreat

/- Reference of layer 3: Within over its calls. -/
namespace Go.Proofs.YtabepobcmpmkdaaGreat
open Go.RowKit
open Go.Lib (nDigits itoa decDigits)

set_option maxRecDepth 100000 in
set_option maxHeartbeats 4000000 in
theorem r3Within_e (l1 h1 l2 h2 : ByteArray) (e : Int) (w : World) (he : (e != 0) = true) (qb : Ca 53 #[.agg #[.string l1, .string h1], .agg #[.string l2, .string h2]] (.int .i64 e)) :
    Calls Tryz.prog 26 #[.agg #[.string l1, .string h1], .agg #[.string l2, .string h2]] w fun r w' => r = .returned (.tuple #[.bool false, .int .i64 e]) ∧ Kp [] w w' := by
  unfold Ca at *
  have sa := (SpB.made w l1 h1).alloc (.cells #[.string l2, .string h2] 24 (0, 0))
  have sb := SpB.made (w.alloc (.cells #[.string l1, .string h1] 24 (0, 0))) l2 h2
  rw [World.size_alloc] at sb
  have kk : Kp [] w ((w.alloc (.cells #[.string l1, .string h1] 24 (0, 0))).alloc (.cells #[.string l2, .string h2] 24 (0, 0))) := ((Kp.refl _ _).alloc _).alloc _
  have a0 := sa.c0
  have a1 := sa.c1
  have b0 := sb.c0
  have b1 := sb.c1
  go_enter Tryz.func26, Tryz.ntmps26
  go_wp2_with fail
  with_reducible refine (qb.out _).mono ?_
  rintro r w1 ⟨rfl, k⟩
  replace sa := sa.kept k (by simp)
  replace sb := sb.kept k (by simp)
  replace kk := kk.trans k
  clear a0 a1 b0 b1 k qb
  clear sa sb
  go_wp2
  go_ret2
  exact ⟨rfl, kk⟩


set_option maxRecDepth 100000 in
set_option maxHeartbeats 4000000 in
theorem r3Within_0 (l1 h1 l2 h2 : ByteArray) (u v : Bool) (w : World) (qb : Ca 53 #[.agg #[.string l1, .string h1], .agg #[.string l2, .string h2]] (.int .i64 0)) (q1 : Ca 76 #[.agg #[.string l2, .string h2], .string l1] (.bool u)) (q2 : Ca 76 #[.agg #[.string l2, .string h2], .string h1] (.bool v)) :
    Calls Tryz.prog 26 #[.agg #[.string l1, .string h1], .agg #[.string l2, .string h2]] w fun r w' => r = .returned (.tuple #[.bool (u && v), .int .i64 0]) ∧ Kp [] w w' := by
  unfold Ca at *
  have sa := (SpB.made w l1 h1).alloc (.cells #[.string l2, .string h2] 24 (0, 0))
  have sb := SpB.made (w.alloc (.cells #[.string l1, .string h1] 24 (0, 0))) l2 h2
  rw [World.size_alloc] at sb
  have kk : Kp [] w ((w.alloc (.cells #[.string l1, .string h1] 24 (0, 0))).alloc (.cells #[.string l2, .string h2] 24 (0, 0))) := ((Kp.refl _ _).alloc _).alloc _
  have a0 := sa.c0
  have a1 := sa.c1
  have b0 := sb.c0
  have b1 := sb.c1
  cases u with
  | false =>
    rw [Bool.false_and]
    go_enter Tryz.func26, Tryz.ntmps26
    go_wp2_with fail
    with_reducible refine (qb.out _).mono ?_
    rintro r w1 ⟨rfl, k⟩
    replace sa := sa.kept k (by simp)
    replace sb := sb.kept k (by simp)
    replace kk := kk.trans k
    clear a0 a1 b0 b1 k qb
    have a0 := sa.c0
    have b0 := sb.c0
    have b1 := sb.c1
    go_wp2_with fail
    with_reducible refine (q1.out _).mono ?_
    rintro r w2 ⟨rfl, k⟩
    replace kk := kk.trans k
    clear a0 b0 b1 k q1 q2 sa sb
    go_wp2
    go_ret2
    exact ⟨rfl, kk⟩
  | true =>
    rw [Bool.true_and]
    go_enter Tryz.func26, Tryz.ntmps26
    go_wp2_with fail
    with_reducible refine (qb.out _).mono ?_
    rintro r w1 ⟨rfl, k⟩
    replace sa := sa.kept k (by simp)
    replace sb := sb.kept k (by simp)
    replace kk := kk.trans k
    clear a0 a1 b0 b1 k qb
    have a0 := sa.c0
    have b0 := sb.c0
    have b1 := sb.c1
    go_wp2_with fail
    with_reducible refine (q1.out _).mono ?_
    rintro r w2 ⟨rfl, k⟩
    replace sa := sa.kept k (by simp)
    replace sb := sb.kept k (by simp)
    replace kk := kk.trans k
    clear a0 b0 b1 k q1
    have a1 := sa.c1
    have b0 := sb.c0
    have b1 := sb.c1
    go_wp2_with fail
    with_reducible refine (q2.out _).mono ?_
    rintro r w3 ⟨rfl, k⟩
    replace kk := kk.trans k
    clear a1 b0 b1 k q2 sa sb
    go_wp2
    go_ret2
    exact ⟨rfl, kk⟩


end Go.Proofs.YtabepobcmpmkdaaGreat

/- Reference of layer 3: Scale over its calls. -/
namespace Go.Proofs.YtabepobcmpmkdaaGreat
open Go.RowKit
open Go.Lib (nDigits itoa decDigits)

set_option maxRecDepth 100000 in
set_option maxHeartbeats 4000000 in
theorem r3Scale_1 (lo hi x : ByteArray) (e : Int) (he : (e != 0) = true) (w : World) (q1 : Ca 62 #[.agg #[.string lo, .string hi]] (.int .i64 e)) :
    Calls Tryz.prog 18 #[.agg #[.string lo, .string hi], .string x] w fun r w' => r = .returned (.tuple #[.agg #[.string ⟨#[]⟩, .string ⟨#[]⟩], .int .i64 e]) ∧ Kp [] w w' := by
  unfold Ca at *
  have sa := (SpB.made w lo hi).alloc (.cells #[.string ⟨#[]⟩, .string ⟨#[]⟩] 24 (0, 0))
  have sr := SpB.made (w.alloc (.cells #[.string lo, .string hi] 24 (0, 0))) ⟨#[]⟩ ⟨#[]⟩
  rw [World.size_alloc] at sr
  have kk : Kp [] w ((w.alloc (.cells #[.string lo, .string hi] 24 (0, 0))).alloc (.cells #[.string ⟨#[]⟩, .string ⟨#[]⟩] 24 (0, 0))) := ((Kp.refl _ _).alloc _).alloc _
  have a0 := sa.c0
  have a1 := sa.c1
  go_enter Tryz.func18, Tryz.ntmps18
  go_wp2_with fail
  with_reducible refine (q1.out _).mono ?_
  rintro r w1 ⟨rfl, k⟩
  replace sa := sa.kept k (by simp)
  replace sr := sr.kept k (by simp)
  replace kk := kk.trans k
  clear a0 a1 k q1
  have x0 := sr.c0
  have x1 := sr.c1
  have y0 := sr.f 0
  have y1 := sr.f 1
  have z := sr.set2 ⟨#[]⟩ ⟨#[]⟩
  have d0 := z.c0
  have d1 := z.c1
  have kf := kp_set2 kk (b := w.heap.size + 1) (by omega) (.string ⟨#[]⟩) (.string ⟨#[]⟩)
  clear sr z kk sa
  go_wp2
  refine bodyPost_ret (v := .tuple #[.agg #[.string ⟨#[]⟩, .string ⟨#[]⟩], .int .i64 e]) (by simp [results, Tryz.results18, go_sem, d0, d1]) rfl ?_
  exact ⟨rfl, kf⟩


set_option maxRecDepth 100000 in
set_option maxHeartbeats 4000000 in
theorem r3Scale_2 (lo hi x : ByteArray) (e : Int) (he : (e != 0) = true) (w : World) (q1 : Ca 62 #[.agg #[.string lo, .string hi]] (.int .i64 0)) (q2 : Ca 42 #[.string x] (.int .i64 e)) :
    Calls Tryz.prog 18 #[.agg #[.string lo, .string hi], .string x] w fun r w' => r = .returned (.tuple #[.agg #[.string ⟨#[]⟩, .string ⟨#[]⟩], .int .i64 e]) ∧ Kp [] w w' := by
  unfold Ca at *
  have sa := (SpB.made w lo hi).alloc (.cells #[.string ⟨#[]⟩, .string ⟨#[]⟩] 24 (0, 0))
  have sr := SpB.made (w.alloc (.cells #[.string lo, .string hi] 24 (0, 0))) ⟨#[]⟩ ⟨#[]⟩
  rw [World.size_alloc] at sr
  have kk : Kp [] w ((w.alloc (.cells #[.string lo, .string hi] 24 (0, 0))).alloc (.cells #[.string ⟨#[]⟩, .string ⟨#[]⟩] 24 (0, 0))) := ((Kp.refl _ _).alloc _).alloc _
  have a0 := sa.c0
  have a1 := sa.c1
  go_enter Tryz.func18, Tryz.ntmps18
  go_wp2_with fail
  with_reducible refine (q1.out _).mono ?_
  rintro r w1 ⟨rfl, k⟩
  replace sa := sa.kept k (by simp)
  replace sr := sr.kept k (by simp)
  replace kk := kk.trans k
  clear a0 a1 k q1
  go_wp2_with fail
  with_reducible refine (q2.out _).mono ?_
  rintro r w2 ⟨rfl, k⟩
  replace sa := sa.kept k (by simp)
  replace sr := sr.kept k (by simp)
  replace kk := kk.trans k
  clear  k q2
  have x0 := sr.c0
  have x1 := sr.c1
  have y0 := sr.f 0
  have y1 := sr.f 1
  have z := sr.set2 ⟨#[]⟩ ⟨#[]⟩
  have d0 := z.c0
  have d1 := z.c1
  have kf := kp_set2 kk (b := w.heap.size + 1) (by omega) (.string ⟨#[]⟩) (.string ⟨#[]⟩)
  clear sr z kk sa
  go_wp2
  refine bodyPost_ret (v := .tuple #[.agg #[.string ⟨#[]⟩, .string ⟨#[]⟩], .int .i64 e]) (by simp [results, Tryz.results18, go_sem, d0, d1]) rfl ?_
  exact ⟨rfl, kf⟩


set_option maxRecDepth 100000 in
set_option maxHeartbeats 4000000 in
theorem r3Scale_neg (lo hi x : ByteArray) (u v : ByteArray) (s : Int) (w : World) (q1 : Ca 62 #[.agg #[.string lo, .string hi]] (.int .i64 0)) (q2 : Ca 42 #[.string x] (.int .i64 0)) (q3 : Ca 63 #[.string lo, .string x] (.tuple #[.string u, .int .i64 0])) (q4 : Ca 63 #[.string hi, .string x] (.tuple #[.string v, .int .i64 0])) (q5 : Ca 64 #[.string x, .string ⟨#[48]⟩] (.int .i64 s)) (hs : s < 0) :
    Calls Tryz.prog 18 #[.agg #[.string lo, .string hi], .string x] w fun r w' => r = .returned (.tuple #[.agg #[.string v, .string u], .int .i64 0]) ∧ Kp [] w w' := by
  have q6 : Hid (∀ W : World, Calls Tryz.prog 55 #[.string v, .int .i64 0, .string u, .int .i64 0] W fun r w' => r = .returned (.tuple #[.agg #[.string v, .string u], .int .i64 0]) ∧ Kp [] W w') := Lib.hid fun W => r3ended v u W
  unfold Ca at *
  have sa := (SpB.made w lo hi).alloc (.cells #[.string ⟨#[]⟩, .string ⟨#[]⟩] 24 (0, 0))
  have sr := SpB.made (w.alloc (.cells #[.string lo, .string hi] 24 (0, 0))) ⟨#[]⟩ ⟨#[]⟩
  rw [World.size_alloc] at sr
  have kk : Kp [] w ((w.alloc (.cells #[.string lo, .string hi] 24 (0, 0))).alloc (.cells #[.string ⟨#[]⟩, .string ⟨#[]⟩] 24 (0, 0))) := ((Kp.refl _ _).alloc _).alloc _
  have a0 := sa.c0
  have a1 := sa.c1
  go_enter Tryz.func18, Tryz.ntmps18
  go_wp2_with fail
  with_reducible refine (q1.out _).mono ?_
  rintro r w1 ⟨rfl, k⟩
  replace sa := sa.kept k (by simp)
  replace sr := sr.kept k (by simp)
  replace kk := kk.trans k
  clear a0 a1 k q1
  go_wp2_with fail
  with_reducible refine (q2.out _).mono ?_
  rintro r w2 ⟨rfl, k⟩
  replace sa := sa.kept k (by simp)
  replace sr := sr.kept k (by simp)
  replace kk := kk.trans k
  clear  k q2
  have a0 := sa.c0
  go_wp2_with fail
  with_reducible refine (q3.out _).mono ?_
  rintro r w3 ⟨rfl, k⟩
  replace sa := sa.kept k (by simp)
  replace sr := sr.kept k (by simp)
  replace kk := kk.trans k
  clear a0 k q3
  have a1 := sa.c1
  go_wp2_with fail
  with_reducible refine (q4.out _).mono ?_
  rintro r w4 ⟨rfl, k⟩
  replace sa := sa.kept k (by simp)
  replace sr := sr.kept k (by simp)
  replace kk := kk.trans k
  clear a1 k q4
  go_wp2_with fail
  with_reducible refine (q5.out _).mono ?_
  rintro r w5 ⟨rfl, k⟩
  replace sa := sa.kept k (by simp)
  replace sr := sr.kept k (by simp)
  replace kk := kk.trans k
  clear  k q5
  go_wp2_with fail
  with_reducible refine (q6.out _).mono ?_
  rintro r w6 ⟨rfl, k⟩
  replace sa := sa.kept k (by simp)
  replace sr := sr.kept k (by simp)
  replace kk := kk.trans k
  clear  k q6
  have x0 := sr.c0
  have x1 := sr.c1
  have y0 := sr.f 0
  have y1 := sr.f 1
  have z := sr.set2 v u
  have d0 := z.c0
  have d1 := z.c1
  have kf := kp_set2 kk (b := w.heap.size + 1) (by omega) (.string v) (.string u)
  clear sr z kk sa
  go_wp2
  refine bodyPost_ret (v := .tuple #[.agg #[.string v, .string u], .int .i64 0]) (by simp [results, Tryz.results18, go_sem, d0, d1]) rfl ?_
  exact ⟨rfl, kf⟩


set_option maxRecDepth 100000 in
set_option maxHeartbeats 4000000 in
theorem r3Scale_pos (lo hi x : ByteArray) (u v : ByteArray) (s : Int) (w : World) (q1 : Ca 62 #[.agg #[.string lo, .string hi]] (.int .i64 0)) (q2 : Ca 42 #[.string x] (.int .i64 0)) (q3 : Ca 63 #[.string lo, .string x] (.tuple #[.string u, .int .i64 0])) (q4 : Ca 63 #[.string hi, .string x] (.tuple #[.string v, .int .i64 0])) (q5 : Ca 64 #[.string x, .string ⟨#[48]⟩] (.int .i64 s)) (hs : ¬ s < 0) :
    Calls Tryz.prog 18 #[.agg #[.string lo, .string hi], .string x] w fun r w' => r = .returned (.tuple #[.agg #[.string u, .string v], .int .i64 0]) ∧ Kp [] w w' := by
  have q6 : Hid (∀ W : World, Calls Tryz.prog 55 #[.string u, .int .i64 0, .string v, .int .i64 0] W fun r w' => r = .returned (.tuple #[.agg #[.string u, .string v], .int .i64 0]) ∧ Kp [] W w') := Lib.hid fun W => r3ended u v W
  unfold Ca at *
  have sa := (SpB.made w lo hi).alloc (.cells #[.string ⟨#[]⟩, .string ⟨#[]⟩] 24 (0, 0))
  have sr := SpB.made (w.alloc (.cells #[.string lo, .string hi] 24 (0, 0))) ⟨#[]⟩ ⟨#[]⟩
  rw [World.size_alloc] at sr
  have kk : Kp [] w ((w.alloc (.cells #[.string lo, .string hi] 24 (0, 0))).alloc (.cells #[.string ⟨#[]⟩, .string ⟨#[]⟩] 24 (0, 0))) := ((Kp.refl _ _).alloc _).alloc _
  have a0 := sa.c0
  have a1 := sa.c1
  go_enter Tryz.func18, Tryz.ntmps18
  go_wp2_with fail
  with_reducible refine (q1.out _).mono ?_
  rintro r w1 ⟨rfl, k⟩
  replace sa := sa.kept k (by simp)
  replace sr := sr.kept k (by simp)
  replace kk := kk.trans k
  clear a0 a1 k q1
  go_wp2_with fail
  with_reducible refine (q2.out _).mono ?_
  rintro r w2 ⟨rfl, k⟩
  replace sa := sa.kept k (by simp)
  replace sr := sr.kept k (by simp)
  replace kk := kk.trans k
  clear  k q2
  have a0 := sa.c0
  go_wp2_with fail
  with_reducible refine (q3.out _).mono ?_
  rintro r w3 ⟨rfl, k⟩
  replace sa := sa.kept k (by simp)
  replace sr := sr.kept k (by simp)
  replace kk := kk.trans k
  clear a0 k q3
  have a1 := sa.c1
  go_wp2_with fail
  with_reducible refine (q4.out _).mono ?_
  rintro r w4 ⟨rfl, k⟩
  replace sa := sa.kept k (by simp)
  replace sr := sr.kept k (by simp)
  replace kk := kk.trans k
  clear a1 k q4
  go_wp2_with fail
  with_reducible refine (q5.out _).mono ?_
  rintro r w5 ⟨rfl, k⟩
  replace sa := sa.kept k (by simp)
  replace sr := sr.kept k (by simp)
  replace kk := kk.trans k
  clear  k q5
  go_wp2_with fail
  with_reducible refine (q6.out _).mono ?_
  rintro r w6 ⟨rfl, k⟩
  replace sa := sa.kept k (by simp)
  replace sr := sr.kept k (by simp)
  replace kk := kk.trans k
  clear  k q6
  have x0 := sr.c0
  have x1 := sr.c1
  have y0 := sr.f 0
  have y1 := sr.f 1
  have z := sr.set2 u v
  have d0 := z.c0
  have d1 := z.c1
  have kf := kp_set2 kk (b := w.heap.size + 1) (by omega) (.string u) (.string v)
  clear sr z kk sa
  go_wp2
  refine bodyPost_ret (v := .tuple #[.agg #[.string u, .string v], .int .i64 0]) (by simp [results, Tryz.results18, go_sem, d0, d1]) rfl ?_
  exact ⟨rfl, kf⟩


end Go.Proofs.YtabepobcmpmkdaaGreat
