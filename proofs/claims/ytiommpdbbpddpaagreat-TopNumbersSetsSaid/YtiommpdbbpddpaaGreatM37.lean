/- Texts Ik4, Ik5, Ik7: each says in its own first comment what it proves. -/
import Derived.Test.YtiommpdbbpddpaaGreatM36
import Derived.Test.YtiommpdbbpddpaaGreatM33
import Derived.Test.YtiommpdbbpddpaaGreatM12
import Derived.Test.YtiommpdbbpddpaaGreatM11
import Derived.Test.YtiommpdbbpddpaaGreatM31
import Derived.Test.YtiommpdbbpddpaaGreatM49
import Derived.Test.YtiommpdbbpddpaaGreatM34
import Derived.Test.YtiommpdbbpddpaaGreatM32
/- Short texts: wrong, or those of small numbers; what interval's steps give on them. -/
namespace Go.Proofs.YtiommpdbbpddpaaGreat
open Go.RowKit
open Go.Lib (nDigits itoa decDigits)

theorem sh_cases {a : ByteArray} (h : shB a = true) : spE a ≠ 0 ∨ ∃ q, a = RS q ∧ Sm 30 q := by
  unfold shB at h
  by_cases hs : spE a = 0
  · right
    obtain ⟨q, rfl, hq⟩ := RS_of_sp hs
    obtain ⟨e1, e2, _⟩ := sp_RS hq
    rw [e1, e2, Bool.and_eq_true, decide_eq_true_eq, decide_eq_true_eq] at h
    have n1 : nDigits q.num.natAbs ≤ 30 := by
      have : nDigits q.num.natAbs ≤ (S q.num).size := by
        by_cases hn : q.num < 0
        · have := (S_neg hn).2; omega
        · have := (S_nn (z := q.num) (by omega)).2; omega
      omega
    have n2 : nDigits q.den ≤ 30 := by
      have := (S_nn (z := (q.den : Int)) (by omega)).2
      rw [Int.natAbs_natCast] at this
      omega
    exact ⟨q, rfl, ⟨nd_len_lt n1 (by omega), nd_len_lt n2 (by omega)⟩⟩
  · exact .inl hs
theorem sh_size {a : ByteArray} (h : shB a = true) : a.size ≤ 100 := by
  unfold shB at h
  rw [Bool.and_eq_true, decide_eq_true_eq, decide_eq_true_eq] at h
  have := cut_size a
  omega
theorem sh_size9 {a : ByteArray} (h : shB a = true) : a.size ≤ 9223372036854775807 := Nat.le_trans (sh_size h) (by decide)
section
variable {j k : Nat} {q r : Rat}
theorem add_v (hq : Sm j q) (hr : Sm k r) (h : j + k < 1024) : qAddB (RS q) (RS r) = RS (q + r) ∧ qAddE (RS q) (RS r) = 0 := by
  have oq := hq.ok (by omega)
  have or := hr.ok (by omega)
  have hc := hq.sumOk hr h
  unfold SumOk at hc
  have a := qAdd_RS oq or
  rw [if_pos hc, if_pos hc] at a
  exact ⟨a.2, a.1⟩
theorem cmp_v (hq : Sm j q) (hr : Sm k r) (h : j + k ≤ 1024) : qCmV (RS q) (RS r) = cmR q r ∧ qCmE (RS q) (RS r) = 0 := by
  have oq := hq.ok (by omega)
  have or := hr.ok (by omega)
  have hc : Ok (q.num * (r.den : Int)) ∧ Ok (r.num * (q.den : Int)) := ⟨ok_pow (hq.nd hr) h, ok_pow (hq.dn hr) h⟩
  have a := qCompare_RS oq or
  rw [if_pos hc, if_pos hc, cmp_num] at a
  exact ⟨a.2, a.1⟩
theorem cmR_pos {q r : Rat} : 0 < cmR q r ↔ r < q := by
  unfold cmR
  by_cases h1 : q < r
  · rw [if_pos h1]; exact ⟨fun h => by omega, fun h => absurd h1 (Rat.not_lt.2 (Rat.le_of_lt h))⟩
  · rw [if_neg h1]
    by_cases h2 : q = r
    · rw [if_pos h2]; exact ⟨fun h => by omega, fun h => absurd (h2 ▸ h) Rat.lt_irrefl⟩
    · rw [if_neg h2]; exact ⟨fun _ => Rat.lt_of_le_of_ne (Rat.not_lt.1 h1) (fun e => h2 e.symm), fun _ => by omega⟩
theorem icE_v (hq : Sm j q) (hr : Sm k r) (h : j + k ≤ 1024) : icE (RS q) (RS r) = if r < q then 9 else 0 := by
  obtain ⟨h1, h2⟩ := cmp_v hq hr h
  unfold icE
  rw [h2, if_pos rfl, h1]
  by_cases h3 : r < q
  · rw [if_pos h3, if_pos (cmR_pos.2 h3)]
  · rw [if_neg h3, if_neg (fun h => h3 (cmR_pos.1 h))]
end
theorem icE_bad {lo hi : ByteArray} (h : spE lo ≠ 0 ∨ spE lo = 0 ∧ spE hi ≠ 0) : icE lo hi = (if spE lo = 0 then spE hi else spE lo) ∧ icE lo hi ≠ 0 := by
  have e : qCmE lo hi = if spE lo = 0 then spE hi else spE lo := by
    unfold qCmE
    rcases h with h | ⟨h, h2⟩
    · rw [if_neg h]; unfold kp; rw [if_neg h]
    · rw [if_pos h, h, kp_zero]; unfold kp; rw [if_neg h2]
  have e2 : qCmE lo hi ≠ 0 := by
    rw [e]
    rcases h with h | ⟨h, h2⟩
    · rw [if_neg h]; exact h
    · rw [if_pos h]; exact h2
  unfold icE
  rw [if_neg e2]
  exact ⟨e, e2⟩
/-- a short span: wrong, out of order, or that of two numbers -/
theorem ic_cases {lo hi : ByteArray} (h1 : shB lo = true) (h2 : shB hi = true) :
    (icE lo hi ≠ 0) ∨ (icE lo hi = 0 ∧ ∃ q r, lo = RS q ∧ hi = RS r ∧ Sm 30 q ∧ Sm 30 r ∧ q ≤ r) := by
  rcases sh_cases h1 with a | ⟨q, rfl, hq⟩
  · exact .inl (icE_bad (.inl a)).2
  · have oq := (sp_RS (hq.ok (by omega))).2.2
    rcases sh_cases h2 with b | ⟨r, rfl, hr⟩
    · exact .inl (icE_bad (.inr ⟨oq, b⟩)).2
    · rw [icE_v hq hr (by omega)]
      by_cases hlt : r < q
      · rw [if_pos hlt]; exact .inl (by omega)
      · rw [if_neg hlt]; exact .inr ⟨rfl, q, r, rfl, rfl, hq, hr, Rat.not_lt.1 hlt⟩

end Go.Proofs.YtiommpdbbpddpaaGreat

/- Reference of layer 3: Check, both, Order's users (Less, More, Common, In) on short texts. -/
namespace Go.Proofs.YtiommpdbbpddpaaGreat
open Go.RowKit
open Go.Lib (nDigits itoa decDigits)

set_option maxRecDepth 100000 in
set_option maxHeartbeats 4000000 in
theorem r3check_1 (lo hi : ByteArray) (e : Int) (w : World) (he : (e != 0) = true) (q : Hid (∀ W : World, Calls Tryz.prog 17 #[.string lo] W fun r w' => r = .returned (.int .i64 e) ∧ Kp [] W w')) :
    Calls Tryz.prog 7 #[.agg #[.string lo, .string hi]] w fun r w' => r = .returned (.int .i64 e) ∧ Kp [] w w' := by
  have s := SpB.made w lo hi
  have c0 := s.c0
  have c1 := s.c1
  have k0 : Kp [] w (w.alloc (.cells #[.string lo, .string hi] 26 (0, 0))) := (Kp.refl _ _).alloc _
  clear s
  go_enter Tryz.func7, Tryz.ntmps7
  go_wp2_with fail
  with_reducible refine (q.out _).mono ?_
  rintro r w1 ⟨rfl, k⟩
  replace k0 := k0.trans k
  clear k q c0 c1
  go_wp2
  go_ret
  exact ⟨rfl, k0⟩
set_option maxRecDepth 100000 in
set_option maxHeartbeats 4000000 in
theorem r3check_2 (lo hi : ByteArray) (e : Int) (w : World) (he : (e != 0) = true) (q : Hid (∀ W : World, Calls Tryz.prog 17 #[.string lo] W fun r w' => r = .returned (.int .i64 0) ∧ Kp [] W w')) (q2 : Hid (∀ W : World, Calls Tryz.prog 17 #[.string hi] W fun r w' => r = .returned (.int .i64 e) ∧ Kp [] W w')) :
    Calls Tryz.prog 7 #[.agg #[.string lo, .string hi]] w fun r w' => r = .returned (.int .i64 e) ∧ Kp [] w w' := by
  have s := SpB.made w lo hi
  have c0 := s.c0
  have k0 : Kp [] w (w.alloc (.cells #[.string lo, .string hi] 26 (0, 0))) := (Kp.refl _ _).alloc _
  go_enter Tryz.func7, Tryz.ntmps7
  go_wp2_with fail
  with_reducible refine (q.out _).mono ?_
  rintro r w1 ⟨rfl, k⟩
  have c1 := (s.kept k (by simp)).c1
  replace k0 := k0.trans k
  clear k q c0 s
  go_wp2_with fail
  with_reducible refine (q2.out _).mono ?_
  rintro r w2 ⟨rfl, k⟩
  replace k0 := k0.trans k
  clear k q2 c1
  go_wp2
  go_ret
  exact ⟨rfl, k0⟩
set_option maxRecDepth 100000 in
set_option maxHeartbeats 4000000 in
theorem r3check_3 (lo hi : ByteArray) (v : Int) (w : World) (q : Hid (∀ W : World, Calls Tryz.prog 17 #[.string lo] W fun r w' => r = .returned (.int .i64 0) ∧ Kp [] W w')) (q2 : Hid (∀ W : World, Calls Tryz.prog 17 #[.string hi] W fun r w' => r = .returned (.int .i64 0) ∧ Kp [] W w'))
    (q3 : Hid (∀ W : World, Calls Tryz.prog 18 #[.string lo, .string hi] W fun r w' => r = .returned (.int .i64 v) ∧ Kp [] W w')) :
    Calls Tryz.prog 7 #[.agg #[.string lo, .string hi]] w fun r w' => r = .returned (.int .i64 (if 0 < v then 9 else 0)) ∧ Kp [] w w' := by
  have s := SpB.made w lo hi
  have c0 := s.c0
  have k0 : Kp [] w (w.alloc (.cells #[.string lo, .string hi] 26 (0, 0))) := (Kp.refl _ _).alloc _
  by_cases hv : 0 < v
  · rw [if_pos hv]
    go_enter Tryz.func7, Tryz.ntmps7
    go_wp2_with fail
    with_reducible refine (q.out _).mono ?_
    rintro r w1 ⟨rfl, k⟩
    replace s := s.kept k (by simp)
    have c1 := s.c1
    replace k0 := k0.trans k
    clear k q c0
    go_wp2_with fail
    with_reducible refine (q2.out _).mono ?_
    rintro r w2 ⟨rfl, k⟩
    replace s := s.kept k (by simp)
    clear c1
    have c0 := s.c0
    have c1 := s.c1
    replace k0 := k0.trans k
    clear k q2 s
    go_wp2_with fail
    with_reducible refine (q3.out _).mono ?_
    rintro r w3 ⟨rfl, k⟩
    replace k0 := k0.trans k
    clear k q3 c0 c1
    go_wp2
    go_ret
    exact ⟨rfl, k0⟩
  · rw [if_neg hv]
    go_enter Tryz.func7, Tryz.ntmps7
    go_wp2_with fail
    with_reducible refine (q.out _).mono ?_
    rintro r w1 ⟨rfl, k⟩
    replace s := s.kept k (by simp)
    have c1 := s.c1
    replace k0 := k0.trans k
    clear k q c0
    go_wp2_with fail
    with_reducible refine (q2.out _).mono ?_
    rintro r w2 ⟨rfl, k⟩
    replace s := s.kept k (by simp)
    clear c1
    have c0 := s.c0
    have c1 := s.c1
    replace k0 := k0.trans k
    clear k q2 s
    go_wp2_with fail
    with_reducible refine (q3.out _).mono ?_
    rintro r w3 ⟨rfl, k⟩
    replace k0 := k0.trans k
    clear k q3 c0 c1
    go_wp2
    go_ret
    exact ⟨rfl, k0⟩

theorem r3check (lo hi : ByteArray) (w : World) (h1 : shB lo = true) (h2 : shB hi = true) :
    Calls Tryz.prog 7 #[.agg #[.string lo, .string hi]] w fun r w' => r = .returned (.int .i64 (icE lo hi)) ∧ Kp [] w w' := by
  have c1 : Hid (∀ W : World, Calls Tryz.prog 17 #[.string lo] W fun r w' => r = .returned (.int .i64 (spE lo)) ∧ Kp [] W w') := Lib.hid fun W => rCheck2_any lo W (sh_size9 h1)
  have c2 : Hid (∀ W : World, Calls Tryz.prog 17 #[.string hi] W fun r w' => r = .returned (.int .i64 (spE hi)) ∧ Kp [] W w') := Lib.hid fun W => rCheck2_any hi W (sh_size9 h2)
  rcases sh_cases h1 with a | ⟨q, rfl, hq⟩
  · have e := (icE_bad (hi := hi) (.inl a)).1
    rw [if_neg a] at e
    rw [e]
    exact r3check_1 lo hi _ w (by simp [a]) c1
  · have oq := (sp_RS (hq.ok (by omega))).2.2
    rw [oq] at c1
    rcases sh_cases h2 with b | ⟨r, rfl, hr⟩
    · have e := (icE_bad (.inr ⟨oq, b⟩)).1
      rw [if_pos oq] at e
      rw [e]
      exact r3check_2 _ hi _ w (by simp [b]) c1 c2
    · rw [(sp_RS (hr.ok (by omega))).2.2] at c2
      rw [icE_v hq hr (by omega)]
      have := r3check_3 (RS q) (RS r) (cmR q r) w c1 c2 (Lib.hid fun W => rorder2 hq hr (by omega) W)
      simp only [cmR_pos] at this
      exact this

end Go.Proofs.YtiommpdbbpddpaaGreat

/- Reference of layer 3: both, ended, Less, More, In, Add, Sub, Hull, Contains, Within, Middle: what their calls give is told by letters. -/
namespace Go.Proofs.YtiommpdbbpddpaaGreat
open Go.RowKit
open Go.Lib (nDigits itoa decDigits)

/-- a call that gives v in every world -/
def Ca (n : Nat) (args : Array Value) (v : Value) : Prop := Hid (∀ W : World, Calls Tryz.prog n args W fun r w' => r = .returned v ∧ Kp [] W w')















































































































































































































































































































































































































end Go.Proofs.YtiommpdbbpddpaaGreat
