/- Texts RCheck: each says in its own first comment what it proves. -/
import Derived.Test.YtiommpdbbpddpaaGreatM05
/- Walks over the reference's size and Check. -/
namespace Go.Proofs.YtiommpdbbpddpaaGreat
open Go.RowKit

theorem isNeg_first {s : ByteArray} (h : 0 < s.size) : isNeg s.data.toList = (s[0].toNat == 45) := by
  have h0 : s[0] = s.data.toList[0]'(by simpa using h) := rfl
  have h1 : ∀ (l : List UInt8) (hl : 0 < l.length), isNeg l = (l[0].toNat == 45) := by
    intro l hl
    cases l with
    | nil => simp at hl
    | cons c t =>
      simp only [isNeg, List.getElem_cons_zero]
      rw [Bool.eq_iff_iff]; simp
      exact ⟨fun e => by rw [e]; rfl, fun e => UInt8.toNat_inj.1 e⟩
  rw [h0]; exact h1 _ _
set_option maxHeartbeats 1000000 in
theorem rsize_any (s : ByteArray) (w : World) (hs : s.size ≤ 9223372036854775807) :
    Calls Tryz.prog 50 #[.string s] w fun e w' => e = .returned (.string (magB s)) ∧ w = w' := by
  by_cases h0 : 0 < s.size
  · have he : s.toList.isEmpty = false := by
      rw [Lib.toList_data]; cases hl : s.data.toList with
      | nil => rw [Lib.size_eq, hl] at h0; simp at h0
      | cons c t => rfl
    cases hn : isNeg s.data.toList with
    | true =>
      have hb : ((s[0].toNat : Int) == 45) = true := by
        have := isNeg_first h0; rw [hn] at this; exact beq_iff_eq.2 (by have := beq_iff_eq.1 this.symm; omega)
      have hm : Hid (magB s = s.extract 1 s.size) := by show magB s = _; unfold magB; rw [hn]; rfl
      clear hn
      go_enter Tryz.func50, Tryz.ntmps50
      go_wp2
      go_ret
      exact ⟨by rw [hm.out]; rfl, rfl⟩
    | false =>
      have hb : ((s[0].toNat : Int) == 45) = false := by
        have := isNeg_first h0; rw [hn] at this; exact beq_eq_false_iff_ne.2 (by have := beq_eq_false_iff_ne.1 this.symm; omega)
      have hm : Hid (magB s = s) := by show magB s = _; unfold magB; rw [hn]; rfl
      clear hn
      go_enter Tryz.func50, Tryz.ntmps50
      go_wp2
      go_ret
      exact ⟨by rw [hm.out]; rfl, rfl⟩
  · have hl : s.data.toList = [] := List.eq_nil_of_length_eq_zero (by rw [← Lib.size_eq]; omega)
    have he : s.toList.isEmpty = true := by rw [Lib.toList_data, hl]; rfl
    have hm : Hid (magB s = s) := by show magB s = _; unfold magB; rw [hl]; rfl
    clear hl
    go_enter Tryz.func50, Tryz.ntmps50
    go_wp2
    go_ret
    exact ⟨by rw [hm.out]; rfl, rfl⟩

theorem rsize_to (s d : ByteArray) (w : World) (hs : s.size ≤ 9223372036854775807) (h : Hid (magB s = d)) :
    Calls Tryz.prog 50 #[.string s] w fun e w' => e = .returned (.string d) ∧ w = w' := by
  rw [← h.out]; exact rsize_any s w hs

set_option maxRecDepth 100000 in
set_option maxHeartbeats 2000000 in
theorem rcheck_empty (s d : ByteArray) (w : World) (hs : s.size ≤ 9223372036854775807) (hm : Hid (magB s = d)) (he : d.toList.isEmpty = true) :
    Calls Tryz.prog 31 #[.string s] w fun e w' => e = .returned (.int .i64 3) ∧ w = w' := by
  go_enter Tryz.func31, Tryz.ntmps31
  go_wp2_with fail
  refine (rsize_to s d _ hs hm).mono ?_
  rintro e w' ⟨rfl, rfl⟩
  go_wp2
  go_ret
  exact ⟨rfl, rfl⟩
set_option maxRecDepth 100000 in
set_option maxHeartbeats 2000000 in
theorem rcheck_zero (s d : ByteArray) (w : World) (hs : s.size ≤ 9223372036854775807) (_hds : d.size ≤ s.size) (hm : Hid (magB s = d)) (h0 : 0 < d.size) (he : d.toList.isEmpty = false) (hb : ((d[0].toNat : Int) == 48) = true) (hl : 1 < d.size ∨ (d.size ≤ 1 ∧ 1 < s.size)) :
    Calls Tryz.prog 31 #[.string s] w fun e w' => e = .returned (.int .i64 3) ∧ w = w' := by
  rcases hl with hl | ⟨hl1, hl⟩
  all_goals
    go_enter Tryz.func31, Tryz.ntmps31
    go_wp2_with fail
    refine (rsize_to s d _ hs hm).mono ?_
    rintro e w' ⟨rfl, rfl⟩
    go_wp2
    go_ret
    exact ⟨rfl, rfl⟩
def lenErr (n : Nat) : Int := if n ≤ 1024 then 0 else 11
def digErr (d : ByteArray) : Int := if d.data.toList.all isDig then lenErr d.size else 3
set_option maxRecDepth 100000 in
set_option maxHeartbeats 2000000 in
theorem rcheck_loop (s d : ByteArray) (w : World) (hs : s.size ≤ 9223372036854775807) (hds : d.size ≤ s.size) (hm : Hid (magB s = d)) (h0 : 0 < d.size) (he : d.toList.isEmpty = false)
    (hc : ((d[0].toNat : Int) == 48) = false ∨ (((d[0].toNat : Int) == 48) = true ∧ d.size ≤ 1 ∧ s.size ≤ 1)) :
    Calls Tryz.prog 31 #[.string s] w fun e w' => e = .returned (.int .i64 (digErr d)) ∧ w = w' := by
  rcases hc with hb | ⟨hb, hl1, hl2⟩
  all_goals
    go_enter Tryz.func31, Tryz.ntmps31
    go_wp2_with fail
    refine (rsize_to s d _ hs hm).mono ?_
    rintro e w' ⟨rfl, rfl⟩
    go_wp2
    clear hb
    go_loop [4] (fun i => ∃ k : Nat, k ≤ d.size ∧ i = .int .i64 k ∧ (∀ j (hj : j < k) (hd : j < d.size), isDig d[j] = true)) (fun i => d.size - (intOf i).toNat)
    case atStart => exact ⟨0, Nat.zero_le _, rfl, fun j hj => by omega⟩
    case round =>
      obtain ⟨k, hk, rfl, hq⟩ := hrel
      have hq' := Lib.hid hq; clear hq
      by_cases hlt : k < d.size
      · cases hb : isDig d[k] with
        | true =>
          have hb1 := (isDig_iff _).1 hb
          have H := Lib.hid hb; clear hb
          obtain ⟨h1, h2⟩ := hb1
          go_wp2
          go_round
          case rel => exact ⟨k + 1, by omega, by go_num, fun j hj hd => by
            by_cases e : j = k
            · subst e; exact H.out
            · exact hq'.out j (by omega) hd⟩
          case measure => simp [intOf]; omega
        | false =>
          have hb1 : ¬ (48 ≤ d[k].toNat ∧ d[k].toNat ≤ 57) := fun h => by rw [(isDig_iff _).2 h] at hb; cases hb
          have hv : Hid (digErr d = 3) := by
            show digErr d = 3
            unfold digErr
            cases ha : d.data.toList.all isDig with
            | false => rfl
            | true =>
              have := (isDig_iff _).2 (dig_at ha hlt)
              rw [this] at hb; cases hb
          clear hb
          by_cases h48 : d[k].toNat < 48
          · clear hb1
            go_wp2
            go_ret
            exact ⟨by rw [hv.out]; rfl, rfl⟩
          · have h57 : 57 < d[k].toNat := by omega
            clear hb1
            go_wp2
            go_ret
            exact ⟨by rw [hv.out]; rfl, rfl⟩
      · obtain rfl : k = d.size := by omega
        have ha : d.data.toList.all isDig = true := all_of_none fun k hk => hq'.out k (by simpa using hk) (by simpa using hk)
        have hv : Hid (digErr d = lenErr d.size) := by show digErr d = _; unfold digErr; rw [ha]; rfl
        clear hq' ha
        by_cases h1024 : d.size ≤ 1024
        · have hv2 : Hid (lenErr d.size = 0) := if_pos h1024
          go_wp2
          go_ret
          exact ⟨by rw [hv.out, hv2.out]; rfl, rfl⟩
        · have hv2 : Hid (lenErr d.size = 11) := if_neg h1024
          have hg : 1024 < d.size := by omega
          go_wp2
          all_goals (go_ret; exact ⟨by rw [hv.out, hv2.out]; rfl, rfl⟩)

theorem rcheck_any (s : ByteArray) (w : World) (hs : s.size ≤ 9223372036854775807) :
    Calls Tryz.prog 31 #[.string s] w fun e w' => e = .returned (.int .i64 (chk s.data.toList)) ∧ w = w' := by
  have hle := magB_le s
  have hml := magB_list s
  obtain ⟨d, hd⟩ : ∃ d, magB s = d := ⟨_, rfl⟩
  rw [hd] at hle hml
  have hsz : (mag s.data.toList).length = d.size := by rw [Lib.size_eq, hml]
  cases hl : d.data.toList with
  | nil =>
    have hv : chk s.data.toList = 3 := by unfold chk; rw [canon_mag_nil (by rw [← hml, hl]), if_neg (by simp)]
    rw [hv]
    exact rcheck_empty s d w hs hd (by rw [Lib.toList_data, hl]; rfl)
  | cons c t =>
    have h0 : 0 < d.size := by rw [Lib.size_eq, hl]; simp
    have he : d.toList.isEmpty = false := by rw [Lib.toList_data, hl]; rfl
    have hc0 : d[0] = c := by
      have : d[0] = d.data.toList[0]'(by simpa using h0) := rfl
      rw [this]; simp [hl]
    have hdl : d.size = t.length + 1 := by rw [Lib.size_eq, hl]; rfl
    have hslen : s.data.toList.length = s.size := (Lib.size_eq s).symm
    have hm' : mag s.data.toList = c :: t := by rw [← hml]; exact hl
    by_cases h48 : c = 48
    · subst h48
      have hb : ((d[0].toNat : Int) == 48) = true := by rw [hc0]; rfl
      by_cases hlen : 1 < d.size ∨ (d.size ≤ 1 ∧ 1 < s.size)
      · have hv : chk s.data.toList = 3 := by
          unfold chk
          have hcan : canon s.data.toList = false := by
            cases ha : (mag s.data.toList).all isDig with
            | false => exact canon_bad ha
            | true =>
              rw [canon_zero ha hm']
              refine beq_eq_false_iff_ne.2 fun e => ?_
              have h1 : s.size = 1 := by rw [← hslen, e]; rfl
              omega
          rw [hcan, if_neg (by simp)]
        rw [hv]
        exact rcheck_zero s d w hs hle hd h0 he hb hlen
      · have hv : chk s.data.toList = digErr d := by
          have ht : t = [] := List.eq_nil_of_length_eq_zero (by omega)
          subst ht
          have hs1 : s.data.toList = [48] := by
            cases hn : isNeg s.data.toList with
            | true => have := mag_of_neg hn; rw [hm'] at this; rw [this] at hslen; simp at hslen; omega
            | false => rw [← mag_of_nn hn]; exact hm'
          unfold chk digErr
          rw [hs1, hl]
          rw [show d.size = 1 by omega]; rfl
        rw [hv]
        exact rcheck_loop s d w hs hle hd h0 he (Or.inr ⟨hb, by omega, by omega⟩)
    · have hb : ((d[0].toNat : Int) == 48) = false := by
        rw [hc0]; refine beq_eq_false_iff_ne.2 fun e => h48 (UInt8.toNat_inj.1 (by show c.toNat = 48; omega))
      have hv : chk s.data.toList = digErr d := by
        unfold chk digErr
        rw [hml]
        cases ha : (mag s.data.toList).all isDig with
        | false => rw [canon_bad ha]; rfl
        | true => rw [canon_head ha hm' (beq_false_of_ne h48), hsz]; rfl
      rw [hv]
      exact rcheck_loop s d w hs hle hd h0 he (Or.inl hb)
end Go.Proofs.YtiommpdbbpddpaaGreat
