/- Walks over whole.Check: which texts are canonical integers, and which are too long. -/
import Derived.Test.YtbhngccjacdlfaaPrefix
import Derived.Test.YtbhngccjacdlfaaWord
namespace Go.Proofs.Ytbhngccjacdlfaa
open Go.RowKit

/-- the error of a text that is read as an integer -/
def chk (l : List UInt8) : Int := if canon l then (if (mag l).length ≤ 1024 then 0 else 11) else 3

theorem canon_nil : canon [] = false := rfl
theorem canon_mag_nil {l : List UInt8} (h : mag l = []) : canon l = false := by unfold canon canonM; rw [h]; rfl
theorem canon_bad {l : List UInt8} (h : (mag l).all isDig = false) : canon l = false := by unfold canon canonM; rw [h]; simp
theorem canon_head {l t : List UInt8} {c : UInt8} (ha : (mag l).all isDig = true) (h : mag l = c :: t) (hc : (c == 48) = false) : canon l = true := by
  unfold canon canonM; rw [ha, h]; simp at hc; simp [hc]
theorem canon_zero {l t : List UInt8} (ha : (mag l).all isDig = true) (h : mag l = 48 :: t) : canon l = (l == [48]) := by
  cases hn : isNeg l with
  | true =>
    have := mag_of_neg hn
    have e : (l == [48]) = false := by rw [this]; simp
    rw [e]; unfold canon canonM; rw [hn, h]
    cases t with
    | nil => simp
    | cons a b => simp
  | false =>
    have := mag_of_nn hn
    rw [h] at this; subst this
    unfold canon canonM; rw [hn, ha, h]
    cases t with
    | nil => simp
    | cons a b => simp
theorem size_mag (s : ByteArray) : (magB s).size = (mag s.data.toList).length := by rw [Lib.size_eq, magB_list]
theorem magB_le (s : ByteArray) : (magB s).size ≤ s.size := by
  rw [size_mag, Lib.size_eq]
  cases s.data.toList with
  | nil => simp [mag]
  | cons c t => simp only [mag]; split <;> simp
theorem all_of_none {l : List UInt8} (h : ∀ k (hk : k < l.length), isDig l[k] = true) : l.all isDig = true := by
  rw [List.all_eq_true]; intro x hx
  obtain ⟨k, hk, rfl⟩ := List.getElem_of_mem hx
  exact h k hk

set_option maxRecDepth 100000 in
set_option maxHeartbeats 2000000 in
theorem check_any (s : ByteArray) (w : World) (hs : s.size ≤ 9223372036854775807) :
    Calls Try.prog 37 #[.string s] w fun e w' => e = .returned (.int .i64 (chk s.data.toList)) ∧ w = w' := by
  have hle := magB_le s
  go_enter Try.func37, Try.ntmps37
  go_wp2_with fail
  refine (trimPrefix_any s _ hs).mono ?_
  rintro e w' ⟨rfl, rfl⟩
  have hl := Lib.hid (magB_list s)
  generalize magB s = d at *
  go_wp2
  go_loop [9] (fun i => ∃ k : Nat, k ≤ d.size ∧ i = .int .i64 k ∧ (∀ j (hj : j < k) (hd : j < d.size), isDig d[j] = true)) (fun i => d.size - (intOf i).toNat)
  case atStart => exact ⟨0, Nat.zero_le _, rfl, fun j hj => by omega⟩
  case round =>
    obtain ⟨k, hk, rfl, hq⟩ := hrel
    have hq' := Lib.hid hq; clear hq
    by_cases hlt : k < d.size
    · cases hb : isDig d[k] with
      | true =>
        have hb1 := (isDig_iff _).1 hb
        have H := Lib.hid hb; clear hb
        obtain ⟨h1, h2⟩ := hb1
        go_wp2
        go_round
        case rel => exact ⟨k + 1, by omega, by go_num, fun j hj hd => by
          by_cases e : j = k
          · subst e; exact H.out
          · exact hq'.out j (by omega) hd⟩
        case measure => simp [intOf]; omega
      | false =>
        have hb1 : ¬ (48 ≤ d[k].toNat ∧ d[k].toNat ≤ 57) := fun h => by rw [(isDig_iff _).2 h] at hb; cases hb
        have hv : Hid (chk s.data.toList = 3) := by
          show chk _ = 3
          unfold chk
          rw [canon_bad, if_neg (by simp)]
          rw [← hl.out]
          cases ha : d.data.toList.all isDig with
          | false => rfl
          | true =>
            have := (isDig_iff _).2 (dig_at ha hlt)
            rw [this] at hb; cases hb
        clear hb
        by_cases h48 : d[k].toNat < 48
        · clear hb1
          go_wp2
          go_ret
          exact ⟨by rw [hv.out]; rfl, rfl⟩
        · have h57 : 57 < d[k].toNat := by omega
          clear hb1
          go_wp2
          go_ret
          exact ⟨by rw [hv.out]; rfl, rfl⟩
    · obtain rfl : k = d.size := by omega
      have ha : d.data.toList.all isDig = true := all_of_none fun k hk => hq'.out k (by simpa using hk) (by simpa using hk)
      clear hq'
      cases hd : d.data.toList with
      | nil =>
        have hv : Hid (chk s.data.toList = 3) := by
          show chk _ = 3
          unfold chk; rw [canon_mag_nil (by rw [← hl.out, hd]), if_neg (by simp)]
        have he : d.toList.isEmpty = true := by rw [Lib.toList_data, hd]; rfl
        clear ha hd
        go_wp2
        go_ret
        exact ⟨by rw [hv.out]; rfl, rfl⟩
      | cons c t =>
        have hpos : 0 < d.size := by rw [Lib.size_eq, hd]; simp
        have hc : d[0] = c := by
          have : d[0] = d.data.toList[0]'(by simpa using hpos) := rfl
          rw [this]; simp [hd]
        have he : d.toList.isEmpty = false := by rw [Lib.toList_data, hd]; rfl
        have ha' : (mag s.data.toList).all isDig = true := by rw [← hl.out]; exact ha
        have hm' : mag s.data.toList = c :: t := by rw [← hl.out]; exact hd
        have hsz : (mag s.data.toList).length = d.size := by rw [Lib.size_eq, hl.out]
        have hcn : (d[0].toNat : Int) = (c.toNat : Int) := by rw [hc]
        cases h48 : (c == 48) with
        | false =>
          have hb : ((d[0].toNat : Int) == 48) = false := by
            rw [hcn]; refine beq_eq_false_iff_ne.2 fun e => ?_
            have e' : c.toNat = 48 := by omega
            have : c = 48 := UInt8.toNat_inj.1 e'
            rw [this] at h48; simp at h48
          have hcan := canon_head ha' hm' h48
          by_cases h1024 : d.size ≤ 1024
          · have hv : Hid (chk s.data.toList = 0) := by
              show chk _ = 0
              unfold chk; rw [hcan, hsz, if_pos rfl, if_pos h1024]
            have hg : decide (1024 < (d.size : Int)) = false := decide_eq_false (by omega)
            clear ha hd ha' hm' hsz hcn h48 hcan hc
            go_wp2
            go_ret
            exact ⟨by rw [hv.out]; rfl, rfl⟩
          · have hv : Hid (chk s.data.toList = 11) := by
              show chk _ = 11
              unfold chk; rw [hcan, hsz, if_pos rfl, if_neg h1024]
            have hg : decide (1024 < (d.size : Int)) = true := decide_eq_true (by omega)
            clear ha hd ha' hm' hsz hcn h48 hcan hc
            go_wp2
            go_ret
            exact ⟨by rw [hv.out]; rfl, rfl⟩
        | true =>
          obtain rfl : c = 48 := by simpa using h48
          have hb : ((d[0].toNat : Int) == 48) = true := by rw [hcn]; rfl
          have hcan := canon_zero ha' hm'
          have hss : (s.toList == [48]) = (s.data.toList == [48]) := by rw [Lib.toList_data]
          cases h0 : (s.data.toList == [48]) with
          | true =>
            have hs0 : (s.toList == [48]) = true := by rw [hss, h0]
            have h1024 : d.size ≤ 1024 := by
              have e : s.data.toList = [48] := by simpa using h0
              rw [← hsz, e]; decide
            have hv : Hid (chk s.data.toList = 0) := by
              show chk _ = 0
              unfold chk; rw [hcan, h0, hsz, if_pos rfl, if_pos h1024]
            have hg : decide (1024 < (d.size : Int)) = false := decide_eq_false (by omega)
            clear ha hd ha' hm' hsz hcn h48 hcan hc hss h0
            go_wp2
            go_ret
            exact ⟨by rw [hv.out]; rfl, rfl⟩
          | false =>
            have hs0 : (s.toList == [48]) = false := by rw [hss, h0]
            have hv : Hid (chk s.data.toList = 3) := by
              show chk _ = 3
              unfold chk; rw [hcan, h0, if_neg (by simp)]
            clear ha hd ha' hm' hsz hcn h48 hcan hc hss h0
            go_wp2
            go_ret
            exact ⟨by rw [hv.out]; rfl, rfl⟩
end Go.Proofs.Ytbhngccjacdlfaa
