/- The reference of package grades: place, and Parse, of any text. -/
import Derived.Test.YthifdgddegpbjaaDoorG14
import Derived.Test.YthifdgddegpbjaaDoorG3
namespace Go.Proofs.YthifdgddegpbjaaDoor
open Go.RowKit

/-! the mathematics -/
def accD (t : List UInt8) : Nat := t.foldl (fun a c => 10 * a + (c.toNat - 48)) 0
theorem accD_snoc (t : List UInt8) (c : UInt8) : accD (t ++ [c]) = 10 * accD t + (c.toNat - 48) := by simp [accD]
theorem numOf_acc : ∀ {t : List UInt8}, 1 ≤ t.length → t.length ≤ 3 → (∀ x ∈ t, dgB x = true) → (2 ≤ t.length → (t.getD 0 0).toNat ≠ 48) → numOf t = some (accD t)
  | [a], _, _, h, _ => by rw [num1, if_pos (h a (by simp))]; simp [accD]
  | [a, b], _, _, h, hz => by
    have h1 := h a (by simp); have h2 := h b (by simp)
    have h3 : a.toNat ≠ 48 := hz (by simp)
    rw [num2, h1, h2, if_pos (by simp [h3])]; simp [accD]
  | [a, b, c], _, _, h, hz => by
    have h1 := h a (by simp); have h2 := h b (by simp); have h4 := h c (by simp)
    have h3 : a.toNat ≠ 48 := hz (by simp)
    rw [num3, h1, h2, h4, if_pos (by simp [h3])]; simp [accD]
theorem numOf_len {t : List UInt8} {n : Nat} (h : numOf t = some n) : 1 ≤ t.length ∧ t.length ≤ 3 := by
  match t, h with
  | [a], _ => simp
  | [a, b], _ => simp
  | [a, b, c], _ => simp
theorem numOf_dig : ∀ {t : List UInt8} {n : Nat}, numOf t = some n → (∀ x ∈ t, dgB x = true) ∧ (2 ≤ t.length → (t.getD 0 0).toNat ≠ 48)
  | [a], n, h => by
    rw [num1] at h
    split at h
    · rename_i ha
      exact ⟨by simpa using ha, fun h => by simp at h⟩
    · cases h
  | [a, b], n, h => by
    rw [num2] at h
    split at h
    · rename_i ha
      simp only [Bool.and_eq_true, decide_eq_true_eq] at ha
      exact ⟨by simpa using ⟨ha.1.1, ha.1.2⟩, fun _ => ha.2⟩
    · cases h
  | [a, b, c], n, h => by
    rw [num3] at h
    split at h
    · rename_i ha
      simp only [Bool.and_eq_true, decide_eq_true_eq] at ha
      exact ⟨by simpa using ⟨ha.1.1.1, ha.1.1.2, ha.1.2⟩, fun _ => ha.2⟩
    · cases h
  | [], n, h => by cases h
  | a :: b :: c :: d :: t, n, h => by simp [numOf] at h
theorem ib_drop (l : List UInt8) (b : UInt8) (k : Nat) (hk : k < l.length) : Lib.indexByte (l.drop k) b = if l[k] == b then 0 else if Lib.indexByte (l.drop (k + 1)) b == -1 then -1 else Lib.indexByte (l.drop (k + 1)) b + 1 := by
  rw [List.drop_eq_getElem_cons hk]
  rfl
set_option maxRecDepth 100000 in
set_option maxHeartbeats 4000000 in
theorem rplace (x : ByteArray) (b : UInt8) (hx : x.size ≤ 100) (w : World) : Calls Tryd.prog 39 #[.string x, .int .u8 (b.toNat : Int)] w fun r w' => r = .returned (.int .i64 (Lib.indexByte x.data.toList b)) ∧ w = w' := by
  have HI : Hid (∀ k (hk : k < x.size), -1 ≤ Lib.indexByte (x.data.toList.drop (k + 1)) b ∧ Lib.indexByte (x.data.toList.drop k) b = if x[k] == b then 0 else if Lib.indexByte (x.data.toList.drop (k + 1)) b == -1 then -1 else Lib.indexByte (x.data.toList.drop (k + 1)) b + 1) := Lib.hid fun k hk => by
    have := ib_drop x.data.toList b k (by simpa using hk)
    refine ⟨Lib.indexByte_ge _ _, ?_⟩
    rw [this]
    rfl
  have HE : Hid (Lib.indexByte (x.data.toList.drop x.size) b = -1) := Lib.hid (by rw [List.drop_of_length_le (by simp)]; rfl)
  have H0 : Hid (Lib.indexByte x.data.toList b = Lib.indexByte (x.data.toList.drop 0) b) := Lib.hid (by rw [List.drop_zero])
  generalize Lib.indexByte x.data.toList b = R at *
  generalize hf : (fun k => Lib.indexByte (x.data.toList.drop k) b) = f
  have HI : Hid (∀ k (hk : k < x.size), -1 ≤ f (k + 1) ∧ f k = if x[k] == b then 0 else if f (k + 1) == -1 then -1 else f (k + 1) + 1) := by rw [← hf]; exact HI
  have HE : Hid (f x.size = -1) := by rw [← hf]; exact HE
  have H0 : Hid (R = f 0) := by rw [← hf]; exact H0
  clear hf
  go_enter Tryd.func39, Tryd.ntmps39
  go_wp2_with fail
  go_loopg [5] x.size (fun gk s5 wr => ∃ k : Nat, s5 = .int .i64 k ∧ k + gk = x.size ∧ Hid (R = if f k == -1 then -1 else f k + (k : Int)) ∧ w = wr)
  case atStart => exact ⟨0, rfl, by omega, by
    show R = _
    rw [H0.out]
    by_cases e : f 0 = -1
    · rw [if_pos (beq_iff_eq.2 e), e]
    · rw [if_neg (by simpa using e)]; simp, rfl⟩
  case round =>
    obtain ⟨k, rfl, hk, hR, rfl⟩ := hrel
    by_cases hlt : k < x.size
    · obtain ⟨hge, hi⟩ := HI.out k hlt
      have hlt' : (k : Int) < (x.size : Int) := by omega
      have hk0 : (0 : Int) ≤ (k : Int) := by omega
      have Hk := Lib.hid hk
      have hk100 : (k : Int) ≤ 100 := by omega
      by_cases he : x[k] = b
      · have hx : ((x[k].toNat : Int) == (b.toNat : Int)) = true := by rw [he]; exact beq_self_eq_true _
        rw [if_pos (beq_iff_eq.2 he)] at hi
        have hE : Hid (R = (k : Int)) := by show R = _; rw [hR.out, hi]; simp
        clear hk hi hR HI HE H0 he
        go_wp2
        go_ret
        exact ⟨by rw [hE.out]; rfl, rfl⟩
      · have hx : ((x[k].toNat : Int) == (b.toNat : Int)) = false := by
          refine beq_eq_false_iff_ne.2 fun e => he ?_
          exact UInt8.toNat_inj.1 (by omega)
        rw [if_neg (by simpa using he)] at hi
        have hE : Hid (R = if f (k + 1) == -1 then -1 else f (k + 1) + ((k + 1 : Nat) : Int)) := by
          show R = _
          rw [hR.out, hi]
          by_cases e : f (k + 1) = -1
          · rw [e]; rfl
          · have e1 : (f (k + 1) == -1) = false := by simpa using e
            have e2 : (f (k + 1) + 1 == -1) = false := by simpa using (by omega : ¬ f (k + 1) + 1 = -1)
            simp only [e1, e2, Bool.false_eq_true, if_false]
            omega
        clear hi hR he hk
        go_wp2
        have hk := Hk.out
        go_roundg (gk - 1)
        case measure => omega
        case rel => exact ⟨k + 1, by go_num, by omega, hE, rfl⟩
    · obtain rfl : k = x.size := by omega
      have hE : Hid (R = -1) := by show R = _; rw [hR.out, HE.out]; rfl
      clear hlt hk hR HI HE H0
      go_wp2
      go_ret
      exact ⟨by rw [hE.out]; rfl, rfl⟩
end Go.Proofs.YthifdgddegpbjaaDoor
