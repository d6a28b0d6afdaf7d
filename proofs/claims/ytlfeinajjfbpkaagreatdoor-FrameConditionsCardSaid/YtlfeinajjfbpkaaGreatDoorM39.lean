/- Texts Uyr: each says in its own first comment what it proves. -/
import Derived.Test.YtlfeinajjfbpkaaGreatDoorM29
/- Frames: read, of any words. -/
namespace Go.Proofs.YtlfeinajjfbpkaaGreatDoor
open Go.RowKit

/-- the frame that words tell -/
def rdV : List ByteArray → FrT
  | [] => ⟨9, false, 0, 0, []⟩
  | [a] => ⟨chV a, false, 0, 0, []⟩
  | a :: b :: l => if (b.toList == ([100, 105, 115, 99] : List UInt8)) = true then (match l with
      | [] => ⟨chV a, true, 0, 0, []⟩
      | e :: l => ⟨chV a, true, atV (spV e).1, (spV e).2, l.map spV⟩) else ⟨chV a, false, atV (spV b).1, (spV b).2, l.map spV⟩
theorem cutV_size (s p : ByteArray) : (cutV s p).size ≤ s.size := by
  have h : (cutV s p).size = (Lib.trimSuffix s.data.toList p.data.toList).length := rfl
  have h2 : s.size = s.data.toList.length := by rw [Array.length_toList]; rfl
  rw [h, h2]
  unfold Lib.trimSuffix
  split
  · rw [List.length_take]; omega
  · exact Nat.le_refl _
theorem spV_size (s : ByteArray) : (spV s).1.size ≤ s.size := by
  unfold spV
  split
  · exact cutV_size _ _
  · split
    · exact cutV_size _ _
    · exact Nat.le_refl _
theorem fread {w0 : World} (ws : List ByteArray) (h0 : ws ≠ []) (hl : ws.length ≤ 5000) (hz : ∀ s ∈ ws, s.size ≤ 1000000) (bw : Nat) (w : World) (gl : Gf w0 w) (hw : WdS w bw ws) : Calls Tryz.prog 71 #[.slice (some ⟨bw, 0, none⟩) ws.length ws.length] w fun r W' =>
    (∃ dp dc, r = .returned (.agg #[.int .i64 (rdV ws).k, .bool (rdV ws).d, .int .i64 (rdV ws).t, .int .i64 (rdV ws).m, .slice dp (rdV ws).ds.length dc]) ∧ DatN w W' (.slice dp (rdV ws).ds.length dc) (rdV ws).ds ∧ (rdV ws).ds.length ≤ dc) ∧ Kb w W' := by
  have none_ : ∀ {W' : World} {r : Ending} {f : FrT}, f.ds = [] → r = .returned (.agg #[.int .i64 f.k, .bool f.d, .int .i64 f.t, .int .i64 f.m, .slice none 0 0]) → ∃ dp dc, r = .returned (.agg #[.int .i64 f.k, .bool f.d, .int .i64 f.t, .int .i64 f.m, .slice dp f.ds.length dc]) ∧ DatN w W' (.slice dp f.ds.length dc) f.ds ∧ f.ds.length ≤ dc := fun he hr => by
    refine ⟨none, 0, by rw [he]; exact hr, fun L _ => by rw [he]; exact sl_nil, by rw [he]; exact Nat.le_refl _⟩
  match ws, h0, hl, hz, hw with
  | [a], _, hl, hz, hw =>
    refine (fread1_1 w0 bw a w gl (fun i hi => by
      obtain rfl : i = 0 := by omega
      exact hw 0 _ rfl)).mono fun r W' h => ⟨none_ rfl h.1, h.2⟩
  | a :: b :: l, _, hl, hz, hw =>
    have zb := hz b (by simp)
    have two : ∀ i, i < 2 → w.cell? ⟨bw, i, none⟩ = some ([Value.string a, .string b].getD i undef) := fun i hi => by
      rcases (show i = 0 ∨ i = 1 by omega) with rfl | rfl <;> exact hw _ _ rfl
    rcases Bool.eq_false_or_eq_true (b.toList == ([100, 105, 115, 99] : List UInt8)) with hb | hb
    · match l, hl, hz, hw with
      | [], hl, hz, hw =>
        have e : rdV [a, b] = ⟨chV a, true, 0, 0, []⟩ := by simp [rdV, hb]
        rw [e]
        exact (fread2_1 w0 bw a b hb w gl two).mono fun r W' h => ⟨none_ rfl h.1, h.2⟩
      | [x], hl, hz, hw =>
        have zx := hz x (by simp)
        have e : rdV [a, b, x] = ⟨chV a, true, atV (spV x).1, (spV x).2, []⟩ := by simp [rdV, hb]
        rw [e]
        exact (fread4z_1 w0 bw a b x hb zx (Nat.le_trans (spV_size x) zx) w gl (fun i hi => by rcases (show i = 0 ∨ i = 1 ∨ i = 2 by omega) with rfl | rfl | rfl <;> exact hw _ _ rfl)).mono fun r W' h => ⟨none_ rfl h.1, h.2⟩
      | x :: y :: l, hl, hz, hw =>
        have zx := hz x (by simp)
        have e : rdV (a :: b :: x :: y :: l) = ⟨chV a, true, atV (spV x).1, (spV x).2, (y :: l).map spV⟩ := by simp [rdV, hb]
        rw [e]
        simp only [List.length_map, List.length_cons] at hl ⊢
        exact fread4s_1 w0 w bw a b x l.length (y :: l) hb zx (Nat.le_trans (spV_size x) zx) rfl (by omega) (fun i s hs => hw (3 + i) s (by rw [show 3 + i = i + 3 by omega]; exact hs)) (fun s hs => hz s (by simp only [List.mem_cons] at hs ⊢; exact .inr (.inr (.inr hs)))) gl (fun i hi => by rcases (show i = 0 ∨ i = 1 ∨ i = 2 by omega) with rfl | rfl | rfl <;> exact hw _ _ rfl)
    · match l, hl, hz, hw with
      | [], hl, hz, hw =>
        have e : rdV [a, b] = ⟨chV a, false, atV (spV b).1, (spV b).2, []⟩ := by simp [rdV, hb]
        rw [e]
        exact (fread3z_1 w0 bw a b hb zb (Nat.le_trans (spV_size b) zb) w gl two).mono fun r W' h => ⟨none_ rfl h.1, h.2⟩
      | y :: l, hl, hz, hw =>
        have e : rdV (a :: b :: y :: l) = ⟨chV a, false, atV (spV b).1, (spV b).2, (y :: l).map spV⟩ := by simp [rdV, hb]
        rw [e]
        simp only [List.length_map, List.length_cons] at hl ⊢
        exact fread3s_1 w0 w bw a b l.length (y :: l) hb zb (Nat.le_trans (spV_size b) zb) rfl (by omega) (fun i s hs => hw (2 + i) s (by rw [show 2 + i = i + 2 by omega]; exact hs)) (fun s hs => hz s (by simp only [List.mem_cons] at hs ⊢; exact .inr (.inr hs))) gl two
end Go.Proofs.YtlfeinajjfbpkaaGreatDoor
