/- Texts Un2, Ugc: each says in its own first comment what it proves. -/
import Derived.Test.YtlfeinajjfbpkaaGreatDoorM14
/- Frames: the reference: whether a kind of features is among letters. -/
namespace Go.Proofs.YtlfeinajjfbpkaaGreatDoor
open Go.RowKit

/-- the letter of a kind -/
def phV (k : Int) : UInt8 := if k = 0 then 80 else if k = 1 then 72 else if k = 2 then 73 else if k = 3 then 83 else 66
def hsB (l : ByteArray) (k : Int) : Bool := l.data.toList.any fun c => c == phV k
theorem drop_at {l : List UInt8} {i : Nat} {c : UInt8} (h : l[i]? = some c) (k : Int) : ((l.drop i).any fun c => c == phV k) = ((c == phV k) || (l.drop (i + 1)).any fun c => c == phV k) := by
  obtain ⟨hi, rfl⟩ := List.getElem?_eq_some_iff.1 h
  rw [List.drop_eq_getElem_cons hi, List.any_cons]
abbrev phT : ByteArray := ⟨#[80, 72, 73, 83, 66]⟩
set_option maxRecDepth 100000 in
set_option maxHeartbeats 8000000 in
theorem rhas1 (l : ByteArray) (q : Nat) (hq : q < 5) (ph : UInt8) (hp : phT[q]'(show q < 5 from hq) = ph) (hph : phV (q : Int) = ph) (hl : l.size ≤ 100) (w : World) : Calls Tryz.prog 92 #[.string l, .int .i64 (q : Int)] w fun r W' => r = .returned (.bool (hsB l (q : Int))) ∧ Kb w W' := by
  have h0 : Hid (hsB l (q : Int) = (l.data.toList.drop 0).any fun c => c == phV (q : Int)) := rfl
  have hlen : l.data.toList.length = l.size := by rw [Array.length_toList]; rfl
  have k0 : (0 : Int) ≤ (q : Int) := by omega
  have k5 : (q : Int) < 5 := by omega
  have HP := Lib.hid hph
  clear hph
  go_enter Tryz.func92, Tryz.ntmps92
  go_wp2
  go_loopg [5] l.size (fun gk s5 wr => ∃ i : Nat, s5 = .int .i64 i ∧ i + gk = l.size ∧ Hid (hsB l (q : Int) = (l.data.toList.drop i).any fun c => c == phV (q : Int)) ∧ Kb w wr)
  case atStart => exact ⟨0, rfl, by omega, h0, Kb.refl _⟩
  case round =>
    obtain ⟨i, rfl, hi, hE, kk⟩ := hrel
    have hi0 : (0 : Int) ≤ (i : Int) := by omega
    by_cases hlt : i < l.size
    · have hil : (i : Int) < (l.size : Int) := by omega
      obtain ⟨c, hci⟩ : ∃ c, l[i]'hlt = c := ⟨_, rfl⟩
      have hc : l.data.toList[i]? = some c := by
        rw [Array.getElem?_toList, Array.getElem?_eq_getElem (show i < l.data.size from hlt)]
        exact congrArg some hci
      have hd := drop_at hc (q : Int)
      rw [HP.out] at hd
      have Hi := Lib.hid hi
      clear hi hc
      rcases Bool.eq_false_or_eq_true ((c.toNat : Int) == (ph.toNat : Int)) with hb | hb
      · have hcp : c = ph := by
          have : c.toNat = ph.toNat := by have := eq_of_beq hb; omega
          exact UInt8.toNat_inj.1 this
        have hEnd : Hid (hsB l (q : Int) = true) := by
          show _ = _
          rw [hE.out, HP.out, hd, hcp, beq_self_eq_true, Bool.true_or]
        clear hd hE hcp
        go_wp2
        go_region
        go_wp2
        go_ret
        exact ⟨by rw [hEnd.out]; rfl, kk.drew⟩
      · have hcp : (c == ph) = false := by
          rw [beq_eq_false_iff_ne] at hb ⊢
          intro e; exact hb (by rw [e])
        have hE2 : Hid (hsB l (q : Int) = (l.data.toList.drop (i + 1)).any fun c => c == phV (q : Int)) := by
          show _ = _
          rw [hE.out, HP.out, hd, hcp, Bool.false_or]
        clear hd hE hcp
        go_wp2
        go_region
        go_wp2
        have hi := Hi.out
        go_roundg (gk - 1)
        case measure => omega
        case rel => exact ⟨i + 1, by go_num, by omega, hE2, kk.drew⟩
    · obtain rfl : i = l.size := by omega
      have hEnd : Hid (hsB l (q : Int) = false) := by
        show _ = _
        rw [hE.out, List.drop_of_length_le (by omega)]; rfl
      clear hi hE
      go_wp2
      go_ret
      exact ⟨by rw [hEnd.out]; rfl, kk⟩
theorem rhas (l : ByteArray) (k : Int) (hk : 0 ≤ k ∧ k < 5) (hl : l.size ≤ 100) : Ca 92 #[.string l, .int .i64 k] (.bool (hsB l k)) := Lib.hid fun w => by
  rcases five hk with rfl | rfl | rfl | rfl | rfl
  · exact rhas1 l 0 (by decide) 80 rfl rfl hl w
  · exact rhas1 l 1 (by decide) 72 rfl rfl hl w
  · exact rhas1 l 2 (by decide) 73 rfl rfl hl w
  · exact rhas1 l 3 (by decide) 83 rfl rfl hl w
  · exact rhas1 l 4 (by decide) 66 rfl rfl hl w
end Go.Proofs.YtlfeinajjfbpkaaGreatDoor

/- Frames: the values of the examples. -/
namespace Go.Proofs.YtlfeinajjfbpkaaGreatDoor
open Go.RowKit

theorem fc_c0 : fcE ⟨#[72]⟩ 1 2 5000 0 0 1000 1011 1 false 30 0 [] = 14 := by rw [fcE_eq]; decide
theorem fc_c1 : fcE ⟨#[72]⟩ 1 2 5000 0 0 1000 1011 1 true 30 0 [] = 14 := by rw [fcE_eq]; decide
theorem fc_c2 : fcE ⟨#[72]⟩ 1 2 5000 0 0 1000 1011 8 false 0 0 [] = 10 := by rw [fcE_eq]; decide
theorem fc_c3 : fcE ⟨#[72]⟩ 1 2 5000 0 0 1000 1011 8 false 0 1 [(⟨#[65]⟩, 0)] = 0 := by rw [fcE_eq]; decide
theorem fc_c4 : fcE ⟨#[72]⟩ 1 2 5000 0 0 1000 1011 3 false 20 0 [] = 13 := by rw [fcE_eq]; decide
theorem fc_c5 : fcE ⟨#[72]⟩ 1 2 5000 0 0 1000 1011 7 false 20 0 [(⟨#[65]⟩, 0), (⟨#[66]⟩, 0)] = 5 := by rw [fcE_eq]; decide
theorem fc_h : fcE ⟨#[72]⟩ 1 2 5000 0 0 1000 1011 8 true 50 1 [(⟨#[65]⟩, 0), (⟨#[66]⟩, 1)] = 0 := by rw [fcE_eq]; decide
theorem fc_p : fcE ⟨#[72]⟩ 2 2 5000 0 0 1000 1011 8 true 50 1 [(⟨#[65]⟩, 0), (⟨#[66]⟩, 1)] = 0 := by rw [fcE_eq]; decide
theorem fc_q0 : fcE ⟨#[80]⟩ 0 0 0 0 0 0 0 1 false 30 0 [] = 0 := by rw [fcE_eq]; decide
theorem fc_q1 : fcE ⟨#[80]⟩ 0 0 0 0 0 0 0 1 true 30 0 [] = 3 := by rw [fcE_eq]; decide
theorem fv_h : vV ⟨#[72]⟩ 1 2 5000 0 0 1000 1011 8 true 50 1 [(⟨#[65]⟩, 0), (⟨#[66]⟩, 1)] = (950, 0) := by unfold vV; rw [fc_h]; unfold vtV wrap64; decide
theorem fb_h : bV ⟨#[72]⟩ 1 2 5000 0 0 1000 1011 8 true 50 1 [(⟨#[65]⟩, 0), (⟨#[66]⟩, 1)] 1004 = (4, 0) := by unfold bV; rw [fc_h]; unfold btV wrap64; decide
theorem fv_p : vV ⟨#[72]⟩ 2 2 5000 0 0 1000 1011 8 true 50 1 [(⟨#[65]⟩, 0), (⟨#[66]⟩, 1)] = (1061, 0) := by unfold vV; rw [fc_p]; unfold vtV wrap64; decide
theorem fb_p : bV ⟨#[72]⟩ 2 2 5000 0 0 1000 1011 8 true 50 1 [(⟨#[65]⟩, 0), (⟨#[66]⟩, 1)] 1004 = (7, 0) := by unfold bV; rw [fc_p]; unfold btV wrap64; decide
end Go.Proofs.YtlfeinajjfbpkaaGreatDoor
