/- Texts Tn2: each says in its own first comment what it proves. -/
import Derived.Test.YtiommpdbbpddpaaGreatM46
/- slices.Grow and slices.Concat at spans; what spans that are not passed over are. -/
namespace Go.Proofs.YtiommpdbbpddpaaGreat
open Go.RowKit
open Go.Lib (nDigits itoa decDigits)

theorem SlT.rd {w : World} {v : Value} {l : List Tx} (h : SlT w v l) : ∃ A c, v = .slice A l.length c ∧ RdC w A l.length 2 (l.flatMap enS) := by
  obtain ⟨p, c, rfl, hp⟩ := h
  refine ⟨p, c, rfl, flS_len l, fun h0 => ?_⟩
  obtain ⟨g, o, rfl, hg, hS⟩ := hp h0
  refine ⟨_, rfl, fun j u hu => ?_⟩
  have hj : j < l.length * 2 := by
    have := (List.getElem?_eq_some_iff.1 hu).1
    rwa [flS_len] at this
  have hi : j / 2 < l.length := by omega
  obtain ⟨f0, f1⟩ := flS_get hi
  obtain ⟨s0, s1⟩ := hS _ hi
  rw [show (⟨g, o, none⟩ : Addr).add j = ⟨g, o + j, none⟩ by unfold Addr.add; first | rfl | (split <;> simp_all)]
  rcases Nat.mod_two_eq_zero_or_one j with e | e
  · have ej : j / 2 * 2 = j := by omega
    rw [ej] at f0 s0
    rw [f0] at hu
    rw [s0]; exact hu
  · have ej : j / 2 * 2 + 1 = j := by omega
    rw [ej] at f1
    rw [f1] at hu
    rw [show o + j = o + j / 2 * 2 + 1 by omega, s1]; exact hu
theorem ones_S (l : List Tx) : ∀ u ∈ l.flatMap enS, u.oneCell' = true := fun u hu => by
  obtain ⟨s, _, hs⟩ := List.mem_flatMap.1 hu
  exact enS_one s u hs

theorem grow_c (n : Nat) (hn : n ≤ 1000) (w : World) : Calls Tryz.prog 16 #[.slice none 0 0, .int .i64 n] w fun e w' => ∃ v, e = .returned v ∧ OwS w' w.heap.size v [] ∧ Kp [] w w' := by
  obtain ⟨i0, hi0, hz0, hz1, hz2⟩ := info_parts span_info
  by_cases h0 : n = 0
  · subst h0
    refine (Any8.slices_Grow_room Tryz.growSpan none 0 0 0 w (by omega) (by omega) (by omega) (by omega)).mono ?_
    rintro e w' ⟨rfl, rfl⟩
    exact ⟨_, rfl, OwS.nil _ _, Kp.refl _ _⟩
  · refine (Any8.slices_Grow_grow Tryz.growSpan i0 (.agg #[.string ⟨#[]⟩, .string ⟨#[]⟩]) hi0 hz0 (by omega) none 0 0 n [] w (by omega) (by omega) (by rw [hz2]; omega) (by omega) (by simp) (fun _ => rfl) (fun a h => by cases h)).mono ?_
    rintro e w' ⟨rfl, rfl⟩
    have hge := grownCap_ge w (0 + n) 0 26
    have hle := grownCap_le_maxLen w (0 + n) 0 26 (by unfold maxLen; omega)
    refine ⟨_, rfl, ⟨rfl, .inr ⟨w.heap.size, _, _, rfl, Nat.le_refl _, heap_alloc_new w.drew _, Nat.zero_le _, hle, ?_, by simp⟩⟩, ((Kp.refl [] w).drew).alloc _⟩
    simp only [Array.size_append, List.size_toArray, List.length_nil, size_zeroCells, show ((Value.agg #[.string ⟨#[]⟩, .string ⟨#[]⟩]).cells).size = 2 from rfl]
    have : Tryz.growSpan_ren.t 25 = 26 := rfl
    rw [this]
    omega

set_option maxRecDepth 100000 in
set_option maxHeartbeats 4000000 in
theorem tconcat (p1 p2 : Option Addr) (c1 c2 : Nat) (a b : List Tx) (g : Nat) (w : World) (m : w.heap[g]? = some (.cells #[.slice p1 a.length c1, .slice p2 b.length c2] 22 (0, 0))) (sa : SlT w (.slice p1 a.length c1) a) (sb : SlT w (.slice p2 b.length c2) b) (ha : a.length ≤ 6) (hb : b.length ≤ 6) :
    Calls Tryz.prog 5 #[.slice (some ⟨g, 0, none⟩) 2 2] w fun r w' => ∃ v, r = .returned v ∧ SlT w' v (a ++ b) ∧ Kp [] w w' := by
  obtain ⟨i0, hi0, hz0, hz1, hz2⟩ := info_parts span_info
  have hg : g < w.heap.size := (Array.getElem?_eq_some_iff.1 m).1
  have SA := Lib.hid sa
  have SB := Lib.hid sb
  have x0 : w.cell? ⟨g, 0, none⟩ = some (.slice p1 a.length c1) := by unfold World.cell?; rw [m]; rfl
  have x1 : w.cell? ⟨g, 1, none⟩ = some (.slice p2 b.length c2) := by unfold World.cell?; rw [m]; rfl
  have X0 := Lib.hid x0
  have X1 := Lib.hid x1
  clear sa sb m
  generalize hna : a.length = na at *
  generalize hnb : b.length = nb at *
  have HA := Lib.hid hna
  have HB := Lib.hid hnb
  clear hna hnb
  have qg := grow_c (na + nb) (by omega)
  rw [show ((na + nb : Nat) : Int) = (na : Int) + (nb : Int) by omega] at qg
  have QG := Lib.hid qg
  clear qg
  have z0 : 0 ≤ (na : Int) := by omega
  have z1 : (na : Int) ≤ 6 := by omega
  have z2 : 0 ≤ (nb : Int) := by omega
  have z3 : (nb : Int) ≤ 6 := by omega
  have z4 : ¬ (na : Int) < 0 := by omega
  have z5 : ¬ (na : Int) + (nb : Int) < 0 := by omega
  have z6 : wrap64 ((na : Int) + (nb : Int)) = (na : Int) + (nb : Int) := by unfold wrap64; omega
  have z7 : wrap64 (na : Int) = (na : Int) := by unfold wrap64; omega
  go_enter Tryz.func5, Tryz.ntmps5
  go_wp2
  go_loopg [3, 11] 2 (fun gk s3 s11 wr => w = wr ∧ ((s11 = .int .i64 0 ∧ s3 = .int .i64 0 ∧ gk = 2) ∨ (s11 = .int .i64 1 ∧ s3 = .int .i64 na ∧ gk = 1) ∨ (s11 = .int .i64 2 ∧ s3 = .int .i64 ((na : Int) + (nb : Int)) ∧ gk = 0)))
  case atStart => exact ⟨rfl, .inl ⟨rfl, rfl, rfl⟩⟩
  case round =>
    obtain ⟨rfl, ⟨rfl, rfl, rfl⟩ | ⟨rfl, rfl, rfl⟩ | ⟨rfl, rfl, rfl⟩⟩ := hrel
    · go_wp2
      go_roundg 1
      case measure => omega
      case rel => exact ⟨rfl, .inr (.inl ⟨by go_num, by go_num, rfl⟩)⟩
    · go_wp2
      go_roundg 0
      case measure => omega
      case rel => exact ⟨rfl, .inr (.inr ⟨by go_num, by go_num, rfl⟩)⟩
    · go_wp2_with fail
      with_reducible refine (QG.out _).mono ?_
      rintro r w1 ⟨v, rfl, own, k⟩
      have OW := Lib.hid own
      have KK := Lib.hid k
      clear own k x0 x1
      go_wp2
      go_loopg [6, 27] 2 (fun gk s6 s27 wr => Kp [] w wr ∧ ((s27 = .int .i64 0 ∧ OwS wr w.heap.size s6 [] ∧ gk = 2) ∨ (s27 = .int .i64 1 ∧ OwS wr w.heap.size s6 a ∧ gk = 1) ∨ (s27 = .int .i64 2 ∧ OwS wr w.heap.size s6 (a ++ b) ∧ gk = 0)))
      case atStart => exact ⟨KK.out, .inl ⟨rfl, OW.out, rfl⟩⟩
      case round =>
        obtain ⟨kk, ⟨rfl, own, rfl⟩ | ⟨rfl, own, rfl⟩ | ⟨rfl, own, rfl⟩⟩ := hrel
        · have y0 : wr.cell? ⟨g, 0, none⟩ = some (.slice p1 na c1) := (World.cell?_of_block (kk.block g hg (by simp))).trans X0.out
          have rd : RdC wr p1 na 2 (a.flatMap enS) := by
            obtain ⟨A', c', e', rd⟩ := SlT.rd (SA.out.kp kk)
            injection e' with e1 e2 e3
            rw [e1, e2]; exact rd
          have own0 : wr.ownsRow w.heap.size 26 2 u6 0 ([]) := own
          have hs := kk.size
          have KK2 := Lib.hid kk
          have OW2 := Lib.hid own
          clear kk own
          go_wp2_with (first | (at_builtin; refine wpList_append_kpa rfl _ _ 22 rfl w.heap.size 26 i0 (.agg #[.string ⟨#[]⟩, .string ⟨#[]⟩]) 2 32 Tryz.underlying22 hi0 hz0 hz1 hz2 rfl (by decide) u6 0 ([]) rfl own0 p1 na c1 (a.flatMap enS) rfl rd (ones_S a) (by unfold maxLen; omega) (by omega) hs ?_) | fail)
          intro v' w3 own3 k3 _
          have OW3 := Lib.hid own3
          have K3 := Lib.hid k3
          clear own3 k3 own0 rd y0
          go_wp2
          go_roundg 1
          case measure => omega
          case rel =>
            refine ⟨KK2.out.step K3.out (fun x hx => .inr (OwS.base OW2.out x hx).1), .inr (.inl ⟨by go_num, ?_, rfl⟩)⟩
            have own3 := OW3.out
            unfold OwS
            rw [HA.out]
            exact own3
        · have y0 : wr.cell? ⟨g, 1, none⟩ = some (.slice p2 nb c2) := (World.cell?_of_block (kk.block g hg (by simp))).trans X1.out
          have rd : RdC wr p2 nb 2 (b.flatMap enS) := by
            obtain ⟨A', c', e', rd⟩ := SlT.rd (SB.out.kp kk)
            injection e' with e1 e2 e3
            rw [e1, e2]; exact rd
          have own0 : wr.ownsRow w.heap.size 26 2 u6 na (a.flatMap enS) := by have h := own; unfold OwS at h; rw [HA.out] at h; exact h
          have hs := kk.size
          have KK2 := Lib.hid kk
          have OW2 := Lib.hid own
          clear kk own
          go_wp2_with (first | (at_builtin; refine wpList_append_kpa rfl _ _ 22 rfl w.heap.size 26 i0 (.agg #[.string ⟨#[]⟩, .string ⟨#[]⟩]) 2 32 Tryz.underlying22 hi0 hz0 hz1 hz2 rfl (by decide) u6 na (a.flatMap enS) rfl own0 p2 nb c2 (b.flatMap enS) rfl rd (ones_S b) (by unfold maxLen; omega) (by omega) hs ?_) | fail)
          intro v' w3 own3 k3 _
          have OW3 := Lib.hid own3
          have K3 := Lib.hid k3
          clear own3 k3 own0 rd y0
          go_wp2
          go_roundg 0
          case measure => omega
          case rel =>
            refine ⟨KK2.out.step K3.out (fun x hx => .inr (OwS.base OW2.out x hx).1), .inr (.inr ⟨by go_num, ?_, rfl⟩)⟩
            have own3 := OW3.out
            unfold OwS
            rw [List.length_append, HA.out, HB.out, flS_append]
            exact own3
        · go_wp2
          go_ret
          exact ⟨_, rfl, OwS.slT own, kk⟩
end Go.Proofs.YtiommpdbbpddpaaGreat
