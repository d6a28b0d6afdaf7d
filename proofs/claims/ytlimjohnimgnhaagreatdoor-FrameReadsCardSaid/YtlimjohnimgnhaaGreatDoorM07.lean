/- Texts Up7: each says in its own first comment what it proves. -/
import Derived.Test.YtlimjohnimgnhaaGreatDoorM21
import Derived.Sort.Walk0
/- Frames: the reference: Put. -/
namespace Go.Proofs.YtlimjohnimgnhaaGreatDoor
open Go.RowKit

theorem rPut_info : (Tryz.prog.info? 9).map (fun i => (i.zero, i.size, i.bytes)) = some (some (.string ⟨#[]⟩), 1, 16) := by kernel_rfl
theorem str_enc (s : ByteArray) : Value.string s = encStr s.data.toList := by unfold encStr; simp
theorem map_snoc (out : List (List UInt8)) (s : ByteArray) : (out ++ [s.data.toList]).map encStr = out.map encStr ++ [.string s] := by rw [List.map_append, str_enc]; rfl
theorem putR_drop (s : List UInt8) {l : List (List UInt8)} {i : Nat} {x : List UInt8} (d : Bool) (out : List (List UInt8)) (h : l[i]? = some x) : putR s d out (l.drop i) = putR s (d || decide (s ≤ x)) ((if (!d && decide (s ≤ x)) = true then out ++ [s] else out) ++ (if x = s then [] else [x])) (l.drop (i + 1)) := by
  obtain ⟨hi, rfl⟩ := List.getElem?_eq_some_iff.1 h
  rw [List.drop_eq_getElem_cons hi, putR]
theorem owns_far1 {base l : Nat} {w : World} {v : Value} {xs : List Value} {e : TypeId} (h : w.ownsRow base e 1 v l xs) : ∀ k, v.ownBlock = some k → base ≤ k := by
  intro k hk
  obtain ⟨_, ⟨rfl, _⟩ | ⟨g, cap, cur, rfl, hb, _⟩⟩ := h
  · simp [Value.ownBlock] at hk
  · simp [Value.ownBlock] at hk; omega
theorem le_bl (s x : ByteArray) : decide (s.data.toList ≤ x.data.toList) = !Op.bytesLess x.toList s.toList := by
  rw [bytesLess_eq, ByteArray.toList_eq, ByteArray.toList_eq]
  by_cases h : x.data.toList < s.data.toList
  · rw [decide_eq_true h, decide_eq_false (fun h2 => (List.not_lt.2 h2) h)]; rfl
  · rw [decide_eq_false h, decide_eq_true (List.not_lt.1 h)]; rfl
theorem bl_self (s : ByteArray) : Op.bytesLess s.toList s.toList = false := by
  rw [bytesLess_eq]; exact decide_eq_false (List.lt_irrefl _)
theorem SlS.len {w : World} {p : Option Addr} {l c : Nat} {ss : List (List UInt8)} (h : SlS w (.slice p l c) ss) : l = ss.length := by
  obtain ⟨q, cap, e, _⟩ := h
  injection e with _ e2 _
  rw [e2]; simp
theorem SlS.cell {w : World} {b off l c : Nat} {ss : List (List UInt8)} (h : SlS w (.slice (some ⟨b, off, none⟩) l c) ss) (i : Nat) (hi : i < ss.length) : ∃ sx : ByteArray, ss[i]? = some sx.data.toList ∧ w.cell? ⟨b, off + i, none⟩ = some (.string sx) := by
  obtain ⟨q, cap, e, h2⟩ := h
  injection e with e1 e2 e3
  obtain ⟨b', off', e4, _, _, h6⟩ := h2 (by simp; omega)
  rw [e4] at e1
  injection e1 with e1
  injection e1 with e5 e6
  subst e5 e6
  have h7 := h6 i (by simpa using hi) 0 (by omega)
  refine ⟨⟨(ss[i]'hi).toArray⟩, by simp [hi], ?_⟩
  rw [Nat.mul_one, Nat.add_zero] at h7
  rw [h7]
  simp [List.getD_eq_getElem?_getD, hi, encStr]
theorem cell_grown {w x : World} {b : Option Nat} {base : Nat} {q : Addr} {u : Value} (g : w.grownBy x b) (hb : ∀ k, b = some k → base ≤ k) (hc : w.cell? q = some u) (hq : q.block < base) : x.cell? q = some u := (World.cell?_of_block (w := w) (g.block q.block (World.block_lt_of_cell? w q hc) (fun e => by have := hb _ e.symm; omega))).trans hc
set_option maxRecDepth 100000 in
set_option maxHeartbeats 16000000 in
theorem rPut1 (b off l c : Nat) (ss : List (List UInt8)) (s : ByteArray) (w : World) (hs : SlS w (.slice (some ⟨b, off, none⟩) l c) ss) (hn : l ≤ 1000) : Calls Tryz.prog 99 #[.slice (some ⟨b, off, none⟩) l c, .string s] w fun r W' => (∃ v, r = .returned v ∧ SlU w.heap.size 1 W' v ((putR s.data.toList false [] ss).map fun x => [encStr x])) ∧ Kb w W' := by
  obtain ⟨i0, hi0, hz0, hz1, hz2⟩ := info_parts rPut_info
  have hlen := hs.len
  have hcell := Lib.hid (hs.cell)
  have HL := Lib.hid hlen
  have H0 : Hid (putR s.data.toList false [] ss = putR s.data.toList false [] (ss.drop 0)) := rfl
  clear hs hlen
  generalize putR s.data.toList false [] ss = R at *
  go_enter Tryz.func99, Tryz.ntmps99
  go_wp2
  go_loopg [7, 6, 5] l (fun gk s7 s6 s5 wr => ∃ (i : Nat) (d : Bool) (out : List (List UInt8)) (v : Value), s7 = .int .i64 i ∧ s6 = .bool d ∧ v = s5 ∧ i + gk = l ∧ Hid (R = putR s.data.toList d out (ss.drop i)) ∧ wr.ownsRow w.heap.size 9 1 v out.length (out.map encStr) ∧ out.length ≤ 2 * i ∧ Kb w wr)
  case atStart => exact ⟨0, false, [], _, rfl, rfl, rfl, by omega, H0, World.ownsRow_nil _ _ _ _, by simp, Kb.refl w⟩
  case round =>
    obtain ⟨i, d, out, v, rfl, rfl, rfl, hi, hE, hown, hol, kx⟩ := hrel
    have hsz := kx.size
    have hi0' : (0 : Int) ≤ (i : Int) := by omega
    by_cases hlt : i < l
    · have hil : (i : Int) < (l : Int) := by omega
      obtain ⟨sx, hsx, hcx0⟩ := hcell.out i (by have := HL.out; omega)
      have hcx := kx.cell hcx0
      have hbl : b < w.heap.size := World.block_lt_of_cell? w _ hcx0
      have hR0 := hE.out.trans (putR_drop s.data.toList d out hsx)
      have Hi := Lib.hid hi
      have hle := le_bl s sx
      rw [hle] at hR0
      clear hE hi hcx0 hle
      rcases Bool.eq_false_or_eq_true d with rfl | rfl
      · have hR : Hid (R = putR s.data.toList true (out ++ if sx.data.toList = s.data.toList then [] else [sx.data.toList]) (ss.drop (i + 1))) := hR0
        clear hR0
        rcases Bool.eq_false_or_eq_true (sx.toList == s.toList) with hx | hx
        · have hx2 : sx.data.toList = s.data.toList := by rw [beq_iff_eq, ByteArray.toList_eq, ByteArray.toList_eq] at hx; exact hx
          have hE2 : Hid (R = putR s.data.toList true out (ss.drop (i + 1))) := by
            show _ = _
            rw [hR.out, if_pos hx2, List.append_nil]
          clear hx2 hR
          go_wp2
          have hi := Hi.out
          go_roundg (l - i - 1)
          case measure => omega
          case rel => exact ⟨i + 1, true, out, _, by go_num, rfl, rfl, by omega, hE2, hown, by omega, kx⟩
        · have hx2 : ¬ sx.data.toList = s.data.toList := by rw [beq_eq_false_iff_ne, ByteArray.toList_eq, ByteArray.toList_eq] at hx; exact hx
          have hE2 : Hid (R = putR s.data.toList true (out ++ [sx.data.toList]) (ss.drop (i + 1))) := by
            show _ = _
            rw [hR.out, if_neg hx2]
          have hc' := cell_al hcx (.cells #[.string sx] 9 (0, 0))
          clear hx2 hR
          go_wp2_with (first | (at_builtin; refine wpList_append_own _ rfl _ _ 41 rfl w.heap.size 9 i0 (.string ⟨#[]⟩) 1 16 Tryz.underlying41 hi0 hz0 hz1 hz2 rfl (by decide) _ _ _ rfl (hown.alloc _) ⟨wr.heap.size, 0, none⟩ 1 1 [.string sx] rfl rfl ?c1 ?c2 ?c3 ?c4 ?c5 ?_) | fail)
          case c1 => exact World.news_of_block (World.alloc_heap_new _ _)
          case c2 => simp [Value.oneCell']
          case c3 => unfold maxLen; omega
          case c4 => omega
          case c5 => first | (simp; omega) | omega
          intro v' w9 hown9 hgrow9 _
          have kx9 := Kb.grown (kx.alloc _) hgrow9 (owns_far hown)
          rw [← map_snoc] at hown9
          clear hgrow9 hown kx
          go_wp2
          have hi := Hi.out
          go_roundg (l - i - 1)
          case measure => omega
          case rel => exact ⟨i + 1, true, (out ++ [sx.data.toList]), _, by go_num, rfl, rfl, by omega, hE2, by simpa using hown9, by (simp; omega), kx9⟩
      · rcases Bool.eq_false_or_eq_true (Op.bytesLess sx.toList s.toList) with hb | hb
        · have hx : (sx.toList == s.toList) = false := by
            rw [beq_eq_false_iff_ne]
            intro e
            rw [e, bl_self] at hb
            exact absurd hb (by decide)
          rw [hb] at hR0
          have hR : Hid (R = putR s.data.toList false (out ++ if sx.data.toList = s.data.toList then [] else [sx.data.toList]) (ss.drop (i + 1))) := hR0
          clear hR0
          have hx2 : ¬ sx.data.toList = s.data.toList := by rw [beq_eq_false_iff_ne, ByteArray.toList_eq, ByteArray.toList_eq] at hx; exact hx
          have hE2 : Hid (R = putR s.data.toList false (out ++ [sx.data.toList]) (ss.drop (i + 1))) := by
            show _ = _
            rw [hR.out, if_neg hx2]
          have hc' := cell_al hcx (.cells #[.string sx] 9 (0, 0))
          clear hx2 hR
          go_wp2_with (first | (at_builtin; refine wpList_append_own _ rfl _ _ 41 rfl w.heap.size 9 i0 (.string ⟨#[]⟩) 1 16 Tryz.underlying41 hi0 hz0 hz1 hz2 rfl (by decide) _ _ _ rfl (hown.alloc _) ⟨wr.heap.size, 0, none⟩ 1 1 [.string sx] rfl rfl ?c1 ?c2 ?c3 ?c4 ?c5 ?_) | fail)
          case c1 => exact World.news_of_block (World.alloc_heap_new _ _)
          case c2 => simp [Value.oneCell']
          case c3 => unfold maxLen; omega
          case c4 => omega
          case c5 => first | (simp; omega) | omega
          intro v' w9 hown9 hgrow9 _
          have kx9 := Kb.grown (kx.alloc _) hgrow9 (owns_far hown)
          rw [← map_snoc] at hown9
          clear hgrow9 hown kx
          go_wp2
          have hi := Hi.out
          go_roundg (l - i - 1)
          case measure => omega
          case rel => exact ⟨i + 1, false, (out ++ [sx.data.toList]), _, by go_num, rfl, rfl, by omega, hE2, by simpa using hown9, by (simp; omega), kx9⟩
        · rw [hb] at hR0
          have hR : Hid (R = putR s.data.toList true ((out ++ [s.data.toList]) ++ if sx.data.toList = s.data.toList then [] else [sx.data.toList]) (ss.drop (i + 1))) := hR0
          clear hR0
          have hcz := cell_al hcx (.cells #[.string s] 9 (0, 0))
          go_wp2_with (first | (at_builtin; refine wpList_append_own _ rfl _ _ 41 rfl w.heap.size 9 i0 (.string ⟨#[]⟩) 1 16 Tryz.underlying41 hi0 hz0 hz1 hz2 rfl (by decide) _ _ _ rfl (hown.alloc _) ⟨wr.heap.size, 0, none⟩ 1 1 [.string s] rfl rfl ?c1 ?c2 ?c3 ?c4 ?c5 ?_) | fail)
          case c1 => exact World.news_of_block (World.alloc_heap_new _ _)
          case c2 => simp [Value.oneCell']
          case c3 => unfold maxLen; omega
          case c4 => omega
          case c5 => first | (simp; omega) | omega
          intro v' w2 hown2 hgrow _
          have kx2 := Kb.grown (kx.alloc _) hgrow (owns_far hown)
          have hcx2 : w2.cell? _ = _ := cell_grown hgrow (owns_far1 hown) hcz hbl
          rw [← map_snoc] at hown2
          have hown3 : w2.ownsRow w.heap.size 9 1 v' (out ++ [s.data.toList]).length ((out ++ [s.data.toList]).map encStr) := by simpa using hown2
          clear hgrow hown kx hcz hown2 hcx
          have hcx := hcx2
          have hsz2 := kx2.size
          have hol2 : (out ++ [s.data.toList]).length ≤ 2 * i + 1 := by simp; omega
          clear hcx2
          generalize out ++ [s.data.toList] = o2 at hR hown3 hol2
          rcases Bool.eq_false_or_eq_true (sx.toList == s.toList) with hx | hx
          · have hx2 : sx.data.toList = s.data.toList := by rw [beq_iff_eq, ByteArray.toList_eq, ByteArray.toList_eq] at hx; exact hx
            have hE2 : Hid (R = putR s.data.toList true o2 (ss.drop (i + 1))) := by
              show _ = _
              rw [hR.out, if_pos hx2, List.append_nil]
            clear hx2 hR
            go_wp2
            have hi := Hi.out
            go_roundg (l - i - 1)
            case measure => omega
            case rel => exact ⟨i + 1, true, o2, _, by go_num, rfl, rfl, by omega, hE2, hown3, by omega, kx2⟩
          · have hx2 : ¬ sx.data.toList = s.data.toList := by rw [beq_eq_false_iff_ne, ByteArray.toList_eq, ByteArray.toList_eq] at hx; exact hx
            have hE2 : Hid (R = putR s.data.toList true (o2 ++ [sx.data.toList]) (ss.drop (i + 1))) := by
              show _ = _
              rw [hR.out, if_neg hx2]
            have hc' := cell_al hcx (.cells #[.string sx] 9 (0, 0))
            clear hx2 hR
            go_wp2_with (first | (at_builtin; refine wpList_append_own _ rfl _ _ 41 rfl w.heap.size 9 i0 (.string ⟨#[]⟩) 1 16 Tryz.underlying41 hi0 hz0 hz1 hz2 rfl (by decide) _ _ _ rfl (hown3.alloc _) ⟨w2.heap.size, 0, none⟩ 1 1 [.string sx] rfl rfl ?c1 ?c2 ?c3 ?c4 ?c5 ?_) | fail)
            case c1 => exact World.news_of_block (World.alloc_heap_new _ _)
            case c2 => simp [Value.oneCell']
            case c3 => unfold maxLen; omega
            case c4 => omega
            case c5 => first | (simp; omega) | omega
            intro v' w9 hown9 hgrow9 _
            have kx9 := Kb.grown (kx2.alloc _) hgrow9 (owns_far hown3)
            rw [← map_snoc] at hown9
            clear hgrow9 hown3 kx2
            go_wp2
            have hi := Hi.out
            go_roundg (l - i - 1)
            case measure => omega
            case rel => exact ⟨i + 1, true, (o2 ++ [sx.data.toList]), _, by go_num, rfl, rfl, by omega, hE2, by simpa using hown9, by (simp; omega), kx9⟩
    · obtain rfl : i = l := by omega
      rw [List.drop_of_length_le (by have := HL.out; omega)] at hE
      clear hi
      rcases Bool.eq_false_or_eq_true d with rfl | rfl
      · have hR : Hid (R = out) := hE
        clear hE
        go_wp2
        go_ret
        exact ⟨⟨_, rfl, by rw [hR.out]; exact own_slS hown rfl⟩, kx⟩
      · have hR : Hid (R = out ++ [s.data.toList]) := hE
        clear hE
        go_wp2_with (first | (at_builtin; refine wpList_append_own _ rfl _ _ 41 rfl w.heap.size 9 i0 (.string ⟨#[]⟩) 1 16 Tryz.underlying41 hi0 hz0 hz1 hz2 rfl (by decide) _ _ _ rfl (hown.alloc _) ⟨wr.heap.size, 0, none⟩ 1 1 [.string s] rfl rfl ?c1 ?c2 ?c3 ?c4 ?c5 ?_) | fail)
        case c1 => exact World.news_of_block (World.alloc_heap_new _ _)
        case c2 => simp [Value.oneCell']
        case c3 => unfold maxLen; omega
        case c4 => omega
        case c5 => first | (simp; omega) | omega
        intro v' w2 hown2 hgrow _
        have kx2 := Kb.grown (kx.alloc _) hgrow (owns_far hown)
        rw [← map_snoc] at hown2
        clear hgrow hown kx
        go_wp2
        go_ret
        exact ⟨⟨_, rfl, by rw [hR.out]; exact own_slS hown2 (by simp)⟩, kx2⟩
end Go.Proofs.YtlimjohnimgnhaaGreatDoor
