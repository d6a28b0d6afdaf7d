/- The reference of package grades: All; the laws' own; Same. -/
import Derived.Test.YthifdgddegpbjaaDoorG22
namespace Go.Proofs.YthifdgddegpbjaaDoor
open Go.RowKit

theorem rcls_info : (Tryd.prog.info? 28).map (fun i => (i.zero, i.size, i.bytes)) = some (some (.agg #[.bool false, .int .i64 0, .int .i64 0]), 3, 24) := by kernel_rfl
theorem cells3_new {w : World} (o : Obj) (a b c : Value) (t : TypeId) : ∀ j u, [a, b, c][j]? = some u → ((w.alloc o).alloc (.cells #[a, b, c] t (0, 0))).cell? ((⟨w.heap.size + 1, 0, none⟩ : Addr).add j) = some u := by
  have h := World.alloc_heap_new (w.alloc o) (.cells #[a, b, c] t (0, 0))
  rw [World.size_alloc] at h
  exact World.news_of_block h
theorem Kb.grown {a X Y : World} {row : Option Nat} (h : Kb a X) (g : X.grownBy Y row) (hr : ∀ j, row = some j → a.heap.size ≤ j) : Kb a Y := Below.grown h g h.size hr
theorem owns_far {W : World} {base e size n : Nat} {v : Value} {xs : List Value} (h : W.ownsRow base e size v n xs) : ∀ j, v.ownBlock = some j → base ≤ j := fun j e => by
  rcases h.2 with ⟨rfl, _⟩ | ⟨g, cap, cur, rfl, hb, _, _⟩
  · simp [Value.ownBlock] at e
  · obtain rfl : g = j := by simpa [Value.ownBlock] using e
    exact hb
set_option maxRecDepth 100000 in
set_option maxHeartbeats 8000000 in
theorem lown (g cap : Nat) (sp : Option Addr) (l : List CL) (hp : 0 < l.length → sp = some ⟨g, 0, none⟩) (hn : l.length ≤ 160) (w : World) (hc : ClsAt w g l) : Calls Tryd.prog 31 #[.slice sp l.length cap] w fun r w' => (∃ v, r = .returned v ∧ w'.ownsRow w.heap.size 28 3 v l.length (flatC l)) ∧ Kb w w' := by
  obtain ⟨i0, hi0, hz0, hz1, hz2⟩ := info_parts rcls_info
  have hn1 : (l.length : Int) ≤ 160 := by omega
  go_enter Tryd.func31, Tryd.ntmps31
  go_wp2
  go_loopw [8, 3] (fun i s3 wr => ∃ (k : Nat) (v : Value), v = s3 ∧ k ≤ l.length ∧ i = .int .i64 k ∧ wr.ownsRow w.heap.size 28 3 v k (flatC (l.take k)) ∧ Kb w wr)
    (fun i _ _ => l.length - (intOf i).toNat)
  case atStart => exact ⟨0, _, rfl, by omega, rfl, World.ownsRow_nil _ _ _ _, Kb.refl w⟩
  case round =>
    obtain ⟨k, v, rfl, hk, rfl, hown, kx⟩ := hrel
    have hcs := hc.kb kx
    have hsz := kx.size
    by_cases hlt : k < l.length
    · obtain rfl := hp (by omega)
      obtain ⟨y, hy⟩ : ∃ y, l[k] = y := ⟨_, rfl⟩
      obtain ⟨d0, d1, d2⟩ := hcs k hlt
      have ht : flatC (l.take (k + 1)) = flatC (l.take k) ++ cellsC y := by rw [← List.take_append_getElem hlt, hy, flatC_snoc]
      rw [hy] at d0 d1 d2
      have j0 : (0 : Int) ≤ (k : Int) := by omega
      have j1 : (k : Int) < (l.length : Int) := by omega
      have ht := Lib.hid ht
      clear hcs hc hp
      go_wp2_with (first | (at_builtin; refine wpList_append_own _ rfl _ _ 55 rfl w.heap.size 28 i0 (.agg #[.bool false, .int .i64 0, .int .i64 0]) 3 24 Tryd.underlying55 hi0 hz0 hz1 hz2 rfl (by decide) _ _ _ rfl ((hown.alloc _).alloc _) ⟨wr.heap.size + 1, 0, none⟩ 1 1 (cellsC y) rfl rfl ?c1 ?c2 ?c3 ?c4 ?c5 ?_) | fail)
      case c1 => exact cells3_new _ _ _ _ _
      case c2 => simp [cellsC, Value.oneCell']
      case c3 => unfold maxLen; omega
      case c4 => omega
      case c5 => simp; omega
      · intro v' w2 hown2 hgrow _
        have kx2 := Kb.grown ((kx.alloc _).alloc _) hgrow (owns_far hown)
        rw [← ht.out] at hown2
        clear hgrow hown kx
        go_wp2_with fail
        go_roundw
        case rel => exact ⟨k + 1, v', rfl, by omega, by simp, hown2, kx2⟩
        case measure => simp [intOf]; omega
    · obtain rfl : k = l.length := by omega
      rw [List.take_length] at hown
      go_wp2
      go_ret
      exact ⟨⟨_, rfl, hown⟩, kx⟩
set_option maxRecDepth 100000 in
set_option maxHeartbeats 8000000 in
theorem rSame (g cap g' cap' : Nat) (sp sp' : Option Addr) (l : List CL) (hp : 0 < l.length → sp = some ⟨g, 0, none⟩) (hp' : 0 < l.length → sp' = some ⟨g', 0, none⟩) (hn : l.length ≤ 160) (w : World) (hc : ClsAt w g l) (hc' : ClsAt w g' l) : Calls Tryd.prog 30 #[.slice sp l.length cap, .slice sp' l.length cap'] w fun r w' => r = .returned (.bool true) ∧ Kb w w' := by
  have hn1 : (l.length : Int) ≤ 160 := by omega
  go_enter Tryd.func30, Tryd.ntmps30
  go_wp2
  go_loopw [5] (fun i wr => ∃ k : Nat, k ≤ l.length ∧ i = .int .i64 k ∧ Kb w wr)
    (fun i _ => l.length - (intOf i).toNat)
  case atStart => exact ⟨0, by omega, rfl, Kb.refl w⟩
  case round =>
    obtain ⟨k, hk, rfl, kx⟩ := hrel
    have hcs := hc.kb kx
    have hcs' := hc'.kb kx
    by_cases hlt : k < l.length
    · obtain rfl := hp (by omega)
      obtain rfl := hp' (by omega)
      obtain ⟨y, hy⟩ : ∃ y, l[k] = y := ⟨_, rfl⟩
      obtain ⟨d0, d1, d2⟩ := hcs k hlt
      obtain ⟨c0, c1, c2⟩ := hcs' k hlt
      rw [hy] at d0 d1 d2 c0 c1 c2
      have j0 : (0 : Int) ≤ (k : Int) := by omega
      have j1 : (k : Int) < (l.length : Int) := by omega
      clear hcs hc hp hcs' hc' hp'
      go_wp2
      go_region
      all_goals go_wp2
      all_goals exact ⟨⟨k + 1, by omega, by simp, kx.drew⟩, by simp [intOf]; omega⟩
    · obtain rfl : k = l.length := by omega
      go_wp2
      go_ret
      exact ⟨rfl, kx⟩
set_option maxRecDepth 100000 in
set_option maxHeartbeats 8000000 in
theorem rAll (w : World) : Calls Tryd.prog 51 #[] w fun r w' => (∃ v, r = .returned v ∧ w'.ownsRow w.heap.size 28 3 v 160 (flatC (upto cl 160))) ∧ Kb w w' := by
  obtain ⟨i0, hi0, hz0, hz1, hz2⟩ := info_parts rcls_info
  go_enter Tryd.func51, Tryd.ntmps51
  go_wp2
  go_loopw [2, 1] (fun i s1 wr => ∃ (k : Nat) (v : Value), v = s1 ∧ k ≤ 2 ∧ i = .int .i64 k ∧ wr.ownsRow w.heap.size 28 3 v (80 * k) (flatC (upto cl (80 * k))) ∧ Kb w wr)
    (fun i _ _ => 2 - (intOf i).toNat)
  case atStart => exact ⟨0, _, rfl, by omega, rfl, World.ownsRow_nil _ _ _ _, Kb.refl w⟩
  case round =>
    obtain ⟨k, v, rfl, hk, rfl, hown, kx⟩ := hrel
    by_cases hlt : k < 2
    · rcases (show k = 0 ∨ k = 1 by omega) with rfl | rfl
      · go_wp2
        go_loopw [3, 1] (fun i s1 wx => ∃ (m : Nat) (v : Value), v = s1 ∧ m ≤ 10 ∧ i = .int .i64 m ∧ wx.ownsRow w.heap.size 28 3 v (80 * 0 + 8 * m) (flatC (upto cl (80 * 0 + 8 * m))) ∧ Kb w wx)
          (fun i _ _ => 10 - (intOf i).toNat)
        case atStart => exact ⟨0, _, rfl, by omega, rfl, hown, kx⟩
        case round =>
          clear hown kx
          obtain ⟨m, v, rfl, hm, rfl, hown, kx⟩ := hrel
          by_cases hm10 : m < 10
          · have m0 : (0 : Int) ≤ (m : Int) := by omega
            have dm : decide ((m : Int) < 10) = true := decide_eq_true (by omega)
            go_wp2
            go_loopw [4, 1] (fun i s1 wx => ∃ (g : Nat) (v : Value), v = s1 ∧ g ≤ 8 ∧ i = .int .i64 (5 + (g : Int)) ∧ wx.ownsRow w.heap.size 28 3 v (80 * 0 + 8 * m + g) (flatC (upto cl (80 * 0 + 8 * m + g))) ∧ Kb w wx)
              (fun i _ _ => 13 - (intOf i).toNat)
            case atStart => exact ⟨0, _, rfl, by omega, rfl, hown, kx⟩
            case round =>
              clear hown kx
              obtain ⟨g, v, rfl, hg, rfl, hown, kx⟩ := hrel
              by_cases hg8 : g < 8
              · have ig0 : 0 ≤ (g : Int) := by omega
                have hle : 5 + (g : Int) ≤ 12 := by omega
                have hsz := kx.size
                have hcl : (cl (80 * 0 + 8 * m + g)).1 = (false, m, g) := by
                  show (decide (80 ≤ 80 * 0 + 8 * m + g), (80 * 0 + 8 * m + g) % 80 / 8, (80 * 0 + 8 * m + g) % 8) = (false, m, g)
                  rw [show (80 * 0 + 8 * m + g) % 80 / 8 = m by omega, show (80 * 0 + 8 * m + g) % 8 = g by omega, show decide (80 ≤ 80 * 0 + 8 * m + g) = false from decide_eq_false (by omega)]
                have ht : flatC (upto cl (80 * 0 + 8 * m + g + 1)) = flatC (upto cl (80 * 0 + 8 * m + g)) ++ [.bool false, .int .i64 (m : Int), .int .i64 (5 + (g : Int))] := by
                  rw [upto_succ, flatC_snoc]
                  unfold cellsC
                  rw [hcl]
                replace ht := Lib.hid ht
                clear hcl
                obtain ⟨N, hN⟩ : ∃ N, Hid (80 * 0 + 8 * m + g = N) := ⟨_, Lib.hid rfl⟩
                have hbd : 80 * 0 + 8 * m + g < 160 := by omega
                rw [hN.out] at ht hown hbd
                go_wp2_with (first | (at_builtin; refine wpList_append_own _ rfl _ _ 55 rfl w.heap.size 28 i0 (.agg #[.bool false, .int .i64 0, .int .i64 0]) 3 24 Tryd.underlying55 hi0 hz0 hz1 hz2 rfl (by decide) _ _ _ rfl (hown.alloc _) ⟨wr.heap.size, 0, none⟩ 1 1 [.bool false, .int .i64 (m : Int), .int .i64 (5 + (g : Int))] rfl rfl ?c1 ?c2 ?c3 ?c4 ?c5 ?_) | fail)
                case c1 => exact World.news_of_block (World.alloc_heap_new _ _)
                case c2 => simp [Value.oneCell']
                case c3 => unfold maxLen; omega
                case c4 => omega
                case c5 => simp; omega
                · intro v' w2 hown2 hgrow _
                  have kx2 := Kb.grown (kx.alloc _) hgrow (owns_far hown)
                  rw [← ht.out] at hown2
                  clear hgrow hown kx
                  go_wp2_with fail
                  go_roundw
                  case rel => first | exact ⟨g + 1, v', rfl, by omega, e5 g, by rw [show 80 * 0 + 8 * m + (g + 1) = N + 1 by have := hN.out; omega]; exact hown2, kx2⟩ | exact ⟨_, _, _, _, _, _, _, _, _, _, _, _, _, _, ⟨g + 1, v', rfl, by omega, e5 g, by rw [show 80 * 0 + 8 * m + (g + 1) = N + 1 by have := hN.out; omega]; exact hown2, kx2⟩, rfl⟩
                  case measure => simp [intOf]; omega
              · obtain rfl : g = 8 := by omega
                go_wp2
                exact ⟨⟨m + 1, _, rfl, by omega, by simp, hown, kx⟩, by simp [intOf]; omega⟩
          · obtain rfl : m = 10 := by omega
            go_wp2
            exact ⟨⟨0 + 1, _, rfl, by omega, rfl, hown, kx⟩, by simp [intOf]⟩
      · go_wp2
        go_loopw [3, 1] (fun i s1 wx => ∃ (m : Nat) (v : Value), v = s1 ∧ m ≤ 10 ∧ i = .int .i64 m ∧ wx.ownsRow w.heap.size 28 3 v (80 * 1 + 8 * m) (flatC (upto cl (80 * 1 + 8 * m))) ∧ Kb w wx)
          (fun i _ _ => 10 - (intOf i).toNat)
        case atStart => exact ⟨0, _, rfl, by omega, rfl, hown, kx⟩
        case round =>
          clear hown kx
          obtain ⟨m, v, rfl, hm, rfl, hown, kx⟩ := hrel
          by_cases hm10 : m < 10
          · have m0 : (0 : Int) ≤ (m : Int) := by omega
            have dm : decide ((m : Int) < 10) = true := decide_eq_true (by omega)
            go_wp2
            go_loopw [4, 1] (fun i s1 wx => ∃ (g : Nat) (v : Value), v = s1 ∧ g ≤ 8 ∧ i = .int .i64 (5 + (g : Int)) ∧ wx.ownsRow w.heap.size 28 3 v (80 * 1 + 8 * m + g) (flatC (upto cl (80 * 1 + 8 * m + g))) ∧ Kb w wx)
              (fun i _ _ => 13 - (intOf i).toNat)
            case atStart => exact ⟨0, _, rfl, by omega, rfl, hown, kx⟩
            case round =>
              clear hown kx
              obtain ⟨g, v, rfl, hg, rfl, hown, kx⟩ := hrel
              by_cases hg8 : g < 8
              · have ig0 : 0 ≤ (g : Int) := by omega
                have hle : 5 + (g : Int) ≤ 12 := by omega
                have hsz := kx.size
                have hcl : (cl (80 * 1 + 8 * m + g)).1 = (true, m, g) := by
                  show (decide (80 ≤ 80 * 1 + 8 * m + g), (80 * 1 + 8 * m + g) % 80 / 8, (80 * 1 + 8 * m + g) % 8) = (true, m, g)
                  rw [show (80 * 1 + 8 * m + g) % 80 / 8 = m by omega, show (80 * 1 + 8 * m + g) % 8 = g by omega, show decide (80 ≤ 80 * 1 + 8 * m + g) = true from decide_eq_true (by omega)]
                have ht : flatC (upto cl (80 * 1 + 8 * m + g + 1)) = flatC (upto cl (80 * 1 + 8 * m + g)) ++ [.bool true, .int .i64 (m : Int), .int .i64 (5 + (g : Int))] := by
                  rw [upto_succ, flatC_snoc]
                  unfold cellsC
                  rw [hcl]
                replace ht := Lib.hid ht
                clear hcl
                obtain ⟨N, hN⟩ : ∃ N, Hid (80 * 1 + 8 * m + g = N) := ⟨_, Lib.hid rfl⟩
                have hbd : 80 * 1 + 8 * m + g < 160 := by omega
                rw [hN.out] at ht hown hbd
                go_wp2_with (first | (at_builtin; refine wpList_append_own _ rfl _ _ 55 rfl w.heap.size 28 i0 (.agg #[.bool false, .int .i64 0, .int .i64 0]) 3 24 Tryd.underlying55 hi0 hz0 hz1 hz2 rfl (by decide) _ _ _ rfl (hown.alloc _) ⟨wr.heap.size, 0, none⟩ 1 1 [.bool true, .int .i64 (m : Int), .int .i64 (5 + (g : Int))] rfl rfl ?c1 ?c2 ?c3 ?c4 ?c5 ?_) | fail)
                case c1 => exact World.news_of_block (World.alloc_heap_new _ _)
                case c2 => simp [Value.oneCell']
                case c3 => unfold maxLen; omega
                case c4 => omega
                case c5 => simp; omega
                · intro v' w2 hown2 hgrow _
                  have kx2 := Kb.grown (kx.alloc _) hgrow (owns_far hown)
                  rw [← ht.out] at hown2
                  clear hgrow hown kx
                  go_wp2_with fail
                  go_roundw
                  case rel => first | exact ⟨g + 1, v', rfl, by omega, e5 g, by rw [show 80 * 1 + 8 * m + (g + 1) = N + 1 by have := hN.out; omega]; exact hown2, kx2⟩ | exact ⟨_, _, _, _, _, _, _, _, _, _, _, _, _, _, ⟨g + 1, v', rfl, by omega, e5 g, by rw [show 80 * 1 + 8 * m + (g + 1) = N + 1 by have := hN.out; omega]; exact hown2, kx2⟩, rfl⟩
                  case measure => simp [intOf]; omega
              · obtain rfl : g = 8 := by omega
                go_wp2
                exact ⟨⟨m + 1, _, rfl, by omega, by simp, hown, kx⟩, by simp [intOf]; omega⟩
          · obtain rfl : m = 10 := by omega
            go_wp2
            exact ⟨⟨1 + 1, _, rfl, by omega, rfl, hown, kx⟩, by simp [intOf]⟩
    · obtain rfl : k = 2 := by omega
      go_wp2
      go_ret
      exact ⟨⟨_, rfl, hown⟩, kx⟩
end Go.Proofs.YthifdgddegpbjaaDoor
