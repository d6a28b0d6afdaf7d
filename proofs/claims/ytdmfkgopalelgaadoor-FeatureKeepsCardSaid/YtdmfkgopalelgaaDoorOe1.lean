/- Package checks: Each at limits; Result at limits and booleans. -/
import Derived.Test.YtdmfkgopalelgaaDoorOck
namespace Go.Proofs.YtdmfkgopalelgaaDoor
open Go.RowKit

abbrev LimT : Type := Int × Int
def encLim : LimT → List Value | (l, h) => [.int .i64 l, .int .i64 h]
abbrev valLim : LimT → Value | (l, h) => .agg #[.int .i64 l, .int .i64 h]
set_option maxRecDepth 100000 in
set_option maxHeartbeats 2000000 in
theorem cEach1_Lim (F : Nat) (d : LimT) (xs : List LimT) (es : List Int) (sv : Value) (p q : Nat) (w : World) (hn : xs.length ≤ 100000) (hl : es.length = xs.length) (h1 : w.cell? ⟨p, 0, none⟩ = some sv) (h2 : w.cell? ⟨q, 0, none⟩ = some (.func (.func F) #[] #[])) (hs : Sl [] 2 w sv (xs.map encLim))
    (he : ∀ args W, (callFunc F args).run Tryd.prog W = .ok (.enter F args) W) (hf : ∀ i, i < xs.length → Ca F #[valLim (xs.getD i d)] (.int .i64 (es.getD i 0))) :
    Calls Tryd.prog 87 #[.pointer (some ⟨p, 0, none⟩), .pointer (some ⟨q, 0, none⟩)] w fun r W' => r = .returned (.int .i64 (firstE es)) ∧ Kb w W' := by
  obtain ⟨sp, cap, hv, hs⟩ := hs
  rw [List.length_map] at hv hs
  rw [hv] at h1
  have HS := Lib.hid hs
  have HC := Lib.hid hf
  have H0 : Hid (firstE es = firstE (es.drop 0)) := rfl
  have HX := Lib.hid (fun k (hk : k < xs.length) => show (xs.map encLim).getD k [] = encLim (xs.getD k d) by simp [List.getD_eq_getElem?_getD, hk])
  generalize hN : xs.length = n at *
  have HD := Lib.hid (fun k (hk : k < n) => firstE_drop (es := es) (k := k) (by omega))
  have HE : Hid (firstE (es.drop n) = 0) := by rw [List.drop_of_length_le (by omega)]; rfl
  clear hs hf hv hl hN
  go_enter Tryd.func87, Tryd.ntmps87
  go_wp2
  go_loopg [4, 5, 8] n (fun gk s4 s5 s8 wr => ∃ k : Nat, s8 = .int .i64 k ∧ k + gk = n ∧ Hid (firstE es = firstE (es.drop k)) ∧ Kb w wr)
  case atStart => exact ⟨0, rfl, by omega, H0, Kb.refl _⟩
  case round =>
    obtain ⟨k, rfl, hk, hE, kk⟩ := hrel
    have hk0 : (0 : Int) ≤ (k : Int) := by omega
    have c2 := kk.cell h2
    by_cases hlt : k < n
    · obtain ⟨b, off, rfl, hb, hbL, hcell⟩ := HS.out (by omega)
      have hX := HX.out k hlt
      have hcal := HC.out k hlt
      have hD := HD.out k hlt
      generalize es.getD k 0 = e at *
      generalize xs.getD k d = x at *
      obtain ⟨l, h⟩ := x
      have x0 := kk.cell (hcell k hlt 0 (by omega))
      rw [hX] at x0
      replace x0 : wr.cell? ⟨b, off + k * 2, none⟩ = some (.int .i64 l) := x0
      have x1 := kk.cell (hcell k hlt 1 (by omega))
      rw [hX] at x1
      replace x1 : wr.cell? ⟨b, off + k * 2 + 1, none⟩ = some (.int .i64 h) := x1
      have hcal2 := Lib.hid hcal
      have Hk := Lib.hid hk
      have ka := kk.alloc (.cells #[.int .i64 l, .int .i64 h] 25 (0, 0))
      have ib := Is.made wr #[.int .i64 l, .int .i64 h] 25
      have y0 := ib.c (i := 0) rfl
      have y1 := ib.c (i := 1) rfl
      have c3 := cell_al c2 (.cells #[.int .i64 l, .int .i64 h] 25 (0, 0))
      clear hcell hX hcal ib
      unfold Ca at hcal2
      by_cases h0 : e = 0
      · have hE2 : Hid (firstE es = firstE (es.drop (k + 1))) := hE.out.trans (hD.trans (if_pos h0))
        subst h0
        clear hD hE hk
        go_wp2_with (go_at_fn F; (with_reducible refine (hcal2.out.out _).mono ?_); rintro r w1 ⟨rfl, k1⟩)
        have hk := Hk.out
        go_roundg (gk - 1)
        case measure => omega
        case rel => exact ⟨k + 1, by go_num, by omega, hE2, ka.trans k1⟩
      · have hE2 : Hid (firstE es = e) := hE.out.trans (hD.trans (if_neg h0))
        have hne : (e != 0) = true := by simpa using h0
        clear hD hE hk h0
        go_wp2_with (go_at_fn F; (with_reducible refine (hcal2.out.out _).mono ?_); rintro r w1 ⟨rfl, k1⟩)
        go_ret
        exact ⟨by rw [hE2.out]; rfl, ka.trans k1⟩
    · obtain rfl : k = n := by omega
      have hE2 : Hid (firstE es = 0) := hE.out.trans HE.out
      clear hk hE HE
      go_wp2
      go_ret
      exact ⟨by rw [hE2.out]; rfl, kk⟩
set_option maxRecDepth 100000 in
set_option maxHeartbeats 2000000 in
theorem cEach_Lim (L : List Nat) (F : Nat) (d : LimT) (xs : List LimT) (es : List Int) (sv : Value) (w : World) (hL : ∀ x ∈ L, x < w.heap.size) (hn : xs.length ≤ 100000) (hl : es.length = xs.length) (hs : Sl L 2 w sv (xs.map encLim))
    (he : ∀ args W, (callFunc F args).run Tryd.prog W = .ok (.enter F args) W) (hf : ∀ i, i < xs.length → Ca F #[valLim (xs.getD i d)] (.int .i64 (es.getD i 0))) :
    Calls Tryd.prog 73 #[.func (.func F) #[] #[], sv] w fun r W' => ∃ v, r = .returned v ∧ Ck L v (firstE es) W' ∧ Kb w W' := by
  have hs2 := hs
  obtain ⟨sp, cap, hv, _⟩ := hs2
  rw [List.length_map] at hv
  subst hv
  have k1 := (Kb.refl w).alloc (.cells #[.func (.func F) #[] #[]] 107 (0, 0))
  have kk := k1.alloc (.cells #[.slice sp xs.length cap] 122 (0, 0))
  have b0 := (Is.made w #[.func (.func F) #[] #[]] 107).alloc (.cells #[.slice sp xs.length cap] 122 (0, 0))
  have b1 := Is.made (w.alloc (.cells #[.func (.func F) #[] #[]] 107 (0, 0))) #[.slice sp xs.length cap] 122
  rw [World.size_alloc] at b1
  have R : Ck L (.func (.func 87) #[] #[.pointer (some ⟨w.heap.size + 1, 0, none⟩), .pointer (some ⟨w.heap.size, 0, none⟩)]) (firstE es) ((w.alloc (.cells #[.func (.func F) #[] #[]] 107 (0, 0))).alloc (.cells #[.slice sp xs.length cap] 122 (0, 0))) := by
    refine ⟨_, _, rfl, enters_of Tryd.func87 (by kernel_rfl) rfl, fun W hW => ?_⟩
    exact cEach1_Lim F d xs es _ _ _ W hn hl ((b1.kx hW (fun hx => by have := hL _ hx; omega)).c rfl) ((b0.kx hW (fun hx => by have := hL _ hx; omega)).c rfl) (((hs.kb kk).kx hW).none) he hf
  have HR := Lib.hid R
  clear R b0 b1 hL hf he hl hn k1 hs
  go_enter Tryd.func73, Tryd.ntmps73
  go_wp2
  go_ret
  exact ⟨_, rfl, HR.out, kk⟩
set_option maxRecDepth 100000 in
set_option maxHeartbeats 2000000 in
theorem cResult_Lim_0 (L : List Nat) (es : List Int) (v : Value) (l : Int) (h : Int) (w : World) (hS : SlC L es v w) (hn : es.length ≤ 1000) (h0 : firstE es = 0) : Calls Tryd.prog 78 #[.agg #[.int .i64 l, .int .i64 h], v] w fun r W' => r = .returned (.tuple #[.agg #[.int .i64 l, .int .i64 h], .int .i64 0]) ∧ Kb w W' := by
  have k0 := ((Kb.refl w).alloc (.cells #[.int .i64 l, .int .i64 h] 25 (0, 0))).alloc (.cells #[.int .i64 0, .int .i64 0] 25 (0, 0))
  have b0 := (Is.made w #[.int .i64 l, .int .i64 h] 25).alloc (.cells #[.int .i64 0, .int .i64 0] 25 (0, 0))
  have b1 := Is.made (w.alloc (.cells #[.int .i64 l, .int .i64 h] 25 (0, 0))) #[.int .i64 0, .int .i64 0] 25
  rw [World.size_alloc] at b1
  have q := cFirst L es v _ (hS.kx k0.kx) hn
  rw [h0] at q
  obtain ⟨fs, hl, ⟨p, cap, hv, _⟩, _⟩ := hS
  rw [List.length_map] at hv
  generalize fs.length = m at *
  subst hv
  clear h0 hl
  have Q := Lib.hid q
  clear q
  go_enter Tryd.func78, Tryd.ntmps78
  go_wp2_with fail
  (with_reducible refine (Q.out).mono ?_)
  rintro r w1 ⟨rfl, k1⟩
  replace b0 := b0.kb k1
  replace b1 := b1.kb k1
  have x0 := b0.c (i := 0) rfl
  have x1 := b0.c (i := 1) rfl
  have z := ((b1.set 0 (.int .i64 l)).set 1 (.int .i64 h))
  have y0 := b1.c (i := 0) rfl
  have y1 := b1.c (i := 1) rfl
  have ff := b1.f
  have f0 := ff 0
  have f1 := ff 1
  have kz := (((k0.trans k1).setCell (p := ⟨w.heap.size + 1, 0, none⟩) (by simp) (.int .i64 l)).setCell (p := ⟨w.heap.size + 1, 1, none⟩) (by simp) (.int .i64 h))
  clear b0 b1 ff k0 k1
  go_wp2
  refine ret_row2 Tryd.results78 rfl rfl rfl z Tryd.underlying25 rfl (by kernel_rfl) ?_
  exact ⟨rfl, kz⟩
set_option maxRecDepth 100000 in
set_option maxHeartbeats 2000000 in
theorem cResult_Lim_e (L : List Nat) (es : List Int) (v : Value) (l : Int) (h : Int) (w : World) (hS : SlC L es v w) (hn : es.length ≤ 1000) (h0 : firstE es ≠ 0) : Calls Tryd.prog 78 #[.agg #[.int .i64 l, .int .i64 h], v] w fun r W' => r = .returned (.tuple #[.agg #[.int .i64 0, .int .i64 0], .int .i64 (firstE es)]) ∧ Kb w W' := by
  have k0 := ((Kb.refl w).alloc (.cells #[.int .i64 l, .int .i64 h] 25 (0, 0))).alloc (.cells #[.int .i64 0, .int .i64 0] 25 (0, 0))
  have b1 := Is.made (w.alloc (.cells #[.int .i64 l, .int .i64 h] 25 (0, 0))) #[.int .i64 0, .int .i64 0] 25
  rw [World.size_alloc] at b1
  have q := cFirst L es v _ (hS.kx k0.kx) hn
  have hne : (firstE es != 0) = true := by simpa using h0
  generalize firstE es = e at *
  obtain ⟨fs, hl, ⟨p, cap, hv, _⟩, _⟩ := hS
  rw [List.length_map] at hv
  generalize fs.length = m at *
  subst hv
  clear h0 hl
  have Q := Lib.hid q
  clear q
  go_enter Tryd.func78, Tryd.ntmps78
  go_wp2_with fail
  (with_reducible refine (Q.out).mono ?_)
  rintro r w1 ⟨rfl, k1⟩
  have k2 := k0.trans k1
  have k3 := k2.alloc (.cells #[.int .i64 0, .int .i64 0] 25 (0, 0))
  replace b1 := (b1.kb k1).alloc (.cells #[.int .i64 0, .int .i64 0] 25 (0, 0))
  have n0 := Is.made w1 #[.int .i64 0, .int .i64 0] 25
  have m0 := n0.c (i := 0) rfl
  have m1 := n0.c (i := 1) rfl
  have z := ((b1.set 0 (.int .i64 0)).set 1 (.int .i64 0))
  have y0 := b1.c (i := 0) rfl
  have y1 := b1.c (i := 1) rfl
  have ff := b1.f
  have f0 := ff 0
  have f1 := ff 1
  have kz := ((k3.setCell (p := ⟨w.heap.size + 1, 0, none⟩) (by simp) (.int .i64 0)).setCell (p := ⟨w.heap.size + 1, 1, none⟩) (by simp) (.int .i64 0))
  clear b1 ff k0 k1 k2 k3 n0
  go_wp2
  refine ret_row2 Tryd.results78 rfl rfl rfl z Tryd.underlying25 rfl (by kernel_rfl) ?_
  exact ⟨rfl, kz⟩












































theorem cResult_Lim (L : List Nat) (es : List Int) (v : Value) (l : Int) (h : Int) (w : World) (hS : SlC L es v w) (hn : es.length ≤ 1000) : Calls Tryd.prog 78 #[.agg #[.int .i64 l, .int .i64 h], v] w fun r W' => r = .returned (.tuple #[.agg #[.int .i64 (zI (firstE es) l), .int .i64 (zI (firstE es) h)], .int .i64 (firstE es)]) ∧ Kb w W' := by
  by_cases h0 : firstE es = 0
  · have q := cResult_Lim_0 L es v l h w hS hn h0
    rw [h0]; exact q
  · have q := cResult_Lim_e L es v l h w hS hn h0
    rw [show zI (firstE es) l = 0 from if_neg h0, show zI (firstE es) h = 0 from if_neg h0]; exact q






end Go.Proofs.YtdmfkgopalelgaaDoor
