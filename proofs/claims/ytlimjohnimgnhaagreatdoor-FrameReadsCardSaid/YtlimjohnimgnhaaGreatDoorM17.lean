/- Texts Oe3: each says in its own first comment what it proves. -/
import Derived.Test.YtlimjohnimgnhaaGreatDoorM08
/- Package checks: Each at numbers, places and features. -/
namespace Go.Proofs.YtlimjohnimgnhaaGreatDoor
open Go.RowKit

abbrev IntT : Type := Int
def encInt : IntT → List Value | z => [.int .i64 z]
abbrev valInt : IntT → Value | z => .int .i64 z
set_option maxRecDepth 100000 in
set_option maxHeartbeats 2000000 in
theorem cEach1_Int (F : Nat) (d : IntT) (xs : List IntT) (es : List Int) (sv : Value) (p q : Nat) (w : World) (hn : xs.length ≤ 100000) (hl : es.length = xs.length) (h1 : w.cell? ⟨p, 0, none⟩ = some sv) (h2 : w.cell? ⟨q, 0, none⟩ = some (.func (.func F) #[] #[])) (hs : Sl [] 1 w sv (xs.map encInt))
    (he : ∀ args W, (callFunc F args).run Tryz.prog W = .ok (.enter F args) W) (hf : ∀ i, i < xs.length → Ca F #[valInt (xs.getD i d)] (.int .i64 (es.getD i 0))) :
    Calls Tryz.prog 95 #[.pointer (some ⟨p, 0, none⟩), .pointer (some ⟨q, 0, none⟩)] w fun r W' => r = .returned (.int .i64 (firstE es)) ∧ Kb w W' := by
  obtain ⟨sp, cap, hv, hs⟩ := hs
  rw [List.length_map] at hv hs
  rw [hv] at h1
  have HS := Lib.hid hs
  have HC := Lib.hid hf
  have H0 : Hid (firstE es = firstE (es.drop 0)) := rfl
  have HX := Lib.hid (fun k (hk : k < xs.length) => show (xs.map encInt).getD k [] = encInt (xs.getD k d) by simp [List.getD_eq_getElem?_getD, hk])
  generalize hN : xs.length = n at *
  have HD := Lib.hid (fun k (hk : k < n) => firstE_drop (es := es) (k := k) (by omega))
  have HE : Hid (firstE (es.drop n) = 0) := by rw [List.drop_of_length_le (by omega)]; rfl
  clear hs hf hv hl hN
  go_enter Tryz.func95, Tryz.ntmps95
  go_wp2
  go_loopg [4, 5, 8] n (fun gk s4 s5 s8 wr => ∃ k : Nat, s8 = .int .i64 k ∧ k + gk = n ∧ Hid (firstE es = firstE (es.drop k)) ∧ Kb w wr)
  case atStart => exact ⟨0, rfl, by omega, H0, Kb.refl _⟩
  case round =>
    obtain ⟨k, rfl, hk, hE, kk⟩ := hrel
    have hk0 : (0 : Int) ≤ (k : Int) := by omega
    have c2 := kk.cell h2
    by_cases hlt : k < n
    · obtain ⟨b, off, rfl, hb, hbL, hcell⟩ := HS.out (by omega)
      have hX := HX.out k hlt
      have hcal := HC.out k hlt
      have hD := HD.out k hlt
      generalize es.getD k 0 = e at *
      generalize xs.getD k d = x at *
      obtain ⟨z, rfl⟩ : ∃ z, z = x := ⟨_, rfl⟩
      have x0 := kk.cell (hcell k hlt 0 (by omega))
      rw [hX] at x0
      replace x0 : wr.cell? ⟨b, off + k, none⟩ = some (.int .i64 z) := by rw [Nat.mul_one] at x0; exact x0
      have hcal2 := Lib.hid hcal
      have Hk := Lib.hid hk
      clear hcell hX hcal
      unfold Ca at hcal2
      by_cases h0 : e = 0
      · have hE2 : Hid (firstE es = firstE (es.drop (k + 1))) := hE.out.trans (hD.trans (if_pos h0))
        subst h0
        clear hD hE hk
        go_wp2_with (go_at_fn F; (with_reducible refine (hcal2.out.out _).mono ?_); rintro r w1 ⟨rfl, k1⟩)
        have hk := Hk.out
        go_roundg (gk - 1)
        case measure => omega
        case rel => exact ⟨k + 1, by go_num, by omega, hE2, kk.trans k1⟩
      · have hE2 : Hid (firstE es = e) := hE.out.trans (hD.trans (if_neg h0))
        have hne : (e != 0) = true := by simpa using h0
        clear hD hE hk h0
        go_wp2_with (go_at_fn F; (with_reducible refine (hcal2.out.out _).mono ?_); rintro r w1 ⟨rfl, k1⟩)
        go_ret
        exact ⟨by rw [hE2.out]; rfl, kk.trans k1⟩
    · obtain rfl : k = n := by omega
      have hE2 : Hid (firstE es = 0) := hE.out.trans HE.out
      clear hk hE HE
      go_wp2
      go_ret
      exact ⟨by rw [hE2.out]; rfl, kk⟩
set_option maxRecDepth 100000 in
set_option maxHeartbeats 2000000 in
theorem cEach_Int (L : List Nat) (F : Nat) (d : IntT) (xs : List IntT) (es : List Int) (sv : Value) (w : World) (hL : ∀ x ∈ L, x < w.heap.size) (hn : xs.length ≤ 100000) (hl : es.length = xs.length) (hs : Sl L 1 w sv (xs.map encInt))
    (he : ∀ args W, (callFunc F args).run Tryz.prog W = .ok (.enter F args) W) (hf : ∀ i, i < xs.length → Ca F #[valInt (xs.getD i d)] (.int .i64 (es.getD i 0))) :
    Calls Tryz.prog 48 #[.func (.func F) #[] #[], sv] w fun r W' => ∃ v, r = .returned v ∧ Ck L v (firstE es) W' ∧ Kb w W' := by
  have hs2 := hs
  obtain ⟨sp, cap, hv, _⟩ := hs2
  rw [List.length_map] at hv
  subst hv
  have k1 := (Kb.refl w).alloc (.cells #[.func (.func F) #[] #[]] 85 (0, 0))
  have kk := k1.alloc (.cells #[.slice sp xs.length cap] 140 (0, 0))
  have b0 := (Is.made w #[.func (.func F) #[] #[]] 85).alloc (.cells #[.slice sp xs.length cap] 140 (0, 0))
  have b1 := Is.made (w.alloc (.cells #[.func (.func F) #[] #[]] 85 (0, 0))) #[.slice sp xs.length cap] 140
  rw [World.size_alloc] at b1
  have R : Ck L (.func (.func 95) #[] #[.pointer (some ⟨w.heap.size + 1, 0, none⟩), .pointer (some ⟨w.heap.size, 0, none⟩)]) (firstE es) ((w.alloc (.cells #[.func (.func F) #[] #[]] 85 (0, 0))).alloc (.cells #[.slice sp xs.length cap] 140 (0, 0))) := by
    refine ⟨_, _, rfl, enters_of Tryz.func95 (by kernel_rfl) rfl, fun W hW => ?_⟩
    exact cEach1_Int F d xs es _ _ _ W hn hl ((b1.kx hW (fun hx => by have := hL _ hx; omega)).c rfl) ((b0.kx hW (fun hx => by have := hL _ hx; omega)).c rfl) (((hs.kb kk).kx hW).none) he hf
  have HR := Lib.hid R
  clear R b0 b1 hL hf he hl hn k1 hs
  go_enter Tryz.func48, Tryz.ntmps48
  go_wp2
  go_ret
  exact ⟨_, rfl, HR.out, kk⟩
abbrev SptT : Type := Int × Int × Int
def encSpt : SptT → List Value | (x, y, z) => [.int .i64 x, .int .i64 y, .int .i64 z]
abbrev valSpt : SptT → Value | (x, y, z) => .agg #[.int .i64 x, .int .i64 y, .int .i64 z]
set_option maxRecDepth 100000 in
set_option maxHeartbeats 2000000 in
theorem cEach1_Spt (F : Nat) (d : SptT) (xs : List SptT) (es : List Int) (sv : Value) (p q : Nat) (w : World) (hn : xs.length ≤ 100000) (hl : es.length = xs.length) (h1 : w.cell? ⟨p, 0, none⟩ = some sv) (h2 : w.cell? ⟨q, 0, none⟩ = some (.func (.func F) #[] #[])) (hs : Sl [] 3 w sv (xs.map encSpt))
    (he : ∀ args W, (callFunc F args).run Tryz.prog W = .ok (.enter F args) W) (hf : ∀ i, i < xs.length → Ca F #[valSpt (xs.getD i d)] (.int .i64 (es.getD i 0))) :
    Calls Tryz.prog 120 #[.pointer (some ⟨p, 0, none⟩), .pointer (some ⟨q, 0, none⟩)] w fun r W' => r = .returned (.int .i64 (firstE es)) ∧ Kb w W' := by
  obtain ⟨sp, cap, hv, hs⟩ := hs
  rw [List.length_map] at hv hs
  rw [hv] at h1
  have HS := Lib.hid hs
  have HC := Lib.hid hf
  have H0 : Hid (firstE es = firstE (es.drop 0)) := rfl
  have HX := Lib.hid (fun k (hk : k < xs.length) => show (xs.map encSpt).getD k [] = encSpt (xs.getD k d) by simp [List.getD_eq_getElem?_getD, hk])
  generalize hN : xs.length = n at *
  have HD := Lib.hid (fun k (hk : k < n) => firstE_drop (es := es) (k := k) (by omega))
  have HE : Hid (firstE (es.drop n) = 0) := by rw [List.drop_of_length_le (by omega)]; rfl
  clear hs hf hv hl hN
  go_enter Tryz.func120, Tryz.ntmps120
  go_wp2
  go_loopg [4, 5, 8] n (fun gk s4 s5 s8 wr => ∃ k : Nat, s8 = .int .i64 k ∧ k + gk = n ∧ Hid (firstE es = firstE (es.drop k)) ∧ Kb w wr)
  case atStart => exact ⟨0, rfl, by omega, H0, Kb.refl _⟩
  case round =>
    obtain ⟨k, rfl, hk, hE, kk⟩ := hrel
    have hk0 : (0 : Int) ≤ (k : Int) := by omega
    have c2 := kk.cell h2
    by_cases hlt : k < n
    · obtain ⟨b, off, rfl, hb, hbL, hcell⟩ := HS.out (by omega)
      have hX := HX.out k hlt
      have hcal := HC.out k hlt
      have hD := HD.out k hlt
      generalize es.getD k 0 = e at *
      generalize xs.getD k d = x at *
      obtain ⟨x, y, z⟩ := x
      have x0 := kk.cell (hcell k hlt 0 (by omega))
      rw [hX] at x0
      replace x0 : wr.cell? ⟨b, off + k * 3, none⟩ = some (.int .i64 x) := x0
      have x1 := kk.cell (hcell k hlt 1 (by omega))
      rw [hX] at x1
      replace x1 : wr.cell? ⟨b, off + k * 3 + 1, none⟩ = some (.int .i64 y) := x1
      have x2 := kk.cell (hcell k hlt 2 (by omega))
      rw [hX] at x2
      replace x2 : wr.cell? ⟨b, off + k * 3 + 2, none⟩ = some (.int .i64 z) := x2
      have hcal2 := Lib.hid hcal
      have Hk := Lib.hid hk
      have ka := kk.alloc (.cells #[.int .i64 x, .int .i64 y, .int .i64 z] 23 (0, 0))
      have ib := Is.made wr #[.int .i64 x, .int .i64 y, .int .i64 z] 23
      have y0 := ib.c (i := 0) rfl
      have y1 := ib.c (i := 1) rfl
      have y2 := ib.c (i := 2) rfl
      have c3 := cell_al c2 (.cells #[.int .i64 x, .int .i64 y, .int .i64 z] 23 (0, 0))
      clear hcell hX hcal ib
      unfold Ca at hcal2
      by_cases h0 : e = 0
      · have hE2 : Hid (firstE es = firstE (es.drop (k + 1))) := hE.out.trans (hD.trans (if_pos h0))
        subst h0
        clear hD hE hk
        go_wp2_with (go_at_fn F; (with_reducible refine (hcal2.out.out _).mono ?_); rintro r w1 ⟨rfl, k1⟩)
        have hk := Hk.out
        go_roundg (gk - 1)
        case measure => omega
        case rel => exact ⟨k + 1, by go_num, by omega, hE2, ka.trans k1⟩
      · have hE2 : Hid (firstE es = e) := hE.out.trans (hD.trans (if_neg h0))
        have hne : (e != 0) = true := by simpa using h0
        clear hD hE hk h0
        go_wp2_with (go_at_fn F; (with_reducible refine (hcal2.out.out _).mono ?_); rintro r w1 ⟨rfl, k1⟩)
        go_ret
        exact ⟨by rw [hE2.out]; rfl, ka.trans k1⟩
    · obtain rfl : k = n := by omega
      have hE2 : Hid (firstE es = 0) := hE.out.trans HE.out
      clear hk hE HE
      go_wp2
      go_ret
      exact ⟨by rw [hE2.out]; rfl, kk⟩
set_option maxRecDepth 100000 in
set_option maxHeartbeats 2000000 in
theorem cEach_Spt (L : List Nat) (F : Nat) (d : SptT) (xs : List SptT) (es : List Int) (sv : Value) (w : World) (hL : ∀ x ∈ L, x < w.heap.size) (hn : xs.length ≤ 100000) (hl : es.length = xs.length) (hs : Sl L 3 w sv (xs.map encSpt))
    (he : ∀ args W, (callFunc F args).run Tryz.prog W = .ok (.enter F args) W) (hf : ∀ i, i < xs.length → Ca F #[valSpt (xs.getD i d)] (.int .i64 (es.getD i 0))) :
    Calls Tryz.prog 82 #[.func (.func F) #[] #[], sv] w fun r W' => ∃ v, r = .returned v ∧ Ck L v (firstE es) W' ∧ Kb w W' := by
  have hs2 := hs
  obtain ⟨sp, cap, hv, _⟩ := hs2
  rw [List.length_map] at hv
  subst hv
  have k1 := (Kb.refl w).alloc (.cells #[.func (.func F) #[] #[]] 127 (0, 0))
  have kk := k1.alloc (.cells #[.slice sp xs.length cap] 154 (0, 0))
  have b0 := (Is.made w #[.func (.func F) #[] #[]] 127).alloc (.cells #[.slice sp xs.length cap] 154 (0, 0))
  have b1 := Is.made (w.alloc (.cells #[.func (.func F) #[] #[]] 127 (0, 0))) #[.slice sp xs.length cap] 154
  rw [World.size_alloc] at b1
  have R : Ck L (.func (.func 120) #[] #[.pointer (some ⟨w.heap.size + 1, 0, none⟩), .pointer (some ⟨w.heap.size, 0, none⟩)]) (firstE es) ((w.alloc (.cells #[.func (.func F) #[] #[]] 127 (0, 0))).alloc (.cells #[.slice sp xs.length cap] 154 (0, 0))) := by
    refine ⟨_, _, rfl, enters_of Tryz.func120 (by kernel_rfl) rfl, fun W hW => ?_⟩
    exact cEach1_Spt F d xs es _ _ _ W hn hl ((b1.kx hW (fun hx => by have := hL _ hx; omega)).c rfl) ((b0.kx hW (fun hx => by have := hL _ hx; omega)).c rfl) (((hs.kb kk).kx hW).none) he hf
  have HR := Lib.hid R
  clear R b0 b1 hL hf he hl hn k1 hs
  go_enter Tryz.func82, Tryz.ntmps82
  go_wp2
  go_ret
  exact ⟨_, rfl, HR.out, kk⟩
abbrev FtrT : Type := ByteArray × Int × Int × Int × Int × Int × Int × Int × Option Addr × Nat × Nat
def encFtr : FtrT → List Value | (nm, kd, ax, x, y, z, lo, hi, fp, fl, fc) => [.string nm, .int .i64 kd, .int .i64 ax, .int .i64 x, .int .i64 y, .int .i64 z, .int .i64 lo, .int .i64 hi, .slice fp fl fc]
abbrev valFtr : FtrT → Value | (nm, kd, ax, x, y, z, lo, hi, fp, fl, fc) => .agg #[.string nm, .int .i64 kd, .int .i64 ax, .int .i64 x, .int .i64 y, .int .i64 z, .int .i64 lo, .int .i64 hi, .slice fp fl fc]
set_option maxRecDepth 100000 in
set_option maxHeartbeats 2000000 in
theorem cEach1_Ftr (F : Nat) (d : FtrT) (xs : List FtrT) (es : List Int) (sv : Value) (p q : Nat) (w : World) (hn : xs.length ≤ 100000) (hl : es.length = xs.length) (h1 : w.cell? ⟨p, 0, none⟩ = some sv) (h2 : w.cell? ⟨q, 0, none⟩ = some (.func (.func F) #[] #[])) (hs : Sl [] 9 w sv (xs.map encFtr))
    (he : ∀ args W, (callFunc F args).run Tryz.prog W = .ok (.enter F args) W) (hf : ∀ i, i < xs.length → Ca F #[valFtr (xs.getD i d)] (.int .i64 (es.getD i 0))) :
    Calls Tryz.prog 78 #[.pointer (some ⟨p, 0, none⟩), .pointer (some ⟨q, 0, none⟩)] w fun r W' => r = .returned (.int .i64 (firstE es)) ∧ Kb w W' := by
  obtain ⟨sp, cap, hv, hs⟩ := hs
  rw [List.length_map] at hv hs
  rw [hv] at h1
  have HS := Lib.hid hs
  have HC := Lib.hid hf
  have H0 : Hid (firstE es = firstE (es.drop 0)) := rfl
  have HX := Lib.hid (fun k (hk : k < xs.length) => show (xs.map encFtr).getD k [] = encFtr (xs.getD k d) by simp [List.getD_eq_getElem?_getD, hk])
  generalize hN : xs.length = n at *
  have HD := Lib.hid (fun k (hk : k < n) => firstE_drop (es := es) (k := k) (by omega))
  have HE : Hid (firstE (es.drop n) = 0) := by rw [List.drop_of_length_le (by omega)]; rfl
  clear hs hf hv hl hN
  go_enter Tryz.func78, Tryz.ntmps78
  go_wp2
  go_loopg [4, 5, 8] n (fun gk s4 s5 s8 wr => ∃ k : Nat, s8 = .int .i64 k ∧ k + gk = n ∧ Hid (firstE es = firstE (es.drop k)) ∧ Kb w wr)
  case atStart => exact ⟨0, rfl, by omega, H0, Kb.refl _⟩
  case round =>
    obtain ⟨k, rfl, hk, hE, kk⟩ := hrel
    have hk0 : (0 : Int) ≤ (k : Int) := by omega
    have c2 := kk.cell h2
    by_cases hlt : k < n
    · obtain ⟨b, off, rfl, hb, hbL, hcell⟩ := HS.out (by omega)
      have hX := HX.out k hlt
      have hcal := HC.out k hlt
      have hD := HD.out k hlt
      generalize es.getD k 0 = e at *
      generalize xs.getD k d = x at *
      obtain ⟨nm, kd, ax, x, y, z, lo, hi, fp, fl, fc⟩ := x
      have x0 := kk.cell (hcell k hlt 0 (by omega))
      rw [hX] at x0
      replace x0 : wr.cell? ⟨b, off + k * 9, none⟩ = some (.string nm) := x0
      have x1 := kk.cell (hcell k hlt 1 (by omega))
      rw [hX] at x1
      replace x1 : wr.cell? ⟨b, off + k * 9 + 1, none⟩ = some (.int .i64 kd) := x1
      have x2 := kk.cell (hcell k hlt 2 (by omega))
      rw [hX] at x2
      replace x2 : wr.cell? ⟨b, off + k * 9 + 2, none⟩ = some (.int .i64 ax) := x2
      have x3 := kk.cell (hcell k hlt 3 (by omega))
      rw [hX] at x3
      replace x3 : wr.cell? ⟨b, off + k * 9 + 3, none⟩ = some (.int .i64 x) := x3
      have x4 := kk.cell (hcell k hlt 4 (by omega))
      rw [hX] at x4
      replace x4 : wr.cell? ⟨b, off + k * 9 + 4, none⟩ = some (.int .i64 y) := x4
      have x5 := kk.cell (hcell k hlt 5 (by omega))
      rw [hX] at x5
      replace x5 : wr.cell? ⟨b, off + k * 9 + 5, none⟩ = some (.int .i64 z) := x5
      have x6 := kk.cell (hcell k hlt 6 (by omega))
      rw [hX] at x6
      replace x6 : wr.cell? ⟨b, off + k * 9 + 6, none⟩ = some (.int .i64 lo) := x6
      have x7 := kk.cell (hcell k hlt 7 (by omega))
      rw [hX] at x7
      replace x7 : wr.cell? ⟨b, off + k * 9 + 7, none⟩ = some (.int .i64 hi) := x7
      have x8 := kk.cell (hcell k hlt 8 (by omega))
      rw [hX] at x8
      replace x8 : wr.cell? ⟨b, off + k * 9 + 8, none⟩ = some (.slice fp fl fc) := x8
      have hcal2 := Lib.hid hcal
      have Hk := Lib.hid hk
      have ka := kk.alloc (.cells #[.string nm, .int .i64 kd, .int .i64 ax, .int .i64 x, .int .i64 y, .int .i64 z, .int .i64 lo, .int .i64 hi, .slice fp fl fc] 28 (0, 0))
      have ib := Is.made wr #[.string nm, .int .i64 kd, .int .i64 ax, .int .i64 x, .int .i64 y, .int .i64 z, .int .i64 lo, .int .i64 hi, .slice fp fl fc] 28
      have y0 := ib.c (i := 0) rfl
      have y1 := ib.c (i := 1) rfl
      have y2 := ib.c (i := 2) rfl
      have y3 := ib.c (i := 3) rfl
      have y4 := ib.c (i := 4) rfl
      have y5 := ib.c (i := 5) rfl
      have y6 := ib.c (i := 6) rfl
      have y7 := ib.c (i := 7) rfl
      have y8 := ib.c (i := 8) rfl
      have c3 := cell_al c2 (.cells #[.string nm, .int .i64 kd, .int .i64 ax, .int .i64 x, .int .i64 y, .int .i64 z, .int .i64 lo, .int .i64 hi, .slice fp fl fc] 28 (0, 0))
      clear hcell hX hcal ib
      unfold Ca at hcal2
      by_cases h0 : e = 0
      · have hE2 : Hid (firstE es = firstE (es.drop (k + 1))) := hE.out.trans (hD.trans (if_pos h0))
        subst h0
        clear hD hE hk
        go_wp2_with (go_at_fn F; (with_reducible refine (hcal2.out.out _).mono ?_); rintro r w1 ⟨rfl, k1⟩)
        have hk := Hk.out
        go_roundg (gk - 1)
        case measure => omega
        case rel => exact ⟨k + 1, by go_num, by omega, hE2, ka.trans k1⟩
      · have hE2 : Hid (firstE es = e) := hE.out.trans (hD.trans (if_neg h0))
        have hne : (e != 0) = true := by simpa using h0
        clear hD hE hk h0
        go_wp2_with (go_at_fn F; (with_reducible refine (hcal2.out.out _).mono ?_); rintro r w1 ⟨rfl, k1⟩)
        go_ret
        exact ⟨by rw [hE2.out]; rfl, ka.trans k1⟩
    · obtain rfl : k = n := by omega
      have hE2 : Hid (firstE es = 0) := hE.out.trans HE.out
      clear hk hE HE
      go_wp2
      go_ret
      exact ⟨by rw [hE2.out]; rfl, kk⟩
set_option maxRecDepth 100000 in
set_option maxHeartbeats 2000000 in
theorem cEach_Ftr (L : List Nat) (F : Nat) (d : FtrT) (xs : List FtrT) (es : List Int) (sv : Value) (w : World) (hL : ∀ x ∈ L, x < w.heap.size) (hn : xs.length ≤ 100000) (hl : es.length = xs.length) (hs : Sl L 9 w sv (xs.map encFtr))
    (he : ∀ args W, (callFunc F args).run Tryz.prog W = .ok (.enter F args) W) (hf : ∀ i, i < xs.length → Ca F #[valFtr (xs.getD i d)] (.int .i64 (es.getD i 0))) :
    Calls Tryz.prog 40 #[.func (.func F) #[] #[], sv] w fun r W' => ∃ v, r = .returned v ∧ Ck L v (firstE es) W' ∧ Kb w W' := by
  have hs2 := hs
  obtain ⟨sp, cap, hv, _⟩ := hs2
  rw [List.length_map] at hv
  subst hv
  have k1 := (Kb.refl w).alloc (.cells #[.func (.func F) #[] #[]] 46 (0, 0))
  have kk := k1.alloc (.cells #[.slice sp xs.length cap] 123 (0, 0))
  have b0 := (Is.made w #[.func (.func F) #[] #[]] 46).alloc (.cells #[.slice sp xs.length cap] 123 (0, 0))
  have b1 := Is.made (w.alloc (.cells #[.func (.func F) #[] #[]] 46 (0, 0))) #[.slice sp xs.length cap] 123
  rw [World.size_alloc] at b1
  have R : Ck L (.func (.func 78) #[] #[.pointer (some ⟨w.heap.size + 1, 0, none⟩), .pointer (some ⟨w.heap.size, 0, none⟩)]) (firstE es) ((w.alloc (.cells #[.func (.func F) #[] #[]] 46 (0, 0))).alloc (.cells #[.slice sp xs.length cap] 123 (0, 0))) := by
    refine ⟨_, _, rfl, enters_of Tryz.func78 (by kernel_rfl) rfl, fun W hW => ?_⟩
    exact cEach1_Ftr F d xs es _ _ _ W hn hl ((b1.kx hW (fun hx => by have := hL _ hx; omega)).c rfl) ((b0.kx hW (fun hx => by have := hL _ hx; omega)).c rfl) (((hs.kb kk).kx hW).none) he hf
  have HR := Lib.hid R
  clear R b0 b1 hL hf he hl hn k1 hs
  go_enter Tryz.func40, Tryz.ntmps40
  go_wp2
  go_ret
  exact ⟨_, rfl, HR.out, kk⟩
end Go.Proofs.YtlimjohnimgnhaaGreatDoor
