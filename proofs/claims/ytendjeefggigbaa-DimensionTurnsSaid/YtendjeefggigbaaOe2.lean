/- Package checks: Each at texts and dimensions; Result at dimensions. -/
import Derived.Test.YtendjeefggigbaaOck
namespace Go.Proofs.Ytendjeefggigbaa
open Go.RowKit

abbrev TxtT : Type := ByteArray
def encTxt : TxtT → List Value | s => [.string s]
abbrev valTxt : TxtT → Value | s => .string s
set_option maxRecDepth 100000 in
set_option maxHeartbeats 2000000 in
theorem cEach1_Txt (F : Nat) (d : TxtT) (xs : List TxtT) (es : List Int) (sv : Value) (p q : Nat) (w : World) (hn : xs.length ≤ 100000) (hl : es.length = xs.length) (h1 : w.cell? ⟨p, 0, none⟩ = some sv) (h2 : w.cell? ⟨q, 0, none⟩ = some (.func (.func F) #[] #[])) (hs : Sl [] 1 w sv (xs.map encTxt))
    (he : ∀ args W, (callFunc F args).run Try.prog W = .ok (.enter F args) W) (hf : ∀ i, i < xs.length → Ca F #[valTxt (xs.getD i d)] (.int .i64 (es.getD i 0))) :
    Calls Try.prog 62 #[.pointer (some ⟨p, 0, none⟩), .pointer (some ⟨q, 0, none⟩)] w fun r W' => r = .returned (.int .i64 (firstE es)) ∧ Kb w W' := by
  obtain ⟨sp, cap, hv, hs⟩ := hs
  rw [List.length_map] at hv hs
  rw [hv] at h1
  have HS := Lib.hid hs
  have HC := Lib.hid hf
  have H0 : Hid (firstE es = firstE (es.drop 0)) := rfl
  have HX := Lib.hid (fun k (hk : k < xs.length) => show (xs.map encTxt).getD k [] = encTxt (xs.getD k d) by simp [List.getD_eq_getElem?_getD, hk])
  generalize hN : xs.length = n at *
  have HD := Lib.hid (fun k (hk : k < n) => firstE_drop (es := es) (k := k) (by omega))
  have HE : Hid (firstE (es.drop n) = 0) := by rw [List.drop_of_length_le (by omega)]; rfl
  clear hs hf hv hl hN
  go_enter Try.func62, Try.ntmps62
  go_wp2
  go_loopg [4, 5, 8] n (fun gk s4 s5 s8 wr => ∃ k : Nat, s8 = .int .i64 k ∧ k + gk = n ∧ Hid (firstE es = firstE (es.drop k)) ∧ Kb w wr)
  case atStart => exact ⟨0, rfl, by omega, H0, Kb.refl _⟩
  case round =>
    obtain ⟨k, rfl, hk, hE, kk⟩ := hrel
    have hk0 : (0 : Int) ≤ (k : Int) := by omega
    have c2 := kk.cell h2
    by_cases hlt : k < n
    · obtain ⟨b, off, rfl, hb, hbL, hcell⟩ := HS.out (by omega)
      have hX := HX.out k hlt
      have hcal := HC.out k hlt
      have hD := HD.out k hlt
      generalize es.getD k 0 = e at *
      generalize xs.getD k d = x at *
      obtain ⟨s, rfl⟩ : ∃ z, z = x := ⟨_, rfl⟩
      have x0 := kk.cell (hcell k hlt 0 (by omega))
      rw [hX] at x0
      replace x0 : wr.cell? ⟨b, off + k, none⟩ = some (.string s) := by rw [Nat.mul_one] at x0; exact x0
      have hcal2 := Lib.hid hcal
      have Hk := Lib.hid hk
      clear hcell hX hcal
      unfold Ca at hcal2
      by_cases h0 : e = 0
      · have hE2 : Hid (firstE es = firstE (es.drop (k + 1))) := hE.out.trans (hD.trans (if_pos h0))
        subst h0
        clear hD hE hk
        go_wp2_with (go_at_fn F; (with_reducible refine (hcal2.out.out _).mono ?_); rintro r w1 ⟨rfl, k1⟩)
        have hk := Hk.out
        go_roundg (gk - 1)
        case measure => omega
        case rel => exact ⟨k + 1, by go_num, by omega, hE2, kk.trans k1⟩
      · have hE2 : Hid (firstE es = e) := hE.out.trans (hD.trans (if_neg h0))
        have hne : (e != 0) = true := by simpa using h0
        clear hD hE hk h0
        go_wp2_with (go_at_fn F; (with_reducible refine (hcal2.out.out _).mono ?_); rintro r w1 ⟨rfl, k1⟩)
        go_ret
        exact ⟨by rw [hE2.out]; rfl, kk.trans k1⟩
    · obtain rfl : k = n := by omega
      have hE2 : Hid (firstE es = 0) := hE.out.trans HE.out
      clear hk hE HE
      go_wp2
      go_ret
      exact ⟨by rw [hE2.out]; rfl, kk⟩
set_option maxRecDepth 100000 in
set_option maxHeartbeats 2000000 in
theorem cEach_Txt (L : List Nat) (F : Nat) (d : TxtT) (xs : List TxtT) (es : List Int) (sv : Value) (w : World) (hL : ∀ x ∈ L, x < w.heap.size) (hn : xs.length ≤ 100000) (hl : es.length = xs.length) (hs : Sl L 1 w sv (xs.map encTxt))
    (he : ∀ args W, (callFunc F args).run Try.prog W = .ok (.enter F args) W) (hf : ∀ i, i < xs.length → Ca F #[valTxt (xs.getD i d)] (.int .i64 (es.getD i 0))) :
    Calls Try.prog 56 #[.func (.func F) #[] #[], sv] w fun r W' => ∃ v, r = .returned v ∧ Ck L v (firstE es) W' ∧ Kb w W' := by
  have hs2 := hs
  obtain ⟨sp, cap, hv, _⟩ := hs2
  rw [List.length_map] at hv
  subst hv
  have k1 := (Kb.refl w).alloc (.cells #[.func (.func F) #[] #[]] 31 (0, 0))
  have kk := k1.alloc (.cells #[.slice sp xs.length cap] 99 (0, 0))
  have b0 := (Is.made w #[.func (.func F) #[] #[]] 31).alloc (.cells #[.slice sp xs.length cap] 99 (0, 0))
  have b1 := Is.made (w.alloc (.cells #[.func (.func F) #[] #[]] 31 (0, 0))) #[.slice sp xs.length cap] 99
  rw [World.size_alloc] at b1
  have R : Ck L (.func (.func 62) #[] #[.pointer (some ⟨w.heap.size + 1, 0, none⟩), .pointer (some ⟨w.heap.size, 0, none⟩)]) (firstE es) ((w.alloc (.cells #[.func (.func F) #[] #[]] 31 (0, 0))).alloc (.cells #[.slice sp xs.length cap] 99 (0, 0))) := by
    refine ⟨_, _, rfl, enters_of Try.func62 (by kernel_rfl) rfl, fun W hW => ?_⟩
    exact cEach1_Txt F d xs es _ _ _ W hn hl ((b1.kx hW (fun hx => by have := hL _ hx; omega)).c rfl) ((b0.kx hW (fun hx => by have := hL _ hx; omega)).c rfl) (((hs.kb kk).kx hW).none) he hf
  have HR := Lib.hid R
  clear R b0 b1 hL hf he hl hn k1 hs
  go_enter Try.func56, Try.ntmps56
  go_wp2
  go_ret
  exact ⟨_, rfl, HR.out, kk⟩
abbrev DimT : Type := ByteArray × ByteArray × Int × Int × Int
def encDim : DimT → List Value | (f, t, a, l, h) => [.string f, .string t, .int .i64 a, .int .i64 l, .int .i64 h]
abbrev valDim : DimT → Value | (f, t, a, l, h) => .agg #[.string f, .string t, .int .i64 a, .int .i64 l, .int .i64 h]
set_option maxRecDepth 100000 in
set_option maxHeartbeats 2000000 in
theorem cEach1_Dim (F : Nat) (d : DimT) (xs : List DimT) (es : List Int) (sv : Value) (p q : Nat) (w : World) (hn : xs.length ≤ 100000) (hl : es.length = xs.length) (h1 : w.cell? ⟨p, 0, none⟩ = some sv) (h2 : w.cell? ⟨q, 0, none⟩ = some (.func (.func F) #[] #[])) (hs : Sl [] 5 w sv (xs.map encDim))
    (he : ∀ args W, (callFunc F args).run Try.prog W = .ok (.enter F args) W) (hf : ∀ i, i < xs.length → Ca F #[valDim (xs.getD i d)] (.int .i64 (es.getD i 0))) :
    Calls Try.prog 61 #[.pointer (some ⟨p, 0, none⟩), .pointer (some ⟨q, 0, none⟩)] w fun r W' => r = .returned (.int .i64 (firstE es)) ∧ Kb w W' := by
  obtain ⟨sp, cap, hv, hs⟩ := hs
  rw [List.length_map] at hv hs
  rw [hv] at h1
  have HS := Lib.hid hs
  have HC := Lib.hid hf
  have H0 : Hid (firstE es = firstE (es.drop 0)) := rfl
  have HX := Lib.hid (fun k (hk : k < xs.length) => show (xs.map encDim).getD k [] = encDim (xs.getD k d) by simp [List.getD_eq_getElem?_getD, hk])
  generalize hN : xs.length = n at *
  have HD := Lib.hid (fun k (hk : k < n) => firstE_drop (es := es) (k := k) (by omega))
  have HE : Hid (firstE (es.drop n) = 0) := by rw [List.drop_of_length_le (by omega)]; rfl
  clear hs hf hv hl hN
  go_enter Try.func61, Try.ntmps61
  go_wp2
  go_loopg [4, 5, 8] n (fun gk s4 s5 s8 wr => ∃ k : Nat, s8 = .int .i64 k ∧ k + gk = n ∧ Hid (firstE es = firstE (es.drop k)) ∧ Kb w wr)
  case atStart => exact ⟨0, rfl, by omega, H0, Kb.refl _⟩
  case round =>
    obtain ⟨k, rfl, hk, hE, kk⟩ := hrel
    have hk0 : (0 : Int) ≤ (k : Int) := by omega
    have c2 := kk.cell h2
    by_cases hlt : k < n
    · obtain ⟨b, off, rfl, hb, hbL, hcell⟩ := HS.out (by omega)
      have hX := HX.out k hlt
      have hcal := HC.out k hlt
      have hD := HD.out k hlt
      generalize es.getD k 0 = e at *
      generalize xs.getD k d = x at *
      obtain ⟨f, t, a, l, h⟩ := x
      have x0 := kk.cell (hcell k hlt 0 (by omega))
      rw [hX] at x0
      replace x0 : wr.cell? ⟨b, off + k * 5, none⟩ = some (.string f) := x0
      have x1 := kk.cell (hcell k hlt 1 (by omega))
      rw [hX] at x1
      replace x1 : wr.cell? ⟨b, off + k * 5 + 1, none⟩ = some (.string t) := x1
      have x2 := kk.cell (hcell k hlt 2 (by omega))
      rw [hX] at x2
      replace x2 : wr.cell? ⟨b, off + k * 5 + 2, none⟩ = some (.int .i64 a) := x2
      have x3 := kk.cell (hcell k hlt 3 (by omega))
      rw [hX] at x3
      replace x3 : wr.cell? ⟨b, off + k * 5 + 3, none⟩ = some (.int .i64 l) := x3
      have x4 := kk.cell (hcell k hlt 4 (by omega))
      rw [hX] at x4
      replace x4 : wr.cell? ⟨b, off + k * 5 + 4, none⟩ = some (.int .i64 h) := x4
      have hcal2 := Lib.hid hcal
      have Hk := Lib.hid hk
      have ka := kk.alloc (.cells #[.string f, .string t, .int .i64 a, .int .i64 l, .int .i64 h] 49 (0, 0))
      have ib := Is.made wr #[.string f, .string t, .int .i64 a, .int .i64 l, .int .i64 h] 49
      have y0 := ib.c (i := 0) rfl
      have y1 := ib.c (i := 1) rfl
      have y2 := ib.c (i := 2) rfl
      have y3 := ib.c (i := 3) rfl
      have y4 := ib.c (i := 4) rfl
      have c3 := cell_al c2 (.cells #[.string f, .string t, .int .i64 a, .int .i64 l, .int .i64 h] 49 (0, 0))
      clear hcell hX hcal ib
      unfold Ca at hcal2
      by_cases h0 : e = 0
      · have hE2 : Hid (firstE es = firstE (es.drop (k + 1))) := hE.out.trans (hD.trans (if_pos h0))
        subst h0
        clear hD hE hk
        go_wp2_with (go_at_fn F; (with_reducible refine (hcal2.out.out _).mono ?_); rintro r w1 ⟨rfl, k1⟩)
        have hk := Hk.out
        go_roundg (gk - 1)
        case measure => omega
        case rel => exact ⟨k + 1, by go_num, by omega, hE2, ka.trans k1⟩
      · have hE2 : Hid (firstE es = e) := hE.out.trans (hD.trans (if_neg h0))
        have hne : (e != 0) = true := by simpa using h0
        clear hD hE hk h0
        go_wp2_with (go_at_fn F; (with_reducible refine (hcal2.out.out _).mono ?_); rintro r w1 ⟨rfl, k1⟩)
        go_ret
        exact ⟨by rw [hE2.out]; rfl, ka.trans k1⟩
    · obtain rfl : k = n := by omega
      have hE2 : Hid (firstE es = 0) := hE.out.trans HE.out
      clear hk hE HE
      go_wp2
      go_ret
      exact ⟨by rw [hE2.out]; rfl, kk⟩
set_option maxRecDepth 100000 in
set_option maxHeartbeats 2000000 in
theorem cEach_Dim (L : List Nat) (F : Nat) (d : DimT) (xs : List DimT) (es : List Int) (sv : Value) (w : World) (hL : ∀ x ∈ L, x < w.heap.size) (hn : xs.length ≤ 100000) (hl : es.length = xs.length) (hs : Sl L 5 w sv (xs.map encDim))
    (he : ∀ args W, (callFunc F args).run Try.prog W = .ok (.enter F args) W) (hf : ∀ i, i < xs.length → Ca F #[valDim (xs.getD i d)] (.int .i64 (es.getD i 0))) :
    Calls Try.prog 54 #[.func (.func F) #[] #[], sv] w fun r W' => ∃ v, r = .returned v ∧ Ck L v (firstE es) W' ∧ Kb w W' := by
  have hs2 := hs
  obtain ⟨sp, cap, hv, _⟩ := hs2
  rw [List.length_map] at hv
  subst hv
  have k1 := (Kb.refl w).alloc (.cells #[.func (.func F) #[] #[]] 58 (0, 0))
  have kk := k1.alloc (.cells #[.slice sp xs.length cap] 51 (0, 0))
  have b0 := (Is.made w #[.func (.func F) #[] #[]] 58).alloc (.cells #[.slice sp xs.length cap] 51 (0, 0))
  have b1 := Is.made (w.alloc (.cells #[.func (.func F) #[] #[]] 58 (0, 0))) #[.slice sp xs.length cap] 51
  rw [World.size_alloc] at b1
  have R : Ck L (.func (.func 61) #[] #[.pointer (some ⟨w.heap.size + 1, 0, none⟩), .pointer (some ⟨w.heap.size, 0, none⟩)]) (firstE es) ((w.alloc (.cells #[.func (.func F) #[] #[]] 58 (0, 0))).alloc (.cells #[.slice sp xs.length cap] 51 (0, 0))) := by
    refine ⟨_, _, rfl, enters_of Try.func61 (by kernel_rfl) rfl, fun W hW => ?_⟩
    exact cEach1_Dim F d xs es _ _ _ W hn hl ((b1.kx hW (fun hx => by have := hL _ hx; omega)).c rfl) ((b0.kx hW (fun hx => by have := hL _ hx; omega)).c rfl) (((hs.kb kk).kx hW).none) he hf
  have HR := Lib.hid R
  clear R b0 b1 hL hf he hl hn k1 hs
  go_enter Try.func54, Try.ntmps54
  go_wp2
  go_ret
  exact ⟨_, rfl, HR.out, kk⟩
set_option maxRecDepth 100000 in
set_option maxHeartbeats 2000000 in
theorem cResult_Dim_0 (L : List Nat) (es : List Int) (v : Value) (f : ByteArray) (t : ByteArray) (a : Int) (l : Int) (h : Int) (w : World) (hS : SlC L es v w) (hn : es.length ≤ 1000) (h0 : firstE es = 0) : Calls Try.prog 53 #[.agg #[.string f, .string t, .int .i64 a, .int .i64 l, .int .i64 h], v] w fun r W' => r = .returned (.tuple #[.agg #[.string f, .string t, .int .i64 a, .int .i64 l, .int .i64 h], .int .i64 0]) ∧ Kb w W' := by
  have k0 := ((Kb.refl w).alloc (.cells #[.string f, .string t, .int .i64 a, .int .i64 l, .int .i64 h] 49 (0, 0))).alloc (.cells #[.string ⟨#[]⟩, .string ⟨#[]⟩, .int .i64 0, .int .i64 0, .int .i64 0] 49 (0, 0))
  have b0 := (Is.made w #[.string f, .string t, .int .i64 a, .int .i64 l, .int .i64 h] 49).alloc (.cells #[.string ⟨#[]⟩, .string ⟨#[]⟩, .int .i64 0, .int .i64 0, .int .i64 0] 49 (0, 0))
  have b1 := Is.made (w.alloc (.cells #[.string f, .string t, .int .i64 a, .int .i64 l, .int .i64 h] 49 (0, 0))) #[.string ⟨#[]⟩, .string ⟨#[]⟩, .int .i64 0, .int .i64 0, .int .i64 0] 49
  rw [World.size_alloc] at b1
  have q := cFirst L es v _ (hS.kx k0.kx) hn
  rw [h0] at q
  obtain ⟨fs, hl, ⟨p, cap, hv, _⟩, _⟩ := hS
  rw [List.length_map] at hv
  generalize fs.length = m at *
  subst hv
  clear h0 hl
  have Q := Lib.hid q
  clear q
  go_enter Try.func53, Try.ntmps53
  go_wp2_with fail
  (with_reducible refine (Q.out).mono ?_)
  rintro r w1 ⟨rfl, k1⟩
  replace b0 := b0.kb k1
  replace b1 := b1.kb k1
  have x0 := b0.c (i := 0) rfl
  have x1 := b0.c (i := 1) rfl
  have x2 := b0.c (i := 2) rfl
  have x3 := b0.c (i := 3) rfl
  have x4 := b0.c (i := 4) rfl
  have z := (((((b1.set 0 (.string f)).set 1 (.string t)).set 2 (.int .i64 a)).set 3 (.int .i64 l)).set 4 (.int .i64 h))
  have y0 := b1.c (i := 0) rfl
  have y1 := b1.c (i := 1) rfl
  have y2 := b1.c (i := 2) rfl
  have y3 := b1.c (i := 3) rfl
  have y4 := b1.c (i := 4) rfl
  have ff := b1.f
  have f0 := ff 0
  have f1 := ff 1
  have f2 := ff 2
  have f3 := ff 3
  have f4 := ff 4
  have kz := ((((((k0.trans k1).setCell (p := ⟨w.heap.size + 1, 0, none⟩) (by simp) (.string f)).setCell (p := ⟨w.heap.size + 1, 1, none⟩) (by simp) (.string t)).setCell (p := ⟨w.heap.size + 1, 2, none⟩) (by simp) (.int .i64 a)).setCell (p := ⟨w.heap.size + 1, 3, none⟩) (by simp) (.int .i64 l)).setCell (p := ⟨w.heap.size + 1, 4, none⟩) (by simp) (.int .i64 h))
  clear b0 b1 ff k0 k1
  go_wp2
  refine ret_row2 Try.results53 rfl rfl rfl z Try.underlying49 rfl (by kernel_rfl) ?_
  exact ⟨rfl, kz⟩
set_option maxRecDepth 100000 in
set_option maxHeartbeats 2000000 in
theorem cResult_Dim_e (L : List Nat) (es : List Int) (v : Value) (f : ByteArray) (t : ByteArray) (a : Int) (l : Int) (h : Int) (w : World) (hS : SlC L es v w) (hn : es.length ≤ 1000) (h0 : firstE es ≠ 0) : Calls Try.prog 53 #[.agg #[.string f, .string t, .int .i64 a, .int .i64 l, .int .i64 h], v] w fun r W' => r = .returned (.tuple #[.agg #[.string ⟨#[]⟩, .string ⟨#[]⟩, .int .i64 0, .int .i64 0, .int .i64 0], .int .i64 (firstE es)]) ∧ Kb w W' := by
  have k0 := ((Kb.refl w).alloc (.cells #[.string f, .string t, .int .i64 a, .int .i64 l, .int .i64 h] 49 (0, 0))).alloc (.cells #[.string ⟨#[]⟩, .string ⟨#[]⟩, .int .i64 0, .int .i64 0, .int .i64 0] 49 (0, 0))
  have b1 := Is.made (w.alloc (.cells #[.string f, .string t, .int .i64 a, .int .i64 l, .int .i64 h] 49 (0, 0))) #[.string ⟨#[]⟩, .string ⟨#[]⟩, .int .i64 0, .int .i64 0, .int .i64 0] 49
  rw [World.size_alloc] at b1
  have q := cFirst L es v _ (hS.kx k0.kx) hn
  have hne : (firstE es != 0) = true := by simpa using h0
  generalize firstE es = e at *
  obtain ⟨fs, hl, ⟨p, cap, hv, _⟩, _⟩ := hS
  rw [List.length_map] at hv
  generalize fs.length = m at *
  subst hv
  clear h0 hl
  have Q := Lib.hid q
  clear q
  go_enter Try.func53, Try.ntmps53
  go_wp2_with fail
  (with_reducible refine (Q.out).mono ?_)
  rintro r w1 ⟨rfl, k1⟩
  have k2 := k0.trans k1
  have k3 := k2.alloc (.cells #[.string ⟨#[]⟩, .string ⟨#[]⟩, .int .i64 0, .int .i64 0, .int .i64 0] 49 (0, 0))
  replace b1 := (b1.kb k1).alloc (.cells #[.string ⟨#[]⟩, .string ⟨#[]⟩, .int .i64 0, .int .i64 0, .int .i64 0] 49 (0, 0))
  have n0 := Is.made w1 #[.string ⟨#[]⟩, .string ⟨#[]⟩, .int .i64 0, .int .i64 0, .int .i64 0] 49
  have m0 := n0.c (i := 0) rfl
  have m1 := n0.c (i := 1) rfl
  have m2 := n0.c (i := 2) rfl
  have m3 := n0.c (i := 3) rfl
  have m4 := n0.c (i := 4) rfl
  have z := (((((b1.set 0 (.string ⟨#[]⟩)).set 1 (.string ⟨#[]⟩)).set 2 (.int .i64 0)).set 3 (.int .i64 0)).set 4 (.int .i64 0))
  have y0 := b1.c (i := 0) rfl
  have y1 := b1.c (i := 1) rfl
  have y2 := b1.c (i := 2) rfl
  have y3 := b1.c (i := 3) rfl
  have y4 := b1.c (i := 4) rfl
  have ff := b1.f
  have f0 := ff 0
  have f1 := ff 1
  have f2 := ff 2
  have f3 := ff 3
  have f4 := ff 4
  have kz := (((((k3.setCell (p := ⟨w.heap.size + 1, 0, none⟩) (by simp) (.string ⟨#[]⟩)).setCell (p := ⟨w.heap.size + 1, 1, none⟩) (by simp) (.string ⟨#[]⟩)).setCell (p := ⟨w.heap.size + 1, 2, none⟩) (by simp) (.int .i64 0)).setCell (p := ⟨w.heap.size + 1, 3, none⟩) (by simp) (.int .i64 0)).setCell (p := ⟨w.heap.size + 1, 4, none⟩) (by simp) (.int .i64 0))
  clear b1 ff k0 k1 k2 k3 n0
  go_wp2
  refine ret_row2 Try.results53 rfl rfl rfl z Try.underlying49 rfl (by kernel_rfl) ?_
  exact ⟨rfl, kz⟩
theorem cResult_Dim (L : List Nat) (es : List Int) (v : Value) (f : ByteArray) (t : ByteArray) (a : Int) (l : Int) (h : Int) (w : World) (hS : SlC L es v w) (hn : es.length ≤ 1000) : Calls Try.prog 53 #[.agg #[.string f, .string t, .int .i64 a, .int .i64 l, .int .i64 h], v] w fun r W' => r = .returned (.tuple #[.agg #[.string (zS (firstE es) f), .string (zS (firstE es) t), .int .i64 (zI (firstE es) a), .int .i64 (zI (firstE es) l), .int .i64 (zI (firstE es) h)], .int .i64 (firstE es)]) ∧ Kb w W' := by
  by_cases h0 : firstE es = 0
  · have q := cResult_Dim_0 L es v f t a l h w hS hn h0
    rw [h0]; exact q
  · have q := cResult_Dim_e L es v f t a l h w hS hn h0
    rw [show zS (firstE es) f = ⟨#[]⟩ from if_neg h0, show zS (firstE es) t = ⟨#[]⟩ from if_neg h0, show zI (firstE es) a = 0 from if_neg h0, show zI (firstE es) l = 0 from if_neg h0, show zI (firstE es) h = 0 from if_neg h0]; exact q
end Go.Proofs.Ytendjeefggigbaa
