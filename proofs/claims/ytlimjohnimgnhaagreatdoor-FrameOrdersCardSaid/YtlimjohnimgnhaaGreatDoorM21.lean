/- Texts Oe1: each says in its own first comment what it proves. -/
import Derived.Test.YtlimjohnimgnhaaGreatDoorM25
/- Package checks: Each at limits; Result at limits and booleans. -/
namespace Go.Proofs.YtlimjohnimgnhaaGreatDoor
open Go.RowKit

abbrev LimT : Type := Int × Int
def encLim : LimT → List Value | (l, h) => [.int .i64 l, .int .i64 h]
abbrev valLim : LimT → Value | (l, h) => .agg #[.int .i64 l, .int .i64 h]
set_option maxRecDepth 100000 in
set_option maxHeartbeats 2000000 in
theorem cEach1_Lim (F : Nat) (d : LimT) (xs : List LimT) (es : List Int) (sv : Value) (p q : Nat) (w : World) (hn : xs.length ≤ 100000) (hl : es.length = xs.length) (h1 : w.cell? ⟨p, 0, none⟩ = some sv) (h2 : w.cell? ⟨q, 0, none⟩ = some (.func (.func F) #[] #[])) (hs : Sl [] 2 w sv (xs.map encLim))
    (he : ∀ args W, (callFunc F args).run Tryz.prog W = .ok (.enter F args) W) (hf : ∀ i, i < xs.length → Ca F #[valLim (xs.getD i d)] (.int .i64 (es.getD i 0))) :
    Calls Tryz.prog 129 #[.pointer (some ⟨p, 0, none⟩), .pointer (some ⟨q, 0, none⟩)] w fun r W' => r = .returned (.int .i64 (firstE es)) ∧ Kb w W' := by
  obtain ⟨sp, cap, hv, hs⟩ := hs
  rw [List.length_map] at hv hs
  rw [hv] at h1
  have HS := Lib.hid hs
  have HC := Lib.hid hf
  have H0 : Hid (firstE es = firstE (es.drop 0)) := rfl
  have HX := Lib.hid (fun k (hk : k < xs.length) => show (xs.map encLim).getD k [] = encLim (xs.getD k d) by simp [List.getD_eq_getElem?_getD, hk])
  generalize hN : xs.length = n at *
  have HD := Lib.hid (fun k (hk : k < n) => firstE_drop (es := es) (k := k) (by omega))
  have HE : Hid (firstE (es.drop n) = 0) := by rw [List.drop_of_length_le (by omega)]; rfl
  clear hs hf hv hl hN
  go_enter Tryz.func129, Tryz.ntmps129
  go_wp2
  go_loopg [4, 5, 8] n (fun gk s4 s5 s8 wr => ∃ k : Nat, s8 = .int .i64 k ∧ k + gk = n ∧ Hid (firstE es = firstE (es.drop k)) ∧ Kb w wr)
  case atStart => exact ⟨0, rfl, by omega, H0, Kb.refl _⟩
  case round =>
    obtain ⟨k, rfl, hk, hE, kk⟩ := hrel
    have hk0 : (0 : Int) ≤ (k : Int) := by omega
    have c2 := kk.cell h2
    by_cases hlt : k < n
    · obtain ⟨b, off, rfl, hb, hbL, hcell⟩ := HS.out (by omega)
      have hX := HX.out k hlt
      have hcal := HC.out k hlt
      have hD := HD.out k hlt
      generalize es.getD k 0 = e at *
      generalize xs.getD k d = x at *
      obtain ⟨l, h⟩ := x
      have x0 := kk.cell (hcell k hlt 0 (by omega))
      rw [hX] at x0
      replace x0 : wr.cell? ⟨b, off + k * 2, none⟩ = some (.int .i64 l) := x0
      have x1 := kk.cell (hcell k hlt 1 (by omega))
      rw [hX] at x1
      replace x1 : wr.cell? ⟨b, off + k * 2 + 1, none⟩ = some (.int .i64 h) := x1
      have hcal2 := Lib.hid hcal
      have Hk := Lib.hid hk
      have ka := kk.alloc (.cells #[.int .i64 l, .int .i64 h] 25 (0, 0))
      have ib := Is.made wr #[.int .i64 l, .int .i64 h] 25
      have y0 := ib.c (i := 0) rfl
      have y1 := ib.c (i := 1) rfl
      have c3 := cell_al c2 (.cells #[.int .i64 l, .int .i64 h] 25 (0, 0))
      clear hcell hX hcal ib
      unfold Ca at hcal2
      by_cases h0 : e = 0
      · have hE2 : Hid (firstE es = firstE (es.drop (k + 1))) := hE.out.trans (hD.trans (if_pos h0))
        subst h0
        clear hD hE hk
        go_wp2_with (go_at_fn F; (with_reducible refine (hcal2.out.out _).mono ?_); rintro r w1 ⟨rfl, k1⟩)
        have hk := Hk.out
        go_roundg (gk - 1)
        case measure => omega
        case rel => exact ⟨k + 1, by go_num, by omega, hE2, ka.trans k1⟩
      · have hE2 : Hid (firstE es = e) := hE.out.trans (hD.trans (if_neg h0))
        have hne : (e != 0) = true := by simpa using h0
        clear hD hE hk h0
        go_wp2_with (go_at_fn F; (with_reducible refine (hcal2.out.out _).mono ?_); rintro r w1 ⟨rfl, k1⟩)
        go_ret
        exact ⟨by rw [hE2.out]; rfl, ka.trans k1⟩
    · obtain rfl : k = n := by omega
      have hE2 : Hid (firstE es = 0) := hE.out.trans HE.out
      clear hk hE HE
      go_wp2
      go_ret
      exact ⟨by rw [hE2.out]; rfl, kk⟩
set_option maxRecDepth 100000 in
set_option maxHeartbeats 2000000 in
theorem cEach_Lim (L : List Nat) (F : Nat) (d : LimT) (xs : List LimT) (es : List Int) (sv : Value) (w : World) (hL : ∀ x ∈ L, x < w.heap.size) (hn : xs.length ≤ 100000) (hl : es.length = xs.length) (hs : Sl L 2 w sv (xs.map encLim))
    (he : ∀ args W, (callFunc F args).run Tryz.prog W = .ok (.enter F args) W) (hf : ∀ i, i < xs.length → Ca F #[valLim (xs.getD i d)] (.int .i64 (es.getD i 0))) :
    Calls Tryz.prog 104 #[.func (.func F) #[] #[], sv] w fun r W' => ∃ v, r = .returned v ∧ Ck L v (firstE es) W' ∧ Kb w W' := by
  have hs2 := hs
  obtain ⟨sp, cap, hv, _⟩ := hs2
  rw [List.length_map] at hv
  subst hv
  have k1 := (Kb.refl w).alloc (.cells #[.func (.func F) #[] #[]] 148 (0, 0))
  have kk := k1.alloc (.cells #[.slice sp xs.length cap] 168 (0, 0))
  have b0 := (Is.made w #[.func (.func F) #[] #[]] 148).alloc (.cells #[.slice sp xs.length cap] 168 (0, 0))
  have b1 := Is.made (w.alloc (.cells #[.func (.func F) #[] #[]] 148 (0, 0))) #[.slice sp xs.length cap] 168
  rw [World.size_alloc] at b1
  have R : Ck L (.func (.func 129) #[] #[.pointer (some ⟨w.heap.size + 1, 0, none⟩), .pointer (some ⟨w.heap.size, 0, none⟩)]) (firstE es) ((w.alloc (.cells #[.func (.func F) #[] #[]] 148 (0, 0))).alloc (.cells #[.slice sp xs.length cap] 168 (0, 0))) := by
    refine ⟨_, _, rfl, enters_of Tryz.func129 (by kernel_rfl) rfl, fun W hW => ?_⟩
    exact cEach1_Lim F d xs es _ _ _ W hn hl ((b1.kx hW (fun hx => by have := hL _ hx; omega)).c rfl) ((b0.kx hW (fun hx => by have := hL _ hx; omega)).c rfl) (((hs.kb kk).kx hW).none) he hf
  have HR := Lib.hid R
  clear R b0 b1 hL hf he hl hn k1 hs
  go_enter Tryz.func104, Tryz.ntmps104
  go_wp2
  go_ret
  exact ⟨_, rfl, HR.out, kk⟩








































































set_option maxRecDepth 100000 in
set_option maxHeartbeats 2000000 in
theorem cResult_Bool_0 (L : List Nat) (es : List Int) (v : Value) (b : Bool) (w : World) (hS : SlC L es v w) (hn : es.length ≤ 1000) (h0 : firstE es = 0) : Calls Tryz.prog 103 #[.bool b, v] w fun r W' => r = .returned (.tuple #[.bool b, .int .i64 0]) ∧ Kb w W' := by
  have q := cFirst L es v _ hS hn
  rw [h0] at q
  obtain ⟨fs, hl, ⟨p, cap, hv, _⟩, _⟩ := hS
  rw [List.length_map] at hv
  generalize fs.length = m at *
  subst hv
  clear h0 hl
  have Q := Lib.hid q
  clear q
  go_enter Tryz.func103, Tryz.ntmps103
  go_wp2_with fail
  (with_reducible refine (Q.out).mono ?_)
  rintro r w1 ⟨rfl, k1⟩
  go_wp2
  go_ret2
  exact ⟨rfl, k1⟩
set_option maxRecDepth 100000 in
set_option maxHeartbeats 2000000 in
theorem cResult_Bool_e (L : List Nat) (es : List Int) (v : Value) (b : Bool) (w : World) (hS : SlC L es v w) (hn : es.length ≤ 1000) (h0 : firstE es ≠ 0) : Calls Tryz.prog 103 #[.bool b, v] w fun r W' => r = .returned (.tuple #[.bool false, .int .i64 (firstE es)]) ∧ Kb w W' := by
  have q := cFirst L es v _ hS hn
  have hne : (firstE es != 0) = true := by simpa using h0
  generalize firstE es = e at *
  obtain ⟨fs, hl, ⟨p, cap, hv, _⟩, _⟩ := hS
  rw [List.length_map] at hv
  generalize fs.length = m at *
  subst hv
  clear h0 hl
  have Q := Lib.hid q
  clear q
  go_enter Tryz.func103, Tryz.ntmps103
  go_wp2_with fail
  (with_reducible refine (Q.out).mono ?_)
  rintro r w1 ⟨rfl, k1⟩
  have k2 := k1
  have k3 := k2.alloc (.cells #[.bool false] 4 (0, 0))
  have n0 := Is.made w1 #[.bool false] 4
  have m0 := n0.c (i := 0) rfl
  clear n0
  go_wp2
  go_ret2
  exact ⟨rfl, k3⟩






theorem cResult_Bool (L : List Nat) (es : List Int) (v : Value) (b : Bool) (w : World) (hS : SlC L es v w) (hn : es.length ≤ 1000) : Calls Tryz.prog 103 #[.bool b, v] w fun r W' => r = .returned (.tuple #[.bool (zB (firstE es) b), .int .i64 (firstE es)]) ∧ Kb w W' := by
  by_cases h0 : firstE es = 0
  · have q := cResult_Bool_0 L es v b w hS hn h0
    rw [h0]; exact q
  · have q := cResult_Bool_e L es v b w hS hn h0
    rw [show zB (firstE es) b = false from if_neg h0]; exact q
end Go.Proofs.YtlimjohnimgnhaaGreatDoor
