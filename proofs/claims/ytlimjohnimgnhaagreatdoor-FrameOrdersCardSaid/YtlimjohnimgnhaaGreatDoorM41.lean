/- Texts Oe2, Od4: each says in its own first comment what it proves. -/
import Derived.Test.YtlimjohnimgnhaaGreatDoorM25
import Derived.Test.YtlimjohnimgnhaaGreatDoorM33
import Derived.Test.YtlimjohnimgnhaaGreatDoorM16
/- Package checks: Each at texts and dimensions; Result at dimensions. -/
namespace Go.Proofs.YtlimjohnimgnhaaGreatDoor
open Go.RowKit

abbrev TxtT : Type := ByteArray
def encTxt : TxtT → List Value | s => [.string s]
abbrev valTxt : TxtT → Value | s => .string s
set_option maxRecDepth 100000 in
set_option maxHeartbeats 2000000 in
theorem cEach1_Txt (F : Nat) (d : TxtT) (xs : List TxtT) (es : List Int) (sv : Value) (p q : Nat) (w : World) (hn : xs.length ≤ 100000) (hl : es.length = xs.length) (h1 : w.cell? ⟨p, 0, none⟩ = some sv) (h2 : w.cell? ⟨q, 0, none⟩ = some (.func (.func F) #[] #[])) (hs : Sl [] 1 w sv (xs.map encTxt))
    (he : ∀ args W, (callFunc F args).run Tryz.prog W = .ok (.enter F args) W) (hf : ∀ i, i < xs.length → Ca F #[valTxt (xs.getD i d)] (.int .i64 (es.getD i 0))) :
    Calls Tryz.prog 118 #[.pointer (some ⟨p, 0, none⟩), .pointer (some ⟨q, 0, none⟩)] w fun r W' => r = .returned (.int .i64 (firstE es)) ∧ Kb w W' := by
  obtain ⟨sp, cap, hv, hs⟩ := hs
  rw [List.length_map] at hv hs
  rw [hv] at h1
  have HS := Lib.hid hs
  have HC := Lib.hid hf
  have H0 : Hid (firstE es = firstE (es.drop 0)) := rfl
  have HX := Lib.hid (fun k (hk : k < xs.length) => show (xs.map encTxt).getD k [] = encTxt (xs.getD k d) by simp [List.getD_eq_getElem?_getD, hk])
  generalize hN : xs.length = n at *
  have HD := Lib.hid (fun k (hk : k < n) => firstE_drop (es := es) (k := k) (by omega))
  have HE : Hid (firstE (es.drop n) = 0) := by rw [List.drop_of_length_le (by omega)]; rfl
  clear hs hf hv hl hN
  go_enter Tryz.func118, Tryz.ntmps118
  go_wp2
  go_loopg [4, 5, 8] n (fun gk s4 s5 s8 wr => ∃ k : Nat, s8 = .int .i64 k ∧ k + gk = n ∧ Hid (firstE es = firstE (es.drop k)) ∧ Kb w wr)
  case atStart => exact ⟨0, rfl, by omega, H0, Kb.refl _⟩
  case round =>
    obtain ⟨k, rfl, hk, hE, kk⟩ := hrel
    have hk0 : (0 : Int) ≤ (k : Int) := by omega
    have c2 := kk.cell h2
    by_cases hlt : k < n
    · obtain ⟨b, off, rfl, hb, hbL, hcell⟩ := HS.out (by omega)
      have hX := HX.out k hlt
      have hcal := HC.out k hlt
      have hD := HD.out k hlt
      generalize es.getD k 0 = e at *
      generalize xs.getD k d = x at *
      obtain ⟨s, rfl⟩ : ∃ z, z = x := ⟨_, rfl⟩
      have x0 := kk.cell (hcell k hlt 0 (by omega))
      rw [hX] at x0
      replace x0 : wr.cell? ⟨b, off + k, none⟩ = some (.string s) := by rw [Nat.mul_one] at x0; exact x0
      have hcal2 := Lib.hid hcal
      have Hk := Lib.hid hk
      clear hcell hX hcal
      unfold Ca at hcal2
      by_cases h0 : e = 0
      · have hE2 : Hid (firstE es = firstE (es.drop (k + 1))) := hE.out.trans (hD.trans (if_pos h0))
        subst h0
        clear hD hE hk
        go_wp2_with (go_at_fn F; (with_reducible refine (hcal2.out.out _).mono ?_); rintro r w1 ⟨rfl, k1⟩)
        have hk := Hk.out
        go_roundg (gk - 1)
        case measure => omega
        case rel => exact ⟨k + 1, by go_num, by omega, hE2, kk.trans k1⟩
      · have hE2 : Hid (firstE es = e) := hE.out.trans (hD.trans (if_neg h0))
        have hne : (e != 0) = true := by simpa using h0
        clear hD hE hk h0
        go_wp2_with (go_at_fn F; (with_reducible refine (hcal2.out.out _).mono ?_); rintro r w1 ⟨rfl, k1⟩)
        go_ret
        exact ⟨by rw [hE2.out]; rfl, kk.trans k1⟩
    · obtain rfl : k = n := by omega
      have hE2 : Hid (firstE es = 0) := hE.out.trans HE.out
      clear hk hE HE
      go_wp2
      go_ret
      exact ⟨by rw [hE2.out]; rfl, kk⟩
set_option maxRecDepth 100000 in
set_option maxHeartbeats 2000000 in
theorem cEach_Txt (L : List Nat) (F : Nat) (d : TxtT) (xs : List TxtT) (es : List Int) (sv : Value) (w : World) (hL : ∀ x ∈ L, x < w.heap.size) (hn : xs.length ≤ 100000) (hl : es.length = xs.length) (hs : Sl L 1 w sv (xs.map encTxt))
    (he : ∀ args W, (callFunc F args).run Tryz.prog W = .ok (.enter F args) W) (hf : ∀ i, i < xs.length → Ca F #[valTxt (xs.getD i d)] (.int .i64 (es.getD i 0))) :
    Calls Tryz.prog 79 #[.func (.func F) #[] #[], sv] w fun r W' => ∃ v, r = .returned v ∧ Ck L v (firstE es) W' ∧ Kb w W' := by
  have hs2 := hs
  obtain ⟨sp, cap, hv, _⟩ := hs2
  rw [List.length_map] at hv
  subst hv
  have k1 := (Kb.refl w).alloc (.cells #[.func (.func F) #[] #[]] 125 (0, 0))
  have kk := k1.alloc (.cells #[.slice sp xs.length cap] 41 (0, 0))
  have b0 := (Is.made w #[.func (.func F) #[] #[]] 125).alloc (.cells #[.slice sp xs.length cap] 41 (0, 0))
  have b1 := Is.made (w.alloc (.cells #[.func (.func F) #[] #[]] 125 (0, 0))) #[.slice sp xs.length cap] 41
  rw [World.size_alloc] at b1
  have R : Ck L (.func (.func 118) #[] #[.pointer (some ⟨w.heap.size + 1, 0, none⟩), .pointer (some ⟨w.heap.size, 0, none⟩)]) (firstE es) ((w.alloc (.cells #[.func (.func F) #[] #[]] 125 (0, 0))).alloc (.cells #[.slice sp xs.length cap] 41 (0, 0))) := by
    refine ⟨_, _, rfl, enters_of Tryz.func118 (by kernel_rfl) rfl, fun W hW => ?_⟩
    exact cEach1_Txt F d xs es _ _ _ W hn hl ((b1.kx hW (fun hx => by have := hL _ hx; omega)).c rfl) ((b0.kx hW (fun hx => by have := hL _ hx; omega)).c rfl) (((hs.kb kk).kx hW).none) he hf
  have HR := Lib.hid R
  clear R b0 b1 hL hf he hl hn k1 hs
  go_enter Tryz.func79, Tryz.ntmps79
  go_wp2
  go_ret
  exact ⟨_, rfl, HR.out, kk⟩
end Go.Proofs.YtlimjohnimgnhaaGreatDoor

/- Package dimension: Name, Valid. -/
namespace Go.Proofs.YtlimjohnimgnhaaGreatDoor
open Go.RowKit

def nmE (s : ByteArray) : Int := firstE [fE (decide (24 < (s.size : Int))) 17, fE (!nmB s) 3]
set_option maxRecDepth 100000 in
set_option maxHeartbeats 1000000 in
theorem dName_any (s : ByteArray) (w : World) (hs : s.size ≤ 1000000) : Calls Tryz.prog 80 #[.string s] w fun r W' => r = .returned (.int .i64 (nmE s)) ∧ Kb w W' := by
  have q := dnamed_any s
  have Q := Lib.hid q
  clear q
  have HN : Hid (nmE s = firstE [fE (decide (24 < (s.size : Int))) 17, fE (!nmB s) 3]) := rfl
  generalize nmE s = E at *
  have Hs := Lib.hid hs
  clear hs
  generalize nmB s = nb at *
  obtain ⟨big, hbig⟩ : ∃ b : Bool, decide (24 < (s.size : Int)) = b := ⟨_, rfl⟩
  rw [hbig] at HN
  go_enter Tryz.func80, Tryz.ntmps80
  go_wp2_with fail
  (refine (cWhen [] _ _ _ (by simp)).mono ?_)
  rintro r w1 ⟨v1, rfl, c1, k1⟩
  obtain ⟨F1, a1, e1, f1, g1⟩ := c1
  subst e1
  go_wp2_with fail
  (with_reducible refine (Q.out _ Hs.out).mono ?_)
  rintro r w2 ⟨rfl, k2⟩
  go_wp2_with fail
  (refine (cWhen [] _ _ _ (by simp)).mono ?_)
  rintro r w3 ⟨v3, rfl, c3, k3⟩
  obtain ⟨F3, a3, e3, f3, g3⟩ := c3
  subst e3
  have k13 := k2.trans k3
  have kz : Kb w3 (w3.alloc (.cells #[.func (.func F1) #[] a1, .func (.func F3) #[] a3] 80 (0, 0))) := (Kb.refl w3).alloc _
  have sl : SlC [] [fE big 17, fE (!nb) 3] (.slice (some ⟨w3.heap.size, 0, none⟩) 2 2) (w3.alloc (.cells #[.func (.func F1) #[] a1, .func (.func F3) #[] a3] 80 (0, 0))) :=
    ⟨[.func (.func F1) #[] a1, .func (.func F3) #[] a3], rfl, sl_is (Is.made w3 _ _) (by simp) rfl (rows_ok rfl rfl), cks_ok ⟨Ck.kx ⟨F1, a1, rfl, f1, g1⟩ (k13.trans kz).kx, Ck.kx ⟨F3, a3, rfl, f3, g3⟩ kz.kx, trivial⟩ rfl⟩
  have SL := Lib.hid sl
  clear f1 g1 f3 g3 sl
  go_wp2_with fail
  (refine (cFirst [] _ _ _ SL.out (by simp)).mono ?_)
  rintro r w4 ⟨rfl, k4⟩
  go_wp2
  go_ret
  exact ⟨by rw [HN.out]; rfl, k1.trans (k13.trans (kz.trans k4))⟩
theorem dName (s : ByteArray) (hs : s.size ≤ 1000000) : Ca 80 #[.string s] (.int .i64 (nmE s)) := Lib.hid fun w => dName_any s w hs
end Go.Proofs.YtlimjohnimgnhaaGreatDoor
