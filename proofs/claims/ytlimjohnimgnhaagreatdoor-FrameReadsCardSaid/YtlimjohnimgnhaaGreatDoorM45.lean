/- Texts Of1, Oe2, Od4, Of3: each says in its own first comment what it proves. -/
import Derived.Test.YtlimjohnimgnhaaGreatDoorM27
import Derived.Test.YtlimjohnimgnhaaGreatDoorM08
import Derived.Test.YtlimjohnimgnhaaGreatDoorM39
/- The reference of package dimension: limits. -/
namespace Go.Proofs.YtlimjohnimgnhaaGreatDoor
open Go.RowKit

theorem lmE_eq (l h : Int) : lmE l h = if inR l = true ∧ inR h = true then (if h < l then 9 else 0) else 2 := by
  unfold lmE inAll
  simp only [List.all_cons, List.all_nil, Bool.and_true]
  cases inR l <;> cases inR h <;> by_cases e : h < l <;> simp [firstE, e]
theorem inR_f1 {z : Int} (h : z < -100000) : inR z = false := by unfold inR; rw [decide_eq_false (by omega)]; rfl
theorem inR_f2 {z : Int} (h : 100000 < z) : inR z = false := by unfold inR; rw [decide_eq_false (show ¬ z ≤ 100000 by omega), Bool.and_false]
theorem inR_t {z : Int} (h : -100000 ≤ z) (h2 : z ≤ 100000) : inR z = true := by unfold inR; rw [decide_eq_true h, decide_eq_true h2]; rfl
set_option maxRecDepth 100000 in
set_option maxHeartbeats 1000000 in
theorem rIn (z : Int) : Ca 89 #[.int .i64 z] (.bool (inR z)) := Lib.hid fun w => by
  by_cases h1 : z < -100000
  · rw [inR_f1 h1]
    go_enter Tryz.func89, Tryz.ntmps89
    go_wp2
    go_ret
    exact ⟨rfl, Kb.refl _⟩
  · by_cases h2 : 100000 < z
    · rw [inR_f2 h2]
      go_enter Tryz.func89, Tryz.ntmps89
      have hd : decide (z ≤ 100000) = false := decide_eq_false (by omega)
      go_wp2
      go_ret
      exact ⟨rfl, Kb.refl _⟩
    · rw [inR_t (by omega) (by omega)]
      go_enter Tryz.func89, Tryz.ntmps89
      have hd : decide (z ≤ 100000) = true := decide_eq_true (by omega)
      go_wp2
      go_ret
      exact ⟨rfl, Kb.refl _⟩

set_option maxRecDepth 100000 in
set_option maxHeartbeats 1000000 in
theorem rCheck_1 (l h : Int) (q1 : Ca 89 #[.int .i64 l] (.bool false)) (w : World) : Calls Tryz.prog 90 #[.agg #[.int .i64 l, .int .i64 h]] w fun r W' => r = .returned (.int .i64 2) ∧ Kb w W' := by
  have kx := Kb.refl w
  unfold Ca at *
  have b0 := Is.made w #[.int .i64 l, .int .i64 h] 25
  replace kx := kx.alloc (.cells #[.int .i64 l, .int .i64 h] 25 (0, 0))
  have b0_0 := b0.c (i := 0) rfl
  have b0_1 := b0.c (i := 1) rfl
  go_enter Tryz.func90, Tryz.ntmps90
  go_wp2_with fail
  (with_reducible refine (q1.out _).mono ?_)
  rintro r w1 ⟨rfl, k1⟩
  clear b0_0 b0_1
  replace b0 := b0.kb k1
  replace kx := kx.trans k1
  clear k1
  have b0_0 := b0.c (i := 0) rfl
  have b0_1 := b0.c (i := 1) rfl
  go_wp2
  go_ret
  exact ⟨rfl, kx⟩
set_option maxRecDepth 100000 in
set_option maxHeartbeats 1000000 in
theorem rCheck_2 (l h : Int) (q1 : Ca 89 #[.int .i64 l] (.bool true)) (q2 : Ca 89 #[.int .i64 h] (.bool false)) (w : World) : Calls Tryz.prog 90 #[.agg #[.int .i64 l, .int .i64 h]] w fun r W' => r = .returned (.int .i64 2) ∧ Kb w W' := by
  have kx := Kb.refl w
  unfold Ca at *
  have b0 := Is.made w #[.int .i64 l, .int .i64 h] 25
  replace kx := kx.alloc (.cells #[.int .i64 l, .int .i64 h] 25 (0, 0))
  have b0_0 := b0.c (i := 0) rfl
  have b0_1 := b0.c (i := 1) rfl
  go_enter Tryz.func90, Tryz.ntmps90
  go_wp2_with fail
  (with_reducible refine (q1.out _).mono ?_)
  rintro r w1 ⟨rfl, k1⟩
  clear b0_0 b0_1
  replace b0 := b0.kb k1
  replace kx := kx.trans k1
  clear k1
  have b0_0 := b0.c (i := 0) rfl
  have b0_1 := b0.c (i := 1) rfl
  go_wp2_with fail
  (with_reducible refine (q2.out _).mono ?_)
  rintro r w2 ⟨rfl, k2⟩
  clear b0_0 b0_1
  replace b0 := b0.kb k2
  replace kx := kx.trans k2
  clear k2
  have b0_0 := b0.c (i := 0) rfl
  have b0_1 := b0.c (i := 1) rfl
  go_wp2
  go_ret
  exact ⟨rfl, kx⟩
set_option maxRecDepth 100000 in
set_option maxHeartbeats 1000000 in
theorem rCheck_3 (l h : Int) (ho : h < l) (q1 : Ca 89 #[.int .i64 l] (.bool true)) (q2 : Ca 89 #[.int .i64 h] (.bool true)) (w : World) : Calls Tryz.prog 90 #[.agg #[.int .i64 l, .int .i64 h]] w fun r W' => r = .returned (.int .i64 9) ∧ Kb w W' := by
  have kx := Kb.refl w
  unfold Ca at *
  have b0 := Is.made w #[.int .i64 l, .int .i64 h] 25
  replace kx := kx.alloc (.cells #[.int .i64 l, .int .i64 h] 25 (0, 0))
  have b0_0 := b0.c (i := 0) rfl
  have b0_1 := b0.c (i := 1) rfl
  go_enter Tryz.func90, Tryz.ntmps90
  go_wp2_with fail
  (with_reducible refine (q1.out _).mono ?_)
  rintro r w1 ⟨rfl, k1⟩
  clear b0_0 b0_1
  replace b0 := b0.kb k1
  replace kx := kx.trans k1
  clear k1
  have b0_0 := b0.c (i := 0) rfl
  have b0_1 := b0.c (i := 1) rfl
  go_wp2_with fail
  (with_reducible refine (q2.out _).mono ?_)
  rintro r w2 ⟨rfl, k2⟩
  clear b0_0 b0_1
  replace b0 := b0.kb k2
  replace kx := kx.trans k2
  clear k2
  have b0_0 := b0.c (i := 0) rfl
  have b0_1 := b0.c (i := 1) rfl
  go_wp2
  go_ret
  exact ⟨rfl, kx⟩
set_option maxRecDepth 100000 in
set_option maxHeartbeats 1000000 in
theorem rCheck_4 (l h : Int) (ho : ¬ h < l) (q1 : Ca 89 #[.int .i64 l] (.bool true)) (q2 : Ca 89 #[.int .i64 h] (.bool true)) (w : World) : Calls Tryz.prog 90 #[.agg #[.int .i64 l, .int .i64 h]] w fun r W' => r = .returned (.int .i64 0) ∧ Kb w W' := by
  have kx := Kb.refl w
  unfold Ca at *
  have b0 := Is.made w #[.int .i64 l, .int .i64 h] 25
  replace kx := kx.alloc (.cells #[.int .i64 l, .int .i64 h] 25 (0, 0))
  have b0_0 := b0.c (i := 0) rfl
  have b0_1 := b0.c (i := 1) rfl
  go_enter Tryz.func90, Tryz.ntmps90
  go_wp2_with fail
  (with_reducible refine (q1.out _).mono ?_)
  rintro r w1 ⟨rfl, k1⟩
  clear b0_0 b0_1
  replace b0 := b0.kb k1
  replace kx := kx.trans k1
  clear k1
  have b0_0 := b0.c (i := 0) rfl
  have b0_1 := b0.c (i := 1) rfl
  go_wp2_with fail
  (with_reducible refine (q2.out _).mono ?_)
  rintro r w2 ⟨rfl, k2⟩
  clear b0_0 b0_1
  replace b0 := b0.kb k2
  replace kx := kx.trans k2
  clear k2
  have b0_0 := b0.c (i := 0) rfl
  have b0_1 := b0.c (i := 1) rfl
  go_wp2
  go_ret
  exact ⟨rfl, kx⟩
theorem rCheck (l h : Int) : Ca 90 #[.agg #[.int .i64 l, .int .i64 h]] (.int .i64 (lmE l h)) := Lib.hid fun w => by
  have q1 := rIn l
  have q2 := rIn h
  rw [lmE_eq]
  rcases Bool.eq_false_or_eq_true (inR l) with e1 | e1
  · rcases Bool.eq_false_or_eq_true (inR h) with e2 | e2
    · rw [if_pos ⟨e1, e2⟩]
      rw [e1] at q1
      rw [e2] at q2
      by_cases ho : h < l
      · rw [if_pos ho]; exact rCheck_3 l h ho q1 q2 w
      · rw [if_neg ho]; exact rCheck_4 l h ho q1 q2 w
    · rw [if_neg (fun x => by rw [e2] at x; cases x.2)]
      rw [e1] at q1
      rw [e2] at q2
      exact rCheck_2 l h q1 q2 w
  · rw [if_neg (fun x => by rw [e1] at x; cases x.1)]
    rw [e1] at q1
    exact rCheck_1 l h q1 w












































































theorem ne_b {e : Int} (h : e ≠ 0) : (e != 0) = true := by simpa using h
theorem zI_e {e : Int} (h : e ≠ 0) (z : Int) : zI e z = 0 := if_neg h
end Go.Proofs.YtlimjohnimgnhaaGreatDoor

/- Package checks: Each at texts and dimensions; Result at dimensions. -/
namespace Go.Proofs.YtlimjohnimgnhaaGreatDoor
open Go.RowKit

abbrev TxtT : Type := ByteArray
def encTxt : TxtT → List Value | s => [.string s]
abbrev valTxt : TxtT → Value | s => .string s
set_option maxRecDepth 100000 in
set_option maxHeartbeats 2000000 in
theorem cEach1_Txt (F : Nat) (d : TxtT) (xs : List TxtT) (es : List Int) (sv : Value) (p q : Nat) (w : World) (hn : xs.length ≤ 100000) (hl : es.length = xs.length) (h1 : w.cell? ⟨p, 0, none⟩ = some sv) (h2 : w.cell? ⟨q, 0, none⟩ = some (.func (.func F) #[] #[])) (hs : Sl [] 1 w sv (xs.map encTxt))
    (he : ∀ args W, (callFunc F args).run Tryz.prog W = .ok (.enter F args) W) (hf : ∀ i, i < xs.length → Ca F #[valTxt (xs.getD i d)] (.int .i64 (es.getD i 0))) :
    Calls Tryz.prog 118 #[.pointer (some ⟨p, 0, none⟩), .pointer (some ⟨q, 0, none⟩)] w fun r W' => r = .returned (.int .i64 (firstE es)) ∧ Kb w W' := by
  obtain ⟨sp, cap, hv, hs⟩ := hs
  rw [List.length_map] at hv hs
  rw [hv] at h1
  have HS := Lib.hid hs
  have HC := Lib.hid hf
  have H0 : Hid (firstE es = firstE (es.drop 0)) := rfl
  have HX := Lib.hid (fun k (hk : k < xs.length) => show (xs.map encTxt).getD k [] = encTxt (xs.getD k d) by simp [List.getD_eq_getElem?_getD, hk])
  generalize hN : xs.length = n at *
  have HD := Lib.hid (fun k (hk : k < n) => firstE_drop (es := es) (k := k) (by omega))
  have HE : Hid (firstE (es.drop n) = 0) := by rw [List.drop_of_length_le (by omega)]; rfl
  clear hs hf hv hl hN
  go_enter Tryz.func118, Tryz.ntmps118
  go_wp2
  go_loopg [4, 5, 8] n (fun gk s4 s5 s8 wr => ∃ k : Nat, s8 = .int .i64 k ∧ k + gk = n ∧ Hid (firstE es = firstE (es.drop k)) ∧ Kb w wr)
  case atStart => exact ⟨0, rfl, by omega, H0, Kb.refl _⟩
  case round =>
    obtain ⟨k, rfl, hk, hE, kk⟩ := hrel
    have hk0 : (0 : Int) ≤ (k : Int) := by omega
    have c2 := kk.cell h2
    by_cases hlt : k < n
    · obtain ⟨b, off, rfl, hb, hbL, hcell⟩ := HS.out (by omega)
      have hX := HX.out k hlt
      have hcal := HC.out k hlt
      have hD := HD.out k hlt
      generalize es.getD k 0 = e at *
      generalize xs.getD k d = x at *
      obtain ⟨s, rfl⟩ : ∃ z, z = x := ⟨_, rfl⟩
      have x0 := kk.cell (hcell k hlt 0 (by omega))
      rw [hX] at x0
      replace x0 : wr.cell? ⟨b, off + k, none⟩ = some (.string s) := by rw [Nat.mul_one] at x0; exact x0
      have hcal2 := Lib.hid hcal
      have Hk := Lib.hid hk
      clear hcell hX hcal
      unfold Ca at hcal2
      by_cases h0 : e = 0
      · have hE2 : Hid (firstE es = firstE (es.drop (k + 1))) := hE.out.trans (hD.trans (if_pos h0))
        subst h0
        clear hD hE hk
        go_wp2_with (go_at_fn F; (with_reducible refine (hcal2.out.out _).mono ?_); rintro r w1 ⟨rfl, k1⟩)
        have hk := Hk.out
        go_roundg (gk - 1)
        case measure => omega
        case rel => exact ⟨k + 1, by go_num, by omega, hE2, kk.trans k1⟩
      · have hE2 : Hid (firstE es = e) := hE.out.trans (hD.trans (if_neg h0))
        have hne : (e != 0) = true := by simpa using h0
        clear hD hE hk h0
        go_wp2_with (go_at_fn F; (with_reducible refine (hcal2.out.out _).mono ?_); rintro r w1 ⟨rfl, k1⟩)
        go_ret
        exact ⟨by rw [hE2.out]; rfl, kk.trans k1⟩
    · obtain rfl : k = n := by omega
      have hE2 : Hid (firstE es = 0) := hE.out.trans HE.out
      clear hk hE HE
      go_wp2
      go_ret
      exact ⟨by rw [hE2.out]; rfl, kk⟩
set_option maxRecDepth 100000 in
set_option maxHeartbeats 2000000 in
theorem cEach_Txt (L : List Nat) (F : Nat) (d : TxtT) (xs : List TxtT) (es : List Int) (sv : Value) (w : World) (hL : ∀ x ∈ L, x < w.heap.size) (hn : xs.length ≤ 100000) (hl : es.length = xs.length) (hs : Sl L 1 w sv (xs.map encTxt))
    (he : ∀ args W, (callFunc F args).run Tryz.prog W = .ok (.enter F args) W) (hf : ∀ i, i < xs.length → Ca F #[valTxt (xs.getD i d)] (.int .i64 (es.getD i 0))) :
    Calls Tryz.prog 79 #[.func (.func F) #[] #[], sv] w fun r W' => ∃ v, r = .returned v ∧ Ck L v (firstE es) W' ∧ Kb w W' := by
  have hs2 := hs
  obtain ⟨sp, cap, hv, _⟩ := hs2
  rw [List.length_map] at hv
  subst hv
  have k1 := (Kb.refl w).alloc (.cells #[.func (.func F) #[] #[]] 125 (0, 0))
  have kk := k1.alloc (.cells #[.slice sp xs.length cap] 41 (0, 0))
  have b0 := (Is.made w #[.func (.func F) #[] #[]] 125).alloc (.cells #[.slice sp xs.length cap] 41 (0, 0))
  have b1 := Is.made (w.alloc (.cells #[.func (.func F) #[] #[]] 125 (0, 0))) #[.slice sp xs.length cap] 41
  rw [World.size_alloc] at b1
  have R : Ck L (.func (.func 118) #[] #[.pointer (some ⟨w.heap.size + 1, 0, none⟩), .pointer (some ⟨w.heap.size, 0, none⟩)]) (firstE es) ((w.alloc (.cells #[.func (.func F) #[] #[]] 125 (0, 0))).alloc (.cells #[.slice sp xs.length cap] 41 (0, 0))) := by
    refine ⟨_, _, rfl, enters_of Tryz.func118 (by kernel_rfl) rfl, fun W hW => ?_⟩
    exact cEach1_Txt F d xs es _ _ _ W hn hl ((b1.kx hW (fun hx => by have := hL _ hx; omega)).c rfl) ((b0.kx hW (fun hx => by have := hL _ hx; omega)).c rfl) (((hs.kb kk).kx hW).none) he hf
  have HR := Lib.hid R
  clear R b0 b1 hL hf he hl hn k1 hs
  go_enter Tryz.func79, Tryz.ntmps79
  go_wp2
  go_ret
  exact ⟨_, rfl, HR.out, kk⟩
end Go.Proofs.YtlimjohnimgnhaaGreatDoor

/- Package dimension: Name, Valid. -/
namespace Go.Proofs.YtlimjohnimgnhaaGreatDoor
open Go.RowKit

def nmE (s : ByteArray) : Int := firstE [fE (decide (24 < (s.size : Int))) 17, fE (!nmB s) 3]
set_option maxRecDepth 100000 in
set_option maxHeartbeats 1000000 in
theorem dName_any (s : ByteArray) (w : World) (hs : s.size ≤ 1000000) : Calls Tryz.prog 80 #[.string s] w fun r W' => r = .returned (.int .i64 (nmE s)) ∧ Kb w W' := by
  have q := dnamed_any s
  have Q := Lib.hid q
  clear q
  have HN : Hid (nmE s = firstE [fE (decide (24 < (s.size : Int))) 17, fE (!nmB s) 3]) := rfl
  generalize nmE s = E at *
  have Hs := Lib.hid hs
  clear hs
  generalize nmB s = nb at *
  obtain ⟨big, hbig⟩ : ∃ b : Bool, decide (24 < (s.size : Int)) = b := ⟨_, rfl⟩
  rw [hbig] at HN
  go_enter Tryz.func80, Tryz.ntmps80
  go_wp2_with fail
  (refine (cWhen [] _ _ _ (by simp)).mono ?_)
  rintro r w1 ⟨v1, rfl, c1, k1⟩
  obtain ⟨F1, a1, e1, f1, g1⟩ := c1
  subst e1
  go_wp2_with fail
  (with_reducible refine (Q.out _ Hs.out).mono ?_)
  rintro r w2 ⟨rfl, k2⟩
  go_wp2_with fail
  (refine (cWhen [] _ _ _ (by simp)).mono ?_)
  rintro r w3 ⟨v3, rfl, c3, k3⟩
  obtain ⟨F3, a3, e3, f3, g3⟩ := c3
  subst e3
  have k13 := k2.trans k3
  have kz : Kb w3 (w3.alloc (.cells #[.func (.func F1) #[] a1, .func (.func F3) #[] a3] 80 (0, 0))) := (Kb.refl w3).alloc _
  have sl : SlC [] [fE big 17, fE (!nb) 3] (.slice (some ⟨w3.heap.size, 0, none⟩) 2 2) (w3.alloc (.cells #[.func (.func F1) #[] a1, .func (.func F3) #[] a3] 80 (0, 0))) :=
    ⟨[.func (.func F1) #[] a1, .func (.func F3) #[] a3], rfl, sl_is (Is.made w3 _ _) (by simp) rfl (rows_ok rfl rfl), cks_ok ⟨Ck.kx ⟨F1, a1, rfl, f1, g1⟩ (k13.trans kz).kx, Ck.kx ⟨F3, a3, rfl, f3, g3⟩ kz.kx, trivial⟩ rfl⟩
  have SL := Lib.hid sl
  clear f1 g1 f3 g3 sl
  go_wp2_with fail
  (refine (cFirst [] _ _ _ SL.out (by simp)).mono ?_)
  rintro r w4 ⟨rfl, k4⟩
  go_wp2
  go_ret
  exact ⟨by rw [HN.out]; rfl, k1.trans (k13.trans (kz.trans k4))⟩
theorem dName (s : ByteArray) (hs : s.size ≤ 1000000) : Ca 80 #[.string s] (.int .i64 (nmE s)) := Lib.hid fun w => dName_any s w hs
end Go.Proofs.YtlimjohnimgnhaaGreatDoor

/- The reference of package dimension: names. -/
namespace Go.Proofs.YtlimjohnimgnhaaGreatDoor
open Go.RowKit

def lB (z : Int) : Bool := (decide (65 ≤ z) && decide (z ≤ 90)) || (decide (97 ≤ z) && decide (z ≤ 122))
def dB (z : Int) : Bool := decide (48 ≤ z) && decide (z ≤ 57)
set_option maxRecDepth 100000 in
set_option maxHeartbeats 1000000 in
theorem rletter (z : Int) : Ca 124 #[.int .u8 z] (.bool (lB z)) := Lib.hid fun w => by
  unfold lB
  rcases (show z < 65 ∨ (65 ≤ z ∧ z ≤ 90) ∨ (91 ≤ z ∧ z ≤ 96) ∨ (97 ≤ z ∧ z ≤ 122) ∨ 123 ≤ z by omega) with h | ⟨h1, h2⟩ | ⟨h1, h2⟩ | ⟨h1, h2⟩ | h
  · have a : decide (65 ≤ z) = false := decide_eq_false (by omega)
    have b : decide (97 ≤ z) = false := decide_eq_false (by omega)
    rw [a, b]
    go_enter Tryz.func124, Tryz.ntmps124
    go_wp2
    go_ret
    exact ⟨rfl, Kb.refl _⟩
  · have a : decide (65 ≤ z) = true := decide_eq_true (by omega)
    have b : decide (97 ≤ z) = false := decide_eq_false (by omega)
    have c : decide (z ≤ 90) = true := decide_eq_true (by omega)
    rw [a, b, c]
    go_enter Tryz.func124, Tryz.ntmps124
    go_wp2
    go_ret
    exact ⟨rfl, Kb.refl _⟩
  · have a : decide (65 ≤ z) = true := decide_eq_true (by omega)
    have b : decide (97 ≤ z) = false := decide_eq_false (by omega)
    have c : decide (z ≤ 90) = false := decide_eq_false (by omega)
    rw [a, b, c]
    go_enter Tryz.func124, Tryz.ntmps124
    go_wp2
    go_ret
    exact ⟨rfl, Kb.refl _⟩
  · have a : decide (65 ≤ z) = true := decide_eq_true (by omega)
    have b : decide (97 ≤ z) = true := decide_eq_true (by omega)
    have c : decide (z ≤ 90) = false := decide_eq_false (by omega)
    have d : decide (z ≤ 122) = true := decide_eq_true (by omega)
    rw [a, b, c, d]
    go_enter Tryz.func124, Tryz.ntmps124
    go_wp2
    go_ret
    exact ⟨rfl, Kb.refl _⟩
  · have a : decide (65 ≤ z) = true := decide_eq_true (by omega)
    have b : decide (97 ≤ z) = true := decide_eq_true (by omega)
    have c : decide (z ≤ 90) = false := decide_eq_false (by omega)
    have d : decide (z ≤ 122) = false := decide_eq_false (by omega)
    rw [a, b, c, d]
    go_enter Tryz.func124, Tryz.ntmps124
    go_wp2
    go_ret
    exact ⟨rfl, Kb.refl _⟩
theorem isL_z (c : UInt8) : isL c = lB (c.toNat : Int) := by
  unfold isL lB
  rw [Bool.eq_iff_iff]
  simp
  omega
theorem isD_z (c : UInt8) : isD c = dB (c.toNat : Int) := by
  unfold isD dB
  rw [Bool.eq_iff_iff]
  simp
  omega
theorem nmE_eq (s : ByteArray) : nmE s = if 24 < s.size then 17 else if nmB s = true then 0 else 3 := by
  unfold nmE
  by_cases h : 24 < s.size
  · rw [if_pos h, decide_eq_true (show (24 : Int) < (s.size : Int) by omega)]; rfl
  · rw [if_neg h, decide_eq_false (show ¬ (24 : Int) < (s.size : Int) by omega)]
    cases nmB s <;> rfl

set_option maxRecDepth 100000 in
set_option maxHeartbeats 4000000 in
theorem rName_any (s : ByteArray) (w : World) (hs : s.size ≤ 1000000) : Calls Tryz.prog 88 #[.string s] w fun r W' => r = .returned (.int .i64 (nmE s)) ∧ Kb w W' := by
  rw [nmE_eq]
  by_cases hbig : 24 < s.size
  · rw [if_pos hbig]
    go_enter Tryz.func88, Tryz.ntmps88
    go_wp2
    go_ret
    exact ⟨rfl, Kb.refl _⟩
  rw [if_neg hbig]
  obtain ⟨E, hEE⟩ : ∃ E : Int, (if nmB s = true then 0 else 3) = E := ⟨_, rfl⟩
  rw [hEE]
  have HEE := Lib.hid hEE
  clear hEE
  by_cases h0 : s.size = 0
  · have e1 : nmB s = false := by unfold nmB; rw [h0]; rfl
    have he : E = 3 := HEE.out.symm.trans (by rw [e1]; rfl)
    rw [he]
    clear he
    have hz : ((s.size : Int) == 0) = true := by simpa using h0
    go_enter Tryz.func88, Tryz.ntmps88
    go_wp2
    go_ret
    exact ⟨rfl, Kb.refl _⟩
  have h00 : 0 < s.size := by omega
  have hz : ((s.size : Int) == 0) = false := by simpa using h0
  obtain ⟨x0, hx0⟩ : ∃ x, s[0]'h00 = x := ⟨_, rfl⟩
  have q0 := rletter (x0.toNat : Int)
  have HB : Hid (nmB s = nmR s 0) := by
    show nmB s = nmR s 0
    unfold nmB
    rw [show (s.size == 0) = false by simpa using h0]
    rfl
  have HS := Lib.hid (fun k (h : k < s.size) => nmR_step h)
  have HE := Lib.hid (nmR_end s)
  have hok0 : okAt s 0 = isL x0 := by
    unfold okAt
    rw [dif_pos h00, hx0]
    simp
  have HOK := Lib.hid hok0
  by_cases hl0 : lB (x0.toNat : Int) = true
  · rw [hl0] at q0
    have HL0 : Hid (isL x0 = true) := (isL_z x0).trans hl0
    unfold Ca at q0
    have HX0 := Lib.hid hx0
    have H0 := Lib.hid h0
    clear hok0 hl0 h0
    go_enter Tryz.func88, Tryz.ntmps88
    go_wp2_with fail
    (with_reducible refine (q0.out _).mono ?_)
    rintro r w1 ⟨rfl, k1⟩
    clear hx0 q0 hz
    go_wp2_with fail
    go_loopg [3] s.size (fun gk s3 wr => ∃ k : Nat, s3 = .int .i64 k ∧ k + gk = s.size ∧ Hid (nmB s = nmR s k) ∧ Kb w wr)
    case atStart => exact ⟨0, rfl, by omega, HB, k1⟩
    case round =>
      obtain ⟨k, rfl, hk, hR, kk⟩ := hrel
      have hk0 : (0 : Int) ≤ (k : Int) := by omega
      by_cases hlt : k < s.size
      · obtain ⟨x, hx⟩ : ∃ x, s[k]'hlt = x := ⟨_, rfl⟩
        have q1 := rletter (x.toNat : Int)
        have hst := HS.out k hlt
        have hok : okAt s k = (isL x || (!(k == 0) && isD x)) := by unfold okAt; rw [dif_pos hlt, hx]
        have hz1 : k = 0 → isL x = true := fun e => by
          subst e
          have : x = x0 := hx.symm.trans HX0.out
          rw [this]; exact HL0.out
        have Hk := Lib.hid hk
        have hxb : (x.toNat : Int) ≤ 255 := by have := x.toNat_lt; omega
        by_cases hl : lB (x.toNat : Int) = true
        · have g : Hid (nmB s = nmR s (k + 1)) := hR.out.trans (hst.trans (by rw [hok, isL_z, hl]; rfl))
          rw [hl] at q1
          unfold Ca at q1
          clear hst hok hz1 hk hR hl
          go_wp2_with fail
          (with_reducible refine (q1.out _).mono ?_)
          rintro r w2 ⟨rfl, k2⟩
          go_wp2
          have hk := Hk.out
          go_roundg (gk - 1)
          case measure => omega
          case rel => exact ⟨k + 1, by go_num, by omega, g, kk.trans k2⟩
        · have hlf : lB (x.toNat : Int) = false := by simpa using hl
          rw [hlf] at q1
          have hkn : ¬ k = 0 := fun e => by have := hz1 e; rw [isL_z] at this; exact hl this
          unfold Ca at q1
          rcases (show (x.toNat : Int) < 48 ∨ (48 ≤ (x.toNat : Int) ∧ (x.toNat : Int) ≤ 57) ∨ 58 ≤ (x.toNat : Int) by omega) with h | ⟨h1, h2⟩ | h
          · have b : Hid (nmB s = false) := hR.out.trans (hst.trans (by rw [hok, isL_z, isD_z, hlf]; unfold dB; rw [decide_eq_false (show ¬ 48 ≤ (x.toNat : Int) by omega)]; simp))
            clear hst hok hz1 hk hR hl hlf hkn
            go_wp2_with fail
            (with_reducible refine (q1.out _).mono ?_)
            rintro r w2 ⟨rfl, k2⟩
            go_wp2
            go_ret
            exact ⟨by rw [show E = 3 from HEE.out.symm.trans (by rw [b.out]; rfl)]; rfl, kk.trans k2⟩
          · have g : Hid (nmB s = nmR s (k + 1)) := hR.out.trans (hst.trans (by rw [hok, isL_z, isD_z, hlf, show (k == 0) = false by simpa using hkn]; unfold dB; rw [decide_eq_true h1, decide_eq_true h2]; rfl))
            clear hst hok hz1 hk hR hl hlf hkn
            go_wp2_with fail
            (with_reducible refine (q1.out _).mono ?_)
            rintro r w2 ⟨rfl, k2⟩
            go_wp2
            have hk := Hk.out
            go_roundg (gk - 1)
            case measure => omega
            case rel => exact ⟨k + 1, by go_num, by omega, g, kk.trans k2⟩
          · have b : Hid (nmB s = false) := hR.out.trans (hst.trans (by rw [hok, isL_z, isD_z, hlf]; unfold dB; rw [decide_eq_false (show ¬ (x.toNat : Int) ≤ 57 by omega)]; simp))
            clear hst hok hz1 hk hR hl hlf hkn
            go_wp2_with fail
            (with_reducible refine (q1.out _).mono ?_)
            rintro r w2 ⟨rfl, k2⟩
            go_wp2
            go_ret
            exact ⟨by rw [show E = 3 from HEE.out.symm.trans (by rw [b.out]; rfl)]; rfl, kk.trans k2⟩
      · obtain rfl : k = s.size := by omega
        have g : Hid (nmB s = true) := hR.out.trans HE.out
        clear HS HE hR hk
        go_wp2
        go_ret
        exact ⟨by rw [show E = 0 from HEE.out.symm.trans (by rw [g.out]; rfl)]; rfl, kk⟩
  · have hlf : lB (x0.toNat : Int) = false := by simpa using hl0
    rw [hlf] at q0
    unfold Ca at q0
    have b : Hid (nmB s = false) := HB.out.trans ((HS.out 0 h00).trans (by rw [hok0, isL_z, hlf]; rfl))
    clear hok0 hl0 h0 hlf
    go_enter Tryz.func88, Tryz.ntmps88
    go_wp2_with fail
    (with_reducible refine (q0.out _).mono ?_)
    rintro r w1 ⟨rfl, k1⟩
    go_wp2
    go_ret
    exact ⟨by rw [show E = 3 from HEE.out.symm.trans (by rw [b.out]; rfl)]; rfl, k1⟩
theorem rName (s : ByteArray) (hs : s.size ≤ 1000000) : Ca 88 #[.string s] (.int .i64 (nmE s)) := Lib.hid fun w => rName_any s w hs
end Go.Proofs.YtlimjohnimgnhaaGreatDoor
