/- Texts Exp4: each says in its own first comment what it proves. -/
import Derived.Test.YtiommpdbbpddpaaGreatM26
/- Make and Compare of package ratio, for any texts. -/
namespace Go.Proofs.YtiommpdbbpddpaaGreat
open Go.RowKit
open Go.Lib (nDigits itoa decDigits)

def qCmE (a b : ByteArray) : Int := kp (spE a) (kp (spE b) (orE (cN a) (cD a) (cN b) (cD b)))
def qCmV (a b : ByteArray) : Int := if qCmE a b = 0 then orV (cN a) (cD a) (cN b) (cD b) else 0
set_option maxRecDepth 100000 in
set_option maxHeartbeats 4000000 in
theorem compare_in (g b0 b1 : Nat) (a b : ByteArray) (w : World) (h : KE w g 0) (ha : a.size ≤ 9223372036854775807) (hb : b.size ≤ 9223372036854775807)
    (s0 : StB w b0 a) (s1 : StB w b1 b) (g0 : b0 ≠ g) (g1 : b1 ≠ g) :
    Calls Tryz.prog 112 #[.pointer (some ⟨g, 0, none⟩), .pointer (some ⟨b0, 0, none⟩), .pointer (some ⟨b1, 0, none⟩)] w fun x w' => x = .returned (.int .i64 (orV (cN a) (cD a) (cN b) (cD b))) ∧ KE w' g (qCmE a b) ∧ Kp [g] w w' := by
  have hl := h.lt
  have q1 := Lib.hid (fun W E hE => k_split g E a W hE ha)
  have q2 := Lib.hid (fun W E hE => k_split g E b W hE hb)
  have q3 := Lib.hid (fun W E hE => k_order g E (cN a) (cD a) (cN b) (cD b) W hE (cN_size ha) (cD_size ha) (cN_size hb) (cD_size hb))
  have ee : Hid (qCmE a b = kp (spE a) (kp (spE b) (orE (cN a) (cD a) (cN b) (cD b)))) := rfl
  generalize orV (cN a) (cD a) (cN b) (cD b) = V at *
  generalize orE (cN a) (cD a) (cN b) (cD b) = E3 at *
  generalize cN a = n at *
  generalize cD a = p at *
  generalize cN b = m at *
  generalize cD b = t at *
  generalize spE a = Ea at *
  generalize spE b = Eb at *
  have hI : ∀ T0 : Nat → Value, T0 0 = .pointer (some ⟨g, 0, none⟩) → T0 1 = .pointer (some ⟨b0, 0, none⟩) → T0 2 = .pointer (some ⟨b1, 0, none⟩) →
      SplitIn 2 g w.drew T0 (two a b) (two n m) (two p t) (err2 Ea Eb) := by
    intro T0 e0 e1 e2
    refine ⟨e0, fun i hi => ?_, h, fun i hi W hE => ?_⟩
    · obtain rfl | rfl : i = 0 ∨ i = 1 := by omega
      · exact ⟨b0, e1, s0, g0⟩
      · exact ⟨b1, e2, s1, g1⟩
    · obtain rfl | rfl : i = 0 ∨ i = 1 := by omega
      · exact q1.out W _ hE
      · exact q2.out W _ hE
  go_enter Tryz.func112, Tryz.ntmps112
  go_wp2_with fail
  rw [frame_lit]
  refine splits_region (k := 2) (C := 5) (g := g) (s := two a b) (n := two n m) (d := two p t) (E := err2 Ea Eb) (by kernel_rfl) ?shape (hI _ rfl rfl rfl) (fun _ _ _ h => h) ?rest
  case shape =>
    refine ⟨rfl, by decide, by simp, ?_, ?_, ?_, ?_, ?_, ?_, ?_, ?_, ?_, ?_, ?_, ?_⟩
    · intro i hi; obtain rfl | rfl : i = 0 ∨ i = 1 := by omega
      all_goals exact ⟨_, rfl, rfl, rfl, rfl⟩
    · intro i hi; obtain rfl | rfl : i = 0 ∨ i = 1 := by omega
      all_goals exact ⟨_, rfl, rfl, rfl, rfl⟩
    · intro i hi; obtain rfl | rfl : i = 0 ∨ i = 1 := by omega
      all_goals exact ⟨_, _, rfl, rfl, rfl, rfl⟩
    · intro i hi; obtain rfl | rfl : i = 0 ∨ i = 1 := by omega
      all_goals exact ⟨_, rfl, rfl, rfl, rfl⟩
    · intro i hi; obtain rfl | rfl : i = 0 ∨ i = 1 := by omega
      all_goals exact ⟨_, rfl, rfl, rfl, rfl⟩
    · intro i hi l hr; obtain rfl | rfl : i = 0 ∨ i = 1 := by omega
      · exact ⟨dep_of hr rfl (by kernel_rfl), dep_of hr rfl (by kernel_rfl), fun j hj => by omega⟩
      · refine ⟨dep_of hr rfl (by kernel_rfl), dep_of hr rfl (by kernel_rfl), fun j hj => ?_⟩
        obtain rfl : j = 0 := by omega
        exact dep_of hr rfl (by kernel_rfl)
    · intro i hi l hr; obtain rfl | rfl : i = 0 ∨ i = 1 := by omega
      all_goals exact ⟨dep_of hr rfl (by kernel_rfl), dep_of hr rfl (by kernel_rfl)⟩
    · intro i hi l hu; obtain rfl | rfl : i = 0 ∨ i = 1 := by omega
      all_goals exact ready_of (m := 0) hu rfl (by kernel_rfl) (fun j hj => by omega)
    · intro i hi l hu; obtain rfl | rfl : i = 0 ∨ i = 1 := by omega
      all_goals exact ready_of (m := 0) hu rfl (by kernel_rfl) (fun j hj => by omega)
    · intro i hi l hu hp; obtain rfl | rfl : i = 0 ∨ i = 1 := by omega
      · exact ready_of (m := 2) hu rfl (by kernel_rfl) hp
      · exact ready_of (m := 5) hu rfl (by kernel_rfl) hp
    · intro i hi l hu; obtain rfl | rfl : i = 0 ∨ i = 1 := by omega
      all_goals exact ready_of (m := 0) hu rfl (by kernel_rfl) (fun j hj => by omega)
    · intro i hi l hu hp; obtain rfl | rfl : i = 0 ∨ i = 1 := by omega
      · exact ready_of (m := 8) hu rfl (by kernel_rfl) hp
      · exact ready_of (m := 9) hu rfl (by kernel_rfl) hp
  case rest =>
    intro T bb w1 hout hin hE1 k1
    obtain ⟨v0, v1, v2, v3, x3, x4⟩ := hin 0 (by omega)
    obtain ⟨u0, u1, u2, u3, y3, y4⟩ := hin 1 (by omega)
    have e0 : T 0 = .pointer (some ⟨g, 0, none⟩) := hout 0 (by omega)
    have e1 : T 1 = .pointer (some ⟨b0, 0, none⟩) := hout 1 (by omega)
    have e2 : T 2 = .pointer (some ⟨b1, 0, none⟩) := hout 2 (by omega)
    have e3 : T 3 = undef := hout 3 (by omega)
    have e4 : T 4 = .int .i64 0 := hout 4 (by omega)
    have e5 : T 5 = .pointer (some ⟨bb 0, 0, none⟩) := v3
    have e6 : T 6 = .pointer (some ⟨bb 1, 0, none⟩) := u3
    have e7 : T 7 = .pointer (some ⟨g, 0, none⟩) := v0
    have e8 : T 8 = .string a := v1
    have e9 : T 9 = .agg #[.string n, .string p] := v2
    have e10 : T 10 = .pointer (some ⟨g, 0, none⟩) := u0
    have e11 : T 11 = .string b := u1
    have e12 : T 12 = .agg #[.string m, .string t] := u2
    have e13 : T 13 = undef := hout 13 (by omega)
    have e14 : T 14 = undef := hout 14 (by omega)
    have e15 : T 15 = undef := hout 15 (by omega)
    have e16 : T 16 = undef := hout 16 (by omega)
    have X : FrB w1 (bb 0) n p := x4
    have Y : FrB w1 (bb 1) m t := y4
    have hE1' : KE w1 g (kp (kp 0 Ea) Eb) := hE1
    clear v0 v1 v2 v3 u0 u1 u2 u3 x3 y3 x4 y4 hE1
    generalize bb 0 = bx at *
    generalize bb 1 = by_ at *
    change Exit.then _ _ _ (⟨#[T 0, T 1, T 2, T 3, T 4, T 5, T 6, T 7, T 8, T 9, T 10, T 11, T 12, T 13, T 14, T 15, T 16], []⟩ : Act) w1
    rw [e0, e1, e2, e3, e4, e5, e6, e7, e8, e9, e10, e11, e12, e13, e14, e15, e16]
    clear e0 e1 e2 e3 e4 e5 e6 e7 e8 e9 e10 e11 e12 e13 e14 e15 e16 hout hin
    have cx0 := X.c0
    have cx1 := X.c1
    have cy0 := Y.c0
    have cy1 := Y.c1
    go_wp2_with fail
    with_reducible refine (q3.out _ _ hE1').mono ?_
    rintro x w2 ⟨rfl, hE2, k2⟩
    have kk2 := k1.trans k2
    go_wp2
    go_ret
    exact ⟨rfl, by rw [ee.out]; simpa only [kp_assoc, kp_zero] using hE2, kk2⟩
set_option maxRecDepth 100000 in
set_option maxHeartbeats 1000000 in
theorem qCompare_any (a b : ByteArray) (w : World) (ha : a.size ≤ 9223372036854775807) (hb : b.size ≤ 9223372036854775807) :
    Calls Tryz.prog 87 #[.string a, .string b] w fun x w' => x = .returned (.tuple #[.int .i64 (qCmV a b), .int .i64 (qCmE a b)]) ∧ Kp [] w w' := by
  have s0 := (StB.made w a).alloc (.cells #[.string b] 24 (0, 0))
  have s1 := StB.made (w.alloc (.cells #[.string a] 24 (0, 0))) b
  rw [World.size_alloc] at s1
  have k0 : Kp [] w ((w.alloc (.cells #[.string a] 24 (0, 0))).alloc (.cells #[.string b] 24 (0, 0))) := ((Kp.refl _ _).alloc _).alloc _
  have q1 := Lib.hid (decision2 112 w.heap.size (w.heap.size + 1) (orV (cN a) (cD a) (cN b) (cD b)) (qCmE a b) ((w.alloc (.cells #[.string a] 24 (0, 0))).alloc (.cells #[.string b] 24 (0, 0))) (enters_of Tryz.func112 (by kernel_rfl) rfl)
    (fun W g hE hg hk => by
      have hg' : w.heap.size + 2 ≤ g := by simpa using hg
      exact compare_in g _ _ a b W hE ha hb (s0.kept hk (by simp)) (s1.kept hk (by simp)) (by omega) (by omega)))
  have e0 : Hid (qCmV a b = if qCmE a b = 0 then orV (cN a) (cD a) (cN b) (cD b) else 0) := rfl
  rw [← e0.out] at q1
  generalize qCmV a b = V at *
  generalize qCmE a b = E at *
  go_enter Tryz.func87, Tryz.ntmps87
  go_wp2_with fail
  with_reducible refine q1.out.mono ?_
  rintro x w1 ⟨rfl, k1⟩
  have kk := k0.trans k1
  go_wp2
  go_ret2
  exact ⟨rfl, kk⟩
end Go.Proofs.YtiommpdbbpddpaaGreat
