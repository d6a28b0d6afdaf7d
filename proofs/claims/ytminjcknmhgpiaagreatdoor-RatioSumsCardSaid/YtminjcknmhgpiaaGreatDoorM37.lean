/- Texts Root2, Root3: each says in its own first comment what it proves. -/
import Derived.Test.YtminjcknmhgpiaaGreatDoorM36
/- The sign of a + b root c, in package ratio. -/
namespace Go.Proofs.YtminjcknmhgpiaaGreatDoor
open Go.RowKit
open Go.Lib (nDigits itoa decDigits)

theorem signI_le (a : ByteArray) : -1 ≤ signI a ∧ signI a ≤ 1 := by
  unfold signI sgn
  split
  · split
    · omega
    · split <;> omega
  · omega
theorem cmpI_le (x y : Int) : -1 ≤ cmpI x y ∧ cmpI x y ≤ 1 := by
  unfold cmpI
  split
  · omega
  · split <;> omega
theorem cmpV_le (a b : ByteArray) : -1 ≤ cmpV a b ∧ cmpV a b ≤ 1 := by
  unfold cmpV
  split
  · exact cmpI_le _ _
  · omega
theorem mul_wrap {s t : Int} (hs : -1 ≤ s ∧ s ≤ 1) (ht : -1 ≤ t ∧ t ≤ 1) : IntKind.i64.wrap (s * t) = s * t := by
  obtain ⟨s1, s2⟩ := hs
  obtain ⟨t1, t2⟩ := ht
  refine IntWalk.i64_in _ ?_
  obtain rfl | rfl | rfl : s = -1 ∨ s = 0 ∨ s = 1 := by omega
  · omega
  · omega
  · omega

/-- the order that decides the sign of a + b root c, and its error -/
def srO (n1 p1 n2 p2 n3 p3 : ByteArray) : Int := orV (prN n1 p1 n1 p1) (prD n1 p1 n1 p1) (sqN n2 p2 n3 p3) (sqD n2 p2 n3 p3)
def srOE (n1 p1 n2 p2 n3 p3 : ByteArray) : Int := kp (prE n1 p1 n1 p1) (kp (sqE n2 p2 n3 p3) (orE (prN n1 p1 n1 p1) (prD n1 p1 n1 p1) (sqN n2 p2 n3 p3) (sqD n2 p2 n3 p3)))

set_option maxRecDepth 100000 in
set_option maxHeartbeats 4000000 in
theorem signRoot_cl (g bk b1 b2 b3 : Nat) (e : Int) (n1 p1 n2 p2 n3 p3 : ByteArray) (w : World) (h : KE w g e) (z1 : n1.size ≤ 9223372036854775807) (y1 : p1.size ≤ 9223372036854775807) (z2 : n2.size ≤ 9223372036854775807) (y2 : p2.size ≤ 9223372036854775807) (z3 : n3.size ≤ 9223372036854775807) (y3 : p3.size ≤ 9223372036854775807)
    (sk : PtB w bk g) (s1 : FrB w b1 n1 p1) (s2 : FrB w b2 n2 p2) (s3 : FrB w b3 n3 p3) (gk : bk ≠ g) (g1 : b1 ≠ g) (g2 : b2 ≠ g) (g3 : b3 ≠ g) :
    Calls Tryz.prog 134 #[.pointer (some ⟨bk, 0, none⟩), .pointer (some ⟨b1, 0, none⟩), .pointer (some ⟨b2, 0, none⟩), .pointer (some ⟨b3, 0, none⟩)] w fun x w' => x = .returned (.int .i64 (srO n1 p1 n2 p2 n3 p3)) ∧ KE w' g (kp e (srOE n1 p1 n2 p2 n3 p3)) ∧ Kp [g] w w' := by
  have q1 := Lib.hid (fun W E hE => k_product g E n1 p1 n1 p1 W hE z1 y1 z1 y1)
  have q2 := Lib.hid (fun W E hE => k_squareOf g E n2 p2 n3 p3 W hE z2 y2 z3 y3)
  have q3 := Lib.hid (fun W E hE => k_order g E (prN n1 p1 n1 p1) (prD n1 p1 n1 p1) (sqN n2 p2 n3 p3) (sqD n2 p2 n3 p3) W hE (le9 (prN_size _ _ _ _)) (le9 (prD_size _ _ _ _)) (sqN_size _ _ _ _) (sqD_size _ _ _ _))
  have e1 : Hid (srO n1 p1 n2 p2 n3 p3 = orV (prN n1 p1 n1 p1) (prD n1 p1 n1 p1) (sqN n2 p2 n3 p3) (sqD n2 p2 n3 p3)) := rfl
  have e3 : Hid (srOE n1 p1 n2 p2 n3 p3 = kp (prE n1 p1 n1 p1) (kp (sqE n2 p2 n3 p3) (orE (prN n1 p1 n1 p1) (prD n1 p1 n1 p1) (sqN n2 p2 n3 p3) (sqD n2 p2 n3 p3)))) := rfl
  rw [← e1.out] at q3
  generalize orE (prN n1 p1 n1 p1) (prD n1 p1 n1 p1) (sqN n2 p2 n3 p3) (sqD n2 p2 n3 p3) = E3 at *
  generalize prN n1 p1 n1 p1 = A at *
  generalize prD n1 p1 n1 p1 = B at *
  generalize sqN n2 p2 n3 p3 = C at *
  generalize sqD n2 p2 n3 p3 = D at *
  have ck := sk.c
  have c10 := s1.c0
  have c11 := s1.c1
  have c20 := s2.c0
  have c21 := s2.c1
  have c30 := s3.c0
  have c31 := s3.c1
  go_enter Tryz.func134, Tryz.ntmps134
  go_wp2_with fail
  go_region_held3 (fun w' => w'.cell? ⟨bk, 0, none⟩ = some (.pointer (some ⟨g, 0, none⟩)) ∧ w'.cell? ⟨b1, 0, none⟩ = some (.string n1) ∧ w'.cell? ⟨b1, 1, none⟩ = some (.string p1) ∧ w'.cell? ⟨b2, 0, none⟩ = some (.string n2) ∧ w'.cell? ⟨b2, 1, none⟩ = some (.string p2) ∧ w'.cell? ⟨b3, 0, none⟩ = some (.string n3) ∧ w'.cell? ⟨b3, 1, none⟩ = some (.string p3))
    (first
      | exact ⟨v6.c, r6.c0, r6.c1, t6.c0, t6.c1, u6.c0, u6.c1⟩
      | exact ⟨v5.c, r5.c0, r5.c1, t5.c0, t5.c1, u5.c0, u5.c1⟩
      | exact ⟨v4.c, r4.c0, r4.c1, t4.c0, t4.c1, u4.c0, u4.c1⟩
      | go_keep)
    (first
      | (go_at_call 89; with_reducible refine (q1.out _ _ (KE.drew h)).mono ?_; rintro x w4 ⟨rfl, hE4, k4⟩; have v4 := PtB.kept (PtB.drew sk) k4 (nmem_one gk); have r4 := FrB.kept (FrB.drew s1) k4 (nmem_one g1); have t4 := FrB.kept (FrB.drew s2) k4 (nmem_one g2); have u4 := FrB.kept (FrB.drew s3) k4 (nmem_one g3))
      | (go_at_call 135; with_reducible refine (q2.out _ _ hE4).mono ?_; rintro x w5 ⟨rfl, hE5, k5⟩; have v5 := PtB.kept v4 k5 (nmem_one gk); have r5 := FrB.kept r4 k5 (nmem_one g1); have t5 := FrB.kept t4 k5 (nmem_one g2); have u5 := FrB.kept u4 k5 (nmem_one g3))
      | (go_at_call 94; with_reducible refine (q3.out _ _ hE5).mono ?_; rintro x w6 ⟨rfl, hE6, k6⟩; have v6 := PtB.kept v5 k6 (nmem_one gk); have r6 := FrB.kept r5 k6 (nmem_one g1); have t6 := FrB.kept t5 k6 (nmem_one g2); have u6 := FrB.kept u5 k6 (nmem_one g3)))
  have kk : Kp [g] w w6 := (((Kp.refl [g] w).drew.trans k4).trans k5).trans k6
  go_wp2
  go_ret
  exact ⟨rfl, by rw [e3.out]; simpa only [kp_assoc] using hE6, kk⟩

/-- the sign of a + b root c, and its error -/
def sgV (n1 p1 n2 p2 n3 p3 : ByteArray) : Int := stV (signI n1) (signI n2 * signI n3) (srO n1 p1 n2 p2 n3 p3)
def sgE (n1 p1 n2 p2 n3 p3 : ByteArray) : Int := kp (chk n1.data.toList) (kp (chk n2.data.toList) (kp (chk n3.data.toList) (stE (signI n1) (signI n2 * signI n3) (srOE n1 p1 n2 p2 n3 p3))))

set_option maxRecDepth 100000 in
set_option maxHeartbeats 8000000 in
theorem k_signRoot (g : Nat) (e : Int) (n1 p1 n2 p2 n3 p3 : ByteArray) (w : World) (h : KE w g e) (z1 : n1.size ≤ 9223372036854775807) (y1 : p1.size ≤ 9223372036854775807) (z2 : n2.size ≤ 9223372036854775807) (y2 : p2.size ≤ 9223372036854775807) (z3 : n3.size ≤ 9223372036854775807) (y3 : p3.size ≤ 9223372036854775807) :
    Calls Tryz.prog 100 #[.pointer (some ⟨g, 0, none⟩), .agg #[.string n1, .string p1], .agg #[.string n2, .string p2], .agg #[.string n3, .string p3]] w fun x w' => x = .returned (.int .i64 (sgV n1 p1 n2 p2 n3 p3)) ∧ KE w' g (kp e (sgE n1 p1 n2 p2 n3 p3)) ∧ Kp [g] w w' := by
  have hl := h.lt
  have q1 := Lib.hid (fun W E hE => k_sign g E n1 W hE (by omega))
  have q2 := Lib.hid (fun W E hE => k_sign g E n2 W hE (by omega))
  have q3 := Lib.hid (fun W E hE => k_sign g E n3 W hE (by omega))
  have q4 := Lib.hid (fun (W : World) (E : Int) (hE : KE W g E) (sk : PtB W w.heap.size g) (s1 : FrB W (w.heap.size + 1) n1 p1) (s2 : FrB W (w.heap.size + 2) n2 p2) (s3 : FrB W (w.heap.size + 3) n3 p3) =>
    signOfTwo_any 134 g #[.pointer (some ⟨w.heap.size, 0, none⟩), .pointer (some ⟨w.heap.size + 1, 0, none⟩), .pointer (some ⟨w.heap.size + 2, 0, none⟩), .pointer (some ⟨w.heap.size + 3, 0, none⟩)] E (signI n1) (signI n2 * signI n3) (srO n1 p1 n2 p2 n3 p3) (srOE n1 p1 n2 p2 n3 p3) W hE (signI_le _) (cmpV_le _ _) (enters_of Tryz.func134 (by kernel_rfl) rfl)
      (signRoot_cl g w.heap.size (w.heap.size + 1) (w.heap.size + 2) (w.heap.size + 3) E n1 p1 n2 p2 n3 p3 W hE z1 y1 z2 y2 z3 y3 sk s1 s2 s3 (by omega) (by omega) (by omega) (by omega)))
  have e1 : Hid (sgV n1 p1 n2 p2 n3 p3 = stV (signI n1) (signI n2 * signI n3) (srO n1 p1 n2 p2 n3 p3)) := rfl
  have e3 : Hid (sgE n1 p1 n2 p2 n3 p3 = kp (chk n1.data.toList) (kp (chk n2.data.toList) (kp (chk n3.data.toList) (stE (signI n1) (signI n2 * signI n3) (srOE n1 p1 n2 p2 n3 p3))))) := rfl
  rw [← e1.out] at q4
  have hw := mul_wrap (signI_le n2) (signI_le n3)
  generalize stE (signI n1) (signI n2 * signI n3) (srOE n1 p1 n2 p2 n3 p3) = E4 at *
  generalize sgV n1 p1 n2 p2 n3 p3 = V at *
  generalize chk n1.data.toList = C1 at *
  generalize chk n2.data.toList = C2 at *
  generalize chk n3.data.toList = C3 at *
  generalize signI n1 = S1 at *
  generalize signI n2 = S2 at *
  generalize signI n3 = S3 at *
  have sk := (((PtB.made w g).alloc (.cells #[.string n1, .string p1] 86 (0, 0))).alloc (.cells #[.string n2, .string p2] 86 (0, 0))).alloc (.cells #[.string n3, .string p3] 86 (0, 0))
  have s1 := ((FrB.made (w.alloc (.cells #[.pointer (some ⟨g, 0, none⟩)] 89 (0, 0))) n1 p1).alloc (.cells #[.string n2, .string p2] 86 (0, 0))).alloc (.cells #[.string n3, .string p3] 86 (0, 0))
  have s2 := (FrB.made ((w.alloc (.cells #[.pointer (some ⟨g, 0, none⟩)] 89 (0, 0))).alloc (.cells #[.string n1, .string p1] 86 (0, 0))) n2 p2).alloc (.cells #[.string n3, .string p3] 86 (0, 0))
  have s3 := FrB.made (((w.alloc (.cells #[.pointer (some ⟨g, 0, none⟩)] 89 (0, 0))).alloc (.cells #[.string n1, .string p1] 86 (0, 0))).alloc (.cells #[.string n2, .string p2] 86 (0, 0))) n3 p3
  simp only [World.size_alloc] at s1 s2 s3
  have hE := (((h.alloc (.cells #[.pointer (some ⟨g, 0, none⟩)] 89 (0, 0))).alloc (.cells #[.string n1, .string p1] 86 (0, 0))).alloc (.cells #[.string n2, .string p2] 86 (0, 0))).alloc (.cells #[.string n3, .string p3] 86 (0, 0))
  have k0 : Kp [g] w ((((w.alloc (.cells #[.pointer (some ⟨g, 0, none⟩)] 89 (0, 0))).alloc (.cells #[.string n1, .string p1] 86 (0, 0))).alloc (.cells #[.string n2, .string p2] 86 (0, 0))).alloc (.cells #[.string n3, .string p3] 86 (0, 0))) := ((((Kp.refl _ _).alloc _).alloc _).alloc _).alloc _
  have ck := sk.c
  have c10 := s1.c0
  have c20 := s2.c0
  have c30 := s3.c0
  clear h
  go_enter Tryz.func100, Tryz.ntmps100
  go_wp2_with fail
  go_region_held3 (fun w' => w'.cell? ⟨w.heap.size, 0, none⟩ = some (.pointer (some ⟨g, 0, none⟩)) ∧ w'.cell? ⟨w.heap.size + 1, 0, none⟩ = some (.string n1) ∧ w'.cell? ⟨w.heap.size + 2, 0, none⟩ = some (.string n2) ∧ w'.cell? ⟨w.heap.size + 3, 0, none⟩ = some (.string n3))
    (first
      | exact ⟨v7.c, r7.c0, t7.c0, u7.c0⟩
      | exact ⟨v6.c, r6.c0, t6.c0, u6.c0⟩
      | exact ⟨v5.c, r5.c0, t5.c0, u5.c0⟩
      | exact ⟨v4.c, r4.c0, t4.c0, u4.c0⟩
      | go_keep)
    (first
      | (go_at_call 59; with_reducible refine (q1.out _ _ (KE.drew hE)).mono ?_; rintro x w4 ⟨rfl, hE4, k4⟩; have v4 := PtB.kept (PtB.drew sk) k4 (nmem_one (by omega)); have r4 := FrB.kept (FrB.drew s1) k4 (nmem_one (by omega)); have t4 := FrB.kept (FrB.drew s2) k4 (nmem_one (by omega)); have u4 := FrB.kept (FrB.drew s3) k4 (nmem_one (by omega)))
      | (go_at_call 59; with_reducible refine (q2.out _ _ hE4).mono ?_; rintro x w5 ⟨rfl, hE5, k5⟩; have v5 := PtB.kept v4 k5 (nmem_one (by omega)); have r5 := FrB.kept r4 k5 (nmem_one (by omega)); have t5 := FrB.kept t4 k5 (nmem_one (by omega)); have u5 := FrB.kept u4 k5 (nmem_one (by omega)))
      | (go_at_call 59; with_reducible refine (q3.out _ _ hE5).mono ?_; rintro x w6 ⟨rfl, hE6, k6⟩; have v6 := PtB.kept v5 k6 (nmem_one (by omega)); have r6 := FrB.kept r5 k6 (nmem_one (by omega)); have t6 := FrB.kept t5 k6 (nmem_one (by omega)); have u6 := FrB.kept u5 k6 (nmem_one (by omega)))
      | (go_at_call 133; with_reducible refine (q4.out _ _ hE6 v6 r6 t6 u6).mono ?_; rintro x w7 ⟨rfl, hE7, k7⟩; have v7 := PtB.kept v6 k7 (nmem_one (by omega)); have r7 := FrB.kept r6 k7 (nmem_one (by omega)); have t7 := FrB.kept t6 k7 (nmem_one (by omega)); have u7 := FrB.kept u6 k7 (nmem_one (by omega))))
  all_goals
    have kk : Kp [g] w w7 := ((((Kp.drew k0).trans k4).trans k5).trans k6).trans k7
    go_wp2
    go_ret
    exact ⟨rfl, by rw [e3.out]; simpa only [kp_assoc] using hE7, kk⟩
end Go.Proofs.YtminjcknmhgpiaaGreatDoor

/- SignRoot of package ratio, for any texts. -/
namespace Go.Proofs.YtminjcknmhgpiaaGreatDoor
open Go.RowKit
open Go.Lib (nDigits itoa decDigits)

set_option maxRecDepth 100000 in
theorem frame_26 (T : Nat → Value) : frameOf 26 T = ⟨#[T 0, T 1, T 2, T 3, T 4, T 5, T 6, T 7, T 8, T 9, T 10, T 11, T 12, T 13, T 14, T 15, T 16, T 17, T 18, T 19, T 20, T 21, T 22, T 23, T 24, T 25], []⟩ := by
  unfold frameOf
  simp only [Act.mk.injEq, and_true]
  apply Array.ext
  · simp
  · intro i h1 h2
    rw [Array.getElem_ofFn]
    simp only [Array.size_ofFn] at h1
    obtain rfl | rfl | rfl | rfl | rfl | rfl | rfl | rfl | rfl | rfl | rfl | rfl | rfl | rfl | rfl | rfl | rfl | rfl | rfl | rfl | rfl | rfl | rfl | rfl | rfl | rfl : i = 0 ∨ i = 1 ∨ i = 2 ∨ i = 3 ∨ i = 4 ∨ i = 5 ∨ i = 6 ∨ i = 7 ∨ i = 8 ∨ i = 9 ∨ i = 10 ∨ i = 11 ∨ i = 12 ∨ i = 13 ∨ i = 14 ∨ i = 15 ∨ i = 16 ∨ i = 17 ∨ i = 18 ∨ i = 19 ∨ i = 20 ∨ i = 21 ∨ i = 22 ∨ i = 23 ∨ i = 24 ∨ i = 25 := by omega
    all_goals rfl
/-- the errors of SignRoot -/
def qSrE (a b c : ByteArray) : Int := kp (spE a) (kp (spE b) (kp (spE c) (kp (rcE (cN c)) (sgE (cN a) (cD a) (cN b) (cD b) (cN c) (cD c)))))
def qSrV (a b c : ByteArray) : Int := if qSrE a b c = 0 then sgV (cN a) (cD a) (cN b) (cD b) (cN c) (cD c) else 0

set_option maxRecDepth 100000 in
set_option maxHeartbeats 8000000 in
theorem signRoot_in (g b0 b1 b2 : Nat) (a b c : ByteArray) (w : World) (h : KE w g 0) (ha : a.size ≤ 9223372036854775807) (hb : b.size ≤ 9223372036854775807) (hc : c.size ≤ 9223372036854775807)
    (s0 : StB w b0 a) (s1 : StB w b1 b) (s2 : StB w b2 c) (g0 : b0 ≠ g) (g1 : b1 ≠ g) (g2 : b2 ≠ g) :
    Calls Tryz.prog 98 #[.pointer (some ⟨g, 0, none⟩), .pointer (some ⟨b0, 0, none⟩), .pointer (some ⟨b1, 0, none⟩), .pointer (some ⟨b2, 0, none⟩)] w fun x w' => x = .returned (.int .i64 (sgV (cN a) (cD a) (cN b) (cD b) (cN c) (cD c))) ∧ KE w' g (qSrE a b c) ∧ Kp [g] w w' := by
  have hl := h.lt
  have sp0 := Lib.hid (fun W E hE => k_split g E a W hE ha)
  have sp1 := Lib.hid (fun W E hE => k_split g E b W hE hb)
  have sp2 := Lib.hid (fun W E hE => k_split g E c W hE hc)
  have q1 := Lib.hid (fun W E hE => k_radicand g E (cN c) (cD c) W hE (cN_size hc))
  have q2 := Lib.hid (fun W E hE => k_signRoot g E (cN a) (cD a) (cN b) (cD b) (cN c) (cD c) W hE (cN_size ha) (cD_size ha) (cN_size hb) (cD_size hb) (cN_size hc) (cD_size hc))
  have ee : Hid (qSrE a b c = kp (spE a) (kp (spE b) (kp (spE c) (kp (rcE (cN c)) (sgE (cN a) (cD a) (cN b) (cD b) (cN c) (cD c)))))) := rfl
  generalize sgV (cN a) (cD a) (cN b) (cD b) (cN c) (cD c) = V at *
  generalize sgE (cN a) (cD a) (cN b) (cD b) (cN c) (cD c) = EE at *
  generalize rcE (cN c) = ER at *
  generalize cN a = n1 at *
  generalize cD a = p1 at *
  generalize spE a = E1 at *
  generalize cN b = n2 at *
  generalize cD b = p2 at *
  generalize spE b = E2 at *
  generalize cN c = n3 at *
  generalize cD c = p3 at *
  generalize spE c = E3 at *
  have hI : ∀ T0 : Nat → Value, T0 0 = .pointer (some ⟨g, 0, none⟩) → T0 1 = .pointer (some ⟨b0, 0, none⟩) → T0 2 = .pointer (some ⟨b1, 0, none⟩) → T0 3 = .pointer (some ⟨b2, 0, none⟩) →
      SplitIn 3 g w.drew T0 (fun i : Nat => if i = 0 then a else if i = 1 then b else c) (fun i : Nat => if i = 0 then n1 else if i = 1 then n2 else n3) (fun i : Nat => if i = 0 then p1 else if i = 1 then p2 else p3) (fun i : Nat => if i = 0 then (0 : Int) else if i = 1 then kp 0 E1 else if i = 2 then kp (kp 0 E1) E2 else kp (kp (kp 0 E1) E2) E3) := by
    intro T0 i0 i1 i2 i3
    refine ⟨i0, fun i hi => ?_, h, fun i hi W hE => ?_⟩
    · obtain rfl | rfl | rfl : i = 0 ∨ i = 1 ∨ i = 2 := by omega
      · exact ⟨b0, i1, s0, g0⟩
      · exact ⟨b1, i2, s1, g1⟩
      · exact ⟨b2, i3, s2, g2⟩
    · obtain rfl | rfl | rfl : i = 0 ∨ i = 1 ∨ i = 2 := by omega
      · exact sp0.out W _ hE
      · exact sp1.out W _ hE
      · exact sp2.out W _ hE
  go_enter Tryz.func98, Tryz.ntmps98
  go_wp2_with fail
  rw [frame_lit]
  refine splits_region (N := 26) (k := 3) (C := 6) (g := g) (s := (fun i : Nat => if i = 0 then a else if i = 1 then b else c)) (n := (fun i : Nat => if i = 0 then n1 else if i = 1 then n2 else n3)) (d := (fun i : Nat => if i = 0 then p1 else if i = 1 then p2 else p3)) (E := (fun i : Nat => if i = 0 then (0 : Int) else if i = 1 then kp 0 E1 else if i = 2 then kp (kp 0 E1) E2 else kp (kp (kp 0 E1) E2) E3)) (by kernel_rfl) ?shape (hI _ rfl rfl rfl rfl) (fun _ _ _ h => h) ?rest
  case shape =>
    refine ⟨rfl, by decide, by simp, ?_, ?_, ?_, ?_, ?_, ?_, ?_, ?_, ?_, ?_, ?_, ?_⟩
    · intro i hi; obtain rfl | rfl | rfl : i = 0 ∨ i = 1 ∨ i = 2 := by omega
      all_goals exact ⟨_, rfl, rfl, rfl, rfl⟩
    · intro i hi; obtain rfl | rfl | rfl : i = 0 ∨ i = 1 ∨ i = 2 := by omega
      all_goals exact ⟨_, rfl, rfl, rfl, rfl⟩
    · intro i hi; obtain rfl | rfl | rfl : i = 0 ∨ i = 1 ∨ i = 2 := by omega
      all_goals exact ⟨_, _, rfl, rfl, rfl, rfl⟩
    · intro i hi; obtain rfl | rfl | rfl : i = 0 ∨ i = 1 ∨ i = 2 := by omega
      all_goals exact ⟨_, rfl, rfl, rfl, rfl⟩
    · intro i hi; obtain rfl | rfl | rfl : i = 0 ∨ i = 1 ∨ i = 2 := by omega
      all_goals exact ⟨_, rfl, rfl, rfl, rfl⟩
    · intro i hi l hr; obtain rfl | rfl | rfl : i = 0 ∨ i = 1 ∨ i = 2 := by omega
      · exact ⟨dep_of hr rfl (by kernel_rfl), dep_of hr rfl (by kernel_rfl), fun j hj => by omega⟩
      · refine ⟨dep_of hr rfl (by kernel_rfl), dep_of hr rfl (by kernel_rfl), fun j hj => ?_⟩
        obtain rfl : j = 0 := by omega
        exact dep_of hr rfl (by kernel_rfl)
      · refine ⟨dep_of hr rfl (by kernel_rfl), dep_of hr rfl (by kernel_rfl), fun j hj => ?_⟩
        obtain rfl : j = 1 := by omega
        exact dep_of hr rfl (by kernel_rfl)
    · intro i hi l hr; obtain rfl | rfl | rfl : i = 0 ∨ i = 1 ∨ i = 2 := by omega
      all_goals exact ⟨dep_of hr rfl (by kernel_rfl), dep_of hr rfl (by kernel_rfl)⟩
    · intro i hi l hu; obtain rfl | rfl | rfl : i = 0 ∨ i = 1 ∨ i = 2 := by omega
      all_goals exact ready_of (m := 0) hu rfl (by kernel_rfl) (fun j hj => by omega)
    · intro i hi l hu; obtain rfl | rfl | rfl : i = 0 ∨ i = 1 ∨ i = 2 := by omega
      all_goals exact ready_of (m := 0) hu rfl (by kernel_rfl) (fun j hj => by omega)
    · intro i hi l hu hp; obtain rfl | rfl | rfl : i = 0 ∨ i = 1 ∨ i = 2 := by omega
      · exact ready_of (m := 2) hu rfl (by kernel_rfl) hp
      · exact ready_of (m := 5) hu rfl (by kernel_rfl) hp
      · exact ready_of (m := 8) hu rfl (by kernel_rfl) hp
    · intro i hi l hu; obtain rfl | rfl | rfl : i = 0 ∨ i = 1 ∨ i = 2 := by omega
      all_goals exact ready_of (m := 0) hu rfl (by kernel_rfl) (fun j hj => by omega)
    · intro i hi l hu hp; obtain rfl | rfl | rfl : i = 0 ∨ i = 1 ∨ i = 2 := by omega
      · exact ready_of (m := 12) hu rfl (by kernel_rfl) hp
      · exact ready_of (m := 13) hu rfl (by kernel_rfl) hp
      · exact ready_of (m := 14) hu rfl (by kernel_rfl) hp
  case rest =>
    intro T bb w1 hout hin hE1 k1
    have e0 : T 0 = .pointer (some ⟨g, 0, none⟩) := hout 0 (by omega)
    have e1 : T 1 = .pointer (some ⟨b0, 0, none⟩) := hout 1 (by omega)
    have e2 : T 2 = .pointer (some ⟨b1, 0, none⟩) := hout 2 (by omega)
    have e3 : T 3 = .pointer (some ⟨b2, 0, none⟩) := hout 3 (by omega)
    have e4 : T 4 = undef := hout 4 (by omega)
    have e5 : T 5 = .int .i64 0 := hout 5 (by omega)
    have e6 : T 6 = .pointer (some ⟨bb 0, 0, none⟩) := (hin 0 (by omega)).2.2.2.1
    have e7 : T 7 = .pointer (some ⟨bb 1, 0, none⟩) := (hin 1 (by omega)).2.2.2.1
    have e8 : T 8 = .pointer (some ⟨bb 2, 0, none⟩) := (hin 2 (by omega)).2.2.2.1
    have e9 : T 9 = .pointer (some ⟨g, 0, none⟩) := (hin 0 (by omega)).1
    have e10 : T 10 = .string a := (hin 0 (by omega)).2.1
    have e11 : T 11 = .agg #[.string n1, .string p1] := (hin 0 (by omega)).2.2.1
    have e12 : T 12 = .pointer (some ⟨g, 0, none⟩) := (hin 1 (by omega)).1
    have e13 : T 13 = .string b := (hin 1 (by omega)).2.1
    have e14 : T 14 = .agg #[.string n2, .string p2] := (hin 1 (by omega)).2.2.1
    have e15 : T 15 = .pointer (some ⟨g, 0, none⟩) := (hin 2 (by omega)).1
    have e16 : T 16 = .string c := (hin 2 (by omega)).2.1
    have e17 : T 17 = .agg #[.string n3, .string p3] := (hin 2 (by omega)).2.2.1
    have e18 : T 18 = undef := hout 18 (by omega)
    have e19 : T 19 = undef := hout 19 (by omega)
    have e20 : T 20 = undef := hout 20 (by omega)
    have e21 : T 21 = undef := hout 21 (by omega)
    have e22 : T 22 = undef := hout 22 (by omega)
    have e23 : T 23 = undef := hout 23 (by omega)
    have e24 : T 24 = undef := hout 24 (by omega)
    have e25 : T 25 = undef := hout 25 (by omega)
    have X0 : FrB w1 (bb 0) n1 p1 := (hin 0 (by omega)).2.2.2.2.2
    have L0 : w.heap.size ≤ bb 0 := (hin 0 (by omega)).2.2.2.2.1
    have X1 : FrB w1 (bb 1) n2 p2 := (hin 1 (by omega)).2.2.2.2.2
    have L1 : w.heap.size ≤ bb 1 := (hin 1 (by omega)).2.2.2.2.1
    have X2 : FrB w1 (bb 2) n3 p3 := (hin 2 (by omega)).2.2.2.2.2
    have L2 : w.heap.size ≤ bb 2 := (hin 2 (by omega)).2.2.2.2.1
    have hE1' : KE w1 g (kp (kp (kp 0 E1) E2) E3) := hE1
    generalize bb 0 = x0 at *
    generalize bb 1 = x1 at *
    generalize bb 2 = x2 at *
    rw [frame_26, e0, e1, e2, e3, e4, e5, e6, e7, e8, e9, e10, e11, e12, e13, e14, e15, e16, e17, e18, e19, e20, e21, e22, e23, e24, e25]

    clear e0 e1 e2 e3 e4 e5 e6 e7 e8 e9 e10 e11 e12 e13 e14 e15 e16 e17 e18 e19 e20 e21 e22 e23 e24 e25 hout hin hE1
    have c00 := X0.c0
    have c01 := X0.c1
    have c10 := X1.c0
    have c11 := X1.c1
    have c20 := X2.c0
    have c21 := X2.c1
    go_wp2_with fail
    with_reducible refine (q1.out _ _ hE1').mono ?_
    rintro x w2 ⟨rfl, hE2, k2⟩
    have d00 := (X0.kept k2 (nmem_one (by omega))).c0
    have d01 := (X0.kept k2 (nmem_one (by omega))).c1
    have d10 := (X1.kept k2 (nmem_one (by omega))).c0
    have d11 := (X1.kept k2 (nmem_one (by omega))).c1
    have d20 := (X2.kept k2 (nmem_one (by omega))).c0
    have d21 := (X2.kept k2 (nmem_one (by omega))).c1
    clear c00 c01 c10 c11 c20 c21
    go_wp2_with fail
    with_reducible refine (q2.out _ _ hE2).mono ?_
    rintro x w3 ⟨rfl, hE3, k3⟩
    have kk := (k1.trans k2).trans k3
    go_wp2
    go_ret
    exact ⟨rfl, by rw [ee.out]; simpa only [kp_assoc, kp_zero] using hE3, kk⟩

set_option maxRecDepth 100000 in
set_option maxHeartbeats 1000000 in
theorem qSignRoot_any (a b c : ByteArray) (w : World) (ha : a.size ≤ 9223372036854775807) (hb : b.size ≤ 9223372036854775807) (hc : c.size ≤ 9223372036854775807) :
    Calls Tryz.prog 45 #[.string a, .string b, .string c] w fun x w' => x = .returned (.tuple #[.int .i64 (qSrV a b c), .int .i64 (qSrE a b c)]) ∧ Kp [] w w' := by
  have s0 := ((StB.made w a).alloc (.cells #[.string b] 22 (0, 0))).alloc (.cells #[.string c] 22 (0, 0))
  have s1 := (StB.made (w.alloc (.cells #[.string a] 22 (0, 0))) b).alloc (.cells #[.string c] 22 (0, 0))
  have s2 := StB.made ((w.alloc (.cells #[.string a] 22 (0, 0))).alloc (.cells #[.string b] 22 (0, 0))) c
  simp only [World.size_alloc] at s1 s2
  have k0 : Kp [] w (((w.alloc (.cells #[.string a] 22 (0, 0))).alloc (.cells #[.string b] 22 (0, 0))).alloc (.cells #[.string c] 22 (0, 0))) := (((Kp.refl _ _).alloc _).alloc _).alloc _
  have q1 := Lib.hid (decision3 98 w.heap.size (w.heap.size + 1) (w.heap.size + 2) (sgV (cN a) (cD a) (cN b) (cD b) (cN c) (cD c)) (qSrE a b c) (((w.alloc (.cells #[.string a] 22 (0, 0))).alloc (.cells #[.string b] 22 (0, 0))).alloc (.cells #[.string c] 22 (0, 0))) (enters_of Tryz.func98 (by kernel_rfl) rfl)
    (fun W g hE hg hk => by
      have hg' : w.heap.size + 3 ≤ g := by simpa using hg
      exact signRoot_in g _ _ _ a b c W hE ha hb hc (s0.kept hk (by simp)) (s1.kept hk (by simp)) (s2.kept hk (by simp)) (by omega) (by omega) (by omega)))
  have e0 : Hid (qSrV a b c = if qSrE a b c = 0 then sgV (cN a) (cD a) (cN b) (cD b) (cN c) (cD c) else 0) := rfl
  rw [← e0.out] at q1
  generalize qSrV a b c = V at *
  generalize qSrE a b c = E at *
  go_enter Tryz.func45, Tryz.ntmps45
  go_wp2_with fail
  with_reducible refine q1.out.mono ?_
  rintro x w1 ⟨rfl, k1⟩
  have kk := k0.trans k1
  go_wp2
  go_ret2
  exact ⟨rfl, kk⟩
end Go.Proofs.YtminjcknmhgpiaaGreatDoor
