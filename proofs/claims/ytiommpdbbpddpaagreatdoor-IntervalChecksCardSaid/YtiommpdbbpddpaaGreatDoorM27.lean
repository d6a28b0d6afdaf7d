/- Texts Exp, Exp2, Make, Ofs: each says in its own first comment what it proves. -/
import Derived.Test.YtiommpdbbpddpaaGreatDoorM26
import Derived.Test.YtiommpdbbpddpaaGreatDoorShelf
/- The functions of package ratio that other packages call: sums, differences, products, quotients, for any texts. -/
namespace Go.Proofs.YtiommpdbbpddpaaGreatDoor
open Go.RowKit
open Go.Lib (nDigits itoa decDigits)

/-- the text of a calculated fraction -/
def rT (N D : ByteArray) (E : Int) : ByteArray := if E = 0 then (if isOne D then N else N ++ ⟨#[47]⟩ ++ D) else ⟨#[]⟩

set_option maxRecDepth 100000 in
set_option maxHeartbeats 4000000 in
theorem ofTwo_any (F : Nat) (a b N D : ByteArray) (E : Int) (w : World) (ha : a.size ≤ 9223372036854775807) (hb : b.size ≤ 9223372036854775807) (hN : N.size ≤ 4000000000) (hD : D.size ≤ 4000000000)
    (he : ∀ args w, (callFunc F args).run Tryz.prog w = .ok (.enter F args) w) (q : Calc2 F (cN a) (cD a) (cN b) (cD b) N D E) :
    Calls Tryz.prog 53 #[.string a, .string b, .func (.func F) #[] #[]] w fun x w' => x = .returned (.tuple #[.string (rT N D (kp (spE a) (kp (spE b) E))), .int .i64 (kp (spE a) (kp (spE b) E))]) ∧ Kp [] w w' := by
  have s0 := StB.made w a
  have s1 := StB.made (w.alloc (.cells #[.string a] 22 (0, 0))) b
  have s2 : FnB (((w.alloc (.cells #[.string a] 22 (0, 0))).alloc (.cells #[.string b] 22 (0, 0))).alloc (.cells #[.func (.func F) #[] #[]] 75 (0, 0))) (w.heap.size + 2) F 75 := by
    have := heap_alloc_new ((w.alloc (.cells #[.string a] 22 (0, 0))).alloc (.cells #[.string b] 22 (0, 0))) (.cells #[.func (.func F) #[] #[]] 75 (0, 0))
    rwa [World.size_alloc, World.size_alloc] at this
  rw [World.size_alloc] at s1
  have k0 : Kp [] w (((w.alloc (.cells #[.string a] 22 (0, 0))).alloc (.cells #[.string b] 22 (0, 0))).alloc (.cells #[.func (.func F) #[] #[]] 75 (0, 0))) := (((Kp.refl _ _).alloc _).alloc _).alloc _
  have q1 : Term3 86 w.heap.size (w.heap.size + 1) (w.heap.size + 2) (((w.alloc (.cells #[.string a] 22 (0, 0))).alloc (.cells #[.string b] 22 (0, 0))).alloc (.cells #[.func (.func F) #[] #[]] 75 (0, 0))) N D (kp (spE a) (kp (spE b) E)) := by
    intro W g hE hg hk
    have hg' : w.heap.size + 3 ≤ g := by simpa using hg
    exact ofTwo_in F 75 g _ _ _ a b N D E W hE ha hb (((s0.alloc _).alloc _).kept hk (by simp)) ((s1.alloc _).kept hk (by simp)) (s2.kept hk (by simp)) (by omega) (by omega) (by omega) he q
  have q2 := Lib.hid (result3 86 _ _ _ N D _ _ hN hD (enters_of Tryz.func86 (by kernel_rfl) rfl) q1)
  clear q1 s0 s1 s2
  have hv : Hid (rT N D (kp (spE a) (kp (spE b) E)) = if kp (spE a) (kp (spE b) E) = 0 then (if isOne D then N else N ++ ⟨#[47]⟩ ++ D) else ⟨#[]⟩) := rfl
  rw [← hv.out] at q2
  generalize rT N D (kp (spE a) (kp (spE b) E)) = R at *
  generalize kp (spE a) (kp (spE b) E) = EE at *
  go_enter Tryz.func53, Tryz.ntmps53
  go_wp2_with fail
  with_reducible refine q2.out.mono ?_
  rintro x w1 ⟨rfl, k1⟩
  have kk := k0.trans k1
  go_wp2
  go_ret2
  exact ⟨rfl, kk⟩
end Go.Proofs.YtiommpdbbpddpaaGreatDoor

/- The functions of package ratio that other packages call, for any texts: Add, Sub, Mul, Div, Check, Parts, Sign, Neg, Floor, Make. -/
namespace Go.Proofs.YtiommpdbbpddpaaGreatDoor
open Go.RowKit
open Go.Lib (nDigits itoa decDigits)

theorem redN_size {m : Nat} {n d : ByteArray} (hn : n.size ≤ m) (hm : 4000000000 ≤ m := by decide) : (redN n d).size ≤ m := by
  unfold redN; split
  · exact hn
  · exact Nat.le_trans (div_size4 _ _ _) hm
theorem redD_size {m : Nat} {n d : ByteArray} (hd : d.size ≤ m) (hm : 4000000000 ≤ m := by decide) : (redD n d).size ≤ m := by
  unfold redD; split
  · exact hd
  · exact Nat.le_trans (div_size4 _ _ _) hm
theorem prN_size (n p m q : ByteArray) : (prN n p m q).size ≤ 4000000000 := redN_size (bin_size4 _ _ _)
theorem prD_size (n p m q : ByteArray) : (prD n p m q).size ≤ 4000000000 := redD_size (bin_size4 _ _ _)
theorem suN_size (n p m q : ByteArray) : (suN n p m q).size ≤ 4000000000 := redN_size (bin_size4 _ _ _)
theorem suD_size (n p m q : ByteArray) : (suD n p m q).size ≤ 4000000000 := redD_size (bin_size4 _ _ _)
theorem diN_size (n p m q : ByteArray) : (diN n p m q).size ≤ 4000000000 := redN_size (bin_size4 _ _ _)
theorem diD_size (n p m q : ByteArray) : (diD n p m q).size ≤ 4000000000 := redD_size (bin_size4 _ _ _)

def qAddE (a b : ByteArray) : Int := kp (spE a) (kp (spE b) (suE (cN a) (cD a) (cN b) (cD b)))
def qAddB (a b : ByteArray) : ByteArray := rT (suN (cN a) (cD a) (cN b) (cD b)) (suD (cN a) (cD a) (cN b) (cD b)) (qAddE a b)
set_option maxRecDepth 100000 in
theorem qAdd_any (a b : ByteArray) (w : World) (ha : a.size ≤ 9223372036854775807) (hb : b.size ≤ 9223372036854775807) :
    Calls Tryz.prog 36 #[.string a, .string b] w fun x w' => x = .returned (.tuple #[.string (qAddB a b), .int .i64 (qAddE a b)]) ∧ Kp [] w w' := by
  have q1 := Lib.hid (ofTwo_any 72 a b (suN (cN a) (cD a) (cN b) (cD b)) (suD (cN a) (cD a) (cN b) (cD b)) (suE (cN a) (cD a) (cN b) (cD b)) w ha hb (suN_size _ _ _ _) (suD_size _ _ _ _) (enters_of Tryz.func72 (by kernel_rfl) rfl)
    (fun W g e h => k_sum g e _ _ _ _ W h (cN_size ha) (cD_size ha) (cN_size hb) (cD_size hb)))
  have e1 : Hid (qAddB a b = rT (suN (cN a) (cD a) (cN b) (cD b)) (suD (cN a) (cD a) (cN b) (cD b)) (kp (spE a) (kp (spE b) (suE (cN a) (cD a) (cN b) (cD b))))) := rfl
  have e2 : Hid (qAddE a b = kp (spE a) (kp (spE b) (suE (cN a) (cD a) (cN b) (cD b)))) := rfl
  rw [← e1.out, ← e2.out] at q1
  generalize qAddB a b = R at *
  generalize qAddE a b = EE at *
  go_enter Tryz.func36, Tryz.ntmps36
  go_wp2_with fail
  with_reducible refine q1.out.mono ?_
  rintro x w1 ⟨rfl, k1⟩
  go_wp2
  go_ret2
  exact ⟨rfl, k1⟩

def qSubE (a b : ByteArray) : Int := kp (spE a) (kp (spE b) (diE (cN a) (cD a) (cN b) (cD b)))
def qSubB (a b : ByteArray) : ByteArray := rT (diN (cN a) (cD a) (cN b) (cD b)) (diD (cN a) (cD a) (cN b) (cD b)) (qSubE a b)
set_option maxRecDepth 100000 in
theorem qSub_any (a b : ByteArray) (w : World) (ha : a.size ≤ 9223372036854775807) (hb : b.size ≤ 9223372036854775807) :
    Calls Tryz.prog 29 #[.string a, .string b] w fun x w' => x = .returned (.tuple #[.string (qSubB a b), .int .i64 (qSubE a b)]) ∧ Kp [] w w' := by
  have q1 := Lib.hid (ofTwo_any 54 a b (diN (cN a) (cD a) (cN b) (cD b)) (diD (cN a) (cD a) (cN b) (cD b)) (diE (cN a) (cD a) (cN b) (cD b)) w ha hb (diN_size _ _ _ _) (diD_size _ _ _ _) (enters_of Tryz.func54 (by kernel_rfl) rfl)
    (fun W g e h => k_difference g e _ _ _ _ W h (cN_size ha) (cD_size ha) (cN_size hb) (cD_size hb)))
  have e1 : Hid (qSubB a b = rT (diN (cN a) (cD a) (cN b) (cD b)) (diD (cN a) (cD a) (cN b) (cD b)) (kp (spE a) (kp (spE b) (diE (cN a) (cD a) (cN b) (cD b))))) := rfl
  have e2 : Hid (qSubE a b = kp (spE a) (kp (spE b) (diE (cN a) (cD a) (cN b) (cD b)))) := rfl
  rw [← e1.out, ← e2.out] at q1
  generalize qSubB a b = R at *
  generalize qSubE a b = EE at *
  go_enter Tryz.func29, Tryz.ntmps29
  go_wp2_with fail
  with_reducible refine q1.out.mono ?_
  rintro x w1 ⟨rfl, k1⟩
  go_wp2
  go_ret2
  exact ⟨rfl, k1⟩

def qMulE (a b : ByteArray) : Int := kp (spE a) (kp (spE b) (prE (cN a) (cD a) (cN b) (cD b)))
def qMulB (a b : ByteArray) : ByteArray := rT (prN (cN a) (cD a) (cN b) (cD b)) (prD (cN a) (cD a) (cN b) (cD b)) (qMulE a b)
set_option maxRecDepth 100000 in
theorem qMul_any (a b : ByteArray) (w : World) (ha : a.size ≤ 9223372036854775807) (hb : b.size ≤ 9223372036854775807) :
    Calls Tryz.prog 46 #[.string a, .string b] w fun x w' => x = .returned (.tuple #[.string (qMulB a b), .int .i64 (qMulE a b)]) ∧ Kp [] w w' := by
  have q1 := Lib.hid (ofTwo_any 71 a b (prN (cN a) (cD a) (cN b) (cD b)) (prD (cN a) (cD a) (cN b) (cD b)) (prE (cN a) (cD a) (cN b) (cD b)) w ha hb (prN_size _ _ _ _) (prD_size _ _ _ _) (enters_of Tryz.func71 (by kernel_rfl) rfl)
    (fun W g e h => k_product g e _ _ _ _ W h (cN_size ha) (cD_size ha) (cN_size hb) (cD_size hb)))
  have e1 : Hid (qMulB a b = rT (prN (cN a) (cD a) (cN b) (cD b)) (prD (cN a) (cD a) (cN b) (cD b)) (kp (spE a) (kp (spE b) (prE (cN a) (cD a) (cN b) (cD b))))) := rfl
  have e2 : Hid (qMulE a b = kp (spE a) (kp (spE b) (prE (cN a) (cD a) (cN b) (cD b)))) := rfl
  rw [← e1.out, ← e2.out] at q1
  generalize qMulB a b = R at *
  generalize qMulE a b = EE at *
  go_enter Tryz.func46, Tryz.ntmps46
  go_wp2_with fail
  with_reducible refine q1.out.mono ?_
  rintro x w1 ⟨rfl, k1⟩
  go_wp2
  go_ret2
  exact ⟨rfl, k1⟩

set_option maxRecDepth 100000 in
set_option maxHeartbeats 4000000 in
theorem div_cl_z (g : Nat) (e : Int) (n p m t : ByteArray) (w : World) (h : KE w g e) (hn : n.size ≤ 9223372036854775807) (hp : p.size ≤ 9223372036854775807) (hm : m.size ≤ 9223372036854775807) (ht : t.size ≤ 9223372036854775807) (hz : signI m = 0) :
    Calls Tryz.prog 68 #[.pointer (some ⟨g, 0, none⟩), .agg #[.string n, .string p], .agg #[.string m, .string t]] w fun x w' => x = .returned (.agg #[.string (prN n p t m), .string (prD n p t m)]) ∧ KE w' g (kp e (kp (chk m.data.toList) (kp 10 (prE n p t m)))) ∧ Kp [g] w w' := by
  have hl := h.lt
  have q1 := Lib.hid (fun W E hE => k_sign g E m W hE (by omega))
  have q2 := Lib.hid (fun W E hE => k_product g E n p t m W hE hn hp ht hm)
  have hb : (signI m == 0) = true := by simpa using hz
  clear hz
  have bx := (((FrB.made w n p).alloc (.cells #[.string m, .string t] 85 (0, 0))).alloc (.cells #[.string ⟨#[]⟩, .string ⟨#[]⟩] 85 (0, 0)))
  have by_ := ((FrB.made (w.alloc (.cells #[.string n, .string p] 85 (0, 0))) m t).alloc (.cells #[.string ⟨#[]⟩, .string ⟨#[]⟩] 85 (0, 0)))
  have bz := FrB.made ((w.alloc (.cells #[.string n, .string p] 85 (0, 0))).alloc (.cells #[.string m, .string t] 85 (0, 0))) ⟨#[]⟩ ⟨#[]⟩
  rw [World.size_alloc] at by_
  rw [World.size_alloc, World.size_alloc] at bz
  have hE := ((h.alloc (.cells #[.string n, .string p] 85 (0, 0))).alloc (.cells #[.string m, .string t] 85 (0, 0))).alloc (.cells #[.string ⟨#[]⟩, .string ⟨#[]⟩] 85 (0, 0))
  have k0 : Kp [g] w (((w.alloc (.cells #[.string n, .string p] 85 (0, 0))).alloc (.cells #[.string m, .string t] 85 (0, 0))).alloc (.cells #[.string ⟨#[]⟩, .string ⟨#[]⟩] 85 (0, 0))) := (((Kp.refl _ _).alloc _).alloc _).alloc _
  clear h
  have cy0 := by_.c0
  go_enter Tryz.func68, Tryz.ntmps68
  go_wp2_with fail
  with_reducible refine (q1.out _ _ hE).mono ?_
  rintro x w1 ⟨rfl, hE1, k1⟩
  have bx1 := bx.kept k1 (nmem_one (by omega))
  have by1 := by_.kept k1 (nmem_one (by omega))
  have bz1 := bz.kept k1 (nmem_one (by omega))
  have kk1 := k0.trans k1
  clear bx by_ bz k0 k1 hE q1 cy0
  go_wp2_with fail
  with_reducible refine (keep_any g _ 10 _ hE1).mono ?_
  rintro x w2 ⟨rfl, hE2, k2⟩
  have bx2 := bx1.kept k2 (nmem_one (by omega))
  have by2 := by1.kept k2 (nmem_one (by omega))
  have bz2 := bz1.kept k2 (nmem_one (by omega))
  have kk2 := kk1.trans k2
  clear bx1 by1 bz1 kk1 k2 hE1
  have cx0 := bx2.c0
  have cx1 := bx2.c1
  have cy0 := by2.c0
  have cy1 := by2.c1
  go_wp2_with fail
  with_reducible refine (q2.out _ _ hE2).mono ?_
  rintro x w3 ⟨rfl, hE3, k3⟩
  have bz3 := bz2.kept k3 (nmem_one (by omega))
  have kk3 := kk2.trans k3
  have z0 := bz3.c0
  have z1 := bz3.c1
  have y0 := bz3.f0 0
  have y1 := bz3.f0 1
  go_wp2
  have b4 := bz3.set2 (x := prN n p t m) (y := prD n p t m)
  have h4 := ke_set2 hE3 (b := w.heap.size + 2) (by omega) (.string (prN n p t m)) (.string (prD n p t m))
  have kk4 := kp_set2 kk3 (b := w.heap.size + 2) (by omega) (.string (prN n p t m)) (.string (prD n p t m))
  generalize (w3.setCell ⟨w.heap.size + 2, 0, none⟩ (.string (prN n p t m))).setCell ⟨w.heap.size + 2, 1, none⟩ (.string (prD n p t m)) = W at *
  have d0 := b4.c0
  have d1 := b4.c1
  refine bodyPost_ret (v := .agg #[.string (prN n p t m), .string (prD n p t m)]) (by simp [results, Tryz.results68, go_sem, d0, d1]) rfl ?_
  exact ⟨rfl, by simpa only [kp_assoc, kp_zero] using h4, kk4⟩

set_option maxRecDepth 100000 in
set_option maxHeartbeats 4000000 in
theorem div_cl_n (g : Nat) (e : Int) (n p m t : ByteArray) (w : World) (h : KE w g e) (hn : n.size ≤ 9223372036854775807) (hp : p.size ≤ 9223372036854775807) (hm : m.size ≤ 9223372036854775807) (ht : t.size ≤ 9223372036854775807) (hz : signI m ≠ 0) :
    Calls Tryz.prog 68 #[.pointer (some ⟨g, 0, none⟩), .agg #[.string n, .string p], .agg #[.string m, .string t]] w fun x w' => x = .returned (.agg #[.string (prN n p t m), .string (prD n p t m)]) ∧ KE w' g (kp e (kp (chk m.data.toList) (kp 0 (prE n p t m)))) ∧ Kp [g] w w' := by
  have hl := h.lt
  have q1 := Lib.hid (fun W E hE => k_sign g E m W hE (by omega))
  have q2 := Lib.hid (fun W E hE => k_product g E n p t m W hE hn hp ht hm)
  have hb : (signI m == 0) = false := by simpa using hz
  clear hz
  have bx := (((FrB.made w n p).alloc (.cells #[.string m, .string t] 85 (0, 0))).alloc (.cells #[.string ⟨#[]⟩, .string ⟨#[]⟩] 85 (0, 0)))
  have by_ := ((FrB.made (w.alloc (.cells #[.string n, .string p] 85 (0, 0))) m t).alloc (.cells #[.string ⟨#[]⟩, .string ⟨#[]⟩] 85 (0, 0)))
  have bz := FrB.made ((w.alloc (.cells #[.string n, .string p] 85 (0, 0))).alloc (.cells #[.string m, .string t] 85 (0, 0))) ⟨#[]⟩ ⟨#[]⟩
  rw [World.size_alloc] at by_
  rw [World.size_alloc, World.size_alloc] at bz
  have hE := ((h.alloc (.cells #[.string n, .string p] 85 (0, 0))).alloc (.cells #[.string m, .string t] 85 (0, 0))).alloc (.cells #[.string ⟨#[]⟩, .string ⟨#[]⟩] 85 (0, 0))
  have k0 : Kp [g] w (((w.alloc (.cells #[.string n, .string p] 85 (0, 0))).alloc (.cells #[.string m, .string t] 85 (0, 0))).alloc (.cells #[.string ⟨#[]⟩, .string ⟨#[]⟩] 85 (0, 0))) := (((Kp.refl _ _).alloc _).alloc _).alloc _
  clear h
  have cy0 := by_.c0
  go_enter Tryz.func68, Tryz.ntmps68
  go_wp2_with fail
  with_reducible refine (q1.out _ _ hE).mono ?_
  rintro x w1 ⟨rfl, hE1, k1⟩
  have bx1 := bx.kept k1 (nmem_one (by omega))
  have by1 := by_.kept k1 (nmem_one (by omega))
  have bz1 := bz.kept k1 (nmem_one (by omega))
  have kk1 := k0.trans k1
  clear bx by_ bz k0 k1 hE q1 cy0
  have bx2 := bx1
  have by2 := by1
  have bz2 := bz1
  have kk2 := kk1
  have hE2 := hE1
  clear bx1 by1 bz1 kk1 hE1
  have cx0 := bx2.c0
  have cx1 := bx2.c1
  have cy0 := by2.c0
  have cy1 := by2.c1
  go_wp2_with fail
  with_reducible refine (q2.out _ _ hE2).mono ?_
  rintro x w3 ⟨rfl, hE3, k3⟩
  have bz3 := bz2.kept k3 (nmem_one (by omega))
  have kk3 := kk2.trans k3
  have z0 := bz3.c0
  have z1 := bz3.c1
  have y0 := bz3.f0 0
  have y1 := bz3.f0 1
  go_wp2
  have b4 := bz3.set2 (x := prN n p t m) (y := prD n p t m)
  have h4 := ke_set2 hE3 (b := w.heap.size + 2) (by omega) (.string (prN n p t m)) (.string (prD n p t m))
  have kk4 := kp_set2 kk3 (b := w.heap.size + 2) (by omega) (.string (prN n p t m)) (.string (prD n p t m))
  generalize (w3.setCell ⟨w.heap.size + 2, 0, none⟩ (.string (prN n p t m))).setCell ⟨w.heap.size + 2, 1, none⟩ (.string (prD n p t m)) = W at *
  have d0 := b4.c0
  have d1 := b4.c1
  refine bodyPost_ret (v := .agg #[.string (prN n p t m), .string (prD n p t m)]) (by simp [results, Tryz.results68, go_sem, d0, d1]) rfl ?_
  exact ⟨rfl, by simpa only [kp_assoc, kp_zero] using h4, kk4⟩

def dvE (n p m t : ByteArray) : Int := kp (chk m.data.toList) (kp (if signI m = 0 then 10 else 0) (prE n p t m))
theorem div_cl (g : Nat) (e : Int) (n p m t : ByteArray) (w : World) (h : KE w g e) (hn : n.size ≤ 9223372036854775807) (hp : p.size ≤ 9223372036854775807) (hm : m.size ≤ 9223372036854775807) (ht : t.size ≤ 9223372036854775807) :
    Calls Tryz.prog 68 #[.pointer (some ⟨g, 0, none⟩), .agg #[.string n, .string p], .agg #[.string m, .string t]] w fun x w' => x = .returned (.agg #[.string (prN n p t m), .string (prD n p t m)]) ∧ KE w' g (kp e (dvE n p m t)) ∧ Kp [g] w w' := by
  unfold dvE
  by_cases hz : signI m = 0
  · rw [if_pos hz]; exact div_cl_z g e n p m t w h hn hp hm ht hz
  · rw [if_neg hz]; exact div_cl_n g e n p m t w h hn hp hm ht hz
def qDivE (a b : ByteArray) : Int := kp (spE a) (kp (spE b) (dvE (cN a) (cD a) (cN b) (cD b)))
def qDivB (a b : ByteArray) : ByteArray := rT (prN (cN a) (cD a) (cD b) (cN b)) (prD (cN a) (cD a) (cD b) (cN b)) (qDivE a b)
set_option maxRecDepth 100000 in
theorem qDiv_any (a b : ByteArray) (w : World) (ha : a.size ≤ 9223372036854775807) (hb : b.size ≤ 9223372036854775807) :
    Calls Tryz.prog 35 #[.string a, .string b] w fun x w' => x = .returned (.tuple #[.string (qDivB a b), .int .i64 (qDivE a b)]) ∧ Kp [] w w' := by
  have q1 := Lib.hid (ofTwo_any 68 a b (prN (cN a) (cD a) (cD b) (cN b)) (prD (cN a) (cD a) (cD b) (cN b)) (dvE (cN a) (cD a) (cN b) (cD b)) w ha hb (prN_size _ _ _ _) (prD_size _ _ _ _) (enters_of Tryz.func68 (by kernel_rfl) rfl)
    (fun W g e h => div_cl g e _ _ _ _ W h (cN_size ha) (cD_size ha) (cN_size hb) (cD_size hb)))
  have e1 : Hid (qDivB a b = rT (prN (cN a) (cD a) (cD b) (cN b)) (prD (cN a) (cD a) (cD b) (cN b)) (kp (spE a) (kp (spE b) (dvE (cN a) (cD a) (cN b) (cD b))))) := rfl
  have e2 : Hid (qDivE a b = kp (spE a) (kp (spE b) (dvE (cN a) (cD a) (cN b) (cD b)))) := rfl
  rw [← e1.out, ← e2.out] at q1
  generalize qDivB a b = R at *
  generalize qDivE a b = EE at *
  go_enter Tryz.func35, Tryz.ntmps35
  go_wp2_with fail
  with_reducible refine q1.out.mono ?_
  rintro x w1 ⟨rfl, k1⟩
  go_wp2
  go_ret2
  exact ⟨rfl, k1⟩

/-! of one text -/




















end Go.Proofs.YtiommpdbbpddpaaGreatDoor

/- Make of package ratio, for any texts. -/
namespace Go.Proofs.YtiommpdbbpddpaaGreatDoor
open Go.RowKit
open Go.Lib (nDigits itoa decDigits)

/-- a block that holds a text of an integer -/
def ItB (w : World) (b : Nat) (s : ByteArray) : Prop := w.heap[b]? = some (.cells #[.string s] 61 (0, 0))
section
variable {w w' : World} {b : Nat} {s : ByteArray} {L : List Nat}
theorem ItB.lt (h : ItB w b s) : b < w.heap.size := (Array.getElem?_eq_some_iff.1 h).1
theorem ItB.c (h : ItB w b s) : w.cell? ⟨b, 0, none⟩ = some (.string s) := by unfold ItB at h; simp [World.cell?, h]
theorem ItB.kept (h : ItB w b s) (k : Kp L w w') (hb : b ∉ L) : ItB w' b s := (k.block b h.lt hb).trans h
theorem ItB.alloc (h : ItB w b s) (o : Obj) : ItB (w.alloc o) b s := (Below.heap_alloc w o b h.lt).trans h
theorem ItB.made (w : World) (s : ByteArray) : ItB (w.alloc (.cells #[.string s] 61 (0, 0))) w.heap.size s := heap_alloc_new w _
end



end Go.Proofs.YtiommpdbbpddpaaGreatDoor

/- Of and Whole of package ratio, for all ints, where the table of strconv lies as the row says. -/
namespace Go.Proofs.YtiommpdbbpddpaaGreatDoor
open Go.RowKit
open Go.Lib (nDigits itoa decDigits)

/-- the ints, and the table that Itoa reads -/
def I64 (z : Int) : Prop := -9223372036854775808 ≤ z ∧ z ≤ 9223372036854775807
def Tab (w : World) : Prop := Lib.TabIs Tryz.prog w "internal/strconv.uint64pow10" .u64 Lib.pow10Tab
theorem tab_kp {w w' : World} (h : Tab w) (k : Kp [] w w') : Tab w' := by
  unfold Tab Lib.TabIs World.var? at *
  cases hg : Tryz.prog.globalNamed "internal/strconv.uint64pow10" with
  | none => simp [hg] at h
  | some g =>
    simp only [hg, Option.bind_some] at h ⊢
    have hlt : g < w.heap.size := by
      rcases Nat.lt_or_ge g w.heap.size with h' | h'
      · exact h'
      · rw [Array.getElem?_eq_none h'] at h; simp at h
    rw [k.block g hlt (by simp)]
    exact h
set_option maxRecDepth 100000 in
set_option maxHeartbeats 1000000 in
theorem wOf_any (n : Int) (w : World) (hn : I64 n) (hl : Tab w) :
    Calls Tryz.prog 51 #[.int .i64 n] w fun e w' => e = .returned (.string (S n)) ∧ Kp [] w w' := by
  have q := Lib.hid (Tryz.strconv_Itoa n hn.1 hn.2 w hl)
  clear hl hn
  go_enter Tryz.func51, Tryz.ntmps51
  go_wp2_with fail
  refine q.out.mono ?_
  rintro e w' ⟨rfl, k, os, rfl⟩
  have hk : Kp [] w _ := Kp.of_below (Lib.below_grow w.heap.size w (Nat.le_refl _) k os) (Nat.le_add_right _ _)
  go_wp2
  go_ret
  exact ⟨rfl, hk⟩
set_option maxRecDepth 100000 in
set_option maxHeartbeats 1000000 in
theorem qWhole_any (n : Int) (w : World) (hn : I64 n) (hl : Tab w) :
    Calls Tryz.prog 23 #[.int .i64 n] w fun e w' => e = .returned (.string (S n)) ∧ Kp [] w w' := by
  have q := Lib.hid (wOf_any n w hn hl)
  clear hl hn
  generalize S n = T at *
  go_enter Tryz.func23, Tryz.ntmps23
  go_wp2_with fail
  with_reducible refine q.out.mono ?_
  rintro e w1 ⟨rfl, k1⟩
  go_wp2
  go_ret
  exact ⟨rfl, k1⟩


























end Go.Proofs.YtiommpdbbpddpaaGreatDoor
