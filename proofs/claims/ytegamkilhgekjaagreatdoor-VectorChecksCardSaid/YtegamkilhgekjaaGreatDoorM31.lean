/- Texts Exp, Exp2, Make, Ofs: each says in its own first comment what it proves. -/
import Derived.Test.YtegamkilhgekjaaGreatDoorM30
import Derived.Test.YtegamkilhgekjaaGreatDoorM16
/- The functions of package ratio that other packages call: sums, differences, products, quotients, for any texts. -/
namespace Go.Proofs.YtegamkilhgekjaaGreatDoor
open Go.RowKit
open Go.Lib (nDigits itoa decDigits)

/-- the text of a calculated fraction -/
def rT (N D : ByteArray) (E : Int) : ByteArray := if E = 0 then (if isOne D then N else N ++ ⟨#[47]⟩ ++ D) else ⟨#[]⟩

set_option maxRecDepth 100000 in
set_option maxHeartbeats 4000000 in
theorem ofTwo_any (F : Nat) (a b N D : ByteArray) (E : Int) (w : World) (ha : a.size ≤ 9223372036854775807) (hb : b.size ≤ 9223372036854775807) (hN : N.size ≤ 4000000000) (hD : D.size ≤ 4000000000)
    (he : ∀ args w, (callFunc F args).run Tryz.prog w = .ok (.enter F args) w) (q : Calc2 F (cN a) (cD a) (cN b) (cD b) N D E) :
    Calls Tryz.prog 153 #[.string a, .string b, .func (.func F) #[] #[]] w fun x w' => x = .returned (.tuple #[.string (rT N D (kp (spE a) (kp (spE b) E))), .int .i64 (kp (spE a) (kp (spE b) E))]) ∧ Kp [] w w' := by
  have s0 := StB.made w a
  have s1 := StB.made (w.alloc (.cells #[.string a] 67 (0, 0))) b
  have s2 : FnB (((w.alloc (.cells #[.string a] 67 (0, 0))).alloc (.cells #[.string b] 67 (0, 0))).alloc (.cells #[.func (.func F) #[] #[]] 175 (0, 0))) (w.heap.size + 2) F 175 := by
    have := heap_alloc_new ((w.alloc (.cells #[.string a] 67 (0, 0))).alloc (.cells #[.string b] 67 (0, 0))) (.cells #[.func (.func F) #[] #[]] 175 (0, 0))
    rwa [World.size_alloc, World.size_alloc] at this
  rw [World.size_alloc] at s1
  have k0 : Kp [] w (((w.alloc (.cells #[.string a] 67 (0, 0))).alloc (.cells #[.string b] 67 (0, 0))).alloc (.cells #[.func (.func F) #[] #[]] 175 (0, 0))) := (((Kp.refl _ _).alloc _).alloc _).alloc _
  have q1 : Term3 181 w.heap.size (w.heap.size + 1) (w.heap.size + 2) (((w.alloc (.cells #[.string a] 67 (0, 0))).alloc (.cells #[.string b] 67 (0, 0))).alloc (.cells #[.func (.func F) #[] #[]] 175 (0, 0))) N D (kp (spE a) (kp (spE b) E)) := by
    intro W g hE hg hk
    have hg' : w.heap.size + 3 ≤ g := by simpa using hg
    exact ofTwo_in F 175 g _ _ _ a b N D E W hE ha hb (((s0.alloc _).alloc _).kept hk (by simp)) ((s1.alloc _).kept hk (by simp)) (s2.kept hk (by simp)) (by omega) (by omega) (by omega) he q
  have q2 := Lib.hid (result3 181 _ _ _ N D _ _ hN hD (enters_of Tryz.func181 (by kernel_rfl) rfl) q1)
  clear q1 s0 s1 s2
  have hv : Hid (rT N D (kp (spE a) (kp (spE b) E)) = if kp (spE a) (kp (spE b) E) = 0 then (if isOne D then N else N ++ ⟨#[47]⟩ ++ D) else ⟨#[]⟩) := rfl
  rw [← hv.out] at q2
  generalize rT N D (kp (spE a) (kp (spE b) E)) = R at *
  generalize kp (spE a) (kp (spE b) E) = EE at *
  go_enter Tryz.func153, Tryz.ntmps153
  go_wp2_with fail
  with_reducible refine q2.out.mono ?_
  rintro x w1 ⟨rfl, k1⟩
  have kk := k0.trans k1
  go_wp2
  go_ret2
  exact ⟨rfl, kk⟩
end Go.Proofs.YtegamkilhgekjaaGreatDoor

/- The functions of package ratio that other packages call, for any texts: Add, Sub, Mul, Div, Check, Parts, Sign, Neg, Floor, Make. -/
namespace Go.Proofs.YtegamkilhgekjaaGreatDoor
open Go.RowKit
open Go.Lib (nDigits itoa decDigits)

theorem redN_size {m : Nat} {n d : ByteArray} (hn : n.size ≤ m) (hm : 4000000000 ≤ m := by decide) : (redN n d).size ≤ m := by
  unfold redN; split
  · exact hn
  · exact Nat.le_trans (div_size4 _ _ _) hm
theorem redD_size {m : Nat} {n d : ByteArray} (hd : d.size ≤ m) (hm : 4000000000 ≤ m := by decide) : (redD n d).size ≤ m := by
  unfold redD; split
  · exact hd
  · exact Nat.le_trans (div_size4 _ _ _) hm
theorem prN_size (n p m q : ByteArray) : (prN n p m q).size ≤ 4000000000 := redN_size (bin_size4 _ _ _)
theorem prD_size (n p m q : ByteArray) : (prD n p m q).size ≤ 4000000000 := redD_size (bin_size4 _ _ _)
set_option maxRecDepth 100000 in
set_option maxHeartbeats 4000000 in
theorem div_cl_z (g : Nat) (e : Int) (n p m t : ByteArray) (w : World) (h : KE w g e) (hn : n.size ≤ 9223372036854775807) (hp : p.size ≤ 9223372036854775807) (hm : m.size ≤ 9223372036854775807) (ht : t.size ≤ 9223372036854775807) (hz : signI m = 0) :
    Calls Tryz.prog 154 #[.pointer (some ⟨g, 0, none⟩), .agg #[.string n, .string p], .agg #[.string m, .string t]] w fun x w' => x = .returned (.agg #[.string (prN n p t m), .string (prD n p t m)]) ∧ KE w' g (kp e (kp (chk m.data.toList) (kp 10 (prE n p t m)))) ∧ Kp [g] w w' := by
  have hl := h.lt
  have q1 := Lib.hid (fun W E hE => k_sign g E m W hE (by omega))
  have q2 := Lib.hid (fun W E hE => k_product g E n p t m W hE hn hp ht hm)
  have hb : (signI m == 0) = true := by simpa using hz
  clear hz
  have bx := (((FrB.made w n p).alloc (.cells #[.string m, .string t] 123 (0, 0))).alloc (.cells #[.string ⟨#[]⟩, .string ⟨#[]⟩] 123 (0, 0)))
  have by_ := ((FrB.made (w.alloc (.cells #[.string n, .string p] 123 (0, 0))) m t).alloc (.cells #[.string ⟨#[]⟩, .string ⟨#[]⟩] 123 (0, 0)))
  have bz := FrB.made ((w.alloc (.cells #[.string n, .string p] 123 (0, 0))).alloc (.cells #[.string m, .string t] 123 (0, 0))) ⟨#[]⟩ ⟨#[]⟩
  rw [World.size_alloc] at by_
  rw [World.size_alloc, World.size_alloc] at bz
  have hE := ((h.alloc (.cells #[.string n, .string p] 123 (0, 0))).alloc (.cells #[.string m, .string t] 123 (0, 0))).alloc (.cells #[.string ⟨#[]⟩, .string ⟨#[]⟩] 123 (0, 0))
  have k0 : Kp [g] w (((w.alloc (.cells #[.string n, .string p] 123 (0, 0))).alloc (.cells #[.string m, .string t] 123 (0, 0))).alloc (.cells #[.string ⟨#[]⟩, .string ⟨#[]⟩] 123 (0, 0))) := (((Kp.refl _ _).alloc _).alloc _).alloc _
  clear h
  have cy0 := by_.c0
  go_enter Tryz.func154, Tryz.ntmps154
  go_wp2_with fail
  with_reducible refine (q1.out _ _ hE).mono ?_
  rintro x w1 ⟨rfl, hE1, k1⟩
  have bx1 := bx.kept k1 (nmem_one (by omega))
  have by1 := by_.kept k1 (nmem_one (by omega))
  have bz1 := bz.kept k1 (nmem_one (by omega))
  have kk1 := k0.trans k1
  clear bx by_ bz k0 k1 hE q1 cy0
  go_wp2_with fail
  with_reducible refine (keep_any g _ 10 _ hE1).mono ?_
  rintro x w2 ⟨rfl, hE2, k2⟩
  have bx2 := bx1.kept k2 (nmem_one (by omega))
  have by2 := by1.kept k2 (nmem_one (by omega))
  have bz2 := bz1.kept k2 (nmem_one (by omega))
  have kk2 := kk1.trans k2
  clear bx1 by1 bz1 kk1 k2 hE1
  have cx0 := bx2.c0
  have cx1 := bx2.c1
  have cy0 := by2.c0
  have cy1 := by2.c1
  go_wp2_with fail
  with_reducible refine (q2.out _ _ hE2).mono ?_
  rintro x w3 ⟨rfl, hE3, k3⟩
  have bz3 := bz2.kept k3 (nmem_one (by omega))
  have kk3 := kk2.trans k3
  have z0 := bz3.c0
  have z1 := bz3.c1
  have y0 := bz3.f0 0
  have y1 := bz3.f0 1
  go_wp2
  have b4 := bz3.set2 (x := prN n p t m) (y := prD n p t m)
  have h4 := ke_set2 hE3 (b := w.heap.size + 2) (by omega) (.string (prN n p t m)) (.string (prD n p t m))
  have kk4 := kp_set2 kk3 (b := w.heap.size + 2) (by omega) (.string (prN n p t m)) (.string (prD n p t m))
  generalize (w3.setCell ⟨w.heap.size + 2, 0, none⟩ (.string (prN n p t m))).setCell ⟨w.heap.size + 2, 1, none⟩ (.string (prD n p t m)) = W at *
  have d0 := b4.c0
  have d1 := b4.c1
  refine bodyPost_ret (v := .agg #[.string (prN n p t m), .string (prD n p t m)]) (by simp [results, Tryz.results154, go_sem, d0, d1]) rfl ?_
  exact ⟨rfl, by simpa only [kp_assoc, kp_zero] using h4, kk4⟩

set_option maxRecDepth 100000 in
set_option maxHeartbeats 4000000 in
theorem div_cl_n (g : Nat) (e : Int) (n p m t : ByteArray) (w : World) (h : KE w g e) (hn : n.size ≤ 9223372036854775807) (hp : p.size ≤ 9223372036854775807) (hm : m.size ≤ 9223372036854775807) (ht : t.size ≤ 9223372036854775807) (hz : signI m ≠ 0) :
    Calls Tryz.prog 154 #[.pointer (some ⟨g, 0, none⟩), .agg #[.string n, .string p], .agg #[.string m, .string t]] w fun x w' => x = .returned (.agg #[.string (prN n p t m), .string (prD n p t m)]) ∧ KE w' g (kp e (kp (chk m.data.toList) (kp 0 (prE n p t m)))) ∧ Kp [g] w w' := by
  have hl := h.lt
  have q1 := Lib.hid (fun W E hE => k_sign g E m W hE (by omega))
  have q2 := Lib.hid (fun W E hE => k_product g E n p t m W hE hn hp ht hm)
  have hb : (signI m == 0) = false := by simpa using hz
  clear hz
  have bx := (((FrB.made w n p).alloc (.cells #[.string m, .string t] 123 (0, 0))).alloc (.cells #[.string ⟨#[]⟩, .string ⟨#[]⟩] 123 (0, 0)))
  have by_ := ((FrB.made (w.alloc (.cells #[.string n, .string p] 123 (0, 0))) m t).alloc (.cells #[.string ⟨#[]⟩, .string ⟨#[]⟩] 123 (0, 0)))
  have bz := FrB.made ((w.alloc (.cells #[.string n, .string p] 123 (0, 0))).alloc (.cells #[.string m, .string t] 123 (0, 0))) ⟨#[]⟩ ⟨#[]⟩
  rw [World.size_alloc] at by_
  rw [World.size_alloc, World.size_alloc] at bz
  have hE := ((h.alloc (.cells #[.string n, .string p] 123 (0, 0))).alloc (.cells #[.string m, .string t] 123 (0, 0))).alloc (.cells #[.string ⟨#[]⟩, .string ⟨#[]⟩] 123 (0, 0))
  have k0 : Kp [g] w (((w.alloc (.cells #[.string n, .string p] 123 (0, 0))).alloc (.cells #[.string m, .string t] 123 (0, 0))).alloc (.cells #[.string ⟨#[]⟩, .string ⟨#[]⟩] 123 (0, 0))) := (((Kp.refl _ _).alloc _).alloc _).alloc _
  clear h
  have cy0 := by_.c0
  go_enter Tryz.func154, Tryz.ntmps154
  go_wp2_with fail
  with_reducible refine (q1.out _ _ hE).mono ?_
  rintro x w1 ⟨rfl, hE1, k1⟩
  have bx1 := bx.kept k1 (nmem_one (by omega))
  have by1 := by_.kept k1 (nmem_one (by omega))
  have bz1 := bz.kept k1 (nmem_one (by omega))
  have kk1 := k0.trans k1
  clear bx by_ bz k0 k1 hE q1 cy0
  have bx2 := bx1
  have by2 := by1
  have bz2 := bz1
  have kk2 := kk1
  have hE2 := hE1
  clear bx1 by1 bz1 kk1 hE1
  have cx0 := bx2.c0
  have cx1 := bx2.c1
  have cy0 := by2.c0
  have cy1 := by2.c1
  go_wp2_with fail
  with_reducible refine (q2.out _ _ hE2).mono ?_
  rintro x w3 ⟨rfl, hE3, k3⟩
  have bz3 := bz2.kept k3 (nmem_one (by omega))
  have kk3 := kk2.trans k3
  have z0 := bz3.c0
  have z1 := bz3.c1
  have y0 := bz3.f0 0
  have y1 := bz3.f0 1
  go_wp2
  have b4 := bz3.set2 (x := prN n p t m) (y := prD n p t m)
  have h4 := ke_set2 hE3 (b := w.heap.size + 2) (by omega) (.string (prN n p t m)) (.string (prD n p t m))
  have kk4 := kp_set2 kk3 (b := w.heap.size + 2) (by omega) (.string (prN n p t m)) (.string (prD n p t m))
  generalize (w3.setCell ⟨w.heap.size + 2, 0, none⟩ (.string (prN n p t m))).setCell ⟨w.heap.size + 2, 1, none⟩ (.string (prD n p t m)) = W at *
  have d0 := b4.c0
  have d1 := b4.c1
  refine bodyPost_ret (v := .agg #[.string (prN n p t m), .string (prD n p t m)]) (by simp [results, Tryz.results154, go_sem, d0, d1]) rfl ?_
  exact ⟨rfl, by simpa only [kp_assoc, kp_zero] using h4, kk4⟩

def dvE (n p m t : ByteArray) : Int := kp (chk m.data.toList) (kp (if signI m = 0 then 10 else 0) (prE n p t m))
theorem div_cl (g : Nat) (e : Int) (n p m t : ByteArray) (w : World) (h : KE w g e) (hn : n.size ≤ 9223372036854775807) (hp : p.size ≤ 9223372036854775807) (hm : m.size ≤ 9223372036854775807) (ht : t.size ≤ 9223372036854775807) :
    Calls Tryz.prog 154 #[.pointer (some ⟨g, 0, none⟩), .agg #[.string n, .string p], .agg #[.string m, .string t]] w fun x w' => x = .returned (.agg #[.string (prN n p t m), .string (prD n p t m)]) ∧ KE w' g (kp e (dvE n p m t)) ∧ Kp [g] w w' := by
  unfold dvE
  by_cases hz : signI m = 0
  · rw [if_pos hz]; exact div_cl_z g e n p m t w h hn hp hm ht hz
  · rw [if_neg hz]; exact div_cl_n g e n p m t w h hn hp hm ht hz
def qDivE (a b : ByteArray) : Int := kp (spE a) (kp (spE b) (dvE (cN a) (cD a) (cN b) (cD b)))
def qDivB (a b : ByteArray) : ByteArray := rT (prN (cN a) (cD a) (cD b) (cN b)) (prD (cN a) (cD a) (cD b) (cN b)) (qDivE a b)
set_option maxRecDepth 100000 in
theorem qDiv_any (a b : ByteArray) (w : World) (ha : a.size ≤ 9223372036854775807) (hb : b.size ≤ 9223372036854775807) :
    Calls Tryz.prog 128 #[.string a, .string b] w fun x w' => x = .returned (.tuple #[.string (qDivB a b), .int .i64 (qDivE a b)]) ∧ Kp [] w w' := by
  have q1 := Lib.hid (ofTwo_any 154 a b (prN (cN a) (cD a) (cD b) (cN b)) (prD (cN a) (cD a) (cD b) (cN b)) (dvE (cN a) (cD a) (cN b) (cD b)) w ha hb (prN_size _ _ _ _) (prD_size _ _ _ _) (enters_of Tryz.func154 (by kernel_rfl) rfl)
    (fun W g e h => div_cl g e _ _ _ _ W h (cN_size ha) (cD_size ha) (cN_size hb) (cD_size hb)))
  have e1 : Hid (qDivB a b = rT (prN (cN a) (cD a) (cD b) (cN b)) (prD (cN a) (cD a) (cD b) (cN b)) (kp (spE a) (kp (spE b) (dvE (cN a) (cD a) (cN b) (cD b))))) := rfl
  have e2 : Hid (qDivE a b = kp (spE a) (kp (spE b) (dvE (cN a) (cD a) (cN b) (cD b)))) := rfl
  rw [← e1.out, ← e2.out] at q1
  generalize qDivB a b = R at *
  generalize qDivE a b = EE at *
  go_enter Tryz.func128, Tryz.ntmps128
  go_wp2_with fail
  with_reducible refine q1.out.mono ?_
  rintro x w1 ⟨rfl, k1⟩
  go_wp2
  go_ret2
  exact ⟨rfl, k1⟩

/-! of one text -/




















end Go.Proofs.YtegamkilhgekjaaGreatDoor

/- Make of package ratio, for any texts. -/
namespace Go.Proofs.YtegamkilhgekjaaGreatDoor
open Go.RowKit
open Go.Lib (nDigits itoa decDigits)

/-- a block that holds a text of an integer -/
def ItB (w : World) (b : Nat) (s : ByteArray) : Prop := w.heap[b]? = some (.cells #[.string s] 121 (0, 0))
section
variable {w w' : World} {b : Nat} {s : ByteArray} {L : List Nat}
theorem ItB.lt (h : ItB w b s) : b < w.heap.size := (Array.getElem?_eq_some_iff.1 h).1
theorem ItB.c (h : ItB w b s) : w.cell? ⟨b, 0, none⟩ = some (.string s) := by unfold ItB at h; simp [World.cell?, h]
theorem ItB.kept (h : ItB w b s) (k : Kp L w w') (hb : b ∉ L) : ItB w' b s := (k.block b h.lt hb).trans h
theorem ItB.alloc (h : ItB w b s) (o : Obj) : ItB (w.alloc o) b s := (Below.heap_alloc w o b h.lt).trans h
theorem ItB.made (w : World) (s : ByteArray) : ItB (w.alloc (.cells #[.string s] 121 (0, 0))) w.heap.size s := heap_alloc_new w _
end



/-- the errors of Make -/
def mkE (n d : ByteArray) : Int := kp (chk n.data.toList) (kp (chk d.data.toList) (kp (if signI d = 0 then 10 else 0) (redE n d)))

set_option maxRecDepth 100000 in
set_option maxHeartbeats 4000000 in
theorem make_in (g b0 b1 : Nat) (n d : ByteArray) (w : World) (h : KE w g 0) (hn : n.size ≤ 9223372036854775807) (hd : d.size ≤ 9223372036854775807)
    (s0 : ItB w b0 n) (s1 : ItB w b1 d) (g0 : b0 ≠ g) (g1 : b1 ≠ g) :
    Calls Tryz.prog 240 #[.pointer (some ⟨g, 0, none⟩), .pointer (some ⟨b0, 0, none⟩), .pointer (some ⟨b1, 0, none⟩)] w fun x w' => x = .returned (.agg #[.string (redN n d), .string (redD n d)]) ∧ KE w' g (mkE n d) ∧ Kp [g] w w' := by
  have hl := h.lt
  have q1 := Lib.hid (fun W => check_any n W (by omega))
  have q2 := Lib.hid (fun W E hE => k_sign g E d W hE (by omega))
  have q3 := Lib.hid (fun W E hE => k_reduce g E n d W hE hn hd)
  have ee : Hid (mkE n d = kp (chk n.data.toList) (kp (chk d.data.toList) (kp (if signI d = 0 then 10 else 0) (redE n d)))) := rfl
  generalize redN n d = N at *
  generalize redD n d = D at *
  generalize redE n d = E3 at *
  generalize mkE n d = EE at *
  generalize chk n.data.toList = C1 at *
  generalize chk d.data.toList = C2 at *
  have t0 := s0.alloc (.cells #[.string ⟨#[]⟩, .string ⟨#[]⟩] 123 (0, 0))
  have t1 := s1.alloc (.cells #[.string ⟨#[]⟩, .string ⟨#[]⟩] 123 (0, 0))
  have hE0 := h.alloc (.cells #[.string ⟨#[]⟩, .string ⟨#[]⟩] 123 (0, 0))
  have z0 := FrB.made w ⟨#[]⟩ ⟨#[]⟩
  have k0 : Kp [g] w (w.alloc (.cells #[.string ⟨#[]⟩, .string ⟨#[]⟩] 123 (0, 0))) := (Kp.refl _ _).alloc _
  have c0 := t0.c
  go_enter Tryz.func240, Tryz.ntmps240
  go_wp2_with fail
  with_reducible refine (q1.out _).mono ?_
  rintro x w1 ⟨rfl, rfl⟩
  go_wp2_with fail
  with_reducible refine (keep_any g _ C1 _ hE0).mono ?_
  rintro x w2 ⟨rfl, hE2, k2⟩
  have u1 := t1.kept k2 (nmem_one g1)
  have c1 := u1.c
  go_wp2_with fail
  with_reducible refine (q2.out _ _ hE2).mono ?_
  rintro x w3 ⟨rfl, hE3, k3⟩
  by_cases hs : signI d = 0
  · rw [if_pos hs] at ee
    have hb : (signI d == 0) = true := by simpa using hs
    generalize signI d = S at *
    go_wp2_with fail
    with_reducible refine (keep_any g _ 10 _ hE3).mono ?_
    rintro x w4 ⟨rfl, hE4, k4⟩
    have kk4 := ((k0.trans k2).trans k3).trans k4
    have v0 := ((t0.kept k2 (nmem_one g0)).kept k3 (nmem_one g0)).kept k4 (nmem_one g0)
    have v1 := (u1.kept k3 (nmem_one g1)).kept k4 (nmem_one g1)
    have z4 := ((z0.kept k2 (nmem_one (by omega))).kept k3 (nmem_one (by omega))).kept k4 (nmem_one (by omega))
    have d0 := v0.c
    have d1 := v1.c
    go_wp2_with fail
    with_reducible refine (q3.out _ _ hE4).mono ?_
    rintro x w5 ⟨rfl, hE5, k5⟩
    have kk5 := kk4.trans k5
    have z5 := z4.kept k5 (nmem_one (by omega))
    have r0 := z5.c0
    have r1 := z5.c1
    have y0 := z5.f0 0
    have y1 := z5.f0 1
    have b6 := z5.set2 (x := N) (y := D)
    have h6 := ke_set2 hE5 (b := w.heap.size) (by omega) (.string N) (.string D)
    have kk6 := kp_set2 kk5 (b := w.heap.size) (by omega) (.string N) (.string D)
    go_wp2
    generalize (w5.setCell ⟨w.heap.size, 0, none⟩ (.string N)).setCell ⟨w.heap.size, 1, none⟩ (.string D) = W at *
    have i0 := b6.c0
    have i1 := b6.c1
    refine bodyPost_ret (v := .agg #[.string N, .string D]) (by simp [results, Tryz.results240, go_sem, i0, i1]) rfl ?_
    exact ⟨rfl, by rw [ee.out]; simpa only [kp_assoc, kp_zero, kp_right] using h6, kk6⟩
  · rw [if_neg hs] at ee
    have hb : (signI d == 0) = false := by simpa using hs
    generalize signI d = S at *
    have kk4 := (k0.trans k2).trans k3
    have v0 := (t0.kept k2 (nmem_one g0)).kept k3 (nmem_one g0)
    have v1 := u1.kept k3 (nmem_one g1)
    have z4 := (z0.kept k2 (nmem_one (by omega))).kept k3 (nmem_one (by omega))
    have d0 := v0.c
    have d1 := v1.c
    go_wp2_with fail
    with_reducible refine (q3.out _ _ hE3).mono ?_
    rintro x w5 ⟨rfl, hE5, k5⟩
    have kk5 := kk4.trans k5
    have z5 := z4.kept k5 (nmem_one (by omega))
    have r0 := z5.c0
    have r1 := z5.c1
    have y0 := z5.f0 0
    have y1 := z5.f0 1
    have b6 := z5.set2 (x := N) (y := D)
    have h6 := ke_set2 hE5 (b := w.heap.size) (by omega) (.string N) (.string D)
    have kk6 := kp_set2 kk5 (b := w.heap.size) (by omega) (.string N) (.string D)
    go_wp2
    generalize (w5.setCell ⟨w.heap.size, 0, none⟩ (.string N)).setCell ⟨w.heap.size, 1, none⟩ (.string D) = W at *
    have i0 := b6.c0
    have i1 := b6.c1
    refine bodyPost_ret (v := .agg #[.string N, .string D]) (by simp [results, Tryz.results240, go_sem, i0, i1]) rfl ?_
    exact ⟨rfl, by rw [ee.out]; simpa only [kp_assoc, kp_zero, kp_right] using h6, kk6⟩

set_option maxRecDepth 100000 in
set_option maxHeartbeats 1000000 in
theorem qMake_any (n d : ByteArray) (w : World) (hn : n.size ≤ 4000000000) (hd : d.size ≤ 4000000000) :
    Calls Tryz.prog 225 #[.string n, .string d] w fun x w' => x = .returned (.tuple #[.string (rT (redN n d) (redD n d) (mkE n d)), .int .i64 (mkE n d)]) ∧ Kp [] w w' := by
  have s0 := (ItB.made w n).alloc (.cells #[.string d] 121 (0, 0))
  have s1 := ItB.made (w.alloc (.cells #[.string n] 121 (0, 0))) d
  simp only [World.size_alloc] at s1
  have k0 : Kp [] w ((w.alloc (.cells #[.string n] 121 (0, 0))).alloc (.cells #[.string d] 121 (0, 0))) := ((Kp.refl _ _).alloc _).alloc _
  have q1 : Term2 240 w.heap.size (w.heap.size + 1) ((w.alloc (.cells #[.string n] 121 (0, 0))).alloc (.cells #[.string d] 121 (0, 0))) (redN n d) (redD n d) (mkE n d) := by
    intro W g hE hg hk
    have hg' : w.heap.size + 2 ≤ g := by simpa using hg
    exact make_in g _ _ n d W hE (le9 hn) (le9 hd) (s0.kept hk (by simp)) (s1.kept hk (by simp)) (by omega) (by omega)
  have q2 := Lib.hid (result2 240 _ _ _ _ _ _ (redN_size hn) (redD_size hd) (enters_of Tryz.func240 (by kernel_rfl) rfl) q1)
  clear q1 s0 s1
  have hv : Hid (rT (redN n d) (redD n d) (mkE n d) = if mkE n d = 0 then (if isOne (redD n d) then redN n d else redN n d ++ ⟨#[47]⟩ ++ redD n d) else ⟨#[]⟩) := rfl
  rw [← hv.out] at q2
  generalize rT (redN n d) (redD n d) (mkE n d) = R at *
  generalize mkE n d = EE at *
  go_enter Tryz.func225, Tryz.ntmps225
  go_wp2_with fail
  with_reducible refine q2.out.mono ?_
  rintro x w1 ⟨rfl, k1⟩
  have kk := k0.trans k1
  go_wp2
  go_ret2
  exact ⟨rfl, kk⟩
end Go.Proofs.YtegamkilhgekjaaGreatDoor

/- Of and Whole of package ratio, for all ints, where the table of strconv lies as the row says. -/
namespace Go.Proofs.YtegamkilhgekjaaGreatDoor
open Go.RowKit
open Go.Lib (nDigits itoa decDigits)

/-- the ints, and the table that Itoa reads -/
def I64 (z : Int) : Prop := -9223372036854775808 ≤ z ∧ z ≤ 9223372036854775807
def Tab (w : World) : Prop := Lib.TabIs Tryz.prog w "internal/strconv.uint64pow10" .u64 Lib.pow10Tab
theorem tab_kp {w w' : World} (h : Tab w) (k : Kp [] w w') : Tab w' := by
  unfold Tab Lib.TabIs World.var? at *
  cases hg : Tryz.prog.globalNamed "internal/strconv.uint64pow10" with
  | none => simp [hg] at h
  | some g =>
    simp only [hg, Option.bind_some] at h ⊢
    have hlt : g < w.heap.size := by
      rcases Nat.lt_or_ge g w.heap.size with h' | h'
      · exact h'
      · rw [Array.getElem?_eq_none h'] at h; simp at h
    rw [k.block g hlt (by simp)]
    exact h
set_option maxRecDepth 100000 in
set_option maxHeartbeats 1000000 in
theorem wOf_any (n : Int) (w : World) (hn : I64 n) (hl : Tab w) :
    Calls Tryz.prog 134 #[.int .i64 n] w fun e w' => e = .returned (.string (S n)) ∧ Kp [] w w' := by
  have q := Lib.hid (Tryz.strconv_Itoa n hn.1 hn.2 w hl)
  clear hl hn
  go_enter Tryz.func134, Tryz.ntmps134
  go_wp2_with fail
  refine q.out.mono ?_
  rintro e w' ⟨rfl, k, os, rfl⟩
  have hk : Kp [] w _ := Kp.of_below (Lib.below_grow w.heap.size w (Nat.le_refl _) k os)
  go_wp2
  go_ret
  exact ⟨rfl, hk⟩
set_option maxRecDepth 100000 in
set_option maxHeartbeats 1000000 in
theorem qWhole_any (n : Int) (w : World) (hn : I64 n) (hl : Tab w) :
    Calls Tryz.prog 103 #[.int .i64 n] w fun e w' => e = .returned (.string (S n)) ∧ Kp [] w w' := by
  have q := Lib.hid (wOf_any n w hn hl)
  clear hl hn
  generalize S n = T at *
  go_enter Tryz.func103, Tryz.ntmps103
  go_wp2_with fail
  with_reducible refine q.out.mono ?_
  rintro e w1 ⟨rfl, k1⟩
  go_wp2
  go_ret
  exact ⟨rfl, k1⟩


























end Go.Proofs.YtegamkilhgekjaaGreatDoor
