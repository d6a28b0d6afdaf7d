/- Texts Ends, Two: each says in its own first comment what it proves. -/
import Derived.Test.YtiommpdbbpddpaaGreatM23
/- Sum, difference and order of fractions, and the ends of calculations, in package ratio. -/
namespace Go.Proofs.YtiommpdbbpddpaaGreat
open Go.RowKit
open Go.Lib (nDigits itoa decDigits)

set_option maxRecDepth 100000 in
set_option maxHeartbeats 4000000 in
theorem k_sum (g : Nat) (e : Int) (n p m q : ByteArray) (w : World) (h : KE w g e) (hn : n.size ≤ 9223372036854775807) (hp : p.size ≤ 9223372036854775807) (hm : m.size ≤ 9223372036854775807) (hq : q.size ≤ 9223372036854775807) :
    Calls Tryz.prog 29 #[.pointer (some ⟨g, 0, none⟩), .agg #[.string n, .string p], .agg #[.string m, .string q]] w fun x w' => x = .returned (.agg #[.string (suN n p m q), .string (suD n p m q)]) ∧ KE w' g (kp e (suE n p m q)) ∧ Kp [g] w w' := by
  have hl := h.lt
  have q1 := Lib.hid (fun W E hE => k_join_plus g E n p m q W hE hn hp hm hq)
  have bx := ((FrB.made w n p).alloc (.cells #[.string m, .string q] 79 (0, 0))).alloc (.cells #[.string ⟨#[]⟩, .string ⟨#[]⟩] 79 (0, 0))
  have by_ := (FrB.made (w.alloc (.cells #[.string n, .string p] 79 (0, 0))) m q).alloc (.cells #[.string ⟨#[]⟩, .string ⟨#[]⟩] 79 (0, 0))
  rw [World.size_alloc] at by_
  have bz := FrB.made ((w.alloc (.cells #[.string n, .string p] 79 (0, 0))).alloc (.cells #[.string m, .string q] 79 (0, 0))) ⟨#[]⟩ ⟨#[]⟩
  rw [World.size_alloc, World.size_alloc] at bz
  have hE := ((h.alloc (.cells #[.string n, .string p] 79 (0, 0))).alloc (.cells #[.string m, .string q] 79 (0, 0))).alloc (.cells #[.string ⟨#[]⟩, .string ⟨#[]⟩] 79 (0, 0))
  have k0 : Kp [g] w (((w.alloc (.cells #[.string n, .string p] 79 (0, 0))).alloc (.cells #[.string m, .string q] 79 (0, 0))).alloc (.cells #[.string ⟨#[]⟩, .string ⟨#[]⟩] 79 (0, 0))) := (((Kp.refl _ _).alloc _).alloc _).alloc _
  clear h bx by_
  go_enter Tryz.func29, Tryz.ntmps29
  go_wp2_with fail
  with_reducible refine (q1.out _ _ hE).mono ?_
  rintro x w1 ⟨rfl, hE1, k1⟩
  have bz1 := bz.kept k1 (nmem_one (by omega))
  have kk := k0.trans k1
  have z0 := bz1.c0
  have z1 := bz1.c1
  have y0 := bz1.f0 0
  have y1 := bz1.f0 1
  go_wp2
  have b4 := bz1.set2 (x := suN n p m q) (y := suD n p m q)
  have h4 := ke_set2 hE1 (b := w.heap.size + 2) (by omega) (.string (suN n p m q)) (.string (suD n p m q))
  have kk4 := kp_set2 kk (b := w.heap.size + 2) (by omega) (.string (suN n p m q)) (.string (suD n p m q))
  generalize (w1.setCell ⟨w.heap.size + 2, 0, none⟩ (.string (suN n p m q))).setCell ⟨w.heap.size + 2, 1, none⟩ (.string (suD n p m q)) = W at *
  have d0 := b4.c0
  have d1 := b4.c1
  refine bodyPost_ret (v := .agg #[.string (suN n p m q), .string (suD n p m q)]) (by simp [results, Tryz.results29, go_sem, d0, d1]) rfl ?_
  exact ⟨rfl, h4, kk4⟩

set_option maxRecDepth 100000 in
set_option maxHeartbeats 4000000 in
theorem k_difference (g : Nat) (e : Int) (n p m q : ByteArray) (w : World) (h : KE w g e) (hn : n.size ≤ 9223372036854775807) (hp : p.size ≤ 9223372036854775807) (hm : m.size ≤ 9223372036854775807) (hq : q.size ≤ 9223372036854775807) :
    Calls Tryz.prog 44 #[.pointer (some ⟨g, 0, none⟩), .agg #[.string n, .string p], .agg #[.string m, .string q]] w fun x w' => x = .returned (.agg #[.string (diN n p m q), .string (diD n p m q)]) ∧ KE w' g (kp e (diE n p m q)) ∧ Kp [g] w w' := by
  have hl := h.lt
  have q1 := Lib.hid (fun W E hE => k_join_minus g E n p m q W hE hn hp hm hq)
  have bx := ((FrB.made w n p).alloc (.cells #[.string m, .string q] 79 (0, 0))).alloc (.cells #[.string ⟨#[]⟩, .string ⟨#[]⟩] 79 (0, 0))
  have by_ := (FrB.made (w.alloc (.cells #[.string n, .string p] 79 (0, 0))) m q).alloc (.cells #[.string ⟨#[]⟩, .string ⟨#[]⟩] 79 (0, 0))
  rw [World.size_alloc] at by_
  have bz := FrB.made ((w.alloc (.cells #[.string n, .string p] 79 (0, 0))).alloc (.cells #[.string m, .string q] 79 (0, 0))) ⟨#[]⟩ ⟨#[]⟩
  rw [World.size_alloc, World.size_alloc] at bz
  have hE := ((h.alloc (.cells #[.string n, .string p] 79 (0, 0))).alloc (.cells #[.string m, .string q] 79 (0, 0))).alloc (.cells #[.string ⟨#[]⟩, .string ⟨#[]⟩] 79 (0, 0))
  have k0 : Kp [g] w (((w.alloc (.cells #[.string n, .string p] 79 (0, 0))).alloc (.cells #[.string m, .string q] 79 (0, 0))).alloc (.cells #[.string ⟨#[]⟩, .string ⟨#[]⟩] 79 (0, 0))) := (((Kp.refl _ _).alloc _).alloc _).alloc _
  clear h bx by_
  go_enter Tryz.func44, Tryz.ntmps44
  go_wp2_with fail
  with_reducible refine (q1.out _ _ hE).mono ?_
  rintro x w1 ⟨rfl, hE1, k1⟩
  have bz1 := bz.kept k1 (nmem_one (by omega))
  have kk := k0.trans k1
  have z0 := bz1.c0
  have z1 := bz1.c1
  have y0 := bz1.f0 0
  have y1 := bz1.f0 1
  go_wp2
  have b4 := bz1.set2 (x := diN n p m q) (y := diD n p m q)
  have h4 := ke_set2 hE1 (b := w.heap.size + 2) (by omega) (.string (diN n p m q)) (.string (diD n p m q))
  have kk4 := kp_set2 kk (b := w.heap.size + 2) (by omega) (.string (diN n p m q)) (.string (diD n p m q))
  generalize (w1.setCell ⟨w.heap.size + 2, 0, none⟩ (.string (diN n p m q))).setCell ⟨w.heap.size + 2, 1, none⟩ (.string (diD n p m q)) = W at *
  have d0 := b4.c0
  have d1 := b4.c1
  refine bodyPost_ret (v := .agg #[.string (diN n p m q), .string (diD n p m q)]) (by simp [results, Tryz.results44, go_sem, d0, d1]) rfl ?_
  exact ⟨rfl, h4, kk4⟩

set_option maxRecDepth 100000 in
set_option maxHeartbeats 4000000 in
theorem k_order (g : Nat) (e : Int) (n p m q : ByteArray) (w : World) (h : KE w g e) (hn : n.size ≤ 9223372036854775807) (hp : p.size ≤ 9223372036854775807) (hm : m.size ≤ 9223372036854775807) (hq : q.size ≤ 9223372036854775807) :
    Calls Tryz.prog 113 #[.pointer (some ⟨g, 0, none⟩), .agg #[.string n, .string p], .agg #[.string m, .string q]] w fun x w' => x = .returned (.int .i64 (orV n p m q)) ∧ KE w' g (kp e (orE n p m q)) ∧ Kp [g] w w' := by
  have hl := h.lt
  have q1 := Lib.hid (fun W E hE => k_tM g E n q W hE hn hq)
  have q2 := Lib.hid (fun W E hE => k_tM g E m p W hE hm hp)
  have s1 := tM_size n q
  have s2 := tM_size m p
  have q3 := Lib.hid (fun W => Compare_any (tM n q) (tM m p) W (by omega) (by omega))
  have e1 : Hid (orV n p m q = cmpV (tM n q) (tM m p)) := rfl
  have e3 : Hid (orE n p m q = kp (tME n q) (kp (tME m p) (chkL [tM n q, tM m p]))) := rfl
  rw [← e1.out] at q3
  generalize chkL [tM n q, tM m p] = E3 at *
  generalize tM n q = A at *
  generalize tM m p = B at *
  generalize orV n p m q = V at *
  have bx := ((FrB.made w n p).alloc (.cells #[.string m, .string q] 79 (0, 0)))
  have by_ := (FrB.made (w.alloc (.cells #[.string n, .string p] 79 (0, 0))) m q)
  rw [World.size_alloc] at by_
  have hE := ((h.alloc (.cells #[.string n, .string p] 79 (0, 0))).alloc (.cells #[.string m, .string q] 79 (0, 0)))
  have k0 : Kp [g] w ((w.alloc (.cells #[.string n, .string p] 79 (0, 0))).alloc (.cells #[.string m, .string q] 79 (0, 0))) := ((Kp.refl _ _).alloc _).alloc _
  have cx0 := bx.c0
  have cx1 := bx.c1
  have cy0 := by_.c0
  have cy1 := by_.c1
  clear h
  go_enter Tryz.func113, Tryz.ntmps113
  go_wp2_with fail
  go_region_held3 (fun w' => w'.cell? ⟨w.heap.size, 0, none⟩ = some (.string n) ∧ w'.cell? ⟨w.heap.size, 1, none⟩ = some (.string p) ∧ w'.cell? ⟨w.heap.size + 1, 0, none⟩ = some (.string m) ∧ w'.cell? ⟨w.heap.size + 1, 1, none⟩ = some (.string q))
    (first
      | exact ⟨bx7.c0, bx7.c1, by7.c0, by7.c1⟩
      | exact ⟨bx6.c0, bx6.c1, by6.c0, by6.c1⟩
      | exact ⟨bx5.c0, bx5.c1, by5.c0, by5.c1⟩
      | exact ⟨bx4.c0, bx4.c1, by4.c0, by4.c1⟩
      | exact ⟨(FrB.far2 bx6 (by omega) _ _).c0, (FrB.far2 bx6 (by omega) _ _).c1, (FrB.far2 by6 (by omega) _ _).c0, (FrB.far2 by6 (by omega) _ _).c1⟩
      | go_keep)
    (first
      | (go_at_call 73; with_reducible refine (q1.out _ _ (KE.drew hE)).mono ?_; rintro x w4 ⟨rfl, hE4, k4⟩; have bx4 := FrB.kept (FrB.drew bx) k4 (nmem_one (by omega)); have by4 := FrB.kept (FrB.drew by_) k4 (nmem_one (by omega)))
      | (go_at_call 73; with_reducible refine (q2.out _ _ hE4).mono ?_; rintro x w5 ⟨rfl, hE5, k5⟩; have bx5 := FrB.kept bx4 k5 (nmem_one (by omega)); have by5 := FrB.kept by4 k5 (nmem_one (by omega)))
      | (go_at_call 118; with_reducible refine (q3.out _).mono ?_; rintro x w6 ⟨rfl, k6⟩; have hE6 := KE.kept hE5 k6 (by simp); have bx6 := FrB.kept bx5 k6 (by simp); have by6 := FrB.kept by5 k6 (by simp)))
  have kk6 := (((Kp.drew k0).trans k4).trans k5).trans (k6.mono (by simp))
  clear bx bx4 bx5 by_ by4 by5 hE hE4 hE5 k0 k4 k5 k6 bx6 by6
  go_wp2_with fail
  with_reducible refine (keep_any g _ E3 _ hE6).mono ?_
  rintro x w7 ⟨rfl, hE7, k7⟩
  have kk7 := kk6.trans k7
  go_wp2
  go_ret
  exact ⟨rfl, by rw [e3.out]; simpa only [kp_assoc] using hE7, kk7⟩

/-- what a calculation that makes a fraction gives -/
def Term3 (c : Nat) (b0 b1 b2 : Nat) (w : World) (N D : ByteArray) (E : Int) : Prop := Hid (∀ (W : World) (g : Nat), KE W g 0 → w.heap.size ≤ g → Kp [] w W → Calls Tryz.prog c #[.pointer (some ⟨g, 0, none⟩), .pointer (some ⟨b0, 0, none⟩), .pointer (some ⟨b1, 0, none⟩), .pointer (some ⟨b2, 0, none⟩)] W fun x w' => x = .returned (.agg #[.string N, .string D]) ∧ KE w' g E ∧ Kp [g] W w')
set_option maxRecDepth 100000 in
set_option maxHeartbeats 4000000 in
theorem result3 (c : Nat) (b0 b1 b2 : Nat) (N D : ByteArray) (E : Int) (w : World) (hN : N.size ≤ 4000000000) (hD : D.size ≤ 4000000000)
    (he : ∀ args w, (callFunc c args).run Tryz.prog w = .ok (.enter c args) w) (q : Term3 c b0 b1 b2 w N D E) :
    Calls Tryz.prog 45 #[.func (.func c) #[] #[.pointer (some ⟨b0, 0, none⟩), .pointer (some ⟨b1, 0, none⟩), .pointer (some ⟨b2, 0, none⟩)]] w fun x w' => x = .returned (.tuple #[.string (if E = 0 then (if isOne D then N else N ++ ⟨#[47]⟩ ++ D) else ⟨#[]⟩), .int .i64 E]) ∧ Kp [] w w' := by
  have h0 : KE (w.alloc (.cells #[.int .i64 0] 101 (0, 0))) w.heap.size 0 := heap_alloc_new w _
  have k0 : Kp [] w (w.alloc (.cells #[.int .i64 0] 101 (0, 0))) := (Kp.refl _ _).alloc _
  have q1 := Lib.hid (q.out _ _ h0 (Nat.le_refl _) k0)
  have q2 := Lib.hid (fun W => frtext_any N D W hN hD)
  clear q h0
  by_cases hE : E = 0
  · subst hE
    rw [if_pos rfl]
    generalize (if isOne D then N else N ++ ⟨#[47]⟩ ++ D) = T at *
    go_enter Tryz.func45, Tryz.ntmps45
    go_wp2_with (go_at_fn c; refine q1.out.mono ?_; rintro x w1 ⟨rfl, h1, k1⟩; have hc := (KE.alloc h1 (.cells #[.string N, .string D] 79 (0, 0))).cell; have hf0 := (FrB.made w1 N D).c0; have hf1 := (FrB.made w1 N D).c1)
    with_reducible refine (q2.out _).mono ?_
    rintro x w2 ⟨rfl, k2⟩
    have kk : Kp [] w w2 := ((k0.step k1 (by simp)).alloc _).trans k2
    go_wp2
    go_ret2
    exact ⟨rfl, kk⟩
  · have hb : (E != 0) = true := by simpa using hE
    rw [if_neg hE]
    clear hE
    go_enter Tryz.func45, Tryz.ntmps45
    go_wp2_with (go_at_fn c; refine q1.out.mono ?_; rintro x w1 ⟨rfl, h1, k1⟩; have hc := (KE.alloc h1 (.cells #[.string N, .string D] 79 (0, 0))).cell)
    go_quiet (fail)
    go_wp2
    go_ret2
    exact ⟨rfl, ((k0.step k1 (by simp)).alloc _).drewN _⟩

/-- what a calculation that makes a sign gives -/
def SignT2 (c : Nat) (b0 b1 : Nat) (w : World) (S E : Int) : Prop := Hid (∀ (W : World) (g : Nat), KE W g 0 → w.heap.size ≤ g → Kp [] w W → Calls Tryz.prog c #[.pointer (some ⟨g, 0, none⟩), .pointer (some ⟨b0, 0, none⟩), .pointer (some ⟨b1, 0, none⟩)] W fun x w' => x = .returned (.int .i64 S) ∧ KE w' g E ∧ Kp [g] W w')
set_option maxRecDepth 100000 in
set_option maxHeartbeats 4000000 in
theorem decision2 (c : Nat) (b0 b1 : Nat) (S E : Int) (w : World)
    (he : ∀ args w, (callFunc c args).run Tryz.prog w = .ok (.enter c args) w) (q : SignT2 c b0 b1 w S E) :
    Calls Tryz.prog 111 #[.func (.func c) #[] #[.pointer (some ⟨b0, 0, none⟩), .pointer (some ⟨b1, 0, none⟩)]] w fun x w' => x = .returned (.tuple #[.int .i64 (if E = 0 then S else 0), .int .i64 E]) ∧ Kp [] w w' := by
  have h0 : KE (w.alloc (.cells #[.int .i64 0] 101 (0, 0))) w.heap.size 0 := heap_alloc_new w _
  have k0 : Kp [] w (w.alloc (.cells #[.int .i64 0] 101 (0, 0))) := (Kp.refl _ _).alloc _
  have q1 := Lib.hid (q.out _ _ h0 (Nat.le_refl _) k0)
  clear q h0
  by_cases hE : E = 0
  · subst hE
    rw [if_pos rfl]
    go_enter Tryz.func111, Tryz.ntmps111
    go_wp2_with (go_at_fn c; refine q1.out.mono ?_; rintro x w1 ⟨rfl, h1, k1⟩; have hc := h1.cell)
    have kk : Kp [] w w1 := k0.step k1 (by simp)
    go_ret2
    exact ⟨rfl, kk⟩
  · have hb : (E != 0) = true := by simpa using hE
    rw [if_neg hE]
    clear hE
    go_enter Tryz.func111, Tryz.ntmps111
    go_wp2_with (go_at_fn c; refine q1.out.mono ?_; rintro x w1 ⟨rfl, h1, k1⟩; have hc := h1.cell)
    go_quiet (fail)
    go_wp2
    go_ret2
    exact ⟨rfl, (k0.step k1 (by simp)).drewN _⟩

end Go.Proofs.YtiommpdbbpddpaaGreat

/- Blocks that hold captured variables, in package ratio. -/
namespace Go.Proofs.YtiommpdbbpddpaaGreat
open Go.RowKit
open Go.Lib (nDigits itoa decDigits)

/-- block b holds a rational's text -/
def StB (w : World) (b : Nat) (s : ByteArray) : Prop := w.heap[b]? = some (.cells #[.string s] 24 (0, 0))
section
variable {w w' : World} {b : Nat} {s : ByteArray} {L : List Nat}
theorem StB.lt (h : StB w b s) : b < w.heap.size := (Array.getElem?_eq_some_iff.1 h).1
theorem StB.c (h : StB w b s) : w.cell? ⟨b, 0, none⟩ = some (.string s) := by unfold StB at h; simp [World.cell?, h]
theorem StB.kept (h : StB w b s) (k : Kp L w w') (hb : b ∉ L) : StB w' b s := (k.block b h.lt hb).trans h
theorem StB.alloc (h : StB w b s) (o : Obj) : StB (w.alloc o) b s := (Below.heap_alloc w o b h.lt).trans h
theorem StB.drew (h : StB w b s) : StB w.drew b s := h
end
theorem StB.made (w : World) (s : ByteArray) : StB (w.alloc (.cells #[.string s] 24 (0, 0))) w.heap.size s := heap_alloc_new w _
/-- block b holds a function value -/
def FnB (w : World) (b F T : Nat) : Prop := w.heap[b]? = some (.cells #[.func (.func F) #[] #[]] T (0, 0))
section
variable {w w' : World} {b F T : Nat} {L : List Nat}
theorem FnB.lt (h : FnB w b F T) : b < w.heap.size := (Array.getElem?_eq_some_iff.1 h).1
theorem FnB.c (h : FnB w b F T) : w.cell? ⟨b, 0, none⟩ = some (.func (.func F) #[] #[]) := by unfold FnB at h; simp [World.cell?, h]
theorem FnB.kept (h : FnB w b F T) (k : Kp L w w') (hb : b ∉ L) : FnB w' b F T := (k.block b h.lt hb).trans h
end

theorem cN_size {m : Nat} {a : ByteArray} (ha : a.size ≤ m) : (cN a).size ≤ m := by unfold cN; rw [ByteArray.size_extract]; omega
theorem cD_size {m : Nat} {a : ByteArray} (ha : a.size ≤ m) (hm : 1 ≤ m := by decide) : (cD a).size ≤ m := by
  unfold cD; split
  · rw [ByteArray.size_extract]; omega
  · exact hm

/-- what a calculation with two fractions gives -/
def Calc2 (F : Nat) (n p m q N D : ByteArray) (E : Int) : Prop := Hid (∀ (W : World) (g : Nat) (e : Int), KE W g e → Calls Tryz.prog F #[.pointer (some ⟨g, 0, none⟩), .agg #[.string n, .string p], .agg #[.string m, .string q]] W fun x w' => x = .returned (.agg #[.string N, .string D]) ∧ KE w' g (kp e E) ∧ Kp [g] W w')
end Go.Proofs.YtiommpdbbpddpaaGreat
