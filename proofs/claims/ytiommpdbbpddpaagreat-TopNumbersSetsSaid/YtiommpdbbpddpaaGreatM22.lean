/- Texts Keep, Reduce: each says in its own first comment what it proves. -/
import Derived.Test.YtiommpdbbpddpaaGreatM11
import Derived.Test.YtiommpdbbpddpaaGreatM15
import Derived.Test.YtiommpdbbpddpaaGreatM12
import Derived.Shelf.Abstract
import Derived.Deep.RegionHeld3
import Derived.Deep.DrawnRows
import Derived.Handy
/- The keeper of package ratio: its small functions. -/
namespace Go.Proofs.YtiommpdbbpddpaaGreat
open Go.RowKit
open Go.Lib (nDigits itoa decDigits)

/-- the error that is kept: the first one -/
def kp (e f : Int) : Int := if e = 0 then f else e
theorem kp_zero (f : Int) : kp 0 f = f := if_pos rfl
theorem kp_right (e : Int) : kp e 0 = e := by
  unfold kp; split
  · omega
  · rfl
theorem kp_ne {e : Int} (h : e ≠ 0) (f : Int) : kp e f = e := if_neg h
theorem kp_assoc (a b c : Int) : kp (kp a b) c = kp a (kp b c) := by
  by_cases h : a = 0
  · subst h; rw [kp_zero, kp_zero]
  · rw [kp_ne h, kp_ne h, kp_ne h]

/-- block g is a keeper with the error e -/
def KE (w : World) (g : Nat) (e : Int) : Prop := w.heap[g]? = some (.cells #[.int .i64 e] 101 (0, 0))
section
variable {w w' : World} {g : Nat} {e : Int} {L : List Nat}
theorem KE.lt (h : KE w g e) : g < w.heap.size := (Array.getElem?_eq_some_iff.1 h).1
theorem KE.cell (h : KE w g e) : w.cell? ⟨g, 0, none⟩ = some (.int .i64 e) := cell_of_one h
theorem KE.free (h : KE w g e) : w.frozen? ⟨g, 0, none⟩ = false := free_of_one h
theorem KE.kept (h : KE w g e) (k : Kp L w w') (hg : g ∉ L) : KE w' g e := (k.block g h.lt hg).trans h
theorem KE.alloc (h : KE w g e) (o : Obj) : KE (w.alloc o) g e := (Below.heap_alloc w o g h.lt).trans h
theorem KE.drewN (h : KE w g e) (n : Nat) : KE (w.drewN n) g e := h
theorem KE.drew (h : KE w g e) : KE w.drew g e := h
theorem KE.set (h : KE w g e) (f : Int) : KE (w.setCell ⟨g, 0, none⟩ (.int .i64 f)) g f := by
  unfold KE at *; simp [World.setCell, Array.getElem?_modify, h]
theorem KE.far (h : KE w g e) {p : Addr} (hp : g ≠ p.block) (u : Value) : KE (w.setCell p u) g e := (Below.heap_setCell w p u g hp).trans h
end

set_option maxRecDepth 100000 in
set_option maxHeartbeats 1000000 in
theorem keep_any (g : Nat) (e E : Int) (w : World) (h : KE w g e) :
    Calls Tryz.prog 71 #[.pointer (some ⟨g, 0, none⟩), .int .i64 E] w fun r w' => r = .returned (.tuple #[]) ∧ KE w' g (kp e E) ∧ Kp [g] w w' := by
  have hc := h.cell
  have hf := h.free
  have hl := h.lt
  by_cases he : e = 0
  · subst he
    have h2 := h.set E
    rw [kp_zero]
    have hk : Kp [g] w (w.setCell ⟨g, 0, none⟩ (.int .i64 E)) := (Kp.refl _ _).setCell (p := ⟨g, 0, none⟩) (by simp) _
    clear h
    go_enter Tryz.func71, Tryz.ntmps71
    go_wp2
    go_end0
    exact ⟨rfl, h2, hk⟩
  · have hb : (e == 0) = false := by simpa using he
    rw [kp_ne he]
    clear he
    go_enter Tryz.func71, Tryz.ntmps71
    go_wp2
    go_end0
    exact ⟨rfl, h, Kp.refl _ _⟩

/-- what an operation with two integers gives, whatever the world -/
def Op2 (f : Nat) (a b r : ByteArray) (E : Int) : Prop := Hid (∀ W : World, Calls Tryz.prog f #[.string a, .string b] W fun e w' => e = .returned (.tuple #[.string r, .int .i64 E]) ∧ Kp [] W w')

set_option maxRecDepth 100000 in
set_option maxHeartbeats 1000000 in
theorem of_any2 (F g : Nat) (e E : Int) (a b r : ByteArray) (w : World) (h : KE w g e) (q : Op2 F a b r E) (he : ∀ args w, (callFunc F args).run Tryz.prog w = .ok (.enter F args) w) :
    Calls Tryz.prog 75 #[.pointer (some ⟨g, 0, none⟩), .func (.func F) #[] #[], .string a, .string b] w fun x w' => x = .returned (.string r) ∧ KE w' g (kp e E) ∧ Kp [g] w w' := by
  go_enter Tryz.func75, Tryz.ntmps75
  go_wp2_with (go_at_fn F; refine (q.out _).mono ?_; rintro x w1 ⟨rfl, k1⟩)
  have h1 := h.kept k1 (by simp)
  go_wp2_with fail
  refine (keep_any g e E _ h1).mono ?_
  rintro x w2 ⟨rfl, h2, k2⟩
  have kk : Kp [g] w w2 := (k1.mono (by simp)).trans k2
  go_wp2
  go_ret
  exact ⟨rfl, h2, kk⟩

set_option maxRecDepth 100000 in
set_option maxHeartbeats 1000000 in
theorem k_times (g : Nat) (e : Int) (a b : ByteArray) (w : World) (h : KE w g e) (ha : a.size ≤ 9223372036854775807) (hb : b.size ≤ 9223372036854775807) :
    Calls Tryz.prog 73 #[.pointer (some ⟨g, 0, none⟩), .string a, .string b] w fun x w' => x = .returned (.string (binB (· * ·) a b)) ∧ KE w' g (kp e (binE (· * ·) a b)) ∧ Kp [g] w w' := by
  have q : Op2 92 a b (binB (· * ·) a b) (binE (· * ·) a b) := fun W => Mul_any a b W ha hb
  generalize binB (· * ·) a b = r at *
  generalize binE (· * ·) a b = E at *
  have q2 := Lib.hid (of_any2 92 g e E a b r w h q (Go.Proofs.enters_of Tryz.func92 (by kernel_rfl) rfl))
  clear h q
  go_enter Tryz.func73, Tryz.ntmps73
  go_wp2_with fail
  with_reducible refine q2.out.mono ?_
  rintro x w1 ⟨rfl, h1, k1⟩
  go_wp2
  go_ret
  exact ⟨rfl, h1, k1⟩

set_option maxRecDepth 100000 in
set_option maxHeartbeats 1000000 in
theorem k_plus (g : Nat) (e : Int) (a b : ByteArray) (w : World) (h : KE w g e) (ha : a.size ≤ 9223372036854775807) (hb : b.size ≤ 9223372036854775807) :
    Calls Tryz.prog 49 #[.pointer (some ⟨g, 0, none⟩), .string a, .string b] w fun x w' => x = .returned (.string (binB (· + ·) a b)) ∧ KE w' g (kp e (binE (· + ·) a b)) ∧ Kp [g] w w' := by
  have q : Op2 76 a b (binB (· + ·) a b) (binE (· + ·) a b) := fun W => Add_any a b W ha hb
  generalize binB (· + ·) a b = r at *
  generalize binE (· + ·) a b = E at *
  have q2 := Lib.hid (of_any2 76 g e E a b r w h q (Go.Proofs.enters_of Tryz.func76 (by kernel_rfl) rfl))
  clear h q
  go_enter Tryz.func49, Tryz.ntmps49
  go_wp2_with fail
  with_reducible refine q2.out.mono ?_
  rintro x w1 ⟨rfl, h1, k1⟩
  go_wp2
  go_ret
  exact ⟨rfl, h1, k1⟩

set_option maxRecDepth 100000 in
set_option maxHeartbeats 1000000 in
theorem k_minus (g : Nat) (e : Int) (a b : ByteArray) (w : World) (h : KE w g e) (ha : a.size ≤ 9223372036854775807) (hb : b.size ≤ 9223372036854775807) :
    Calls Tryz.prog 68 #[.pointer (some ⟨g, 0, none⟩), .string a, .string b] w fun x w' => x = .returned (.string (binB (· - ·) a b)) ∧ KE w' g (kp e (binE (· - ·) a b)) ∧ Kp [g] w w' := by
  have q : Op2 88 a b (binB (· - ·) a b) (binE (· - ·) a b) := fun W => Sub_any a b W ha hb
  generalize binB (· - ·) a b = r at *
  generalize binE (· - ·) a b = E at *
  have q2 := Lib.hid (of_any2 88 g e E a b r w h q (Go.Proofs.enters_of Tryz.func88 (by kernel_rfl) rfl))
  clear h q
  go_enter Tryz.func68, Tryz.ntmps68
  go_wp2_with fail
  with_reducible refine q2.out.mono ?_
  rintro x w1 ⟨rfl, h1, k1⟩
  go_wp2
  go_ret
  exact ⟨rfl, h1, k1⟩

set_option maxRecDepth 100000 in
set_option maxHeartbeats 1000000 in
theorem k_quotient (g : Nat) (e : Int) (a b : ByteArray) (w : World) (h : KE w g e) (ha : a.size ≤ 9223372036854775807) (hb : b.size ≤ 9223372036854775807) :
    Calls Tryz.prog 96 #[.pointer (some ⟨g, 0, none⟩), .string a, .string b] w fun x w' => x = .returned (.string (divB Int.fdiv a b)) ∧ KE w' g (kp e (divE Int.fdiv a b)) ∧ Kp [g] w w' := by
  have q : Op2 125 a b (divB Int.fdiv a b) (divE Int.fdiv a b) := fun W => Quo_all a b W ha hb
  generalize divB Int.fdiv a b = r at *
  generalize divE Int.fdiv a b = E at *
  have q2 := Lib.hid (of_any2 125 g e E a b r w h q (Go.Proofs.enters_of Tryz.func125 (by kernel_rfl) rfl))
  clear h q
  go_enter Tryz.func96, Tryz.ntmps96
  go_wp2_with fail
  with_reducible refine q2.out.mono ?_
  rintro x w1 ⟨rfl, h1, k1⟩
  go_wp2
  go_ret
  exact ⟨rfl, h1, k1⟩

set_option maxRecDepth 100000 in
set_option maxHeartbeats 1000000 in
theorem k_divisor (g : Nat) (e : Int) (a b : ByteArray) (w : World) (h : KE w g e) (ha : a.size ≤ 9223372036854775807) (hb : b.size ≤ 9223372036854775807) :
    Calls Tryz.prog 93 #[.pointer (some ⟨g, 0, none⟩), .string a, .string b] w fun x w' => x = .returned (.string (binB gcdI a b)) ∧ KE w' g (kp e (binE gcdI a b)) ∧ Kp [g] w w' := by
  have q : Op2 119 a b (binB gcdI a b) (binE gcdI a b) := fun W => Gcd_all a b W ha hb
  generalize binB gcdI a b = r at *
  generalize binE gcdI a b = E at *
  have q2 := Lib.hid (of_any2 119 g e E a b r w h q (Go.Proofs.enters_of Tryz.func119 (by kernel_rfl) rfl))
  clear h q
  go_enter Tryz.func93, Tryz.ntmps93
  go_wp2_with fail
  with_reducible refine q2.out.mono ?_
  rintro x w1 ⟨rfl, h1, k1⟩
  go_wp2
  go_ret
  exact ⟨rfl, h1, k1⟩

set_option maxRecDepth 100000 in
set_option maxHeartbeats 1000000 in
theorem k_opposite (g : Nat) (e : Int) (a : ByteArray) (w : World) (h : KE w g e) (ha : a.size ≤ 9223372036854775807) :
    Calls Tryz.prog 95 #[.pointer (some ⟨g, 0, none⟩), .string a] w fun x w' => x = .returned (.string (unB (- ·) a)) ∧ KE w' g (kp e (chk a.data.toList)) ∧ Kp [g] w w' := by
  have q := Lib.hid (Neg_any a w ha)
  generalize unB (- ·) a = r at *
  generalize chk a.data.toList = E at *
  go_enter Tryz.func95, Tryz.ntmps95
  go_wp2_with fail
  refine q.out.mono ?_
  rintro x w1 ⟨rfl, rfl⟩
  go_wp2_with fail
  refine (keep_any g e E _ h).mono ?_
  rintro x w2 ⟨rfl, h2, k2⟩
  go_wp2
  go_ret
  exact ⟨rfl, h2, k2⟩

set_option maxRecDepth 100000 in
set_option maxHeartbeats 1000000 in
theorem k_sign (g : Nat) (e : Int) (a : ByteArray) (w : World) (h : KE w g e) (ha : a.size ≤ 9223372036854775807) :
    Calls Tryz.prog 94 #[.pointer (some ⟨g, 0, none⟩), .string a] w fun x w' => x = .returned (.int .i64 (signI a)) ∧ KE w' g (kp e (chk a.data.toList)) ∧ Kp [g] w w' := by
  have q := Lib.hid (Sign_any a w ha)
  generalize signI a = r at *
  generalize chk a.data.toList = E at *
  go_enter Tryz.func94, Tryz.ntmps94
  go_wp2_with fail
  refine q.out.mono ?_
  rintro x w1 ⟨rfl, rfl⟩
  go_wp2_with fail
  refine (keep_any g e E _ h).mono ?_
  rintro x w2 ⟨rfl, h2, k2⟩
  go_wp2
  go_ret
  exact ⟨rfl, h2, k2⟩
end Go.Proofs.YtiommpdbbpddpaaGreat

/- reduce of package ratio: a fraction in lowest terms. -/
namespace Go.Proofs.YtiommpdbbpddpaaGreat
open Go.RowKit
open Go.Lib (nDigits itoa decDigits)

/-- block b holds a fraction -/
def FrB (w : World) (b : Nat) (n d : ByteArray) : Prop := w.heap[b]? = some (.cells #[.string n, .string d] 79 (0, 0))
section
variable {w w' : World} {b : Nat} {n d : ByteArray} {L : List Nat}
theorem FrB.lt (h : FrB w b n d) : b < w.heap.size := (Array.getElem?_eq_some_iff.1 h).1
theorem FrB.c0 (h : FrB w b n d) : w.cell? ⟨b, 0, none⟩ = some (.string n) := by unfold FrB at h; simp [World.cell?, h]
theorem FrB.c1 (h : FrB w b n d) : w.cell? ⟨b, 1, none⟩ = some (.string d) := by unfold FrB at h; simp [World.cell?, h]
theorem FrB.f0 (h : FrB w b n d) (i : Nat) : w.frozen? ⟨b, i, none⟩ = false := by unfold FrB at h; simp [World.frozen?, h]
theorem FrB.kept (h : FrB w b n d) (k : Kp L w w') (hb : b ∉ L) : FrB w' b n d := (k.block b h.lt hb).trans h
theorem FrB.alloc (h : FrB w b n d) (o : Obj) : FrB (w.alloc o) b n d := (Below.heap_alloc w o b h.lt).trans h
end
theorem FrB.made (w : World) (n d : ByteArray) : FrB (w.alloc (.cells #[.string n, .string d] 79 (0, 0))) w.heap.size n d := heap_alloc_new w _

def isOne (s : ByteArray) : Bool := s.toList == [49]
def redG (n d : ByteArray) : ByteArray := if signI d < 0 then unB (- ·) (binB gcdI n d) else binB gcdI n d
def redGE (n d : ByteArray) : Int := kp (binE gcdI n d) (kp (chk d.data.toList) (if signI d < 0 then chk (binB gcdI n d).data.toList else 0))
def redN (n d : ByteArray) : ByteArray := if isOne (redG n d) then n else divB Int.fdiv n (redG n d)
def redD (n d : ByteArray) : ByteArray := if isOne (redG n d) then d else divB Int.fdiv d (redG n d)
def redE (n d : ByteArray) : Int := kp (redGE n d) (if isOne (redG n d) then 0 else kp (divE Int.fdiv n (redG n d)) (divE Int.fdiv d (redG n d)))

theorem FrB.drew {w : World} {b : Nat} {n d : ByteArray} (h : FrB w b n d) : FrB w.drew b n d := h
theorem nmem_one {a g : Nat} (h : a ≠ g) : a ∉ [g] := by simpa using h
theorem FrB.set2 {w : World} {b : Nat} {n d x y : ByteArray} (h : FrB w b n d) : FrB ((w.setCell ⟨b, 0, none⟩ (.string x)).setCell ⟨b, 1, none⟩ (.string y)) b x y := by
  unfold FrB at *; simp [World.setCell, Array.getElem?_modify, h]
theorem kp_set2 {w w' : World} {L : List Nat} {b : Nat} (k : Kp L w w') (hb : w.heap.size ≤ b) (x y : Value) : Kp L w ((w'.setCell ⟨b, 0, none⟩ x).setCell ⟨b, 1, none⟩ y) :=
  (k.setCell (p := ⟨b, 0, none⟩) (.inr hb) x).setCell (p := ⟨b, 1, none⟩) (.inr hb) y
theorem ke_set2 {w : World} {g b : Nat} {e : Int} (h : KE w g e) (hb : g ≠ b) (x y : Value) : KE ((w.setCell ⟨b, 0, none⟩ x).setCell ⟨b, 1, none⟩ y) g e :=
  (h.far (p := ⟨b, 0, none⟩) hb x).far (p := ⟨b, 1, none⟩) hb y
theorem le9 {n : Nat} (h : n ≤ 4000000000) : n ≤ 9223372036854775807 := Nat.le_trans h (by decide)
theorem res_size {z : Int} : (resB z).size ≤ 4000000000 := by
  unfold resB; split
  · exact Nat.le_trans (Ok.size (by assumption)) (by decide)
  · decide
theorem bin_size4 (f : Int → Int → Int) (a b : ByteArray) : (binB f a b).size ≤ 4000000000 := by
  unfold binB; split
  · exact res_size
  · decide
theorem bin_size (f : Int → Int → Int) (a b : ByteArray) : (binB f a b).size ≤ 9223372036854775807 := le9 (bin_size4 f a b)
theorem div_size4 (f : Int → Int → Int) (a b : ByteArray) : (divB f a b).size ≤ 4000000000 := by
  unfold divB; split
  · split
    · decide
    · exact res_size
  · decide
theorem neg_size4 (a : ByteArray) : (unB (- ·) a).size ≤ 4000000000 := by
  unfold unB; split
  · rename_i h
    obtain ⟨z, rfl, hz⟩ := of_chk_zero h
    rw [valS_S]
    exact Nat.le_trans (Ok.size hz.neg) (by decide)
  · decide
theorem neg_size (a : ByteArray) : (unB (- ·) a).size ≤ 9223372036854775807 := le9 (neg_size4 a)
theorem redG_size (n d : ByteArray) : (redG n d).size ≤ 9223372036854775807 := by
  unfold redG; split
  · exact neg_size _
  · exact bin_size _ _ _

set_option maxRecDepth 100000 in
set_option maxHeartbeats 4000000 in
theorem k_red_n1 (g : Nat) (e : Int) (n d : ByteArray) (w : World) (h : KE w g e) (hn : n.size ≤ 9223372036854775807) (hd : d.size ≤ 9223372036854775807) (hs : signI d < 0) (ho : isOne (redG n d) = true) :
    Calls Tryz.prog 74 #[.pointer (some ⟨g, 0, none⟩), .agg #[.string n, .string d]] w fun x w' => x = .returned (.agg #[.string (redN n d), .string (redD n d)]) ∧ KE w' g (kp e (redE n d)) ∧ Kp [g] w w' := by
  have hl := h.lt
  have e1 : Hid (redG n d = unB (- ·) (binB gcdI n d)) := if_pos hs
  have e2 : Hid (redN n d = n) := by show _ = _; unfold redN; rw [ho]; rfl
  have e3 : Hid (redD n d = d) := by show _ = _; unfold redD; rw [ho]; rfl
  have e4 : Hid (redE n d = kp (kp (binE gcdI n d) (kp (chk d.data.toList) (chk (binB gcdI n d).data.toList))) 0) := by
    show _ = _; unfold redE redGE; rw [if_pos hs, ho]; rfl
  have zg := redG_size n d
  have zb := bin_size gcdI n d
  have ho' : ((redG n d).toList == [49]) = true := ho
  clear ho
  have q1 := Lib.hid (fun W E hE => k_divisor g E n d W hE (by omega) (by omega))
  have q2 := Lib.hid (fun W E hE => k_sign g E d W hE (by omega))
  have q3 := Lib.hid (fun W E hE => k_opposite g E (binB gcdI n d) W hE (by omega))
  rw [← e1.out] at q3
  generalize redG n d = G at *
  generalize binB gcdI n d = G0 at *
  have b1 := (FrB.made w n d).alloc (.cells #[.string ⟨#[]⟩, .string ⟨#[]⟩] 79 (0, 0))
  have b2 := FrB.made (w.alloc (.cells #[.string n, .string d] 79 (0, 0))) ⟨#[]⟩ ⟨#[]⟩
  rw [World.size_alloc] at b2
  have hE := (h.alloc (.cells #[.string n, .string d] 79 (0, 0))).alloc (.cells #[.string ⟨#[]⟩, .string ⟨#[]⟩] 79 (0, 0))
  have k0 : Kp [g] w ((w.alloc (.cells #[.string n, .string d] 79 (0, 0))).alloc (.cells #[.string ⟨#[]⟩, .string ⟨#[]⟩] 79 (0, 0))) := ((Kp.refl _ _).alloc _).alloc _
  clear h
  go_enter Tryz.func74, Tryz.ntmps74
  go_wp2_with fail
  with_reducible refine (q1.out _ _ hE).mono ?_
  rintro x w1 ⟨rfl, hE1, k1⟩
  have b1' := b1.kept k1 (by simp; omega)
  have b2' := b2.kept k1 (by simp; omega)
  have k01 := k0.trans k1
  clear hE b1 b2 k0 k1 q1
  have c0 := b1'.c0
  have c1 := b1'.c1
  go_wp2_with fail
  with_reducible refine (q2.out _ _ hE1).mono ?_
  rintro x w2 ⟨rfl, hE2, k2⟩
  have b1 := b1'.kept k2 (by simp; omega)
  have b2 := b2'.kept k2 (by simp; omega)
  have kk := k01.trans k2
  clear hE1 b1' b2' k01 k2 q2 c0 c1
  go_wp2_with fail
  with_reducible refine (q3.out _ _ hE2).mono ?_
  rintro x w3 ⟨rfl, hE3, k3⟩
  have b1' := b1.kept k3 (by simp; omega)
  have b2' := b2.kept k3 (by simp; omega)
  have kk3 := kk.trans k3
  clear hE2 b1 b2 kk k3 q3
  have b1 := b1'
  have b2 := b2'
  have kk := kk3
  clear b1' b2' kk3
  have c0 := b1.c0
  have c1 := b1.c1
  have f0 := b2.f0 0
  have f1 := b2.f0 1
  have z0 := b2.c0
  have z1 := b2.c1
  go_wp2
  have hb3 := b2.set2 (x := n) (y := d)
  have hE3 := ke_set2 hE3 (b := w.heap.size + 1) (by omega) (.string n) (.string d)
  have kk3 := kp_set2 kk (b := w.heap.size + 1) (by omega) (.string n) (.string d)
  generalize (w3.setCell ⟨w.heap.size + 1, 0, none⟩ (.string n)).setCell ⟨w.heap.size + 1, 1, none⟩ (.string d) = W at *
  have d0 := hb3.c0
  have d1 := hb3.c1
  refine bodyPost_ret (v := .agg #[.string n, .string d]) (by simp [results, Tryz.results74, go_sem, d0, d1]) rfl ?_
  exact ⟨by rw [e2.out, e3.out], by rw [e4.out]; simpa only [kp_assoc, kp_right] using hE3, kk3⟩

set_option maxRecDepth 100000 in
set_option maxHeartbeats 4000000 in
theorem k_red_n0 (g : Nat) (e : Int) (n d : ByteArray) (w : World) (h : KE w g e) (hn : n.size ≤ 9223372036854775807) (hd : d.size ≤ 9223372036854775807) (hs : signI d < 0) (ho : isOne (redG n d) = false) :
    Calls Tryz.prog 74 #[.pointer (some ⟨g, 0, none⟩), .agg #[.string n, .string d]] w fun x w' => x = .returned (.agg #[.string (redN n d), .string (redD n d)]) ∧ KE w' g (kp e (redE n d)) ∧ Kp [g] w w' := by
  have hl := h.lt
  have e1 : Hid (redG n d = unB (- ·) (binB gcdI n d)) := if_pos hs
  have e2 : Hid (redN n d = divB Int.fdiv n (redG n d)) := by show _ = _; unfold redN; rw [ho]; rfl
  have e3 : Hid (redD n d = divB Int.fdiv d (redG n d)) := by show _ = _; unfold redD; rw [ho]; rfl
  have e4 : Hid (redE n d = kp (kp (binE gcdI n d) (kp (chk d.data.toList) (chk (binB gcdI n d).data.toList))) (kp (divE Int.fdiv n (redG n d)) (divE Int.fdiv d (redG n d)))) := by
    show _ = _; unfold redE redGE; rw [if_pos hs, ho]; rfl
  have zg := redG_size n d
  have zb := bin_size gcdI n d
  have ho' : ((redG n d).toList == [49]) = false := ho
  clear ho
  have q1 := Lib.hid (fun W E hE => k_divisor g E n d W hE (by omega) (by omega))
  have q2 := Lib.hid (fun W E hE => k_sign g E d W hE (by omega))
  have q3 := Lib.hid (fun W E hE => k_opposite g E (binB gcdI n d) W hE (by omega))
  rw [← e1.out] at q3
  have q4 := Lib.hid (fun W E hE => k_quotient g E n (redG n d) W hE (by omega) (by omega))
  have q5 := Lib.hid (fun W E hE => k_quotient g E d (redG n d) W hE (by omega) (by omega))
  rw [← e2.out] at q4
  rw [← e3.out] at q5
  generalize redG n d = G at *
  generalize binB gcdI n d = G0 at *
  have b1 := (FrB.made w n d).alloc (.cells #[.string ⟨#[]⟩, .string ⟨#[]⟩] 79 (0, 0))
  have b2 := FrB.made (w.alloc (.cells #[.string n, .string d] 79 (0, 0))) ⟨#[]⟩ ⟨#[]⟩
  rw [World.size_alloc] at b2
  have hE := (h.alloc (.cells #[.string n, .string d] 79 (0, 0))).alloc (.cells #[.string ⟨#[]⟩, .string ⟨#[]⟩] 79 (0, 0))
  have k0 : Kp [g] w ((w.alloc (.cells #[.string n, .string d] 79 (0, 0))).alloc (.cells #[.string ⟨#[]⟩, .string ⟨#[]⟩] 79 (0, 0))) := ((Kp.refl _ _).alloc _).alloc _
  clear h
  go_enter Tryz.func74, Tryz.ntmps74
  go_wp2_with fail
  with_reducible refine (q1.out _ _ hE).mono ?_
  rintro x w1 ⟨rfl, hE1, k1⟩
  have b1' := b1.kept k1 (by simp; omega)
  have b2' := b2.kept k1 (by simp; omega)
  have k01 := k0.trans k1
  clear hE b1 b2 k0 k1 q1
  have c0 := b1'.c0
  have c1 := b1'.c1
  go_wp2_with fail
  with_reducible refine (q2.out _ _ hE1).mono ?_
  rintro x w2 ⟨rfl, hE2, k2⟩
  have b1 := b1'.kept k2 (by simp; omega)
  have b2 := b2'.kept k2 (by simp; omega)
  have kk := k01.trans k2
  clear hE1 b1' b2' k01 k2 q2 c0 c1
  go_wp2_with fail
  with_reducible refine (q3.out _ _ hE2).mono ?_
  rintro x w3 ⟨rfl, hE3, k3⟩
  have b1' := b1.kept k3 (by simp; omega)
  have b2' := b2.kept k3 (by simp; omega)
  have kk3 := kk.trans k3
  clear hE2 b1 b2 kk k3 q3
  have b1 := b1'
  have b2 := b2'
  have kk := kk3
  clear b1' b2' kk3
  have c0 := b1.c0
  have c1 := b1.c1
  have f0 := b2.f0 0
  have f1 := b2.f0 1
  have z0 := b2.c0
  have z1 := b2.c1
  clear f0 f1 z0 z1
  go_wp2_with fail
  go_region_held3 (fun w' => w'.cell? ⟨w.heap.size, 0, none⟩ = some (.string n) ∧ w'.cell? ⟨w.heap.size, 1, none⟩ = some (.string d))
    (first
      | go_keep
      | exact ⟨(FrB.kept (FrB.drew b1) k4 (nmem_one (by omega))).c0, (FrB.kept (FrB.drew b1) k4 (nmem_one (by omega))).c1⟩
      | exact ⟨(FrB.kept (FrB.kept (FrB.drew b1) k4 (nmem_one (by omega))) k5 (nmem_one (by omega))).c0, (FrB.kept (FrB.kept (FrB.drew b1) k4 (nmem_one (by omega))) k5 (nmem_one (by omega))).c1⟩)
    (first
      | (go_at_call 96; with_reducible refine (q4.out _ _ (KE.drew hE3)).mono ?_; rintro x w4 ⟨rfl, hE4, k4⟩)
      | (go_at_call 96; with_reducible refine (q5.out _ _ hE4).mono ?_; rintro x w5 ⟨rfl, hE5, k5⟩; have b2' := FrB.kept (FrB.kept (FrB.drew b2) k4 (nmem_one (by omega))) k5 (nmem_one (by omega)); have f0 := b2'.f0 0; have f1 := b2'.f0 1; have z0 := b2'.c0; have z1 := b2'.c1))
  have hb3 := b2'.set2 (x := redN n d) (y := redD n d)
  have hE6 := ke_set2 hE5 (b := w.heap.size + 1) (by omega) (.string (redN n d)) (.string (redD n d))
  have kk3 := kp_set2 (((Kp.drew kk).trans k4).trans k5) (b := w.heap.size + 1) (by omega) (.string (redN n d)) (.string (redD n d))
  clear f0 f1 z0 z1 b2' k4 k5 kk hE5 hE4
  generalize (w5.setCell ⟨w.heap.size + 1, 0, none⟩ (.string (redN n d))).setCell ⟨w.heap.size + 1, 1, none⟩ (.string (redD n d)) = W at *
  have d0 := hb3.c0
  have d1 := hb3.c1
  go_wp2
  refine bodyPost_ret (v := .agg #[.string (redN n d), .string (redD n d)]) (by simp [results, Tryz.results74, go_sem, d0, d1]) rfl ?_
  exact ⟨rfl, by rw [e4.out]; simpa only [kp_assoc, kp_right] using hE6, kk3⟩

set_option maxRecDepth 100000 in
set_option maxHeartbeats 4000000 in
theorem k_red_p1 (g : Nat) (e : Int) (n d : ByteArray) (w : World) (h : KE w g e) (hn : n.size ≤ 9223372036854775807) (hd : d.size ≤ 9223372036854775807) (hs : ¬ signI d < 0) (ho : isOne (redG n d) = true) :
    Calls Tryz.prog 74 #[.pointer (some ⟨g, 0, none⟩), .agg #[.string n, .string d]] w fun x w' => x = .returned (.agg #[.string (redN n d), .string (redD n d)]) ∧ KE w' g (kp e (redE n d)) ∧ Kp [g] w w' := by
  have hl := h.lt
  have e1 : Hid (redG n d = binB gcdI n d) := if_neg hs
  have e2 : Hid (redN n d = n) := by show _ = _; unfold redN; rw [ho]; rfl
  have e3 : Hid (redD n d = d) := by show _ = _; unfold redD; rw [ho]; rfl
  have e4 : Hid (redE n d = kp (kp (binE gcdI n d) (kp (chk d.data.toList) 0)) 0) := by
    show _ = _; unfold redE redGE; rw [if_neg hs, ho]; rfl
  have zg := redG_size n d
  have zb := bin_size gcdI n d
  have ho' : ((redG n d).toList == [49]) = true := ho
  clear ho
  have q1 := Lib.hid (fun W E hE => k_divisor g E n d W hE (by omega) (by omega))
  have q2 := Lib.hid (fun W E hE => k_sign g E d W hE (by omega))
  rw [← e1.out] at q1
  generalize redG n d = G at *
  generalize binB gcdI n d = G0 at *
  have b1 := (FrB.made w n d).alloc (.cells #[.string ⟨#[]⟩, .string ⟨#[]⟩] 79 (0, 0))
  have b2 := FrB.made (w.alloc (.cells #[.string n, .string d] 79 (0, 0))) ⟨#[]⟩ ⟨#[]⟩
  rw [World.size_alloc] at b2
  have hE := (h.alloc (.cells #[.string n, .string d] 79 (0, 0))).alloc (.cells #[.string ⟨#[]⟩, .string ⟨#[]⟩] 79 (0, 0))
  have k0 : Kp [g] w ((w.alloc (.cells #[.string n, .string d] 79 (0, 0))).alloc (.cells #[.string ⟨#[]⟩, .string ⟨#[]⟩] 79 (0, 0))) := ((Kp.refl _ _).alloc _).alloc _
  clear h
  go_enter Tryz.func74, Tryz.ntmps74
  go_wp2_with fail
  with_reducible refine (q1.out _ _ hE).mono ?_
  rintro x w1 ⟨rfl, hE1, k1⟩
  have b1' := b1.kept k1 (by simp; omega)
  have b2' := b2.kept k1 (by simp; omega)
  have k01 := k0.trans k1
  clear hE b1 b2 k0 k1 q1
  have c0 := b1'.c0
  have c1 := b1'.c1
  go_wp2_with fail
  with_reducible refine (q2.out _ _ hE1).mono ?_
  rintro x w2 ⟨rfl, hE2, k2⟩
  have b1 := b1'.kept k2 (by simp; omega)
  have b2 := b2'.kept k2 (by simp; omega)
  have kk := k01.trans k2
  clear hE1 b1' b2' k01 k2 q2 c0 c1
  have c0 := b1.c0
  have c1 := b1.c1
  have f0 := b2.f0 0
  have f1 := b2.f0 1
  have z0 := b2.c0
  have z1 := b2.c1
  go_wp2
  have hb3 := b2.set2 (x := n) (y := d)
  have hE3 := ke_set2 hE2 (b := w.heap.size + 1) (by omega) (.string n) (.string d)
  have kk3 := kp_set2 kk (b := w.heap.size + 1) (by omega) (.string n) (.string d)
  generalize (w2.setCell ⟨w.heap.size + 1, 0, none⟩ (.string n)).setCell ⟨w.heap.size + 1, 1, none⟩ (.string d) = W at *
  have d0 := hb3.c0
  have d1 := hb3.c1
  refine bodyPost_ret (v := .agg #[.string n, .string d]) (by simp [results, Tryz.results74, go_sem, d0, d1]) rfl ?_
  exact ⟨by rw [e2.out, e3.out], by rw [e4.out]; simpa only [kp_assoc, kp_right] using hE3, kk3⟩

set_option maxRecDepth 100000 in
set_option maxHeartbeats 4000000 in
theorem k_red_p0 (g : Nat) (e : Int) (n d : ByteArray) (w : World) (h : KE w g e) (hn : n.size ≤ 9223372036854775807) (hd : d.size ≤ 9223372036854775807) (hs : ¬ signI d < 0) (ho : isOne (redG n d) = false) :
    Calls Tryz.prog 74 #[.pointer (some ⟨g, 0, none⟩), .agg #[.string n, .string d]] w fun x w' => x = .returned (.agg #[.string (redN n d), .string (redD n d)]) ∧ KE w' g (kp e (redE n d)) ∧ Kp [g] w w' := by
  have hl := h.lt
  have e1 : Hid (redG n d = binB gcdI n d) := if_neg hs
  have e2 : Hid (redN n d = divB Int.fdiv n (redG n d)) := by show _ = _; unfold redN; rw [ho]; rfl
  have e3 : Hid (redD n d = divB Int.fdiv d (redG n d)) := by show _ = _; unfold redD; rw [ho]; rfl
  have e4 : Hid (redE n d = kp (kp (binE gcdI n d) (kp (chk d.data.toList) 0)) (kp (divE Int.fdiv n (redG n d)) (divE Int.fdiv d (redG n d)))) := by
    show _ = _; unfold redE redGE; rw [if_neg hs, ho]; rfl
  have zg := redG_size n d
  have zb := bin_size gcdI n d
  have ho' : ((redG n d).toList == [49]) = false := ho
  clear ho
  have q1 := Lib.hid (fun W E hE => k_divisor g E n d W hE (by omega) (by omega))
  have q2 := Lib.hid (fun W E hE => k_sign g E d W hE (by omega))
  rw [← e1.out] at q1
  have q4 := Lib.hid (fun W E hE => k_quotient g E n (redG n d) W hE (by omega) (by omega))
  have q5 := Lib.hid (fun W E hE => k_quotient g E d (redG n d) W hE (by omega) (by omega))
  rw [← e2.out] at q4
  rw [← e3.out] at q5
  generalize redG n d = G at *
  generalize binB gcdI n d = G0 at *
  have b1 := (FrB.made w n d).alloc (.cells #[.string ⟨#[]⟩, .string ⟨#[]⟩] 79 (0, 0))
  have b2 := FrB.made (w.alloc (.cells #[.string n, .string d] 79 (0, 0))) ⟨#[]⟩ ⟨#[]⟩
  rw [World.size_alloc] at b2
  have hE := (h.alloc (.cells #[.string n, .string d] 79 (0, 0))).alloc (.cells #[.string ⟨#[]⟩, .string ⟨#[]⟩] 79 (0, 0))
  have k0 : Kp [g] w ((w.alloc (.cells #[.string n, .string d] 79 (0, 0))).alloc (.cells #[.string ⟨#[]⟩, .string ⟨#[]⟩] 79 (0, 0))) := ((Kp.refl _ _).alloc _).alloc _
  clear h
  go_enter Tryz.func74, Tryz.ntmps74
  go_wp2_with fail
  with_reducible refine (q1.out _ _ hE).mono ?_
  rintro x w1 ⟨rfl, hE1, k1⟩
  have b1' := b1.kept k1 (by simp; omega)
  have b2' := b2.kept k1 (by simp; omega)
  have k01 := k0.trans k1
  clear hE b1 b2 k0 k1 q1
  have c0 := b1'.c0
  have c1 := b1'.c1
  go_wp2_with fail
  with_reducible refine (q2.out _ _ hE1).mono ?_
  rintro x w2 ⟨rfl, hE2, k2⟩
  have b1 := b1'.kept k2 (by simp; omega)
  have b2 := b2'.kept k2 (by simp; omega)
  have kk := k01.trans k2
  clear hE1 b1' b2' k01 k2 q2 c0 c1
  have c0 := b1.c0
  have c1 := b1.c1
  have f0 := b2.f0 0
  have f1 := b2.f0 1
  have z0 := b2.c0
  have z1 := b2.c1
  clear f0 f1 z0 z1
  go_wp2_with fail
  go_region_held3 (fun w' => w'.cell? ⟨w.heap.size, 0, none⟩ = some (.string n) ∧ w'.cell? ⟨w.heap.size, 1, none⟩ = some (.string d))
    (first
      | go_keep
      | exact ⟨(FrB.kept (FrB.drew b1) k4 (nmem_one (by omega))).c0, (FrB.kept (FrB.drew b1) k4 (nmem_one (by omega))).c1⟩
      | exact ⟨(FrB.kept (FrB.kept (FrB.drew b1) k4 (nmem_one (by omega))) k5 (nmem_one (by omega))).c0, (FrB.kept (FrB.kept (FrB.drew b1) k4 (nmem_one (by omega))) k5 (nmem_one (by omega))).c1⟩)
    (first
      | (go_at_call 96; with_reducible refine (q4.out _ _ (KE.drew hE2)).mono ?_; rintro x w4 ⟨rfl, hE4, k4⟩)
      | (go_at_call 96; with_reducible refine (q5.out _ _ hE4).mono ?_; rintro x w5 ⟨rfl, hE5, k5⟩; have b2' := FrB.kept (FrB.kept (FrB.drew b2) k4 (nmem_one (by omega))) k5 (nmem_one (by omega)); have f0 := b2'.f0 0; have f1 := b2'.f0 1; have z0 := b2'.c0; have z1 := b2'.c1))
  have hb3 := b2'.set2 (x := redN n d) (y := redD n d)
  have hE6 := ke_set2 hE5 (b := w.heap.size + 1) (by omega) (.string (redN n d)) (.string (redD n d))
  have kk3 := kp_set2 (((Kp.drew kk).trans k4).trans k5) (b := w.heap.size + 1) (by omega) (.string (redN n d)) (.string (redD n d))
  clear f0 f1 z0 z1 b2' k4 k5 kk hE5 hE4
  generalize (w5.setCell ⟨w.heap.size + 1, 0, none⟩ (.string (redN n d))).setCell ⟨w.heap.size + 1, 1, none⟩ (.string (redD n d)) = W at *
  have d0 := hb3.c0
  have d1 := hb3.c1
  go_wp2
  refine bodyPost_ret (v := .agg #[.string (redN n d), .string (redD n d)]) (by simp [results, Tryz.results74, go_sem, d0, d1]) rfl ?_
  exact ⟨rfl, by rw [e4.out]; simpa only [kp_assoc, kp_right] using hE6, kk3⟩

theorem k_reduce (g : Nat) (e : Int) (n d : ByteArray) (w : World) (h : KE w g e) (hn : n.size ≤ 9223372036854775807) (hd : d.size ≤ 9223372036854775807) :
    Calls Tryz.prog 74 #[.pointer (some ⟨g, 0, none⟩), .agg #[.string n, .string d]] w fun x w' => x = .returned (.agg #[.string (redN n d), .string (redD n d)]) ∧ KE w' g (kp e (redE n d)) ∧ Kp [g] w w' := by
  by_cases hs : signI d < 0
  · cases ho : isOne (redG n d) with
    | true => exact k_red_n1 g e n d w h hn hd hs ho
    | false => exact k_red_n0 g e n d w h hn hd hs ho
  · cases ho : isOne (redG n d) with
    | true => exact k_red_p1 g e n d w h hn hd hs ho
    | false => exact k_red_p0 g e n d w h hn hd hs ho
end Go.Proofs.YtiommpdbbpddpaaGreat
