/- Texts Ends, Two: each says in its own first comment what it proves. -/
import Derived.Test.YtegamkilhgekjaaGreatDoorM28
/- Sum, difference and order of fractions, and the ends of calculations, in package ratio. -/
namespace Go.Proofs.YtegamkilhgekjaaGreatDoor
open Go.RowKit
open Go.Lib (nDigits itoa decDigits)





































































/-- what a calculation that makes a fraction gives -/
def Term2 (c : Nat) (b0 b1 : Nat) (w : World) (N D : ByteArray) (E : Int) : Prop := Hid (∀ (W : World) (g : Nat), KE W g 0 → w.heap.size ≤ g → Kp [] w W → Calls Tryz.prog c #[.pointer (some ⟨g, 0, none⟩), .pointer (some ⟨b0, 0, none⟩), .pointer (some ⟨b1, 0, none⟩)] W fun x w' => x = .returned (.agg #[.string N, .string D]) ∧ KE w' g E ∧ Kp [g] W w')
set_option maxRecDepth 100000 in
set_option maxHeartbeats 4000000 in
theorem result2 (c : Nat) (b0 b1 : Nat) (N D : ByteArray) (E : Int) (w : World) (hN : N.size ≤ 4000000000) (hD : D.size ≤ 4000000000)
    (he : ∀ args w, (callFunc c args).run Tryz.prog w = .ok (.enter c args) w) (q : Term2 c b0 b1 w N D E) :
    Calls Tryz.prog 180 #[.func (.func c) #[] #[.pointer (some ⟨b0, 0, none⟩), .pointer (some ⟨b1, 0, none⟩)]] w fun x w' => x = .returned (.tuple #[.string (if E = 0 then (if isOne D then N else N ++ ⟨#[47]⟩ ++ D) else ⟨#[]⟩), .int .i64 E]) ∧ Kp [] w w' := by
  have h0 : KE (w.alloc (.cells #[.int .i64 0] 150 (0, 0))) w.heap.size 0 := heap_alloc_new w _
  have k0 : Kp [] w (w.alloc (.cells #[.int .i64 0] 150 (0, 0))) := (Kp.refl _ _).alloc _
  have q1 := Lib.hid (q.out _ _ h0 (Nat.le_refl _) k0)
  have q2 := Lib.hid (fun W => frtext_any N D W hN hD)
  clear q h0
  by_cases hE : E = 0
  · subst hE
    rw [if_pos rfl]
    generalize (if isOne D then N else N ++ ⟨#[47]⟩ ++ D) = T at *
    go_enter Tryz.func180, Tryz.ntmps180
    go_wp2_with (go_at_fn c; refine q1.out.mono ?_; rintro x w1 ⟨rfl, h1, k1⟩; have hc := (KE.alloc h1 (.cells #[.string N, .string D] 123 (0, 0))).cell; have hf0 := (FrB.made w1 N D).c0; have hf1 := (FrB.made w1 N D).c1)
    with_reducible refine (q2.out _).mono ?_
    rintro x w2 ⟨rfl, k2⟩
    have kk : Kp [] w w2 := ((k0.step k1 (by simp)).alloc _).trans k2
    go_wp2
    go_ret2
    exact ⟨rfl, kk⟩
  · have hb : (E != 0) = true := by simpa using hE
    rw [if_neg hE]
    clear hE
    go_enter Tryz.func180, Tryz.ntmps180
    go_wp2_with (go_at_fn c; refine q1.out.mono ?_; rintro x w1 ⟨rfl, h1, k1⟩; have hc := (KE.alloc h1 (.cells #[.string N, .string D] 123 (0, 0))).cell)
    go_quiet (fail)
    go_wp2
    go_ret2
    exact ⟨rfl, ((k0.step k1 (by simp)).alloc _).drewN _⟩

/-- what a calculation that makes a fraction gives -/
def Term3 (c : Nat) (b0 b1 b2 : Nat) (w : World) (N D : ByteArray) (E : Int) : Prop := Hid (∀ (W : World) (g : Nat), KE W g 0 → w.heap.size ≤ g → Kp [] w W → Calls Tryz.prog c #[.pointer (some ⟨g, 0, none⟩), .pointer (some ⟨b0, 0, none⟩), .pointer (some ⟨b1, 0, none⟩), .pointer (some ⟨b2, 0, none⟩)] W fun x w' => x = .returned (.agg #[.string N, .string D]) ∧ KE w' g E ∧ Kp [g] W w')
set_option maxRecDepth 100000 in
set_option maxHeartbeats 4000000 in
theorem result3 (c : Nat) (b0 b1 b2 : Nat) (N D : ByteArray) (E : Int) (w : World) (hN : N.size ≤ 4000000000) (hD : D.size ≤ 4000000000)
    (he : ∀ args w, (callFunc c args).run Tryz.prog w = .ok (.enter c args) w) (q : Term3 c b0 b1 b2 w N D E) :
    Calls Tryz.prog 180 #[.func (.func c) #[] #[.pointer (some ⟨b0, 0, none⟩), .pointer (some ⟨b1, 0, none⟩), .pointer (some ⟨b2, 0, none⟩)]] w fun x w' => x = .returned (.tuple #[.string (if E = 0 then (if isOne D then N else N ++ ⟨#[47]⟩ ++ D) else ⟨#[]⟩), .int .i64 E]) ∧ Kp [] w w' := by
  have h0 : KE (w.alloc (.cells #[.int .i64 0] 150 (0, 0))) w.heap.size 0 := heap_alloc_new w _
  have k0 : Kp [] w (w.alloc (.cells #[.int .i64 0] 150 (0, 0))) := (Kp.refl _ _).alloc _
  have q1 := Lib.hid (q.out _ _ h0 (Nat.le_refl _) k0)
  have q2 := Lib.hid (fun W => frtext_any N D W hN hD)
  clear q h0
  by_cases hE : E = 0
  · subst hE
    rw [if_pos rfl]
    generalize (if isOne D then N else N ++ ⟨#[47]⟩ ++ D) = T at *
    go_enter Tryz.func180, Tryz.ntmps180
    go_wp2_with (go_at_fn c; refine q1.out.mono ?_; rintro x w1 ⟨rfl, h1, k1⟩; have hc := (KE.alloc h1 (.cells #[.string N, .string D] 123 (0, 0))).cell; have hf0 := (FrB.made w1 N D).c0; have hf1 := (FrB.made w1 N D).c1)
    with_reducible refine (q2.out _).mono ?_
    rintro x w2 ⟨rfl, k2⟩
    have kk : Kp [] w w2 := ((k0.step k1 (by simp)).alloc _).trans k2
    go_wp2
    go_ret2
    exact ⟨rfl, kk⟩
  · have hb : (E != 0) = true := by simpa using hE
    rw [if_neg hE]
    clear hE
    go_enter Tryz.func180, Tryz.ntmps180
    go_wp2_with (go_at_fn c; refine q1.out.mono ?_; rintro x w1 ⟨rfl, h1, k1⟩; have hc := (KE.alloc h1 (.cells #[.string N, .string D] 123 (0, 0))).cell)
    go_quiet (fail)
    go_wp2
    go_ret2
    exact ⟨rfl, ((k0.step k1 (by simp)).alloc _).drewN _⟩

end Go.Proofs.YtegamkilhgekjaaGreatDoor

/- Blocks that hold captured variables, in package ratio. -/
namespace Go.Proofs.YtegamkilhgekjaaGreatDoor
open Go.RowKit
open Go.Lib (nDigits itoa decDigits)

/-- block b holds a rational's text -/
def StB (w : World) (b : Nat) (s : ByteArray) : Prop := w.heap[b]? = some (.cells #[.string s] 67 (0, 0))
section
variable {w w' : World} {b : Nat} {s : ByteArray} {L : List Nat}
theorem StB.lt (h : StB w b s) : b < w.heap.size := (Array.getElem?_eq_some_iff.1 h).1
theorem StB.c (h : StB w b s) : w.cell? ⟨b, 0, none⟩ = some (.string s) := by unfold StB at h; simp [World.cell?, h]
theorem StB.kept (h : StB w b s) (k : Kp L w w') (hb : b ∉ L) : StB w' b s := (k.block b h.lt hb).trans h
theorem StB.alloc (h : StB w b s) (o : Obj) : StB (w.alloc o) b s := (Below.heap_alloc w o b h.lt).trans h
theorem StB.drew (h : StB w b s) : StB w.drew b s := h
end
theorem StB.made (w : World) (s : ByteArray) : StB (w.alloc (.cells #[.string s] 67 (0, 0))) w.heap.size s := heap_alloc_new w _
/-- block b holds a function value -/
def FnB (w : World) (b F T : Nat) : Prop := w.heap[b]? = some (.cells #[.func (.func F) #[] #[]] T (0, 0))
section
variable {w w' : World} {b F T : Nat} {L : List Nat}
theorem FnB.lt (h : FnB w b F T) : b < w.heap.size := (Array.getElem?_eq_some_iff.1 h).1
theorem FnB.c (h : FnB w b F T) : w.cell? ⟨b, 0, none⟩ = some (.func (.func F) #[] #[]) := by unfold FnB at h; simp [World.cell?, h]
theorem FnB.kept (h : FnB w b F T) (k : Kp L w w') (hb : b ∉ L) : FnB w' b F T := (k.block b h.lt hb).trans h
end

theorem cN_size {m : Nat} {a : ByteArray} (ha : a.size ≤ m) : (cN a).size ≤ m := by unfold cN; rw [ByteArray.size_extract]; omega
theorem cD_size {m : Nat} {a : ByteArray} (ha : a.size ≤ m) (hm : 1 ≤ m := by decide) : (cD a).size ≤ m := by
  unfold cD; split
  · rw [ByteArray.size_extract]; omega
  · exact hm

/-- what a calculation with two fractions gives -/
def Calc2 (F : Nat) (n p m q N D : ByteArray) (E : Int) : Prop := Hid (∀ (W : World) (g : Nat) (e : Int), KE W g e → Calls Tryz.prog F #[.pointer (some ⟨g, 0, none⟩), .agg #[.string n, .string p], .agg #[.string m, .string q]] W fun x w' => x = .returned (.agg #[.string N, .string D]) ∧ KE w' g (kp e E) ∧ Kp [g] W w')
end Go.Proofs.YtegamkilhgekjaaGreatDoor
