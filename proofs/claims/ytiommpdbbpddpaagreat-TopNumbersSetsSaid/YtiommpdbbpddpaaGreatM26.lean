/- Texts Exp, Exp2, Make: each says in its own first comment what it proves. -/
import Derived.Test.YtiommpdbbpddpaaGreatM25
/- The functions of package ratio that other packages call: sums, differences, products, quotients, for any texts. -/
namespace Go.Proofs.YtiommpdbbpddpaaGreat
open Go.RowKit
open Go.Lib (nDigits itoa decDigits)

/-- the text of a calculated fraction -/
def rT (N D : ByteArray) (E : Int) : ByteArray := if E = 0 then (if isOne D then N else N ++ ⟨#[47]⟩ ++ D) else ⟨#[]⟩

set_option maxRecDepth 100000 in
set_option maxHeartbeats 4000000 in
theorem ofTwo_any (F : Nat) (a b N D : ByteArray) (E : Int) (w : World) (ha : a.size ≤ 9223372036854775807) (hb : b.size ≤ 9223372036854775807) (hN : N.size ≤ 4000000000) (hD : D.size ≤ 4000000000)
    (he : ∀ args w, (callFunc F args).run Tryz.prog w = .ok (.enter F args) w) (q : Calc2 F (cN a) (cD a) (cN b) (cD b) N D E) :
    Calls Tryz.prog 28 #[.string a, .string b, .func (.func F) #[] #[]] w fun x w' => x = .returned (.tuple #[.string (rT N D (kp (spE a) (kp (spE b) E))), .int .i64 (kp (spE a) (kp (spE b) E))]) ∧ Kp [] w w' := by
  have s0 := StB.made w a
  have s1 := StB.made (w.alloc (.cells #[.string a] 24 (0, 0))) b
  have s2 : FnB (((w.alloc (.cells #[.string a] 24 (0, 0))).alloc (.cells #[.string b] 24 (0, 0))).alloc (.cells #[.func (.func F) #[] #[]] 52 (0, 0))) (w.heap.size + 2) F 52 := by
    have := heap_alloc_new ((w.alloc (.cells #[.string a] 24 (0, 0))).alloc (.cells #[.string b] 24 (0, 0))) (.cells #[.func (.func F) #[] #[]] 52 (0, 0))
    rwa [World.size_alloc, World.size_alloc] at this
  rw [World.size_alloc] at s1
  have k0 : Kp [] w (((w.alloc (.cells #[.string a] 24 (0, 0))).alloc (.cells #[.string b] 24 (0, 0))).alloc (.cells #[.func (.func F) #[] #[]] 52 (0, 0))) := (((Kp.refl _ _).alloc _).alloc _).alloc _
  have q1 : Term3 46 w.heap.size (w.heap.size + 1) (w.heap.size + 2) (((w.alloc (.cells #[.string a] 24 (0, 0))).alloc (.cells #[.string b] 24 (0, 0))).alloc (.cells #[.func (.func F) #[] #[]] 52 (0, 0))) N D (kp (spE a) (kp (spE b) E)) := by
    intro W g hE hg hk
    have hg' : w.heap.size + 3 ≤ g := by simpa using hg
    exact ofTwo_in F 52 g _ _ _ a b N D E W hE ha hb (((s0.alloc _).alloc _).kept hk (by simp)) ((s1.alloc _).kept hk (by simp)) (s2.kept hk (by simp)) (by omega) (by omega) (by omega) he q
  have q2 := Lib.hid (result3 46 _ _ _ N D _ _ hN hD (enters_of Tryz.func46 (by kernel_rfl) rfl) q1)
  clear q1 s0 s1 s2
  have hv : Hid (rT N D (kp (spE a) (kp (spE b) E)) = if kp (spE a) (kp (spE b) E) = 0 then (if isOne D then N else N ++ ⟨#[47]⟩ ++ D) else ⟨#[]⟩) := rfl
  rw [← hv.out] at q2
  generalize rT N D (kp (spE a) (kp (spE b) E)) = R at *
  generalize kp (spE a) (kp (spE b) E) = EE at *
  go_enter Tryz.func28, Tryz.ntmps28
  go_wp2_with fail
  with_reducible refine q2.out.mono ?_
  rintro x w1 ⟨rfl, k1⟩
  have kk := k0.trans k1
  go_wp2
  go_ret2
  exact ⟨rfl, kk⟩
end Go.Proofs.YtiommpdbbpddpaaGreat

/- The functions of package ratio that other packages call, for any texts: Add, Sub, Mul, Div, Check, Parts, Sign, Neg, Floor, Make. -/
namespace Go.Proofs.YtiommpdbbpddpaaGreat
open Go.RowKit
open Go.Lib (nDigits itoa decDigits)

theorem redN_size {m : Nat} {n d : ByteArray} (hn : n.size ≤ m) (hm : 4000000000 ≤ m := by decide) : (redN n d).size ≤ m := by
  unfold redN; split
  · exact hn
  · exact Nat.le_trans (div_size4 _ _ _) hm
theorem redD_size {m : Nat} {n d : ByteArray} (hd : d.size ≤ m) (hm : 4000000000 ≤ m := by decide) : (redD n d).size ≤ m := by
  unfold redD; split
  · exact hd
  · exact Nat.le_trans (div_size4 _ _ _) hm
theorem suN_size (n p m q : ByteArray) : (suN n p m q).size ≤ 4000000000 := redN_size (bin_size4 _ _ _)
theorem suD_size (n p m q : ByteArray) : (suD n p m q).size ≤ 4000000000 := redD_size (bin_size4 _ _ _)
theorem diN_size (n p m q : ByteArray) : (diN n p m q).size ≤ 4000000000 := redN_size (bin_size4 _ _ _)
theorem diD_size (n p m q : ByteArray) : (diD n p m q).size ≤ 4000000000 := redD_size (bin_size4 _ _ _)

def qAddE (a b : ByteArray) : Int := kp (spE a) (kp (spE b) (suE (cN a) (cD a) (cN b) (cD b)))
def qAddB (a b : ByteArray) : ByteArray := rT (suN (cN a) (cD a) (cN b) (cD b)) (suD (cN a) (cD a) (cN b) (cD b)) (qAddE a b)
set_option maxRecDepth 100000 in
theorem qAdd_any (a b : ByteArray) (w : World) (ha : a.size ≤ 9223372036854775807) (hb : b.size ≤ 9223372036854775807) :
    Calls Tryz.prog 14 #[.string a, .string b] w fun x w' => x = .returned (.tuple #[.string (qAddB a b), .int .i64 (qAddE a b)]) ∧ Kp [] w w' := by
  have q1 := Lib.hid (ofTwo_any 29 a b (suN (cN a) (cD a) (cN b) (cD b)) (suD (cN a) (cD a) (cN b) (cD b)) (suE (cN a) (cD a) (cN b) (cD b)) w ha hb (suN_size _ _ _ _) (suD_size _ _ _ _) (enters_of Tryz.func29 (by kernel_rfl) rfl)
    (fun W g e h => k_sum g e _ _ _ _ W h (cN_size ha) (cD_size ha) (cN_size hb) (cD_size hb)))
  have e1 : Hid (qAddB a b = rT (suN (cN a) (cD a) (cN b) (cD b)) (suD (cN a) (cD a) (cN b) (cD b)) (kp (spE a) (kp (spE b) (suE (cN a) (cD a) (cN b) (cD b))))) := rfl
  have e2 : Hid (qAddE a b = kp (spE a) (kp (spE b) (suE (cN a) (cD a) (cN b) (cD b)))) := rfl
  rw [← e1.out, ← e2.out] at q1
  generalize qAddB a b = R at *
  generalize qAddE a b = EE at *
  go_enter Tryz.func14, Tryz.ntmps14
  go_wp2_with fail
  with_reducible refine q1.out.mono ?_
  rintro x w1 ⟨rfl, k1⟩
  go_wp2
  go_ret2
  exact ⟨rfl, k1⟩

def qSubE (a b : ByteArray) : Int := kp (spE a) (kp (spE b) (diE (cN a) (cD a) (cN b) (cD b)))
def qSubB (a b : ByteArray) : ByteArray := rT (diN (cN a) (cD a) (cN b) (cD b)) (diD (cN a) (cD a) (cN b) (cD b)) (qSubE a b)
set_option maxRecDepth 100000 in
theorem qSub_any (a b : ByteArray) (w : World) (ha : a.size ≤ 9223372036854775807) (hb : b.size ≤ 9223372036854775807) :
    Calls Tryz.prog 27 #[.string a, .string b] w fun x w' => x = .returned (.tuple #[.string (qSubB a b), .int .i64 (qSubE a b)]) ∧ Kp [] w w' := by
  have q1 := Lib.hid (ofTwo_any 44 a b (diN (cN a) (cD a) (cN b) (cD b)) (diD (cN a) (cD a) (cN b) (cD b)) (diE (cN a) (cD a) (cN b) (cD b)) w ha hb (diN_size _ _ _ _) (diD_size _ _ _ _) (enters_of Tryz.func44 (by kernel_rfl) rfl)
    (fun W g e h => k_difference g e _ _ _ _ W h (cN_size ha) (cD_size ha) (cN_size hb) (cD_size hb)))
  have e1 : Hid (qSubB a b = rT (diN (cN a) (cD a) (cN b) (cD b)) (diD (cN a) (cD a) (cN b) (cD b)) (kp (spE a) (kp (spE b) (diE (cN a) (cD a) (cN b) (cD b))))) := rfl
  have e2 : Hid (qSubE a b = kp (spE a) (kp (spE b) (diE (cN a) (cD a) (cN b) (cD b)))) := rfl
  rw [← e1.out, ← e2.out] at q1
  generalize qSubB a b = R at *
  generalize qSubE a b = EE at *
  go_enter Tryz.func27, Tryz.ntmps27
  go_wp2_with fail
  with_reducible refine q1.out.mono ?_
  rintro x w1 ⟨rfl, k1⟩
  go_wp2
  go_ret2
  exact ⟨rfl, k1⟩

/-! of one text -/




















end Go.Proofs.YtiommpdbbpddpaaGreat

/- Make of package ratio, for any texts. -/
namespace Go.Proofs.YtiommpdbbpddpaaGreat
open Go.RowKit
open Go.Lib (nDigits itoa decDigits)

/-- a block that holds a text of an integer -/
def ItB (w : World) (b : Nat) (s : ByteArray) : Prop := w.heap[b]? = some (.cells #[.string s] 55 (0, 0))
section
variable {w w' : World} {b : Nat} {s : ByteArray} {L : List Nat}
theorem ItB.lt (h : ItB w b s) : b < w.heap.size := (Array.getElem?_eq_some_iff.1 h).1
theorem ItB.c (h : ItB w b s) : w.cell? ⟨b, 0, none⟩ = some (.string s) := by unfold ItB at h; simp [World.cell?, h]
theorem ItB.kept (h : ItB w b s) (k : Kp L w w') (hb : b ∉ L) : ItB w' b s := (k.block b h.lt hb).trans h
theorem ItB.alloc (h : ItB w b s) (o : Obj) : ItB (w.alloc o) b s := (Below.heap_alloc w o b h.lt).trans h
theorem ItB.made (w : World) (s : ByteArray) : ItB (w.alloc (.cells #[.string s] 55 (0, 0))) w.heap.size s := heap_alloc_new w _
end



end Go.Proofs.YtiommpdbbpddpaaGreat
