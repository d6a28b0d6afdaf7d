/- Texts Reck, Reck2: each says in its own first comment what it proves. -/
import Derived.Test.YtegamkilhgekjaaGreatDoorM46
import Derived.Test.YtegamkilhgekjaaGreatDoorM42
import Derived.Test.YtegamkilhgekjaaGreatDoorM41
/- The keeper of package reckon where no step fails. -/
namespace Go.Proofs.YtegamkilhgekjaaGreatDoor
open Go.RowKit
open Go.Lib (nDigits itoa decDigits)

/-- block g is a keeper with the error e -/
def RE (w : World) (g : Nat) (e : Int) : Prop := w.heap[g]? = some (.cells #[.int .i64 e] 170 (0, 0))
section
variable {w w' : World} {g : Nat} {e : Int} {L : List Nat}
theorem RE.lt (h : RE w g e) : g < w.heap.size := (Array.getElem?_eq_some_iff.1 h).1
theorem RE.cell (h : RE w g e) : w.cell? ⟨g, 0, none⟩ = some (.int .i64 e) := cell_of_one h
theorem RE.free (h : RE w g e) : w.frozen? ⟨g, 0, none⟩ = false := free_of_one h
theorem RE.kept (h : RE w g e) (k : Kp L w w') (hg : g ∉ L) : RE w' g e := (k.block g h.lt hg).trans h
theorem RE.alloc (h : RE w g e) (o : Obj) : RE (w.alloc o) g e := (Below.heap_alloc w o g h.lt).trans h
theorem RE.set (h : RE w g e) (f : Int) : RE (w.setCell ⟨g, 0, none⟩ (.int .i64 f)) g f := by
  unfold RE at *; simp [World.setCell, Array.getElem?_modify, h]
/-- what is stored again changes nothing -/
theorem RE.again (h : RE w g e) : Kp [] w (w.setCell ⟨g, 0, none⟩ (.int .i64 e)) := by
  have h2 := h.set e
  refine ⟨rfl, rfl, rfl, by simp [World.setCell], fun i hi _ => ?_⟩
  by_cases he : i = g
  · subst he; exact h2.trans h.symm
  · exact Below.heap_setCell w ⟨g, 0, none⟩ _ i he
end
set_option maxRecDepth 100000 in
set_option maxHeartbeats 1000000 in
theorem rkeep_0 (g : Nat) (w : World) (h : RE w g 0) :
    Calls Tryz.prog 152 #[.pointer (some ⟨g, 0, none⟩), .int .i64 0] w fun r w' => r = .returned (.tuple #[]) ∧ Kp [] w w' := by
  have hc := h.cell
  have hf := h.free
  have hl := h.lt
  have hk := h.again
  clear h
  go_enter Tryz.func152, Tryz.ntmps152
  go_wp2
  go_end0
  exact ⟨rfl, hk⟩

















/-- what a calculation that does not fail gives -/
def Quiet (c : Nat) (caps : Array Value) (w : World) (v : Value) : Prop := Hid (∀ (W : World) (g : Nat), RE W g 0 → Kp [] w W → Calls Tryz.prog c (#[.pointer (some ⟨g, 0, none⟩)] ++ caps) W fun x w' => x = .returned v ∧ Kp [] W w')















set_option maxRecDepth 100000 in
set_option maxHeartbeats 1000000 in
theorem rresult_rat (c : Nat) (caps : Array Value) (v : ByteArray) (w : World) (he : ∀ args w, (callFunc c args).run Tryz.prog w = .ok (.enter c args) w) (q : Quiet c caps w (.string v)) :
    Calls Tryz.prog 125 #[.func (.func c) #[] caps] w fun x w' => x = .returned (.tuple #[.string v, .int .i64 0]) ∧ Kp [] w w' := by
  have h0 : RE (w.alloc (.cells #[.int .i64 0] 170 (0, 0))) w.heap.size 0 := heap_alloc_new w _
  have k0 : Kp [] w (w.alloc (.cells #[.int .i64 0] 170 (0, 0))) := (Kp.refl _ _).alloc _
  have q1 := Lib.hid (q.out _ _ h0 k0)
  have H0 := Lib.hid h0
  clear q h0
  go_enter Tryz.func125, Tryz.ntmps125
  go_wp2_with (go_at_fn c; refine q1.out.mono ?_; rintro x w1 ⟨rfl, k1⟩; have hc := (H0.out.kept k1 (by simp)).cell)
  go_ret2
  exact ⟨rfl, k0.trans k1⟩

end Go.Proofs.YtegamkilhgekjaaGreatDoor

/- Parts, Quotient, Whole, Of, Product and Sum of the keeper of package reckon, where no step fails. -/
namespace Go.Proofs.YtegamkilhgekjaaGreatDoor
open Go.RowKit
open Go.Lib (nDigits itoa decDigits)

set_option maxRecDepth 100000 in
set_option maxHeartbeats 1000000 in
theorem rparts_0 (g : Nat) (a n d : ByteArray) (w : World) (h : RE w g 0) (q : Hid (∀ W : World, Calls Tryz.prog 223 #[.string a] W fun e w' => e = .returned (.tuple #[.string n, .string d, .int .i64 0]) ∧ Kp [] W w')) :
    Calls Tryz.prog 204 #[.pointer (some ⟨g, 0, none⟩), .string a] w fun e w' => e = .returned (.tuple #[.string n, .string d]) ∧ Kp [] w w' := by
  go_enter Tryz.func204, Tryz.ntmps204
  go_wp2_with fail
  with_reducible refine (q.out _).mono ?_
  rintro e w1 ⟨rfl, k⟩
  have h1 := Lib.hid (rkeep_0 g w1 (h.kept k (by simp)))
  clear h q
  go_wp2_with fail
  with_reducible refine h1.out.mono ?_
  rintro e w2 ⟨rfl, k2⟩
  go_wp2
  go_ret2
  exact ⟨rfl, k.trans k2⟩

set_option maxRecDepth 100000 in
set_option maxHeartbeats 1000000 in
theorem rquot_0 (g : Nat) (a b c : ByteArray) (w : World) (h : RE w g 0) (q : Hid (∀ W : World, Calls Tryz.prog 225 #[.string a, .string b] W fun e w' => e = .returned (.tuple #[.string c, .int .i64 0]) ∧ Kp [] W w')) :
    Calls Tryz.prog 209 #[.pointer (some ⟨g, 0, none⟩), .string a, .string b] w fun e w' => e = .returned (.string c) ∧ Kp [] w w' := by
  go_enter Tryz.func209, Tryz.ntmps209
  go_wp2_with fail
  with_reducible refine (q.out _).mono ?_
  rintro e w1 ⟨rfl, k⟩
  have h1 := Lib.hid (rkeep_0 g w1 (h.kept k (by simp)))
  clear h q
  go_wp2_with fail
  with_reducible refine h1.out.mono ?_
  rintro e w2 ⟨rfl, k2⟩
  go_wp2
  go_ret
  exact ⟨rfl, k.trans k2⟩

set_option maxRecDepth 100000 in
set_option maxHeartbeats 1000000 in
theorem rwhole_0 (F g : Nat) (a b c : ByteArray) (w : World) (h : RE w g 0) (q : Hid (∀ W : World, Calls Tryz.prog F #[.string a, .string b] W fun e w' => e = .returned (.tuple #[.string c, .int .i64 0]) ∧ Kp [] W w')) (he : ∀ args w, (callFunc F args).run Tryz.prog w = .ok (.enter F args) w) :
    Calls Tryz.prog 205 #[.pointer (some ⟨g, 0, none⟩), .func (.func F) #[] #[], .string a, .string b] w fun e w' => e = .returned (.string c) ∧ Kp [] w w' := by
  go_enter Tryz.func205, Tryz.ntmps205
  go_wp2_with (go_at_fn F; refine (q.out _).mono ?_; rintro x w1 ⟨rfl, k⟩)
  have h1 := Lib.hid (rkeep_0 g w1 (h.kept k (by simp)))
  clear h q
  go_wp2_with fail
  with_reducible refine h1.out.mono ?_
  rintro e w2 ⟨rfl, k2⟩
  go_wp2
  go_ret
  exact ⟨rfl, k.trans k2⟩

set_option maxRecDepth 100000 in
set_option maxHeartbeats 1000000 in
theorem rof_0 (F g : Nat) (a b c : ByteArray) (w : World) (h : RE w g 0) (q : Hid (∀ W : World, Calls Tryz.prog F #[.string a, .string b] W fun e w' => e = .returned (.tuple #[.string c, .int .i64 0]) ∧ Kp [] W w')) (he : ∀ args w, (callFunc F args).run Tryz.prog w = .ok (.enter F args) w) :
    Calls Tryz.prog 127 #[.pointer (some ⟨g, 0, none⟩), .func (.func F) #[] #[], .string a, .string b] w fun e w' => e = .returned (.string c) ∧ Kp [] w w' := by
  go_enter Tryz.func127, Tryz.ntmps127
  go_wp2_with (go_at_fn F; refine (q.out _).mono ?_; rintro x w1 ⟨rfl, k⟩)
  have h1 := Lib.hid (rkeep_0 g w1 (h.kept k (by simp)))
  clear h q
  go_wp2_with fail
  with_reducible refine h1.out.mono ?_
  rintro e w2 ⟨rfl, k2⟩
  go_wp2
  go_ret
  exact ⟨rfl, k.trans k2⟩

/-- a call of the keeper's that does not fail -/
def QK (g n : Nat) (args : Array Value) (v : Value) : Prop := ∀ W : World, RE W g 0 → Calls Tryz.prog n args W fun e w' => e = .returned v ∧ Kp [] W w'

set_option maxRecDepth 100000 in
set_option maxHeartbeats 1000000 in
theorem rtimes_0 (g : Nat) (a b c : ByteArray) (w : World) (h : RE w g 0) (q : Hid (QK g 205 #[.pointer (some ⟨g, 0, none⟩), .func (.func 174) #[] #[], .string a, .string b] (.string c))) :
    Calls Tryz.prog 208 #[.pointer (some ⟨g, 0, none⟩), .string a, .string b] w fun e w' => e = .returned (.string c) ∧ Kp [] w w' := by
  unfold QK at q
  go_enter Tryz.func208, Tryz.ntmps208
  go_wp2_with fail
  with_reducible refine (q.out _ h).mono ?_
  rintro e w1 ⟨rfl, k⟩
  go_wp2
  go_ret
  exact ⟨rfl, k⟩
set_option maxRecDepth 100000 in
set_option maxHeartbeats 1000000 in
theorem rplus_0 (g : Nat) (a b c : ByteArray) (w : World) (h : RE w g 0) (q : Hid (QK g 205 #[.pointer (some ⟨g, 0, none⟩), .func (.func 224) #[] #[], .string a, .string b] (.string c))) :
    Calls Tryz.prog 207 #[.pointer (some ⟨g, 0, none⟩), .string a, .string b] w fun e w' => e = .returned (.string c) ∧ Kp [] w w' := by
  unfold QK at q
  go_enter Tryz.func207, Tryz.ntmps207
  go_wp2_with fail
  with_reducible refine (q.out _ h).mono ?_
  rintro e w1 ⟨rfl, k⟩
  go_wp2
  go_ret
  exact ⟨rfl, k⟩
set_option maxRecDepth 100000 in
set_option maxHeartbeats 1000000 in
theorem rover_0 (g : Nat) (a b c : ByteArray) (w : World) (h : RE w g 0) (q : Hid (QK g 205 #[.pointer (some ⟨g, 0, none⟩), .func (.func 222) #[] #[], .string a, .string b] (.string c))) :
    Calls Tryz.prog 206 #[.pointer (some ⟨g, 0, none⟩), .string a, .string b] w fun e w' => e = .returned (.string c) ∧ Kp [] w w' := by
  unfold QK at q
  go_enter Tryz.func206, Tryz.ntmps206
  go_wp2_with fail
  with_reducible refine (q.out _ h).mono ?_
  rintro e w1 ⟨rfl, k⟩
  go_wp2
  go_ret
  exact ⟨rfl, k⟩

set_option maxRecDepth 100000 in
set_option maxHeartbeats 4000000 in
theorem rprod_core (g : Nat) (x y n p m q u v n2 q2 m2 p2 s t r : ByteArray) (w : World) (h : RE w g 0)
    (a1 : Hid (QK g 204 #[.pointer (some ⟨g, 0, none⟩), .string x] (.tuple #[.string n, .string p])))
    (a2 : Hid (QK g 204 #[.pointer (some ⟨g, 0, none⟩), .string y] (.tuple #[.string m, .string q])))
    (a3 : Hid (QK g 209 #[.pointer (some ⟨g, 0, none⟩), .string n, .string q] (.string u)))
    (a4 : Hid (QK g 209 #[.pointer (some ⟨g, 0, none⟩), .string m, .string p] (.string v)))
    (a5 : Hid (QK g 204 #[.pointer (some ⟨g, 0, none⟩), .string u] (.tuple #[.string n2, .string q2])))
    (a6 : Hid (QK g 204 #[.pointer (some ⟨g, 0, none⟩), .string v] (.tuple #[.string m2, .string p2])))
    (a7 : Hid (QK g 208 #[.pointer (some ⟨g, 0, none⟩), .string n2, .string m2] (.string s)))
    (a8 : Hid (QK g 208 #[.pointer (some ⟨g, 0, none⟩), .string p2, .string q2] (.string t)))
    (a9 : Hid (QK g 209 #[.pointer (some ⟨g, 0, none⟩), .string s, .string t] (.string r))) :
    Calls Tryz.prog 185 #[.pointer (some ⟨g, 0, none⟩), .string x, .string y] w fun e w' => e = .returned (.string r) ∧ Kp [] w w' := by
  unfold QK at a1 a2 a3 a4 a5 a6 a7 a8 a9
  have kk := Kp.refl [] w
  go_enter Tryz.func185, Tryz.ntmps185
  go_wp2_with fail
  with_reducible refine (a1.out _ (h.kept kk (by simp))).mono ?_
  rintro e w1 ⟨rfl, k⟩
  replace kk := kk.trans k; clear k
  go_wp2_with fail
  with_reducible refine (a2.out _ (h.kept kk (by simp))).mono ?_
  rintro e w2 ⟨rfl, k⟩
  replace kk := kk.trans k; clear k
  go_wp2_with fail
  with_reducible refine (a3.out _ (h.kept kk (by simp))).mono ?_
  rintro e w3 ⟨rfl, k⟩
  replace kk := kk.trans k; clear k
  go_wp2_with fail
  with_reducible refine (a4.out _ (h.kept kk (by simp))).mono ?_
  rintro e w4 ⟨rfl, k⟩
  replace kk := kk.trans k; clear k
  go_wp2_with fail
  with_reducible refine (a5.out _ (h.kept kk (by simp))).mono ?_
  rintro e w5 ⟨rfl, k⟩
  replace kk := kk.trans k; clear k
  go_wp2_with fail
  with_reducible refine (a6.out _ (h.kept kk (by simp))).mono ?_
  rintro e w6 ⟨rfl, k⟩
  replace kk := kk.trans k; clear k
  go_wp2_with fail
  with_reducible refine (a7.out _ (h.kept kk (by simp))).mono ?_
  rintro e w7 ⟨rfl, k⟩
  replace kk := kk.trans k; clear k
  go_wp2_with fail
  with_reducible refine (a8.out _ (h.kept kk (by simp))).mono ?_
  rintro e w8 ⟨rfl, k⟩
  replace kk := kk.trans k; clear k
  go_wp2_with fail
  with_reducible refine (a9.out _ (h.kept kk (by simp))).mono ?_
  rintro e w9 ⟨rfl, k⟩
  replace kk := kk.trans k; clear k
  go_wp2
  go_ret
  exact ⟨rfl, kk⟩

set_option maxRecDepth 100000 in
set_option maxHeartbeats 4000000 in
theorem rsum_core (g : Nat) (x y n p m q c mo ot s1 s2 s3 s4 r : ByteArray) (w : World) (h : RE w g 0)
    (a1 : Hid (QK g 204 #[.pointer (some ⟨g, 0, none⟩), .string x] (.tuple #[.string n, .string p])))
    (a2 : Hid (QK g 204 #[.pointer (some ⟨g, 0, none⟩), .string y] (.tuple #[.string m, .string q])))
    (a3 : Hid (QK g 205 #[.pointer (some ⟨g, 0, none⟩), .func (.func 195) #[] #[], .string p, .string q] (.string c)))
    (a4 : Hid (QK g 206 #[.pointer (some ⟨g, 0, none⟩), .string q, .string c] (.string mo)))
    (a5 : Hid (QK g 206 #[.pointer (some ⟨g, 0, none⟩), .string p, .string c] (.string ot)))
    (a6 : Hid (QK g 208 #[.pointer (some ⟨g, 0, none⟩), .string n, .string mo] (.string s1)))
    (a7 : Hid (QK g 208 #[.pointer (some ⟨g, 0, none⟩), .string m, .string ot] (.string s2)))
    (a8 : Hid (QK g 207 #[.pointer (some ⟨g, 0, none⟩), .string s1, .string s2] (.string s3)))
    (a9 : Hid (QK g 208 #[.pointer (some ⟨g, 0, none⟩), .string p, .string mo] (.string s4)))
    (a10 : Hid (QK g 209 #[.pointer (some ⟨g, 0, none⟩), .string s3, .string s4] (.string r))) :
    Calls Tryz.prog 184 #[.pointer (some ⟨g, 0, none⟩), .string x, .string y] w fun e w' => e = .returned (.string r) ∧ Kp [] w w' := by
  unfold QK at a1 a2 a3 a4 a5 a6 a7 a8 a9 a10
  have kk := Kp.refl [] w
  go_enter Tryz.func184, Tryz.ntmps184
  go_wp2_with fail
  with_reducible refine (a1.out _ (h.kept kk (by simp))).mono ?_
  rintro e w1 ⟨rfl, k⟩
  replace kk := kk.trans k; clear k
  go_wp2_with fail
  with_reducible refine (a2.out _ (h.kept kk (by simp))).mono ?_
  rintro e w2 ⟨rfl, k⟩
  replace kk := kk.trans k; clear k
  go_wp2_with fail
  with_reducible refine (a3.out _ (h.kept kk (by simp))).mono ?_
  rintro e w3 ⟨rfl, k⟩
  replace kk := kk.trans k; clear k
  go_wp2_with fail
  with_reducible refine (a4.out _ (h.kept kk (by simp))).mono ?_
  rintro e w4 ⟨rfl, k⟩
  replace kk := kk.trans k; clear k
  go_wp2_with fail
  with_reducible refine (a5.out _ (h.kept kk (by simp))).mono ?_
  rintro e w5 ⟨rfl, k⟩
  replace kk := kk.trans k; clear k
  go_wp2_with fail
  with_reducible refine (a6.out _ (h.kept kk (by simp))).mono ?_
  rintro e w6 ⟨rfl, k⟩
  replace kk := kk.trans k; clear k
  go_wp2_with fail
  with_reducible refine (a7.out _ (h.kept kk (by simp))).mono ?_
  rintro e w7 ⟨rfl, k⟩
  replace kk := kk.trans k; clear k
  go_wp2_with fail
  with_reducible refine (a8.out _ (h.kept kk (by simp))).mono ?_
  rintro e w8 ⟨rfl, k⟩
  replace kk := kk.trans k; clear k
  go_wp2_with fail
  with_reducible refine (a9.out _ (h.kept kk (by simp))).mono ?_
  rintro e w9 ⟨rfl, k⟩
  replace kk := kk.trans k; clear k
  go_wp2_with fail
  with_reducible refine (a10.out _ (h.kept kk (by simp))).mono ?_
  rintro e w10 ⟨rfl, k⟩
  replace kk := kk.trans k; clear k
  go_wp2
  go_ret
  exact ⟨rfl, kk⟩

section
variable {j k : Nat} {x y : Rat} {g : Nat}
theorem kparts (hx : Sm j x) (hj : j ≤ 1024) : Hid (QK g 204 #[.pointer (some ⟨g, 0, none⟩), .string (RS x)] (.tuple #[.string (S x.num), .string (S (x.den : Int))])) :=
  fun W h => rparts_0 g _ _ _ W h (fun W' => parts_c hx hj W')
theorem kquot {n d : Int} (hn : Ok n) (hd : Ok d) (h0 : d ≠ 0) : Hid (QK g 209 #[.pointer (some ⟨g, 0, none⟩), .string (S n), .string (S d)] (.string (RS (Rat.divInt n d)))) :=
  fun W h => rquot_0 g _ _ _ W h (fun W' => make_c hn hd h0 W')
theorem kmul {a b : Int} (ha : Ok a) (hb : Ok b) (h : Ok (a * b)) : Hid (QK g 208 #[.pointer (some ⟨g, 0, none⟩), .string (S a), .string (S b)] (.string (S (a * b)))) :=
  fun W h1 => rtimes_0 g _ _ _ W h1 (fun W h1 => rwhole_0 174 g _ _ _ W h1 (fun W' => by
    have c := Mul_any (S a) (S b) W' (Nat.le_trans ha.size (by omega)) (Nat.le_trans hb.size (by omega))
    rwa [(bin_S ha hb).1, (bin_S ha hb).2, resB_ok h, resE_ok h] at c) (enters_of Tryz.func174 (by kernel_rfl) rfl))
theorem kadd {a b : Int} (ha : Ok a) (hb : Ok b) (h : Ok (a + b)) : Hid (QK g 207 #[.pointer (some ⟨g, 0, none⟩), .string (S a), .string (S b)] (.string (S (a + b)))) :=
  fun W h1 => rplus_0 g _ _ _ W h1 (fun W h1 => rwhole_0 224 g _ _ _ W h1 (fun W' => by
    have c := Add_any (S a) (S b) W' (Nat.le_trans ha.size (by omega)) (Nat.le_trans hb.size (by omega))
    rwa [(bin_S ha hb).1, (bin_S ha hb).2, resB_ok h, resE_ok h] at c) (enters_of Tryz.func224 (by kernel_rfl) rfl))
theorem kgcd {a b : Int} (ha : Ok a) (hb : Ok b) (h : Ok (gcdI a b)) : Hid (QK g 205 #[.pointer (some ⟨g, 0, none⟩), .func (.func 195) #[] #[], .string (S a), .string (S b)] (.string (S (gcdI a b)))) :=
  fun W h1 => rwhole_0 195 g _ _ _ W h1 (fun W' => by
    have c := Gcd_any (S a) (S b) W' (gcd_texts _ _) (Nat.le_trans ha.size (by omega)) (Nat.le_trans hb.size (by omega))
    rwa [(bin_S ha hb).1, (bin_S ha hb).2, resB_ok h, resE_ok h] at c) (enters_of Tryz.func195 (by kernel_rfl) rfl)
theorem kquo {a b : Int} (ha : Ok a) (hb : Ok b) (h0 : b ≠ 0) (h : Ok (a.fdiv b)) : Hid (QK g 206 #[.pointer (some ⟨g, 0, none⟩), .string (S a), .string (S b)] (.string (S (a.fdiv b)))) :=
  fun W h1 => rover_0 g _ _ _ W h1 (fun W h1 => rwhole_0 222 g _ _ _ W h1 (fun W' => by
    have c := Quo_any (S a) (S b) W' (takeOut_texts _ _) (Nat.le_trans ha.size (by omega)) (Nat.le_trans hb.size (by omega))
    have e1 : divB Int.fdiv (S a) (S b) = S (a.fdiv b) := by
      unfold divB
      rw [if_pos (chkL_S2 ha hb), valS_S, valS_S, if_neg h0, resB_ok h]
    have e2 : divE Int.fdiv (S a) (S b) = 0 := by
      unfold divE
      rw [if_pos (chkL_S2 ha hb), valS_S, valS_S, if_neg h0, resE_ok h]
    rwa [e1, e2] at c) (enters_of Tryz.func222 (by kernel_rfl) rfl))
/-- PRODUCT -/
theorem kprod (hx : Sm j x) (hy : Sm k y) (hjk : j + k + (j + k) ≤ 1024) (w : World) (h : RE w g 0) :
    Calls Tryz.prog 185 #[.pointer (some ⟨g, 0, none⟩), .string (RS x), .string (RS y)] w fun e w' => e = .returned (.string (RS (x * y))) ∧ Kp [] w w' := by
  have hd1 : (y.den : Int) ≠ 0 := by have := y.den_pos; omega
  have hd2 : (x.den : Int) ≠ 0 := by have := x.den_pos; omega
  have ox := hx.ok (by omega)
  have oy := hy.ok (by omega)
  have hu : Sm (j + k) (Rat.divInt x.num (y.den : Int)) := ⟨Nat.lt_of_le_of_lt (num_le hd1) (Nat.lt_of_lt_of_le hx.1 (Nat.pow_le_pow_right (by omega) (by omega))), Nat.lt_of_le_of_lt (den_le hd1) (by rw [Int.natAbs_natCast]; exact Nat.lt_of_lt_of_le hy.2 (Nat.pow_le_pow_right (by omega) (by omega)))⟩
  have hv : Sm (j + k) (Rat.divInt y.num (x.den : Int)) := ⟨Nat.lt_of_le_of_lt (num_le hd2) (Nat.lt_of_lt_of_le hy.1 (Nat.pow_le_pow_right (by omega) (by omega))), Nat.lt_of_le_of_lt (den_le hd2) (by rw [Int.natAbs_natCast]; exact Nat.lt_of_lt_of_le hx.2 (Nat.pow_le_pow_right (by omega) (by omega)))⟩
  have ou := hu.ok (by omega)
  have ov := hv.ok (by omega)
  have e : Rat.divInt ((Rat.divInt x.num (y.den : Int)).num * (Rat.divInt y.num (x.den : Int)).num) (((Rat.divInt y.num (x.den : Int)).den : Int) * ((Rat.divInt x.num (y.den : Int)).den : Int)) = x * y := by
    rw [Int.mul_comm ((Rat.divInt y.num (x.den : Int)).den : Int), ← mul_RS, Rat.divInt_mul_divInt _ _, Int.mul_comm (y.den : Int), ← mul_RS]
  rw [← e]
  have o1 := ok_pow (hu.nn hv) hjk
  have o2 := ok_pow (hv.dd hu) hjk
  exact rprod_core g _ _ _ _ _ _ _ _ _ _ _ _ _ _ _ w h (kparts hx (by omega)) (kparts hy (by omega)) (kquot ox.1 oy.2 hd1) (kquot oy.1 ox.2 hd2) (kparts hu (by omega)) (kparts hv (by omega))
    (kmul ou.1 ov.1 o1) (kmul ov.2 ou.2 o2) (kquot o1 o2 (den_nz _ _))
/-- SUM -/
theorem ksum (hx : Sm j x) (hy : Sm k y) (hjk : j + k < 1024) (w : World) (h : RE w g 0) :
    Calls Tryz.prog 184 #[.pointer (some ⟨g, 0, none⟩), .string (RS x), .string (RS y)] w fun e w' => e = .returned (.string (RS (x + y))) ∧ Kp [] w w' := by
  have px := x.den_pos
  have py := y.den_pos
  have ox := hx.ok (by omega)
  have oy := hy.ok (by omega)
  obtain ⟨c, hc⟩ : ∃ c : Nat, c = Nat.gcd y.den x.den := ⟨_, rfl⟩
  have hgc : gcdI (x.den : Int) (y.den : Int) = (c : Int) := by rw [gcdI_eq, hc]; rfl
  have pc : 0 < c := by rw [hc]; exact Nat.gcd_pos_of_pos_left _ py
  obtain ⟨a, ha⟩ : c ∣ x.den := by rw [hc]; exact Nat.gcd_dvd_right _ _
  obtain ⟨b, hb⟩ : c ∣ y.den := by rw [hc]; exact Nat.gcd_dvd_left _ _
  have pa : 0 < a := Nat.pos_of_ne_zero (fun e => by rw [e, Nat.mul_zero] at ha; omega)
  have pb : 0 < b := Nat.pos_of_ne_zero (fun e => by rw [e, Nat.mul_zero] at hb; omega)
  have ea : (x.den : Int).fdiv (c : Int) = (a : Int) := by
    rw [Int.fdiv_eq_ediv_of_nonneg _ (by omega), ha, Int.natCast_mul, Int.mul_ediv_cancel_left _ (by omega)]
  have eb : (y.den : Int).fdiv (c : Int) = (b : Int) := by
    rw [Int.fdiv_eq_ediv_of_nonneg _ (by omega), hb, Int.natCast_mul, Int.mul_ediv_cancel_left _ (by omega)]
  have lea : a ≤ x.den := by rw [ha]; exact Nat.le_mul_of_pos_left _ pc
  have leb : b ≤ y.den := by rw [hb]; exact Nat.le_mul_of_pos_left _ pc
  have lec : c ≤ x.den := by rw [ha]; exact Nat.le_mul_of_pos_right _ pa
  have oc : Ok (c : Int) := ok_pow (k := j) (by rw [Int.natAbs_natCast]; exact Nat.lt_of_le_of_lt lec hx.2) (by omega)
  have oa : Ok (a : Int) := ok_pow (k := j) (by rw [Int.natAbs_natCast]; exact Nat.lt_of_le_of_lt lea hx.2) (by omega)
  have ob : Ok (b : Int) := ok_pow (k := k) (by rw [Int.natAbs_natCast]; exact Nat.lt_of_le_of_lt leb hy.2) (by omega)
  have b1 : (x.num * (b : Int)).natAbs < 10 ^ (j + k) := mulI_lt hx.1 (by rw [Int.natAbs_natCast]; exact Nat.lt_of_le_of_lt leb hy.2)
  have b2 : (y.num * (a : Int)).natAbs < 10 ^ (j + k) := by rw [Nat.add_comm j k]; exact mulI_lt hy.1 (by rw [Int.natAbs_natCast]; exact Nat.lt_of_le_of_lt lea hx.2)
  have b3 : ((x.den : Int) * (b : Int)).natAbs < 10 ^ (j + k) := mulI_lt (by rw [Int.natAbs_natCast]; exact hx.2) (by rw [Int.natAbs_natCast]; exact Nat.lt_of_le_of_lt leb hy.2)
  have o1 := ok_pow b1 (by omega)
  have o2 := ok_pow b2 (by omega)
  have o3 := ok_pow (addI_lt b1 b2) (by omega)
  have o4 := ok_pow b3 (by omega)
  have hz : (x.den : Int) * (b : Int) ≠ 0 := Int.mul_ne_zero (by omega) (by omega)
  have e : Rat.divInt (x.num * (b : Int) + y.num * (a : Int)) ((x.den : Int) * (b : Int)) = x + y := by
    rw [add_RS]
    refine (Rat.divInt_eq_divInt_iff hz (den_nz x y)).2 ?_
    have ea' : (x.den : Int) = (c : Int) * (a : Int) := by rw [ha, Int.natCast_mul]
    have eb' : (y.den : Int) = (c : Int) * (b : Int) := by rw [hb, Int.natCast_mul]
    rw [ea', eb']
    grind
  have g1 := kgcd (g := g) ox.2 oy.2 (by rw [hgc]; exact oc)
  rw [hgc] at g1
  have g2 := kquo (g := g) oy.2 oc (by omega) (by rw [eb]; exact ob)
  rw [eb] at g2
  have g3 := kquo (g := g) ox.2 oc (by omega) (by rw [ea]; exact oa)
  rw [ea] at g3
  rw [← e]
  exact rsum_core g _ _ _ _ _ _ _ _ _ _ _ _ _ _ w h (kparts hx (by omega)) (kparts hy (by omega)) g1 g2 g3 (kmul ox.1 ob o1) (kmul oy.1 oa o2) (kadd o1 o2 o3) (kmul ox.2 ob o4) (kquot o3 o4 hz)
end

end Go.Proofs.YtegamkilhgekjaaGreatDoor
