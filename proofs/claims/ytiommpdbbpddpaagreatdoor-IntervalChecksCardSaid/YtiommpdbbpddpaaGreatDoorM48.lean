/- Texts Iw1: each says in its own first comment what it proves. -/
import Derived.Test.YtiommpdbbpddpaaGreatDoorM27
import Derived.Test.YtiommpdbbpddpaaGreatDoorM50
import Derived.Test.YtiommpdbbpddpaaGreatDoorM47
/- Of and Width of package interval; the reference's Of, Width and Middle. -/
namespace Go.Proofs.YtiommpdbbpddpaaGreatDoor
open Go.RowKit
open Go.Lib (nDigits itoa decDigits)

attribute [local go_sem ↓] Go.wp_at_zero Go.wp_at_succ

set_option maxRecDepth 100000 in
set_option maxHeartbeats 4000000 in
theorem iOf_g (n m : Int) (hnm : m < n) (w : World) :
    Calls Tryz.prog 6 #[.int .i64 n, .int .i64 m] w fun r w' => r = .returned (.tuple #[.agg #[.string ⟨#[]⟩, .string ⟨#[]⟩], .int .i64 9]) ∧ Kp [] w w' := by
  have sr := SpB.made w ⟨#[]⟩ ⟨#[]⟩
  have kk : Kp [] w (w.alloc (.cells #[.string ⟨#[]⟩, .string ⟨#[]⟩] 24 (0, 0))) := (Kp.refl _ _).alloc _
  have d0 := sr.c0
  have d1 := sr.c1
  have kf := kk
  clear sr kk
  go_enter Tryz.func6, Tryz.ntmps6
  go_wp2
  refine bodyPost_ret (v := .tuple #[.agg #[.string ⟨#[]⟩, .string ⟨#[]⟩], .int .i64 9]) (by simp [results, Tryz.results6, go_sem, d0, d1]) rfl ?_
  exact ⟨rfl, kf⟩

set_option maxRecDepth 100000 in
set_option maxHeartbeats 4000000 in
theorem iOf_l (n m : Int) (hnm : ¬ m < n) (u v : ByteArray) (w : World) (q1 : Hid (∀ W : World, Kp [] w W → Calls Tryz.prog 23 #[.int .i64 n] W fun e w' => e = .returned (.string u) ∧ Kp [] W w')) (q2 : Hid (∀ W : World, Kp [] w W → Calls Tryz.prog 23 #[.int .i64 m] W fun e w' => e = .returned (.string v) ∧ Kp [] W w')) :
    Calls Tryz.prog 6 #[.int .i64 n, .int .i64 m] w fun r w' => r = .returned (.tuple #[.agg #[.string u, .string v], .int .i64 0]) ∧ Kp [] w w' := by
  have sr := SpB.made w ⟨#[]⟩ ⟨#[]⟩
  have kk : Kp [] w (w.alloc (.cells #[.string ⟨#[]⟩, .string ⟨#[]⟩] 24 (0, 0))) := (Kp.refl _ _).alloc _
  go_enter Tryz.func6, Tryz.ntmps6
  go_wp2_with fail
  with_reducible refine (q1.out _ kk).mono ?_
  rintro r w1 ⟨rfl, k⟩
  replace sr := sr.kept k (by simp)
  replace kk := kk.trans k
  clear k q1
  go_wp2_with fail
  with_reducible refine (q2.out _ kk).mono ?_
  rintro r w2 ⟨rfl, k⟩
  replace sr := sr.kept k (by simp)
  replace kk := kk.trans k
  clear k q2
  have x0 := sr.c0
  have x1 := sr.c1
  have y0 := sr.f 0
  have y1 := sr.f 1
  have z := sr.set2 u v
  have d0 := z.c0
  have d1 := z.c1
  have kf := kp_set2 kk (b := w.heap.size) (by omega) (.string u) (.string v)
  clear sr z kk
  go_wp2
  refine bodyPost_ret (v := .tuple #[.agg #[.string u, .string v], .int .i64 0]) (by simp [results, Tryz.results6, go_sem, d0, d1]) rfl ?_
  exact ⟨rfl, kf⟩

set_option maxRecDepth 100000 in
set_option maxHeartbeats 4000000 in
theorem r3Of_g (n m : Int) (hnm : m < n) (w : World) :
    Calls Tryz.prog 7 #[.int .i64 n, .int .i64 m] w fun r w' => r = .returned (.tuple #[.agg #[.string ⟨#[]⟩, .string ⟨#[]⟩], .int .i64 9]) ∧ Kp [] w w' := by
  have sr := SpB.made w ⟨#[]⟩ ⟨#[]⟩
  have kk : Kp [] w (w.alloc (.cells #[.string ⟨#[]⟩, .string ⟨#[]⟩] 24 (0, 0))) := (Kp.refl _ _).alloc _
  have d0 := sr.c0
  have d1 := sr.c1
  have kf := kk
  clear sr kk
  go_enter Tryz.func7, Tryz.ntmps7
  go_wp2
  refine bodyPost_ret (v := .tuple #[.agg #[.string ⟨#[]⟩, .string ⟨#[]⟩], .int .i64 9]) (by simp [results, Tryz.results7, go_sem, d0, d1]) rfl ?_
  exact ⟨rfl, kf⟩

set_option maxRecDepth 100000 in
set_option maxHeartbeats 4000000 in
theorem r3Of_l (n m : Int) (hnm : ¬ m < n) (u v : ByteArray) (w : World) (q1 : Hid (∀ W : World, Kp [] w W → Calls Tryz.prog 24 #[.int .i64 n] W fun e w' => e = .returned (.string u) ∧ Kp [] W w')) (q2 : Hid (∀ W : World, Kp [] w W → Calls Tryz.prog 24 #[.int .i64 m] W fun e w' => e = .returned (.string v) ∧ Kp [] W w')) :
    Calls Tryz.prog 7 #[.int .i64 n, .int .i64 m] w fun r w' => r = .returned (.tuple #[.agg #[.string u, .string v], .int .i64 0]) ∧ Kp [] w w' := by
  have sr := SpB.made w ⟨#[]⟩ ⟨#[]⟩
  have kk : Kp [] w (w.alloc (.cells #[.string ⟨#[]⟩, .string ⟨#[]⟩] 24 (0, 0))) := (Kp.refl _ _).alloc _
  go_enter Tryz.func7, Tryz.ntmps7
  go_wp2_with fail
  with_reducible refine (q1.out _ kk).mono ?_
  rintro r w1 ⟨rfl, k⟩
  replace sr := sr.kept k (by simp)
  replace kk := kk.trans k
  clear k q1
  go_wp2_with fail
  with_reducible refine (q2.out _ kk).mono ?_
  rintro r w2 ⟨rfl, k⟩
  replace sr := sr.kept k (by simp)
  replace kk := kk.trans k
  clear k q2
  have x0 := sr.c0
  have x1 := sr.c1
  have y0 := sr.f 0
  have y1 := sr.f 1
  have z := sr.set2 u v
  have d0 := z.c0
  have d1 := z.c1
  have kf := kp_set2 kk (b := w.heap.size) (by omega) (.string u) (.string v)
  clear sr z kk
  go_wp2
  refine bodyPost_ret (v := .tuple #[.agg #[.string u, .string v], .int .i64 0]) (by simp [results, Tryz.results7, go_sem, d0, d1]) rfl ?_
  exact ⟨rfl, kf⟩

set_option maxRecDepth 100000 in
set_option maxHeartbeats 4000000 in
theorem iWidth (g ba : Nat) (lo hi u : ByteArray) (f0 f1 : Int) (w : World) (hR : RE w g 0) (ha : SpB w ba lo hi)
    (qk : Hid (∀ (W : World) (b : Nat), RE W g 0 → SpB W b lo hi → Calls Tryz.prog 27 #[.pointer (some ⟨g, 0, none⟩), .slice (some ⟨b, 0, none⟩) 1 1] W fun r w' => r = .returned (.tuple #[]) ∧ RE w' g f0 ∧ Kp [g] W w'))
    (q1 : KC g 28 #[.pointer (some ⟨g, 0, none⟩), .func (.func 29) #[] #[], .string hi, .string lo] f0 (.string u) f1) :
    Calls Tryz.prog 26 #[.pointer (some ⟨g, 0, none⟩), .pointer (some ⟨ba, 0, none⟩)] w fun x w' => x = .returned (.string u) ∧ RE w' g f1 ∧ Kp [g] w w' := by
  unfold KC at q1
  have hag := ha.ne hR
  have a0 := ha.c0
  have a1 := ha.c1
  have kk : Kp [g] w (w.alloc (.cells #[.string lo, .string hi] 24 (0, 0))) := (Kp.refl _ _).alloc _
  go_enter Tryz.func26, Tryz.ntmps26
  go_wp2_with fail
  with_reducible refine (qk.out _ _ (hR.alloc _) (SpB.made w lo hi)).mono ?_
  rintro r w2 ⟨rfl, hR2, k2⟩
  replace kk := kk.trans k2
  replace ha := (ha.alloc _).kept k2 (nmem_one hag)
  clear a0 a1 k2 qk hR
  have a0 := ha.c0
  have a1 := ha.c1
  go_wp2_with fail
  with_reducible refine (q1.out _ hR2).mono ?_
  rintro r w3 ⟨rfl, hR3, k3⟩
  replace kk := kk.trans k3
  have HR := Lib.hid hR3
  clear a0 a1 k3 q1 hR2 ha hR3
  go_wp2
  go_ret
  exact ⟨rfl, HR.out, kk⟩

set_option maxRecDepth 100000 in
set_option maxHeartbeats 4000000 in
theorem iWidth_w (lo hi v : ByteArray) (E : Int) (w : World)
    (q : ∀ (W : World) (g ba : Nat), RE W g 0 → SpB W ba lo hi → Calls Tryz.prog 26 #[.pointer (some ⟨g, 0, none⟩), .pointer (some ⟨ba, 0, none⟩)] W fun x w' => x = .returned (.string v) ∧ RE w' g E ∧ Kp [g] W w') :
    Calls Tryz.prog 8 #[.agg #[.string lo, .string hi]] w fun r w' => r = .returned (.tuple #[.string (zB E v), .int .i64 E]) ∧ Kp [] w w' := by
  obtain ⟨w3, hw3⟩ : ∃ w3, w3 = w.alloc (.cells #[.string lo, .string hi] 24 (0, 0)) := ⟨_, rfl⟩
  have sa : SpB w3 w.heap.size lo hi := by rw [hw3]; exact SpB.made w lo hi
  have kk : Kp [] w w3 := by rw [hw3]; exact (Kp.refl _ _).alloc _
  have hq : Gives 26 #[.pointer (some ⟨w.heap.size, 0, none⟩)] w3 (.string v) E := Lib.hid fun W g hR _ k => q W g _ hR (sa.kept k (by simp))
  have qr := Lib.hid (kresult_rat 26 _ v E w3 (enters_of Tryz.func26 (by kernel_rfl) rfl) hq)
  rw [zV_rat] at qr
  generalize zB E v = v2 at *
  clear q hq sa
  subst hw3
  go_enter Tryz.func8, Tryz.ntmps8
  go_wp2_with fail
  with_reducible refine qr.out.mono ?_
  rintro r w4 ⟨rfl, k⟩
  replace kk := kk.trans k
  clear qr k
  go_wp2
  go_ret2
  exact ⟨rfl, kk⟩

set_option maxRecDepth 100000 in
set_option maxHeartbeats 4000000 in
theorem r3Width_e (lo hi : ByteArray) (e : Int) (w : World) (he : (e != 0) = true) (qb : Ca 11 #[.agg #[.string lo, .string hi]] (.int .i64 e)) :
    Calls Tryz.prog 9 #[.agg #[.string lo, .string hi]] w fun r w' => r = .returned (.tuple #[.string ⟨#[]⟩, .int .i64 e]) ∧ Kp [] w w' := by
  unfold Ca at *
  have sa := SpB.made w lo hi
  have kk : Kp [] w (w.alloc (.cells #[.string lo, .string hi] 24 (0, 0))) := (Kp.refl _ _).alloc _
  have a0 := sa.c0
  have a1 := sa.c1
  go_enter Tryz.func9, Tryz.ntmps9
  go_wp2_with fail
  with_reducible refine (qb.out _).mono ?_
  rintro r w1 ⟨rfl, k⟩
  replace kk := kk.trans k
  clear a0 a1 k qb sa
  go_wp2
  go_ret2
  exact ⟨rfl, kk⟩

set_option maxRecDepth 100000 in
set_option maxHeartbeats 4000000 in
theorem r3Width_0 (lo hi u : ByteArray) (w : World) (qb : Ca 11 #[.agg #[.string lo, .string hi]] (.int .i64 0)) (q1 : Ca 30 #[.string hi, .string lo] (.tuple #[.string u, .int .i64 0])) :
    Calls Tryz.prog 9 #[.agg #[.string lo, .string hi]] w fun r w' => r = .returned (.tuple #[.string u, .int .i64 0]) ∧ Kp [] w w' := by
  unfold Ca at *
  have sa := SpB.made w lo hi
  have kk : Kp [] w (w.alloc (.cells #[.string lo, .string hi] 24 (0, 0))) := (Kp.refl _ _).alloc _
  have a0 := sa.c0
  have a1 := sa.c1
  go_enter Tryz.func9, Tryz.ntmps9
  go_wp2_with fail
  with_reducible refine (qb.out _).mono ?_
  rintro r w1 ⟨rfl, k⟩
  replace sa := sa.kept k (by simp)
  replace kk := kk.trans k
  clear a0 a1 k qb
  have a0 := sa.c0
  have a1 := sa.c1
  go_wp2_with fail
  with_reducible refine (q1.out _).mono ?_
  rintro r w2 ⟨rfl, k⟩
  replace kk := kk.trans k
  clear a0 a1 k q1 sa
  go_wp2
  go_ret2
  exact ⟨rfl, kk⟩

set_option maxRecDepth 100000 in
set_option maxHeartbeats 4000000 in
theorem r3Middle_e (lo hi : ByteArray) (e : Int) (w : World) (he : (e != 0) = true) (qb : Ca 11 #[.agg #[.string lo, .string hi]] (.int .i64 e)) :
    Calls Tryz.prog 13 #[.agg #[.string lo, .string hi]] w fun r w' => r = .returned (.tuple #[.string ⟨#[]⟩, .int .i64 e]) ∧ Kp [] w w' := by
  unfold Ca at *
  have sa := SpB.made w lo hi
  have kk : Kp [] w (w.alloc (.cells #[.string lo, .string hi] 24 (0, 0))) := (Kp.refl _ _).alloc _
  have a0 := sa.c0
  have a1 := sa.c1
  go_enter Tryz.func13, Tryz.ntmps13
  go_wp2_with fail
  with_reducible refine (qb.out _).mono ?_
  rintro r w1 ⟨rfl, k⟩
  replace kk := kk.trans k
  clear a0 a1 k qb sa
  go_wp2
  go_ret2
  exact ⟨rfl, kk⟩

set_option maxRecDepth 100000 in
set_option maxHeartbeats 4000000 in
theorem r3Middle_0 (lo hi u v : ByteArray) (w : World) (qb : Ca 11 #[.agg #[.string lo, .string hi]] (.int .i64 0)) (q1 : Ca 37 #[.string lo, .string hi] (.tuple #[.string u, .int .i64 0])) (q2 : Ca 38 #[.string u, .string ⟨#[49, 47, 50]⟩] (.tuple #[.string v, .int .i64 0])) :
    Calls Tryz.prog 13 #[.agg #[.string lo, .string hi]] w fun r w' => r = .returned (.tuple #[.string v, .int .i64 0]) ∧ Kp [] w w' := by
  unfold Ca at *
  have sa := SpB.made w lo hi
  have kk : Kp [] w (w.alloc (.cells #[.string lo, .string hi] 24 (0, 0))) := (Kp.refl _ _).alloc _
  have a0 := sa.c0
  have a1 := sa.c1
  go_enter Tryz.func13, Tryz.ntmps13
  go_wp2_with fail
  with_reducible refine (qb.out _).mono ?_
  rintro r w1 ⟨rfl, k⟩
  replace sa := sa.kept k (by simp)
  replace kk := kk.trans k
  clear a0 a1 k qb
  have a0 := sa.c0
  have a1 := sa.c1
  go_wp2_with fail
  with_reducible refine (q1.out _).mono ?_
  rintro r w2 ⟨rfl, k⟩
  replace kk := kk.trans k
  clear a0 a1 k q1 sa
  go_wp2_with fail
  with_reducible refine (q2.out _).mono ?_
  rintro r w3 ⟨rfl, k⟩
  replace kk := kk.trans k
  clear k q2
  go_wp2
  go_ret2
  exact ⟨rfl, kk⟩
end Go.Proofs.YtiommpdbbpddpaaGreatDoor
