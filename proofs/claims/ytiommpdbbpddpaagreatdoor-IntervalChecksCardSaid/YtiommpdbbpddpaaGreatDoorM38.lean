/- Texts Ik1, Ik2, Ik3, Ik6, Ik9: each says in its own first comment what it proves. -/
import Derived.Test.YtiommpdbbpddpaaGreatDoorM50
import Derived.Test.YtiommpdbbpddpaaGreatDoorM28
import Derived.Deep.RegionHeld3
import Derived.Deep.DrawnRows
/- The keeper of package reckon with any error: Keep, Of, Order, Result; Check and keep of package interval for any texts. -/
namespace Go.Proofs.YtiommpdbbpddpaaGreatDoor
open Go.RowKit
open Go.Lib (nDigits itoa decDigits)

set_option maxRecDepth 100000 in
set_option maxHeartbeats 1000000 in
theorem kKeep (g : Nat) (e f : Int) (w : World) (h : RE w g e) :
    Calls Tryz.prog 45 #[.pointer (some ⟨g, 0, none⟩), .int .i64 f] w fun r w' => r = .returned (.tuple #[]) ∧ RE w' g (kp e f) ∧ Kp [g] w w' := by
  have hc := h.cell
  have hf := h.free
  have hl := h.lt
  by_cases he : e = 0
  · subst he
    have hs := h.set f
    have hk : Kp [g] w (w.setCell ⟨g, 0, none⟩ (.int .i64 f)) := (Kp.refl _ _).setCell (p := ⟨g, 0, none⟩) (.inl (by simp)) _
    clear h
    go_enter Tryz.func45, Tryz.ntmps45
    go_wp2
    go_end0
    exact ⟨rfl, by rw [kp_zero]; exact hs, hk⟩
  · have hb : (e == 0) = false := by simp [he]
    have hkp : kp e f = e := if_neg he
    have hk : Kp [g] w w := Kp.refl _ _
    clear he
    go_enter Tryz.func45, Tryz.ntmps45
    go_wp2
    go_end0
    exact ⟨rfl, by rw [hkp]; exact h, hk⟩

set_option maxRecDepth 100000 in
set_option maxHeartbeats 1000000 in
theorem kOf (F g : Nat) (e f : Int) (a b c : ByteArray) (w : World) (h : RE w g e) (q : Hid (∀ W : World, Calls Tryz.prog F #[.string a, .string b] W fun r w' => r = .returned (.tuple #[.string c, .int .i64 f]) ∧ Kp [] W w')) (he : ∀ args w, (callFunc F args).run Tryz.prog w = .ok (.enter F args) w) :
    Calls Tryz.prog 28 #[.pointer (some ⟨g, 0, none⟩), .func (.func F) #[] #[], .string a, .string b] w fun r w' => r = .returned (.string c) ∧ RE w' g (kp e f) ∧ Kp [g] w w' := by
  go_enter Tryz.func28, Tryz.ntmps28
  go_wp2_with (go_at_fn F; refine (q.out _).mono ?_; rintro x w1 ⟨rfl, k⟩)
  have h1 := Lib.hid (kKeep g e f w1 (h.kept k (by simp)))
  clear h q
  go_wp2_with fail
  with_reducible refine h1.out.mono ?_
  rintro r w2 ⟨rfl, hR, k2⟩
  have HR := Lib.hid hR
  have kk := (k.mono (S' := [g]) (fun _ h => by cases h)).trans k2
  clear hR k k2 h1
  go_wp2
  go_ret
  exact ⟨rfl, HR.out, kk⟩

set_option maxRecDepth 100000 in
set_option maxHeartbeats 1000000 in
theorem kOrder (g : Nat) (e f : Int) (a b : ByteArray) (v : Int) (w : World) (h : RE w g e) (q : Hid (∀ W : World, Calls Tryz.prog 31 #[.string a, .string b] W fun r w' => r = .returned (.tuple #[.int .i64 v, .int .i64 f]) ∧ Kp [] W w')) :
    Calls Tryz.prog 113 #[.pointer (some ⟨g, 0, none⟩), .string a, .string b] w fun r w' => r = .returned (.int .i64 v) ∧ RE w' g (kp e f) ∧ Kp [g] w w' := by
  go_enter Tryz.func113, Tryz.ntmps113
  go_wp2_with fail
  with_reducible refine (q.out _).mono ?_
  rintro r w1 ⟨rfl, k⟩
  have h1 := Lib.hid (kKeep g e f w1 (h.kept k (by simp)))
  clear h q
  go_wp2_with fail
  with_reducible refine h1.out.mono ?_
  rintro r w2 ⟨rfl, hR, k2⟩
  have HR := Lib.hid hR
  have kk := (k.mono (S' := [g]) (fun _ h => by cases h)).trans k2
  clear hR k k2 h1
  go_wp2
  go_ret
  exact ⟨rfl, HR.out, kk⟩

/-- what a calculation gives: a value, and the keeper's error behind it -/
def Gives (c : Nat) (caps : Array Value) (w : World) (v : Value) (e : Int) : Prop := Hid (∀ (W : World) (g : Nat), RE W g 0 → w.heap.size ≤ g → Kp [] w W → Calls Tryz.prog c (#[.pointer (some ⟨g, 0, none⟩)] ++ caps) W fun x w' => x = .returned v ∧ RE w' g e ∧ Kp [g] W w')
/-- a value, but a zero beside an error -/
def zV (e : Int) (v z : Value) : Value := if e = 0 then v else z

theorem kp_new {w W w' : World} {g : Nat} (k : Kp [] w W) (hg : w.heap.size ≤ g) (k2 : Kp [g] W w') : Kp [] w w' := k.step k2 (fun x h => .inr (by simp at h; omega))

set_option maxRecDepth 100000 in
set_option maxHeartbeats 1000000 in
theorem kresult_rat (c : Nat) (caps : Array Value) (v : ByteArray) (e : Int) (w : World) (he : ∀ args w, (callFunc c args).run Tryz.prog w = .ok (.enter c args) w) (q : Gives c caps w (.string v) e) :
    Calls Tryz.prog 25 #[.func (.func c) #[] caps] w fun x w' => x = .returned (.tuple #[zV e (.string v) (.string ⟨#[]⟩), .int .i64 e]) ∧ Kp [] w w' := by
  have h0 : RE (w.alloc (.cells #[.int .i64 0] 72 (0, 0))) w.heap.size 0 := heap_alloc_new w _
  have k0 : Kp [] w (w.alloc (.cells #[.int .i64 0] 72 (0, 0))) := (Kp.refl _ _).alloc _
  have q1 := Lib.hid (q.out _ _ h0 (Nat.le_refl _) k0)
  clear q h0
  by_cases h : e = 0
  · subst h
    rw [show zV 0 (.string v) (.string ⟨#[]⟩) = (.string v) from if_pos rfl]
    go_enter Tryz.func25, Tryz.ntmps25
    go_wp2_with (go_at_fn c; refine q1.out.mono ?_; rintro x w1 ⟨rfl, hR, k1⟩; have hc := hR.cell; have kk := kp_new k0 (Nat.le_refl _) k1; clear hR k1)
    go_ret2
    exact ⟨rfl, kk⟩
  · have hb : (e != 0) = true := by simp [h]
    rw [show zV e (.string v) (.string ⟨#[]⟩) = (.string ⟨#[]⟩) from if_neg h]
    clear h
    go_enter Tryz.func25, Tryz.ntmps25
    go_wp2_with (go_at_fn c; refine q1.out.mono ?_; rintro x w1 ⟨rfl, hR, k1⟩; have hc := hR.cell; have kk := kp_new k0 (Nat.le_refl _) k1; have hc2 := (hR.alloc (.cells #[.string ⟨#[]⟩] 22 (0, 0))).cell; have kd : Kp [] w (World.drew (w1.alloc (.cells #[.string ⟨#[]⟩] 22 (0, 0)))) := (kk.alloc _).drew; clear hR k1)
    go_region
    all_goals go_wp2
    all_goals go_ret2
    all_goals exact ⟨rfl, kd⟩

theorem SpB.set2 {w : World} {b : Nat} {lo hi : ByteArray} (h : SpB w b lo hi) (u v : ByteArray) : SpB ((w.setCell ⟨b, 0, none⟩ (.string u)).setCell ⟨b, 1, none⟩ (.string v)) b u v := by
  unfold SpB at *; simp [World.setCell, Array.getElem?_modify, h]
theorem SpB.set1 {w : World} {b : Nat} {lo hi : ByteArray} (h : SpB w b lo hi) (u : ByteArray) : SpB (w.setCell ⟨b, 0, none⟩ (.string u)) b u hi := by
  unfold SpB at *; simp [World.setCell, Array.getElem?_modify, h]
set_option maxRecDepth 100000 in
set_option maxHeartbeats 1000000 in
theorem kresult_span (c : Nat) (caps : Array Value) (u v : ByteArray) (e : Int) (w : World) (he : ∀ args w, (callFunc c args).run Tryz.prog w = .ok (.enter c args) w) (q : Gives c caps w (.agg #[.string u, .string v]) e) :
    Calls Tryz.prog 40 #[.func (.func c) #[] caps] w fun x w' => x = .returned (.tuple #[zV e (.agg #[.string u, .string v]) (.agg #[.string ⟨#[]⟩, .string ⟨#[]⟩]), .int .i64 e]) ∧ Kp [] w w' := by
  have h0 : RE ((w.alloc (.cells #[.string ⟨#[]⟩, .string ⟨#[]⟩] 24 (0, 0))).alloc (.cells #[.int .i64 0] 72 (0, 0))) (w.heap.size + 1) 0 := by have := heap_alloc_new (w.alloc (.cells #[.string ⟨#[]⟩, .string ⟨#[]⟩] 24 (0, 0))) (.cells #[.int .i64 0] 72 (0, 0)); rw [World.size_alloc] at this; exact this
  have s0 := (SpB.made w ⟨#[]⟩ ⟨#[]⟩).alloc (.cells #[.int .i64 0] 72 (0, 0))
  have k0 : Kp [] w ((w.alloc (.cells #[.string ⟨#[]⟩, .string ⟨#[]⟩] 24 (0, 0))).alloc (.cells #[.int .i64 0] 72 (0, 0))) := ((Kp.refl _ _).alloc _).alloc _
  have q1 := Lib.hid (q.out _ _ h0 (Nat.le_succ _) k0)
  clear q h0
  by_cases h : e = 0
  · subst h
    rw [show zV 0 (.agg #[.string u, .string v]) (.agg #[.string ⟨#[]⟩, .string ⟨#[]⟩]) = (.agg #[.string u, .string v]) from if_pos rfl]
    go_enter Tryz.func40, Tryz.ntmps40
    go_wp2_with (go_at_fn c; refine q1.out.mono ?_; rintro x w2 ⟨rfl, hR, k1⟩; have hc := (hR.alloc (.cells #[.string u, .string v] 24 (0, 0))).cell; have x := (s0.kept k1 (by simp)).alloc (.cells #[.string u, .string v] 24 (0, 0)); have x0 := x.c0; have x1 := x.c1; have f0 := x.f 0; have f1 := x.f 1; have y := SpB.made w2 u v; have y0 := y.c0; have y1 := y.c1; have xs := x.set1 u; have xs1 := xs.c1; have xf1 := xs.f 1; have z := x.set2 u v; have d0 := z.c0; have d1 := z.c1; have kk : Kp [] w (((w2.alloc (.cells #[.string u, .string v] 24 (0, 0))).setCell ⟨w.heap.size, 0, none⟩ (.string u)).setCell ⟨w.heap.size, 1, none⟩ (.string v)) := (((kp_new k0 (Nat.le_succ _) k1).alloc _).setCell (p := ⟨w.heap.size, 0, none⟩) (.inr (Nat.le_refl _)) _).setCell (p := ⟨w.heap.size, 1, none⟩) (.inr (Nat.le_refl _)) _; clear hR k1 x y z xs)
    refine bodyPost_ret (v := .tuple #[.agg #[.string u, .string v], .int .i64 0]) (by simp [results, Tryz.results40, go_sem, d0, d1]) rfl ?_
    exact ⟨rfl, kk⟩
  · have hb : (e != 0) = true := by simp [h]
    rw [show zV e (.agg #[.string u, .string v]) (.agg #[.string ⟨#[]⟩, .string ⟨#[]⟩]) = (.agg #[.string ⟨#[]⟩, .string ⟨#[]⟩]) from if_neg h]
    clear h
    go_enter Tryz.func40, Tryz.ntmps40
    go_wp2_with (go_at_fn c; refine q1.out.mono ?_; rintro x w2 ⟨rfl, hR, k1⟩; have hc := (hR.alloc (.cells #[.string u, .string v] 24 (0, 0))).cell; have hc2 := ((hR.alloc (.cells #[.string u, .string v] 24 (0, 0))).alloc (.cells #[.string ⟨#[]⟩, .string ⟨#[]⟩] 24 (0, 0))).cell; have x := ((s0.kept k1 (by simp)).alloc (.cells #[.string u, .string v] 24 (0, 0))).alloc (.cells #[.string ⟨#[]⟩, .string ⟨#[]⟩] 24 (0, 0)); have x0 := x.c0; have x1 := x.c1; have f0 := x.f 0; have f1 := x.f 1; have y := SpB.made (w2.alloc (.cells #[.string u, .string v] 24 (0, 0))) ⟨#[]⟩ ⟨#[]⟩; rw [World.size_alloc] at y; have y0 := y.c0; have y1 := y.c1; have xs := x.set1 ⟨#[]⟩; have xs1 := xs.c1; have xf1 := xs.f 1; have z := x.set2 ⟨#[]⟩ ⟨#[]⟩; have d0 := z.c0; have d1 := z.c1; have kk : Kp [] w (World.drew ((((w2.alloc (.cells #[.string u, .string v] 24 (0, 0))).alloc (.cells #[.string ⟨#[]⟩, .string ⟨#[]⟩] 24 (0, 0))).setCell ⟨w.heap.size, 0, none⟩ (.string ⟨#[]⟩)).setCell ⟨w.heap.size, 1, none⟩ (.string ⟨#[]⟩))) := (((((kp_new k0 (Nat.le_succ _) k1).alloc _).alloc _).setCell (p := ⟨w.heap.size, 0, none⟩) (.inr (Nat.le_refl _)) _).setCell (p := ⟨w.heap.size, 1, none⟩) (.inr (Nat.le_refl _)) _).drew; clear hR k1 x y z xs)
    go_region
    all_goals go_wp2
    all_goals refine bodyPost_ret (v := .tuple #[.agg #[.string ⟨#[]⟩, .string ⟨#[]⟩], .int .i64 e]) (by simp [results, Tryz.results40, go_sem, d0, d1]) rfl ?_
    all_goals exact ⟨rfl, kk⟩


























/-- the error of a span of texts -/
def icE (lo hi : ByteArray) : Int := if qCmE lo hi = 0 then (if 0 < qCmV lo hi then 9 else 0) else qCmE lo hi
set_option maxRecDepth 100000 in
set_option maxHeartbeats 1000000 in
theorem icheck_any (lo hi : ByteArray) (w : World) (h1 : lo.size ≤ 9223372036854775807) (h2 : hi.size ≤ 9223372036854775807) :
    Calls Tryz.prog 10 #[.agg #[.string lo, .string hi]] w fun e w' => e = .returned (.int .i64 (icE lo hi)) ∧ Kp [] w w' := by
  have q : Hid (∀ W : World, Calls Tryz.prog 31 #[.string lo, .string hi] W fun r w' => r = .returned (.tuple #[.int .i64 (qCmV lo hi), .int .i64 (qCmE lo hi)]) ∧ Kp [] W w') := fun W => qCompare_any lo hi W h1 h2
  have s := SpB.made w lo hi
  have c0 := s.c0
  have c1 := s.c1
  have k0 : Kp [] w (w.alloc (.cells #[.string lo, .string hi] 24 (0, 0))) := (Kp.refl _ _).alloc _
  unfold icE
  generalize qCmV lo hi = v at *
  generalize qCmE lo hi = E at *
  clear s h1 h2
  by_cases hE : E = 0
  · subst hE
    rw [if_pos rfl]
    by_cases hv : 0 < v
    · rw [if_pos hv]
      go_enter Tryz.func10, Tryz.ntmps10
      go_wp2_with fail
      with_reducible refine (q.out _).mono ?_
      rintro e w1 ⟨rfl, k⟩
      go_wp2
      go_ret
      exact ⟨rfl, k0.trans k⟩
    · rw [if_neg hv]
      go_enter Tryz.func10, Tryz.ntmps10
      go_wp2_with fail
      with_reducible refine (q.out _).mono ?_
      rintro e w1 ⟨rfl, k⟩
      go_wp2
      go_ret
      exact ⟨rfl, k0.trans k⟩
  · rw [if_neg hE]
    have hb : (E != 0) = true := by simp [hE]
    clear hE
    go_enter Tryz.func10, Tryz.ntmps10
    go_wp2_with fail
    with_reducible refine (q.out _).mono ?_
    rintro e w1 ⟨rfl, k⟩
    go_wp2
    go_ret
    exact ⟨rfl, k0.trans k⟩

/-- spans of texts in a row -/
def Spns (w : World) (g o : Nat) (l : List (ByteArray × ByteArray)) : Prop := ∀ i (h : i < l.length), w.cell? ⟨g, o + i * 2, none⟩ = some (.string l[i].1) ∧ w.cell? ⟨g, o + i * 2 + 1, none⟩ = some (.string l[i].2)
/-- the error that the keeper holds behind n of the spans -/
def keE (G : Nat → ByteArray × ByteArray) (e : Int) : Nat → Int
  | 0 => e
  | n + 1 => kp (keE G e n) (icE (G n).1 (G n).2)

set_option maxRecDepth 100000 in
set_option maxHeartbeats 4000000 in
theorem ikeep_n (g b o c n : Nat) (p : Option Addr) (G : Nat → ByteArray × ByteArray) (e : Int) (w : World) (h : RE w g e) (hp : 0 < n → p = some ⟨b, o, none⟩ ∧ b < w.heap.size) (hbg : b ≠ g) (hn : n ≤ 1000000)
    (hs : ∀ j, j < n → w.cell? ⟨b, o + j * 2, none⟩ = some (.string (G j).1) ∧ w.cell? ⟨b, o + j * 2 + 1, none⟩ = some (.string (G j).2)) (hz : ∀ j, (G j).1.size ≤ 9223372036854775807 ∧ (G j).2.size ≤ 9223372036854775807) :
    Calls Tryz.prog 27 #[.pointer (some ⟨g, 0, none⟩), .slice p n c] w fun r w' => r = .returned (.tuple #[]) ∧ RE w' g (keE G e n) ∧ Kp [g] w w' := by
  have qc : Hid (∀ (W : World) (j : Nat), Calls Tryz.prog 10 #[.agg #[.string (G j).1, .string (G j).2]] W fun r w' => r = .returned (.int .i64 (icE (G j).1 (G j).2)) ∧ Kp [] W w') := fun W j => icheck_any _ _ W (hz j).1 (hz j).2
  have hst : Hid (∀ k, keE G e (k + 1) = kp (keE G e k) (icE (G k).1 (G k).2)) := Lib.hid fun _ => rfl
  have h0 : RE w g (keE G e 0) := h
  have hcc : Hid (∀ j, j < n → ∀ W, Kp [g] w W → W.cell? ⟨b, o + j * 2, none⟩ = some (.string (G j).1) ∧ W.cell? ⟨b, o + j * 2 + 1, none⟩ = some (.string (G j).2)) := Lib.hid fun j hj W k => by
    have e := k.block b (hp (by omega)).2 (by simp [hbg])
    obtain ⟨x, y⟩ := hs j hj
    exact ⟨by rw [World.cell?_of_block e]; exact x, by rw [World.cell?_of_block e]; exact y⟩
  have hqp : Hid (0 < n → p = some ⟨b, o, none⟩) := Lib.hid fun h => (hp h).1
  generalize keE G e = T at *
  have hn1 : (n : Int) ≤ 1000000 := by omega
  have hn0 : 0 ≤ (n : Int) := by omega
  clear hs hz hp hn h hbg
  go_enter Tryz.func27, Tryz.ntmps27
  go_wp2_with fail
  go_loopg [8] n (fun gk s8 wr => ∃ k : Nat, s8 = .int .i64 k ∧ k + gk = n ∧ RE wr g (T k) ∧ Kp [g] w wr)
  case atStart => exact ⟨0, rfl, by omega, h0, Kp.refl _ _⟩
  case round =>
    clear h0
    obtain ⟨k, rfl, hk, hR, kk⟩ := hrel
    by_cases hlt : k < n
    · obtain rfl := hqp.out (by omega)
      obtain ⟨c0, c1⟩ := hcc.out k hlt wr kk
      have hlt' : (k : Int) < (n : Int) := by omega
      have hz1 : 0 ≤ (k : Int) := by omega
      have s := SpB.made wr (G k).1 (G k).2
      have s0 := s.c0
      have s1 := s.c1
      have f0 := s.f 0
      have f1 := s.f 1
      have hr := hR.alloc (.cells #[.string (G k).1, .string (G k).2] 24 (0, 0))
      have ka := kk.alloc (.cells #[.string (G k).1, .string (G k).2] 24 (0, 0))
      have q := Lib.hid fun W : World => qc.out W k
      have ht := Lib.hid (hst.out k)
      have Hk := Lib.hid hk; have Hl := Lib.hid hlt
      clear s hlt hk qc hst hR kk hcc
      generalize icE (G k).1 (G k).2 = f at *
      generalize (G k).1 = lo at *
      generalize (G k).2 = hi at *
      go_wp2_with fail
      with_reducible refine (q.out _).mono ?_
      rintro e w1 ⟨rfl, k1⟩
      have q2 := Lib.hid (kKeep g (T k) f w1 (hr.kept k1 (by simp)))
      go_wp2_with fail
      with_reducible refine q2.out.mono ?_
      rintro e w2 ⟨rfl, hR2, k2⟩
      have kf := (ka.trans (k1.mono (S' := [g]) (fun _ h => by cases h))).trans k2
      clear ka k1 k2 q q2 c0 c1 s0 s1 f0 f1 hr
      go_wp2
      have hk := Hk.out; have hlt := Hl.out
      go_roundg (gk - 1)
      case measure => omega
      case rel => exact ⟨k + 1, by go_num, by omega, by rw [ht.out]; exact hR2, kf⟩
    · have hlt' : ¬ (k : Int) < (n : Int) := by omega
      have ek := Lib.hid (show k = n by omega)
      clear hlt hk qc
      go_wp2
      go_end0
      exact ⟨rfl, by rw [← ek.out]; exact hR, kk⟩

end Go.Proofs.YtiommpdbbpddpaaGreatDoor

/- The closures of package interval: Add, Sub, Meet, Hull, Width, Middle: what a span's two calls give is told by letters. -/
namespace Go.Proofs.YtiommpdbbpddpaaGreatDoor
open Go.RowKit
open Go.Lib (nDigits itoa decDigits)

theorem kp_cell {L : List Nat} {W W' : World} {b i : Nat} {v : Value} (k : Kp L W W') (hb : b ∉ L) (h : W.cell? ⟨b, i, none⟩ = some v) : W'.cell? ⟨b, i, none⟩ = some v := by
  rw [World.cell?_of_block (k.block b (World.block_lt_of_cell? W _ h) hb)]; exact h
theorem SpB.ne {w : World} {b g : Nat} {e : Int} {lo hi : ByteArray} (h : SpB w b lo hi) (r : RE w g e) : b ≠ g := fun e1 => by
  unfold SpB at h
  unfold RE at r
  rw [e1, r] at h
  simp at h
theorem RE.drew {w : World} {g : Nat} {e : Int} (h : RE w g e) : RE w.drew g e := h
theorem SpB.drew {w : World} {b : Nat} {lo hi : ByteArray} (h : SpB w b lo hi) : SpB w.drew b lo hi := h
theorem SpB.far2 {w : World} {b d : Nat} {lo hi : ByteArray} (h : SpB w b lo hi) (hne : d ≠ b) (x y : Value) : SpB ((w.setCell ⟨d, 0, none⟩ x).setCell ⟨d, 1, none⟩ y) b lo hi := by
  unfold SpB at *; simp [World.setCell, Array.getElem?_modify, hne, h]
theorem re_set2 {w : World} {g b : Nat} {e : Int} (h : RE w g e) (hne : b ≠ g) (x y : Value) : RE ((w.setCell ⟨b, 0, none⟩ x).setCell ⟨b, 1, none⟩ y) g e := by
  unfold RE at *; simp [World.setCell, Array.getElem?_modify, hne, h]
/-- a block that holds two spans -/
def Sp2 (w : World) (b : Nat) (l1 h1 l2 h2 : ByteArray) : Prop := w.heap[b]? = some (.cells #[.string l1, .string h1, .string l2, .string h2] 24 (0, 0))
theorem Sp2.made (w : World) (l1 h1 l2 h2 : ByteArray) : Sp2 (w.alloc (.cells #[.string l1, .string h1, .string l2, .string h2] 24 (0, 0))) w.heap.size l1 h1 l2 h2 := heap_alloc_new w _
/-- the call of a keeper's function that ends in the error f -/
def KC (g n : Nat) (args : Array Value) (e : Int) (v : Value) (f : Int) : Prop := Hid (∀ W : World, RE W g e → Calls Tryz.prog n args W fun r w' => r = .returned v ∧ RE w' g f ∧ Kp [g] W w')

theorem wpList_stepN {P : Program} {w w' : World} {ops : Array Oper} {rest : List Oper} {o : Oper} {a a' : Act} {v : Value} {Q : Exit → Act → World → Prop} (hgd : o.guard = none) (hrun : (execOp a.eval o).run P w = .ok (.value v) w') (hput : a.put o.dst v = a')
    (h : wpList P ops Q rest a' w') : wpList P ops Q (o :: rest) a w := by
  subst hput
  refine wpList_plain hgd fun K hK => ?_
  unfold Oper.wp
  rw [hrun]
  exact hK _ _ h
theorem op_bsSp2 {a : Act} {w : World} {o : Oper} {x y : Operand} {u0 u1 v0 v1 : ByteArray} (h : o.op = .buildSlice 43 2 #[(0, x), (1, y)]) (hx : a.eval x = .agg #[.string u0, .string u1]) (hy : a.eval y = .agg #[.string v0, .string v1]) :
    (execOp a.eval o).run Tryz.prog w = .ok (.value (.slice (some ⟨w.heap.size, 0, none⟩) 2 2)) (w.alloc (.cells #[.string u0, .string u1, .string v0, .string v1] 24 (0, 0))) := by
  generalize a.eval = r at *
  simp [execOp, h, hx, hy, go_sem]

attribute [local go_sem ↓] Go.wp_at_zero Go.wp_at_succ

set_option maxRecDepth 100000 in
set_option maxHeartbeats 4000000 in
theorem iadd (g ba bb : Nat) (l1 h1 l2 h2 u v : ByteArray) (f0 f1 f2 : Int) (w : World) (hR : RE w g 0) (ha : SpB w ba l1 h1) (hb : SpB w bb l2 h2)
    (qk : Hid (∀ (W : World) (b : Nat), RE W g 0 → Sp2 W b l1 h1 l2 h2 → Calls Tryz.prog 27 #[.pointer (some ⟨g, 0, none⟩), .slice (some ⟨b, 0, none⟩) 2 2] W fun r w' => r = .returned (.tuple #[]) ∧ RE w' g f0 ∧ Kp [g] W w'))
    (q1 : KC g 28 #[.pointer (some ⟨g, 0, none⟩), .func (.func 36) #[] #[], .string l1, .string l2] f0 (.string u) f1)
    (q2 : KC g 28 #[.pointer (some ⟨g, 0, none⟩), .func (.func 36) #[] #[], .string h1, .string h2] f1 (.string v) f2) :
    Calls Tryz.prog 41 #[.pointer (some ⟨g, 0, none⟩), .pointer (some ⟨ba, 0, none⟩), .pointer (some ⟨bb, 0, none⟩)] w fun x w' => x = .returned (.agg #[.string u, .string v]) ∧ RE w' g f2 ∧ Kp [g] w w' := by
  unfold KC at q1 q2
  have hba : w.heap.size ≠ ba := by have := ha.lt; omega
  have hbb : w.heap.size ≠ bb := by have := hb.lt; omega
  have hag := ha.ne hR
  have hbg := hb.ne hR
  have kk : Kp [g] w (w.alloc (.cells #[.string ⟨#[]⟩, .string ⟨#[]⟩] 24 (0, 0))) := (Kp.refl _ _).alloc _
  have s0 := SpB.made w ⟨#[]⟩ ⟨#[]⟩
  replace ha := ha.alloc (.cells #[.string ⟨#[]⟩, .string ⟨#[]⟩] 24 (0, 0))
  replace hb := hb.alloc (.cells #[.string ⟨#[]⟩, .string ⟨#[]⟩] 24 (0, 0))
  replace hR := hR.alloc (.cells #[.string ⟨#[]⟩, .string ⟨#[]⟩] 24 (0, 0))
  have hsg := s0.ne hR
  have a0 := ha.c0
  have a1 := ha.c1
  have b0 := hb.c0
  have b1 := hb.c1
  go_enter Tryz.func41, Tryz.ntmps41
  go_wp2_with (refine wpList_stepN rfl (op_bsSp2 rfl rfl rfl) (by simp only [Act.put, World.size_alloc, List.setIfInBounds_toArray, List.set_cons_succ, List.set_cons_zero]; rfl) ?_)
  have m2 := Sp2.made (w.alloc (.cells #[.string ⟨#[]⟩, .string ⟨#[]⟩] 24 (0, 0))) l1 h1 l2 h2
  rw [World.size_alloc] at m2
  with_reducible refine (qk.out _ _ (hR.alloc _) m2).mono ?_
  rintro r w2 ⟨rfl, hR2, k2⟩
  replace kk := (kk.alloc _).trans k2
  replace ha := (ha.alloc _).kept k2 (by simp [hag])
  replace hb := (hb.alloc _).kept k2 (by simp [hbg])
  replace s0 := (s0.alloc _).kept k2 (by simp [hsg])
  clear a0 a1 b0 b1 k2 m2 qk hR
  have a0 := ha.c0
  have a1 := ha.c1
  have b0 := hb.c0
  have b1 := hb.c1
  go_wp2_with fail
  go_region_held3 (fun w' => w'.cell? ⟨ba, 0, none⟩ = some (.string l1) ∧ w'.cell? ⟨ba, 1, none⟩ = some (.string h1) ∧ w'.cell? ⟨bb, 0, none⟩ = some (.string l2) ∧ w'.cell? ⟨bb, 1, none⟩ = some (.string h2))
    (first
      | exact ⟨a4.c0, a4.c1, b4.c0, b4.c1⟩
      | exact ⟨a3.c0, a3.c1, b3.c0, b3.c1⟩
      | exact ⟨ha.c0, ha.c1, hb.c0, hb.c1⟩
      | exact ⟨(SpB.far2 a4 hba _ _).c0, (SpB.far2 a4 hba _ _).c1, (SpB.far2 b4 hbb _ _).c0, (SpB.far2 b4 hbb _ _).c1⟩
      | go_keep)
    (first
      | (go_at_call 28; with_reducible refine (q1.out _ (RE.drew hR2)).mono ?_; rintro r w3 ⟨rfl, hR3, k3⟩; have a3 := SpB.kept (SpB.drew ha) k3 (nmem_one hag); have b3 := SpB.kept (SpB.drew hb) k3 (nmem_one hbg); have s3 := SpB.kept (SpB.drew s0) k3 (nmem_one hsg))
      | (go_at_call 28; with_reducible refine (q2.out _ hR3).mono ?_; rintro r w4 ⟨rfl, hR4, k4⟩; have a4 := SpB.kept a3 k4 (nmem_one hag); have b4 := SpB.kept b3 k4 (nmem_one hbg); have s4 := SpB.kept s3 k4 (nmem_one hsg); have x0 := s4.c0; have x1 := s4.c1; have y0 := s4.f 0; have y1 := s4.f 1))
  have z4 := s4.set2 u v
  have hR5 := re_set2 hR4 hsg (.string u) (.string v)
  have kk4 := kp_set2 (((Kp.drew kk).trans k3).trans k4) (Nat.le_refl w.heap.size) (.string u) (.string v)
  clear x0 x1 y0 y1 s4 s3 k3 k4 hR4 hR3 hR2 a3 a4 b3 b4
  generalize (w4.setCell ⟨w.heap.size, 0, none⟩ (.string u)).setCell ⟨w.heap.size, 1, none⟩ (.string v) = W at *
  have d0 := z4.c0
  have d1 := z4.c1
  go_wp2
  refine bodyPost_ret (v := .agg #[.string u, .string v]) (by simp [results, Tryz.results41, go_sem, d0, d1]) rfl ?_
  exact ⟨rfl, hR5, kk4⟩


set_option maxRecDepth 100000 in
set_option maxHeartbeats 4000000 in
theorem isub (g ba bb : Nat) (l1 h1 l2 h2 u v : ByteArray) (f0 f1 f2 : Int) (w : World) (hR : RE w g 0) (ha : SpB w ba l1 h1) (hb : SpB w bb l2 h2)
    (qk : Hid (∀ (W : World) (b : Nat), RE W g 0 → Sp2 W b l1 h1 l2 h2 → Calls Tryz.prog 27 #[.pointer (some ⟨g, 0, none⟩), .slice (some ⟨b, 0, none⟩) 2 2] W fun r w' => r = .returned (.tuple #[]) ∧ RE w' g f0 ∧ Kp [g] W w'))
    (q1 : KC g 28 #[.pointer (some ⟨g, 0, none⟩), .func (.func 29) #[] #[], .string l1, .string h2] f0 (.string u) f1)
    (q2 : KC g 28 #[.pointer (some ⟨g, 0, none⟩), .func (.func 29) #[] #[], .string h1, .string l2] f1 (.string v) f2) :
    Calls Tryz.prog 42 #[.pointer (some ⟨g, 0, none⟩), .pointer (some ⟨ba, 0, none⟩), .pointer (some ⟨bb, 0, none⟩)] w fun x w' => x = .returned (.agg #[.string u, .string v]) ∧ RE w' g f2 ∧ Kp [g] w w' := by
  unfold KC at q1 q2
  have hba : w.heap.size ≠ ba := by have := ha.lt; omega
  have hbb : w.heap.size ≠ bb := by have := hb.lt; omega
  have hag := ha.ne hR
  have hbg := hb.ne hR
  have kk : Kp [g] w (w.alloc (.cells #[.string ⟨#[]⟩, .string ⟨#[]⟩] 24 (0, 0))) := (Kp.refl _ _).alloc _
  have s0 := SpB.made w ⟨#[]⟩ ⟨#[]⟩
  replace ha := ha.alloc (.cells #[.string ⟨#[]⟩, .string ⟨#[]⟩] 24 (0, 0))
  replace hb := hb.alloc (.cells #[.string ⟨#[]⟩, .string ⟨#[]⟩] 24 (0, 0))
  replace hR := hR.alloc (.cells #[.string ⟨#[]⟩, .string ⟨#[]⟩] 24 (0, 0))
  have hsg := s0.ne hR
  have a0 := ha.c0
  have a1 := ha.c1
  have b0 := hb.c0
  have b1 := hb.c1
  go_enter Tryz.func42, Tryz.ntmps42
  go_wp2_with (refine wpList_stepN rfl (op_bsSp2 rfl rfl rfl) (by simp only [Act.put, World.size_alloc, List.setIfInBounds_toArray, List.set_cons_succ, List.set_cons_zero]; rfl) ?_)
  have m2 := Sp2.made (w.alloc (.cells #[.string ⟨#[]⟩, .string ⟨#[]⟩] 24 (0, 0))) l1 h1 l2 h2
  rw [World.size_alloc] at m2
  with_reducible refine (qk.out _ _ (hR.alloc _) m2).mono ?_
  rintro r w2 ⟨rfl, hR2, k2⟩
  replace kk := (kk.alloc _).trans k2
  replace ha := (ha.alloc _).kept k2 (by simp [hag])
  replace hb := (hb.alloc _).kept k2 (by simp [hbg])
  replace s0 := (s0.alloc _).kept k2 (by simp [hsg])
  clear a0 a1 b0 b1 k2 m2 qk hR
  have a0 := ha.c0
  have a1 := ha.c1
  have b0 := hb.c0
  have b1 := hb.c1
  go_wp2_with fail
  go_region_held3 (fun w' => w'.cell? ⟨ba, 0, none⟩ = some (.string l1) ∧ w'.cell? ⟨ba, 1, none⟩ = some (.string h1) ∧ w'.cell? ⟨bb, 0, none⟩ = some (.string l2) ∧ w'.cell? ⟨bb, 1, none⟩ = some (.string h2))
    (first
      | exact ⟨a4.c0, a4.c1, b4.c0, b4.c1⟩
      | exact ⟨a3.c0, a3.c1, b3.c0, b3.c1⟩
      | exact ⟨ha.c0, ha.c1, hb.c0, hb.c1⟩
      | exact ⟨(SpB.far2 a4 hba _ _).c0, (SpB.far2 a4 hba _ _).c1, (SpB.far2 b4 hbb _ _).c0, (SpB.far2 b4 hbb _ _).c1⟩
      | go_keep)
    (first
      | (go_at_call 28; with_reducible refine (q1.out _ (RE.drew hR2)).mono ?_; rintro r w3 ⟨rfl, hR3, k3⟩; have a3 := SpB.kept (SpB.drew ha) k3 (nmem_one hag); have b3 := SpB.kept (SpB.drew hb) k3 (nmem_one hbg); have s3 := SpB.kept (SpB.drew s0) k3 (nmem_one hsg))
      | (go_at_call 28; with_reducible refine (q2.out _ hR3).mono ?_; rintro r w4 ⟨rfl, hR4, k4⟩; have a4 := SpB.kept a3 k4 (nmem_one hag); have b4 := SpB.kept b3 k4 (nmem_one hbg); have s4 := SpB.kept s3 k4 (nmem_one hsg); have x0 := s4.c0; have x1 := s4.c1; have y0 := s4.f 0; have y1 := s4.f 1))
  have z4 := s4.set2 u v
  have hR5 := re_set2 hR4 hsg (.string u) (.string v)
  have kk4 := kp_set2 (((Kp.drew kk).trans k3).trans k4) (Nat.le_refl w.heap.size) (.string u) (.string v)
  clear x0 x1 y0 y1 s4 s3 k3 k4 hR4 hR3 hR2 a3 a4 b3 b4
  generalize (w4.setCell ⟨w.heap.size, 0, none⟩ (.string u)).setCell ⟨w.heap.size, 1, none⟩ (.string v) = W at *
  have d0 := z4.c0
  have d1 := z4.c1
  go_wp2
  refine bodyPost_ret (v := .agg #[.string u, .string v]) (by simp [results, Tryz.results42, go_sem, d0, d1]) rfl ?_
  exact ⟨rfl, hR5, kk4⟩


























































































































def zB (e : Int) (u : ByteArray) : ByteArray := if e = 0 then u else ⟨#[]⟩
theorem zV_span (e : Int) (u v : ByteArray) : zV e (.agg #[.string u, .string v]) (.agg #[.string ⟨#[]⟩, .string ⟨#[]⟩]) = .agg #[.string (zB e u), .string (zB e v)] := by
  unfold zV zB
  by_cases h : e = 0
  · rw [if_pos h, if_pos h, if_pos h]
  · rw [if_neg h, if_neg h, if_neg h]
theorem keep_2 (g b : Nat) (l1 h1 l2 h2 : ByteArray) (w : World) (hR : RE w g 0) (hs : Sp2 w b l1 h1 l2 h2) (z1 : l1.size ≤ 9223372036854775807) (z2 : h1.size ≤ 9223372036854775807) (z3 : l2.size ≤ 9223372036854775807) (z4 : h2.size ≤ 9223372036854775807) :
    Calls Tryz.prog 27 #[.pointer (some ⟨g, 0, none⟩), .slice (some ⟨b, 0, none⟩) 2 2] w fun r w' => r = .returned (.tuple #[]) ∧ RE w' g (kp (icE l1 h1) (icE l2 h2)) ∧ Kp [g] w w' := by
  have hne : b ≠ g := fun e1 => by
    unfold Sp2 at hs
    unfold RE at hR
    rw [e1, hR] at hs
    simp at hs
  have := ikeep_n g b 0 2 2 (some ⟨b, 0, none⟩) (fun j => if j = 0 then (l1, h1) else (l2, h2)) 0 w hR (fun _ => ⟨rfl, (Array.getElem?_eq_some_iff.1 hs).1⟩) hne (by omega) (fun j hj => by
    unfold Sp2 at hs
    match j, hj with
    | 0, _ => exact ⟨by simp [World.cell?, hs], by simp [World.cell?, hs]⟩
    | 1, _ => exact ⟨by simp [World.cell?, hs], by simp [World.cell?, hs]⟩) (fun j => by
    by_cases h : j = 0
    · simp only [h, if_true]; exact ⟨z1, z2⟩
    · simp only [h, if_false]; exact ⟨z3, z4⟩)
  exact this

set_option maxRecDepth 100000 in
set_option maxHeartbeats 4000000 in
theorem iadd_w (l1 h1 l2 h2 u v : ByteArray) (E : Int) (w : World)
    (q : ∀ (W : World) (g ba bb : Nat), RE W g 0 → SpB W ba l1 h1 → SpB W bb l2 h2 → Calls Tryz.prog 41 #[.pointer (some ⟨g, 0, none⟩), .pointer (some ⟨ba, 0, none⟩), .pointer (some ⟨bb, 0, none⟩)] W fun x w' => x = .returned (.agg #[.string u, .string v]) ∧ RE w' g E ∧ Kp [g] W w') :
    Calls Tryz.prog 16 #[.agg #[.string l1, .string h1], .agg #[.string l2, .string h2]] w fun r w' => r = .returned (.tuple #[.agg #[.string (zB E u), .string (zB E v)], .int .i64 E]) ∧ Kp [] w w' := by
  obtain ⟨w3, hw3⟩ : ∃ w3, w3 = ((w.alloc (.cells #[.string l1, .string h1] 24 (0, 0))).alloc (.cells #[.string l2, .string h2] 24 (0, 0))).alloc (.cells #[.string ⟨#[]⟩, .string ⟨#[]⟩] 24 (0, 0)) := ⟨_, rfl⟩
  have sa : SpB w3 w.heap.size l1 h1 := by rw [hw3]; exact ((SpB.made w l1 h1).alloc _).alloc _
  have sb : SpB w3 (w.heap.size + 1) l2 h2 := by rw [hw3]; have := (SpB.made (w.alloc (.cells #[.string l1, .string h1] 24 (0, 0))) l2 h2).alloc (.cells #[.string ⟨#[]⟩, .string ⟨#[]⟩] 24 (0, 0)); rw [World.size_alloc] at this; exact this
  have sr : SpB w3 (w.heap.size + 1 + 1) ⟨#[]⟩ ⟨#[]⟩ := by rw [hw3]; have := SpB.made ((w.alloc (.cells #[.string l1, .string h1] 24 (0, 0))).alloc (.cells #[.string l2, .string h2] 24 (0, 0))) ⟨#[]⟩ ⟨#[]⟩; rw [World.size_alloc, World.size_alloc] at this; exact this
  have kk : Kp [] w w3 := by rw [hw3]; exact (((Kp.refl _ _).alloc _).alloc _).alloc _
  have hq : Gives 41 #[.pointer (some ⟨w.heap.size, 0, none⟩), .pointer (some ⟨w.heap.size + 1, 0, none⟩)] w3 (.agg #[.string u, .string v]) E := Lib.hid fun W g hR _ k => q W g _ _ hR (sa.kept k (by simp)) (sb.kept k (by simp))
  have qr := Lib.hid (kresult_span 41 _ u v E w3 (enters_of Tryz.func41 (by kernel_rfl) rfl) hq)
  rw [zV_span] at qr
  generalize zB E u = u2 at *
  generalize zB E v = v2 at *
  clear q hq sa sb
  subst hw3
  go_enter Tryz.func16, Tryz.ntmps16
  go_wp2_with fail
  with_reducible refine qr.out.mono ?_
  rintro r w4 ⟨rfl, k⟩
  have s := sr.kept k (by simp)
  have x0 := s.c0
  have x1 := s.c1
  have y0 := s.f 0
  have y1 := s.f 1
  have z := s.set2 u2 v2
  have d0 := z.c0
  have d1 := z.c1
  have kf := kp_set2 (kk.trans k) (b := w.heap.size + 1 + 1) (by omega) (.string u2) (.string v2)
  clear qr sr s z k kk
  go_wp2
  refine bodyPost_ret (v := .tuple #[.agg #[.string u2, .string v2], .int .i64 E]) (by simp [results, Tryz.results16, go_sem, d0, d1]) rfl ?_
  exact ⟨rfl, kf⟩


set_option maxRecDepth 100000 in
set_option maxHeartbeats 4000000 in
theorem isub_w (l1 h1 l2 h2 u v : ByteArray) (E : Int) (w : World)
    (q : ∀ (W : World) (g ba bb : Nat), RE W g 0 → SpB W ba l1 h1 → SpB W bb l2 h2 → Calls Tryz.prog 42 #[.pointer (some ⟨g, 0, none⟩), .pointer (some ⟨ba, 0, none⟩), .pointer (some ⟨bb, 0, none⟩)] W fun x w' => x = .returned (.agg #[.string u, .string v]) ∧ RE w' g E ∧ Kp [g] W w') :
    Calls Tryz.prog 17 #[.agg #[.string l1, .string h1], .agg #[.string l2, .string h2]] w fun r w' => r = .returned (.tuple #[.agg #[.string (zB E u), .string (zB E v)], .int .i64 E]) ∧ Kp [] w w' := by
  obtain ⟨w3, hw3⟩ : ∃ w3, w3 = ((w.alloc (.cells #[.string l1, .string h1] 24 (0, 0))).alloc (.cells #[.string l2, .string h2] 24 (0, 0))).alloc (.cells #[.string ⟨#[]⟩, .string ⟨#[]⟩] 24 (0, 0)) := ⟨_, rfl⟩
  have sa : SpB w3 w.heap.size l1 h1 := by rw [hw3]; exact ((SpB.made w l1 h1).alloc _).alloc _
  have sb : SpB w3 (w.heap.size + 1) l2 h2 := by rw [hw3]; have := (SpB.made (w.alloc (.cells #[.string l1, .string h1] 24 (0, 0))) l2 h2).alloc (.cells #[.string ⟨#[]⟩, .string ⟨#[]⟩] 24 (0, 0)); rw [World.size_alloc] at this; exact this
  have sr : SpB w3 (w.heap.size + 1 + 1) ⟨#[]⟩ ⟨#[]⟩ := by rw [hw3]; have := SpB.made ((w.alloc (.cells #[.string l1, .string h1] 24 (0, 0))).alloc (.cells #[.string l2, .string h2] 24 (0, 0))) ⟨#[]⟩ ⟨#[]⟩; rw [World.size_alloc, World.size_alloc] at this; exact this
  have kk : Kp [] w w3 := by rw [hw3]; exact (((Kp.refl _ _).alloc _).alloc _).alloc _
  have hq : Gives 42 #[.pointer (some ⟨w.heap.size, 0, none⟩), .pointer (some ⟨w.heap.size + 1, 0, none⟩)] w3 (.agg #[.string u, .string v]) E := Lib.hid fun W g hR _ k => q W g _ _ hR (sa.kept k (by simp)) (sb.kept k (by simp))
  have qr := Lib.hid (kresult_span 42 _ u v E w3 (enters_of Tryz.func42 (by kernel_rfl) rfl) hq)
  rw [zV_span] at qr
  generalize zB E u = u2 at *
  generalize zB E v = v2 at *
  clear q hq sa sb
  subst hw3
  go_enter Tryz.func17, Tryz.ntmps17
  go_wp2_with fail
  with_reducible refine qr.out.mono ?_
  rintro r w4 ⟨rfl, k⟩
  have s := sr.kept k (by simp)
  have x0 := s.c0
  have x1 := s.c1
  have y0 := s.f 0
  have y1 := s.f 1
  have z := s.set2 u2 v2
  have d0 := z.c0
  have d1 := z.c1
  have kf := kp_set2 (kk.trans k) (b := w.heap.size + 1 + 1) (by omega) (.string u2) (.string v2)
  clear qr sr s z k kk
  go_wp2
  refine bodyPost_ret (v := .tuple #[.agg #[.string u2, .string v2], .int .i64 E]) (by simp [results, Tryz.results17, go_sem, d0, d1]) rfl ?_
  exact ⟨rfl, kf⟩






































end Go.Proofs.YtiommpdbbpddpaaGreatDoor

/- Middle, inside, Contains, Within and Meet of package interval, for any texts: what their calls give is told by letters. -/
namespace Go.Proofs.YtiommpdbbpddpaaGreatDoor
open Go.RowKit
open Go.Lib (nDigits itoa decDigits)

attribute [local go_sem ↓] Go.wp_at_zero Go.wp_at_succ

theorem keep_1 (g b : Nat) (lo hi : ByteArray) (w : World) (hR : RE w g 0) (hs : SpB w b lo hi) (z1 : lo.size ≤ 9223372036854775807) (z2 : hi.size ≤ 9223372036854775807) :
    Calls Tryz.prog 27 #[.pointer (some ⟨g, 0, none⟩), .slice (some ⟨b, 0, none⟩) 1 1] w fun r w' => r = .returned (.tuple #[]) ∧ RE w' g (icE lo hi) ∧ Kp [g] w w' := by
  have := ikeep_n g b 0 1 1 (some ⟨b, 0, none⟩) (fun _ => (lo, hi)) 0 w hR (fun _ => ⟨rfl, hs.lt⟩) (hs.ne hR) (by omega) (fun j hj => by
    obtain rfl : j = 0 := by omega
    exact ⟨by simpa using hs.c0, by simpa using hs.c1⟩) (fun _ => ⟨z1, z2⟩)
  exact this

set_option maxRecDepth 100000 in
set_option maxHeartbeats 4000000 in
theorem iMiddle (g ba : Nat) (lo hi u v : ByteArray) (f0 f1 f2 : Int) (w : World) (hR : RE w g 0) (ha : SpB w ba lo hi)
    (qk : Hid (∀ (W : World) (b : Nat), RE W g 0 → SpB W b lo hi → Calls Tryz.prog 27 #[.pointer (some ⟨g, 0, none⟩), .slice (some ⟨b, 0, none⟩) 1 1] W fun r w' => r = .returned (.tuple #[]) ∧ RE w' g f0 ∧ Kp [g] W w'))
    (q1 : KC g 28 #[.pointer (some ⟨g, 0, none⟩), .func (.func 36) #[] #[], .string lo, .string hi] f0 (.string u) f1)
    (q2 : KC g 28 #[.pointer (some ⟨g, 0, none⟩), .func (.func 35) #[] #[], .string u, .string ⟨#[50]⟩] f1 (.string v) f2) :
    Calls Tryz.prog 34 #[.pointer (some ⟨g, 0, none⟩), .pointer (some ⟨ba, 0, none⟩)] w fun x w' => x = .returned (.string v) ∧ RE w' g f2 ∧ Kp [g] w w' := by
  unfold KC at q1 q2
  have hag := ha.ne hR
  have a0 := ha.c0
  have a1 := ha.c1
  have kk : Kp [g] w (w.alloc (.cells #[.string lo, .string hi] 24 (0, 0))) := (Kp.refl _ _).alloc _
  go_enter Tryz.func34, Tryz.ntmps34
  go_wp2_with fail
  with_reducible refine (qk.out _ _ (hR.alloc _) (SpB.made w lo hi)).mono ?_
  rintro r w2 ⟨rfl, hR2, k2⟩
  replace kk := kk.trans k2
  replace ha := (ha.alloc _).kept k2 (nmem_one hag)
  clear a0 a1 k2 qk hR
  have a0 := ha.c0
  have a1 := ha.c1
  go_wp2_with fail
  with_reducible refine (q1.out _ hR2).mono ?_
  rintro r w3 ⟨rfl, hR3, k3⟩
  replace kk := kk.trans k3
  clear a0 a1 k3 q1 hR2 ha
  go_wp2_with fail
  with_reducible refine (q2.out _ hR3).mono ?_
  rintro r w4 ⟨rfl, hR4, k4⟩
  replace kk := kk.trans k4
  have HR := Lib.hid hR4
  clear k4 q2 hR3 hR4
  go_wp2
  go_ret
  exact ⟨rfl, HR.out, kk⟩














































































































































end Go.Proofs.YtiommpdbbpddpaaGreatDoor

/- Middle, Contains, Within and Meet of package interval over their closures: what these give is told by letters. -/
namespace Go.Proofs.YtiommpdbbpddpaaGreatDoor
open Go.RowKit
open Go.Lib (nDigits itoa decDigits)

theorem zV_rat (e : Int) (u : ByteArray) : zV e (.string u) (.string ⟨#[]⟩) = .string (zB e u) := by
  unfold zV zB
  by_cases h : e = 0
  · rw [if_pos h, if_pos h]
  · rw [if_neg h, if_neg h]
theorem StB.ne {w : World} {b g : Nat} {e : Int} {x : ByteArray} (h : StB w b x) (r : RE w g e) : b ≠ g := fun e1 => by
  unfold StB at h
  unfold RE at r
  rw [e1, r] at h
  simp at h

set_option maxRecDepth 100000 in
set_option maxHeartbeats 4000000 in
theorem iMiddle_w (lo hi v : ByteArray) (E : Int) (w : World)
    (q : ∀ (W : World) (g ba : Nat), RE W g 0 → SpB W ba lo hi → Calls Tryz.prog 34 #[.pointer (some ⟨g, 0, none⟩), .pointer (some ⟨ba, 0, none⟩)] W fun x w' => x = .returned (.string v) ∧ RE w' g E ∧ Kp [g] W w') :
    Calls Tryz.prog 12 #[.agg #[.string lo, .string hi]] w fun r w' => r = .returned (.tuple #[.string (zB E v), .int .i64 E]) ∧ Kp [] w w' := by
  obtain ⟨w3, hw3⟩ : ∃ w3, w3 = w.alloc (.cells #[.string lo, .string hi] 24 (0, 0)) := ⟨_, rfl⟩
  have sa : SpB w3 w.heap.size lo hi := by rw [hw3]; exact SpB.made w lo hi
  have kk : Kp [] w w3 := by rw [hw3]; exact (Kp.refl _ _).alloc _
  have hq : Gives 34 #[.pointer (some ⟨w.heap.size, 0, none⟩)] w3 (.string v) E := Lib.hid fun W g hR _ k => q W g _ hR (sa.kept k (by simp))
  have qr := Lib.hid (kresult_rat 34 _ v E w3 (enters_of Tryz.func34 (by kernel_rfl) rfl) hq)
  rw [zV_rat] at qr
  generalize zB E v = v2 at *
  clear q hq sa
  subst hw3
  go_enter Tryz.func12, Tryz.ntmps12
  go_wp2_with fail
  with_reducible refine qr.out.mono ?_
  rintro r w4 ⟨rfl, k⟩
  replace kk := kk.trans k
  clear qr k
  go_wp2
  go_ret2
  exact ⟨rfl, kk⟩

























































































































































































end Go.Proofs.YtiommpdbbpddpaaGreatDoor

/- Scale of package interval for any texts. -/
namespace Go.Proofs.YtiommpdbbpddpaaGreatDoor
open Go.RowKit
open Go.Lib (nDigits itoa decDigits)

attribute [local go_sem ↓] Go.wp_at_zero Go.wp_at_succ

/-- what a calculation gives that may turn the blocks L too -/
def GivesL (L : List Nat) (c : Nat) (caps : Array Value) (w : World) (v : Value) (e : Int) : Prop := Hid (∀ (W : World) (g : Nat), RE W g 0 → w.heap.size ≤ g → Kp [] w W → Calls Tryz.prog c (#[.pointer (some ⟨g, 0, none⟩)] ++ caps) W fun x w' => x = .returned v ∧ RE w' g e ∧ Kp (g :: L) W w')
set_option maxRecDepth 100000 in
set_option maxHeartbeats 1000000 in
theorem kresult_spanL (w : World) (L : List Nat) (hL : ∀ b ∈ L, b < w.heap.size) (c : Nat) (caps : Array Value) (u v : ByteArray) (e : Int) (he : ∀ args w, (callFunc c args).run Tryz.prog w = .ok (.enter c args) w) (q : GivesL L c caps w (.agg #[.string u, .string v]) e) :
    Calls Tryz.prog 40 #[.func (.func c) #[] caps] w fun x w' => x = .returned (.tuple #[zV e (.agg #[.string u, .string v]) (.agg #[.string ⟨#[]⟩, .string ⟨#[]⟩]), .int .i64 e]) ∧ Kp L w w' := by
  have h0 : RE ((w.alloc (.cells #[.string ⟨#[]⟩, .string ⟨#[]⟩] 24 (0, 0))).alloc (.cells #[.int .i64 0] 72 (0, 0))) (w.heap.size + 1) 0 := by have := heap_alloc_new (w.alloc (.cells #[.string ⟨#[]⟩, .string ⟨#[]⟩] 24 (0, 0))) (.cells #[.int .i64 0] 72 (0, 0)); rw [World.size_alloc] at this; exact this
  have s0 := (SpB.made w ⟨#[]⟩ ⟨#[]⟩).alloc (.cells #[.int .i64 0] 72 (0, 0))
  have hnL : w.heap.size ∉ (w.heap.size + 1) :: L := fun h => by
    rcases List.mem_cons.1 h with h | h
    · omega
    · have := hL _ h; omega
  have hst : ∀ x, x ∈ (w.heap.size + 1) :: L → x ∈ L ∨ w.heap.size ≤ x := fun x h => by
    rcases List.mem_cons.1 h with h | h
    · exact .inr (by omega)
    · exact .inl h
  have k0 : Kp [] w ((w.alloc (.cells #[.string ⟨#[]⟩, .string ⟨#[]⟩] 24 (0, 0))).alloc (.cells #[.int .i64 0] 72 (0, 0))) := ((Kp.refl _ _).alloc _).alloc _
  have q1 := Lib.hid (q.out _ _ h0 (Nat.le_succ _) k0)
  clear q h0
  by_cases h : e = 0
  · subst h
    rw [show zV 0 (.agg #[.string u, .string v]) (.agg #[.string ⟨#[]⟩, .string ⟨#[]⟩]) = (.agg #[.string u, .string v]) from if_pos rfl]
    go_enter Tryz.func40, Tryz.ntmps40
    go_wp2_with (go_at_fn c; refine q1.out.mono ?_; rintro x w2 ⟨rfl, hR, k1⟩; have hc := (hR.alloc (.cells #[.string u, .string v] 24 (0, 0))).cell; have x := (s0.kept k1 hnL).alloc (.cells #[.string u, .string v] 24 (0, 0)); have x0 := x.c0; have x1 := x.c1; have f0 := x.f 0; have f1 := x.f 1; have y := SpB.made w2 u v; have y0 := y.c0; have y1 := y.c1; have xs := x.set1 u; have xs1 := xs.c1; have xf1 := xs.f 1; have z := x.set2 u v; have d0 := z.c0; have d1 := z.c1; have kk : Kp L w (((w2.alloc (.cells #[.string u, .string v] 24 (0, 0))).setCell ⟨w.heap.size, 0, none⟩ (.string u)).setCell ⟨w.heap.size, 1, none⟩ (.string v)) := ((((k0.mono (S' := L) (fun _ h => by cases h)).step k1 hst).alloc _).setCell (p := ⟨w.heap.size, 0, none⟩) (.inr (Nat.le_refl _)) _).setCell (p := ⟨w.heap.size, 1, none⟩) (.inr (Nat.le_refl _)) _; clear hR k1 x y z xs)
    refine bodyPost_ret (v := .tuple #[.agg #[.string u, .string v], .int .i64 0]) (by simp [results, Tryz.results40, go_sem, d0, d1]) rfl ?_
    exact ⟨rfl, kk⟩
  · have hb : (e != 0) = true := by simp [h]
    rw [show zV e (.agg #[.string u, .string v]) (.agg #[.string ⟨#[]⟩, .string ⟨#[]⟩]) = (.agg #[.string ⟨#[]⟩, .string ⟨#[]⟩]) from if_neg h]
    clear h
    go_enter Tryz.func40, Tryz.ntmps40
    go_wp2_with (go_at_fn c; refine q1.out.mono ?_; rintro x w2 ⟨rfl, hR, k1⟩; have hc := (hR.alloc (.cells #[.string u, .string v] 24 (0, 0))).cell; have hc2 := ((hR.alloc (.cells #[.string u, .string v] 24 (0, 0))).alloc (.cells #[.string ⟨#[]⟩, .string ⟨#[]⟩] 24 (0, 0))).cell; have x := ((s0.kept k1 hnL).alloc (.cells #[.string u, .string v] 24 (0, 0))).alloc (.cells #[.string ⟨#[]⟩, .string ⟨#[]⟩] 24 (0, 0)); have x0 := x.c0; have x1 := x.c1; have f0 := x.f 0; have f1 := x.f 1; have y := SpB.made (w2.alloc (.cells #[.string u, .string v] 24 (0, 0))) ⟨#[]⟩ ⟨#[]⟩; rw [World.size_alloc] at y; have y0 := y.c0; have y1 := y.c1; have xs := x.set1 ⟨#[]⟩; have xs1 := xs.c1; have xf1 := xs.f 1; have z := x.set2 ⟨#[]⟩ ⟨#[]⟩; have d0 := z.c0; have d1 := z.c1; have kk : Kp L w (World.drew ((((w2.alloc (.cells #[.string u, .string v] 24 (0, 0))).alloc (.cells #[.string ⟨#[]⟩, .string ⟨#[]⟩] 24 (0, 0))).setCell ⟨w.heap.size, 0, none⟩ (.string ⟨#[]⟩)).setCell ⟨w.heap.size, 1, none⟩ (.string ⟨#[]⟩))) := ((((((k0.mono (S' := L) (fun _ h => by cases h)).step k1 hst).alloc _).alloc _).setCell (p := ⟨w.heap.size, 0, none⟩) (.inr (Nat.le_refl _)) _).setCell (p := ⟨w.heap.size, 1, none⟩) (.inr (Nat.le_refl _)) _).drew; clear hR k1 x y z xs)
    go_region
    all_goals go_wp2
    all_goals refine bodyPost_ret (v := .tuple #[.agg #[.string ⟨#[]⟩, .string ⟨#[]⟩], .int .i64 e]) (by simp [results, Tryz.results40, go_sem, d0, d1]) rfl ?_
    all_goals exact ⟨rfl, kk⟩


theorem StB.far2 {w : World} {b d : Nat} {x : ByteArray} (h : StB w b x) (hne : d ≠ b) (u v : Value) : StB ((w.setCell ⟨d, 0, none⟩ u).setCell ⟨d, 1, none⟩ v) b x := by
  unfold StB at *; simp [World.setCell, Array.getElem?_modify, hne, h]
theorem StB.drew' {w : World} {b : Nat} {x : ByteArray} (h : StB w b x) : StB w.drew b x := h

set_option maxRecDepth 100000 in
set_option maxHeartbeats 4000000 in
theorem iScale_neg (g ba bc : Nat) (lo hi x u v : ByteArray) (sg f0 fs f1 f2 f3 : Int) (w : World) (hR : RE w g 0) (ha : SpB w ba lo hi) (hc : StB w bc x) (hcg : bc ≠ g) (hac : bc ≠ ba) (hsg : sg < 0)
    (qk : Hid (∀ (W : World) (b : Nat), RE W g 0 → SpB W b lo hi → Calls Tryz.prog 27 #[.pointer (some ⟨g, 0, none⟩), .slice (some ⟨b, 0, none⟩) 1 1] W fun r w' => r = .returned (.tuple #[]) ∧ RE w' g f0 ∧ Kp [g] W w'))
    (qs : Hid (∀ W : World, Calls Tryz.prog 44 #[.string x] W fun e w' => e = .returned (.tuple #[.int .i64 sg, .int .i64 fs]) ∧ Kp [] W w'))
    (q0 : KC g 45 #[.pointer (some ⟨g, 0, none⟩), .int .i64 fs] f0 (.tuple #[]) f1)
    (q1 : KC g 28 #[.pointer (some ⟨g, 0, none⟩), .func (.func 46) #[] #[], .string hi, .string x] f1 (.string u) f2)
    (q2 : KC g 28 #[.pointer (some ⟨g, 0, none⟩), .func (.func 46) #[] #[], .string lo, .string x] f2 (.string v) f3) :
    Calls Tryz.prog 43 #[.pointer (some ⟨g, 0, none⟩), .pointer (some ⟨ba, 0, none⟩), .pointer (some ⟨bc, 0, none⟩)] w fun e w' => e = .returned (.agg #[.string u, .string v]) ∧ RE w' g f3 ∧ Kp [g, ba] w w' := by
  unfold KC at q0 q1 q2
  have hba : w.heap.size ≠ ba := by have := ha.lt; omega
  have hbc : w.heap.size ≠ bc := by have := hc.lt; omega
  have hag := ha.ne hR
  have kk : Kp [g, ba] w (w.alloc (.cells #[.string ⟨#[]⟩, .string ⟨#[]⟩] 24 (0, 0))) := (Kp.refl _ _).alloc _
  have s0 := SpB.made w ⟨#[]⟩ ⟨#[]⟩
  replace ha := ha.alloc (.cells #[.string ⟨#[]⟩, .string ⟨#[]⟩] 24 (0, 0))
  replace hc := hc.alloc (.cells #[.string ⟨#[]⟩, .string ⟨#[]⟩] 24 (0, 0))
  replace hR := hR.alloc (.cells #[.string ⟨#[]⟩, .string ⟨#[]⟩] 24 (0, 0))
  have hsz := s0.ne hR
  have a0 := ha.c0
  have a1 := ha.c1
  go_enter Tryz.func43, Tryz.ntmps43
  go_wp2_with fail
  have m1 := SpB.made (w.alloc (.cells #[.string ⟨#[]⟩, .string ⟨#[]⟩] 24 (0, 0))) lo hi
  rw [World.size_alloc] at m1
  with_reducible refine (qk.out _ _ (hR.alloc _) m1).mono ?_
  rintro e w2 ⟨rfl, hR2, k2⟩
  replace kk := (kk.alloc _).trans (k2.mono (S' := [g, ba]) (fun x h => .inl (by simp at h; simp [h])))
  replace ha := (ha.alloc _).kept k2 (nmem_one hag)
  replace hc := (hc.alloc _).kept k2 (nmem_one hcg)
  replace s0 := (s0.alloc _).kept k2 (nmem_one hsz)
  clear a0 a1 k2 qk hR m1
  have c0 := hc.c
  go_wp2_with fail
  with_reducible refine (qs.out _).mono ?_
  rintro e w3 ⟨rfl, k3⟩
  replace hR2 := hR2.kept k3 (by simp)
  replace kk := kk.trans (k3.mono (S' := [g, ba]) (fun _ h => by cases h))
  replace ha := ha.kept k3 (by simp)
  replace hc := hc.kept k3 (by simp)
  replace s0 := s0.kept k3 (by simp)
  clear c0 k3 qs
  go_wp2_with fail
  with_reducible refine (q0.out _ hR2).mono ?_
  rintro e w4 ⟨rfl, hR4, k4⟩
  replace kk := kk.trans (k4.mono (S' := [g, ba]) (fun x h => .inl (by simp at h; simp [h])))
  replace ha := ha.kept k4 (nmem_one hag)
  replace hc := hc.kept k4 (nmem_one hcg)
  replace s0 := s0.kept k4 (nmem_one hsz)
  clear k4 q0 hR2
  have a0 := ha.c0
  have a1 := ha.c1
  have c0 := hc.c
  have y0 := ha.f 0
  have y1 := ha.f 1
  have z0 := (ha.set1 hi).c1
  have z1 := (ha.set1 hi).f 1
  have ha5 := ha.set2 hi lo
  have hR5 := re_set2 hR4 hag (.string hi) (.string lo)
  have hc5 := StB.far2 hc (Ne.symm hac) (.string hi) (.string lo)
  have s5 := SpB.far2 s0 (Ne.symm hba) (.string hi) (.string lo)
  have kk5 : Kp [g, ba] w ((w4.setCell ⟨ba, 0, none⟩ (.string hi)).setCell ⟨ba, 1, none⟩ (.string lo)) := (kk.setCell (p := ⟨ba, 0, none⟩) (.inl (by simp)) _).setCell (p := ⟨ba, 1, none⟩) (.inl (by simp)) _
  have e0 := ha5.c0
  have e1 := ha5.c1
  have e2 := hc5.c
  go_wp2_with fail
  go_region_held3 (fun w' => w'.cell? ⟨ba, 0, none⟩ = some (.string hi) ∧ w'.cell? ⟨ba, 1, none⟩ = some (.string lo) ∧ w'.cell? ⟨bc, 0, none⟩ = some (.string x))
    (first
      | exact ⟨a7.c0, a7.c1, c7.c⟩
      | exact ⟨a6.c0, a6.c1, c6.c⟩
      | exact ⟨ha5.c0, ha5.c1, hc5.c⟩
      | exact ⟨(SpB.far2 a7 hba _ _).c0, (SpB.far2 a7 hba _ _).c1, (StB.far2 c7 hbc _ _).c⟩
      | go_keep)
    (first
      | (go_at_call 28; with_reducible refine (q1.out _ (RE.drew hR5)).mono ?_; rintro r w6 ⟨rfl, hR6, k6⟩; have a6 := SpB.kept (SpB.drew ha5) k6 (nmem_one hag); have c6 := StB.kept (StB.drew' hc5) k6 (nmem_one hcg); have s6 := SpB.kept (SpB.drew s5) k6 (nmem_one hsz))
      | (go_at_call 28; with_reducible refine (q2.out _ hR6).mono ?_; rintro r w7 ⟨rfl, hR7, k7⟩; have a7 := SpB.kept a6 k7 (nmem_one hag); have c7 := StB.kept c6 k7 (nmem_one hcg); have s7 := SpB.kept s6 k7 (nmem_one hsz); have x0 := s7.c0; have x1 := s7.c1; have t0 := s7.f 0; have t1 := s7.f 1))
  have z7 := s7.set2 u v
  have hR8 := re_set2 hR7 hsz (.string u) (.string v)
  have kk8 := kp_set2 (((Kp.drew kk5).trans (k6.mono (S' := [g, ba]) (fun x h => .inl (by simp at h; simp [h])))).trans (k7.mono (S' := [g, ba]) (fun x h => .inl (by simp at h; simp [h])))) (Nat.le_refl w.heap.size) (.string u) (.string v)
  clear x0 x1 t0 t1 s7 s6 k6 k7 hR7 hR6 hR5 a6 a7 c6 c7
  generalize (w7.setCell ⟨w.heap.size, 0, none⟩ (.string u)).setCell ⟨w.heap.size, 1, none⟩ (.string v) = W at *
  have d0 := z7.c0
  have d1 := z7.c1
  go_wp2
  refine bodyPost_ret (v := .agg #[.string u, .string v]) (by simp [results, Tryz.results43, go_sem, d0, d1]) rfl ?_
  exact ⟨rfl, hR8, kk8⟩


set_option maxRecDepth 100000 in
set_option maxHeartbeats 4000000 in
theorem iScale_pos (g ba bc : Nat) (lo hi x u v : ByteArray) (sg f0 fs f1 f2 f3 : Int) (w : World) (hR : RE w g 0) (ha : SpB w ba lo hi) (hc : StB w bc x) (hcg : bc ≠ g) (_ : bc ≠ ba) (hsg : ¬ sg < 0)
    (qk : Hid (∀ (W : World) (b : Nat), RE W g 0 → SpB W b lo hi → Calls Tryz.prog 27 #[.pointer (some ⟨g, 0, none⟩), .slice (some ⟨b, 0, none⟩) 1 1] W fun r w' => r = .returned (.tuple #[]) ∧ RE w' g f0 ∧ Kp [g] W w'))
    (qs : Hid (∀ W : World, Calls Tryz.prog 44 #[.string x] W fun e w' => e = .returned (.tuple #[.int .i64 sg, .int .i64 fs]) ∧ Kp [] W w'))
    (q0 : KC g 45 #[.pointer (some ⟨g, 0, none⟩), .int .i64 fs] f0 (.tuple #[]) f1)
    (q1 : KC g 28 #[.pointer (some ⟨g, 0, none⟩), .func (.func 46) #[] #[], .string lo, .string x] f1 (.string u) f2)
    (q2 : KC g 28 #[.pointer (some ⟨g, 0, none⟩), .func (.func 46) #[] #[], .string hi, .string x] f2 (.string v) f3) :
    Calls Tryz.prog 43 #[.pointer (some ⟨g, 0, none⟩), .pointer (some ⟨ba, 0, none⟩), .pointer (some ⟨bc, 0, none⟩)] w fun e w' => e = .returned (.agg #[.string u, .string v]) ∧ RE w' g f3 ∧ Kp [g, ba] w w' := by
  unfold KC at q0 q1 q2
  have hba : w.heap.size ≠ ba := by have := ha.lt; omega
  have hbc : w.heap.size ≠ bc := by have := hc.lt; omega
  have hag := ha.ne hR
  have kk : Kp [g, ba] w (w.alloc (.cells #[.string ⟨#[]⟩, .string ⟨#[]⟩] 24 (0, 0))) := (Kp.refl _ _).alloc _
  have s0 := SpB.made w ⟨#[]⟩ ⟨#[]⟩
  replace ha := ha.alloc (.cells #[.string ⟨#[]⟩, .string ⟨#[]⟩] 24 (0, 0))
  replace hc := hc.alloc (.cells #[.string ⟨#[]⟩, .string ⟨#[]⟩] 24 (0, 0))
  replace hR := hR.alloc (.cells #[.string ⟨#[]⟩, .string ⟨#[]⟩] 24 (0, 0))
  have hsz := s0.ne hR
  have a0 := ha.c0
  have a1 := ha.c1
  go_enter Tryz.func43, Tryz.ntmps43
  go_wp2_with fail
  have m1 := SpB.made (w.alloc (.cells #[.string ⟨#[]⟩, .string ⟨#[]⟩] 24 (0, 0))) lo hi
  rw [World.size_alloc] at m1
  with_reducible refine (qk.out _ _ (hR.alloc _) m1).mono ?_
  rintro e w2 ⟨rfl, hR2, k2⟩
  replace kk := (kk.alloc _).trans (k2.mono (S' := [g, ba]) (fun x h => .inl (by simp at h; simp [h])))
  replace ha := (ha.alloc _).kept k2 (nmem_one hag)
  replace hc := (hc.alloc _).kept k2 (nmem_one hcg)
  replace s0 := (s0.alloc _).kept k2 (nmem_one hsz)
  clear a0 a1 k2 qk hR m1
  have c0 := hc.c
  go_wp2_with fail
  with_reducible refine (qs.out _).mono ?_
  rintro e w3 ⟨rfl, k3⟩
  replace hR2 := hR2.kept k3 (by simp)
  replace kk := kk.trans (k3.mono (S' := [g, ba]) (fun _ h => by cases h))
  replace ha := ha.kept k3 (by simp)
  replace hc := hc.kept k3 (by simp)
  replace s0 := s0.kept k3 (by simp)
  clear c0 k3 qs
  go_wp2_with fail
  with_reducible refine (q0.out _ hR2).mono ?_
  rintro e w4 ⟨rfl, hR4, k4⟩
  replace kk := kk.trans (k4.mono (S' := [g, ba]) (fun x h => .inl (by simp at h; simp [h])))
  replace ha := ha.kept k4 (nmem_one hag)
  replace hc := hc.kept k4 (nmem_one hcg)
  replace s0 := s0.kept k4 (nmem_one hsz)
  clear k4 q0 hR2
  have a0 := ha.c0
  have a1 := ha.c1
  have c0 := hc.c
  have ha5 := ha
  have hR5 := hR4
  have hc5 := hc
  have s5 := s0
  have kk5 := kk
  go_wp2_with fail
  go_region_held3 (fun w' => w'.cell? ⟨ba, 0, none⟩ = some (.string lo) ∧ w'.cell? ⟨ba, 1, none⟩ = some (.string hi) ∧ w'.cell? ⟨bc, 0, none⟩ = some (.string x))
    (first
      | exact ⟨a7.c0, a7.c1, c7.c⟩
      | exact ⟨a6.c0, a6.c1, c6.c⟩
      | exact ⟨ha5.c0, ha5.c1, hc5.c⟩
      | exact ⟨(SpB.far2 a7 hba _ _).c0, (SpB.far2 a7 hba _ _).c1, (StB.far2 c7 hbc _ _).c⟩
      | go_keep)
    (first
      | (go_at_call 28; with_reducible refine (q1.out _ (RE.drew hR5)).mono ?_; rintro r w6 ⟨rfl, hR6, k6⟩; have a6 := SpB.kept (SpB.drew ha5) k6 (nmem_one hag); have c6 := StB.kept (StB.drew' hc5) k6 (nmem_one hcg); have s6 := SpB.kept (SpB.drew s5) k6 (nmem_one hsz))
      | (go_at_call 28; with_reducible refine (q2.out _ hR6).mono ?_; rintro r w7 ⟨rfl, hR7, k7⟩; have a7 := SpB.kept a6 k7 (nmem_one hag); have c7 := StB.kept c6 k7 (nmem_one hcg); have s7 := SpB.kept s6 k7 (nmem_one hsz); have x0 := s7.c0; have x1 := s7.c1; have t0 := s7.f 0; have t1 := s7.f 1))
  have z7 := s7.set2 u v
  have hR8 := re_set2 hR7 hsz (.string u) (.string v)
  have kk8 := kp_set2 (((Kp.drew kk5).trans (k6.mono (S' := [g, ba]) (fun x h => .inl (by simp at h; simp [h])))).trans (k7.mono (S' := [g, ba]) (fun x h => .inl (by simp at h; simp [h])))) (Nat.le_refl w.heap.size) (.string u) (.string v)
  clear x0 x1 t0 t1 s7 s6 k6 k7 hR7 hR6 hR5 a6 a7 c6 c7
  generalize (w7.setCell ⟨w.heap.size, 0, none⟩ (.string u)).setCell ⟨w.heap.size, 1, none⟩ (.string v) = W at *
  have d0 := z7.c0
  have d1 := z7.c1
  go_wp2
  refine bodyPost_ret (v := .agg #[.string u, .string v]) (by simp [results, Tryz.results43, go_sem, d0, d1]) rfl ?_
  exact ⟨rfl, hR8, kk8⟩


set_option maxRecDepth 100000 in
set_option maxHeartbeats 4000000 in
theorem iScale_w (lo hi x u v : ByteArray) (E : Int) (w : World)
    (q : ∀ (W : World) (g ba bc : Nat), RE W g 0 → SpB W ba lo hi → StB W bc x → bc ≠ ba → Calls Tryz.prog 43 #[.pointer (some ⟨g, 0, none⟩), .pointer (some ⟨ba, 0, none⟩), .pointer (some ⟨bc, 0, none⟩)] W fun e w' => e = .returned (.agg #[.string u, .string v]) ∧ RE w' g E ∧ Kp [g, ba] W w') :
    Calls Tryz.prog 18 #[.agg #[.string lo, .string hi], .string x] w fun r w' => r = .returned (.tuple #[.agg #[.string (zB E u), .string (zB E v)], .int .i64 E]) ∧ Kp [] w w' := by
  obtain ⟨w3, hw3⟩ : ∃ w3, w3 = ((w.alloc (.cells #[.string lo, .string hi] 24 (0, 0))).alloc (.cells #[.string x] 22 (0, 0))).alloc (.cells #[.string ⟨#[]⟩, .string ⟨#[]⟩] 24 (0, 0)) := ⟨_, rfl⟩
  have sa : SpB w3 w.heap.size lo hi := by rw [hw3]; exact ((SpB.made w lo hi).alloc _).alloc _
  have sc : StB w3 (w.heap.size + 1) x := by rw [hw3]; have := (StB.made (w.alloc (.cells #[.string lo, .string hi] 24 (0, 0))) x).alloc (.cells #[.string ⟨#[]⟩, .string ⟨#[]⟩] 24 (0, 0)); rw [World.size_alloc] at this; exact this
  have sr : SpB w3 (w.heap.size + 1 + 1) ⟨#[]⟩ ⟨#[]⟩ := by rw [hw3]; have := SpB.made ((w.alloc (.cells #[.string lo, .string hi] 24 (0, 0))).alloc (.cells #[.string x] 22 (0, 0))) ⟨#[]⟩ ⟨#[]⟩; rw [World.size_alloc, World.size_alloc] at this; exact this
  have kk : Kp [] w w3 := by rw [hw3]; exact (((Kp.refl _ _).alloc _).alloc _).alloc _
  have hq : GivesL [w.heap.size] 43 #[.pointer (some ⟨w.heap.size, 0, none⟩), .pointer (some ⟨w.heap.size + 1, 0, none⟩)] w3 (.agg #[.string u, .string v]) E := Lib.hid fun W g hR _ k => q W g _ _ hR (sa.kept k (by simp)) (sc.kept k (by simp)) (by omega)
  have qr := Lib.hid (kresult_spanL w3 [w.heap.size] (fun b hb => by simp at hb; rw [hb]; exact sa.lt) 43 _ u v E (enters_of Tryz.func43 (by kernel_rfl) rfl) hq)
  rw [zV_span] at qr
  generalize zB E u = u2 at *
  generalize zB E v = v2 at *
  clear q hq sa sc
  subst hw3
  go_enter Tryz.func18, Tryz.ntmps18
  go_wp2_with fail
  with_reducible refine qr.out.mono ?_
  rintro r w4 ⟨rfl, k⟩
  have s := sr.kept k (by simp; omega)
  have x0 := s.c0
  have x1 := s.c1
  have y0 := s.f 0
  have y1 := s.f 1
  have z := s.set2 u2 v2
  have d0 := z.c0
  have d1 := z.c1
  have kf := kp_set2 (kk.step k (fun x h => .inr (by simp at h; omega))) (b := w.heap.size + 1 + 1) (by omega) (.string u2) (.string v2)
  clear qr sr s z k kk
  go_wp2
  refine bodyPost_ret (v := .tuple #[.agg #[.string u2, .string v2], .int .i64 E]) (by simp [results, Tryz.results18, go_sem, d0, d1]) rfl ?_
  exact ⟨rfl, kf⟩

end Go.Proofs.YtiommpdbbpddpaaGreatDoor
