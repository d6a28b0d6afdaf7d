/- Texts Ik1, Ik2, Ik6, Ik9: each says in its own first comment what it proves. -/
import Derived.Test.YtiommpdbbpddpaaGreatM49
import Derived.Test.YtiommpdbbpddpaaGreatM27
import Derived.Deep.RegionHeld3
import Derived.Deep.DrawnRows
/- The keeper of package reckon with any error: Keep, Of, Order, Result; Check and keep of package interval for any texts. -/
namespace Go.Proofs.YtiommpdbbpddpaaGreat
open Go.RowKit
open Go.Lib (nDigits itoa decDigits)

set_option maxRecDepth 100000 in
set_option maxHeartbeats 1000000 in
theorem kKeep (g : Nat) (e f : Int) (w : World) (h : RE w g e) :
    Calls Tryz.prog 42 #[.pointer (some ⟨g, 0, none⟩), .int .i64 f] w fun r w' => r = .returned (.tuple #[]) ∧ RE w' g (kp e f) ∧ Kp [g] w w' := by
  have hc := h.cell
  have hf := h.free
  have hl := h.lt
  by_cases he : e = 0
  · subst he
    have hs := h.set f
    have hk : Kp [g] w (w.setCell ⟨g, 0, none⟩ (.int .i64 f)) := (Kp.refl _ _).setCell (p := ⟨g, 0, none⟩) (.inl (by simp)) _
    clear h
    go_enter Tryz.func42, Tryz.ntmps42
    go_wp2
    go_end0
    exact ⟨rfl, by rw [kp_zero]; exact hs, hk⟩
  · have hb : (e == 0) = false := by simp [he]
    have hkp : kp e f = e := if_neg he
    have hk : Kp [g] w w := Kp.refl _ _
    clear he
    go_enter Tryz.func42, Tryz.ntmps42
    go_wp2
    go_end0
    exact ⟨rfl, by rw [hkp]; exact h, hk⟩

set_option maxRecDepth 100000 in
set_option maxHeartbeats 1000000 in
theorem kOf (F g : Nat) (e f : Int) (a b c : ByteArray) (w : World) (h : RE w g e) (q : Hid (∀ W : World, Calls Tryz.prog F #[.string a, .string b] W fun r w' => r = .returned (.tuple #[.string c, .int .i64 f]) ∧ Kp [] W w')) (he : ∀ args w, (callFunc F args).run Tryz.prog w = .ok (.enter F args) w) :
    Calls Tryz.prog 26 #[.pointer (some ⟨g, 0, none⟩), .func (.func F) #[] #[], .string a, .string b] w fun r w' => r = .returned (.string c) ∧ RE w' g (kp e f) ∧ Kp [g] w w' := by
  go_enter Tryz.func26, Tryz.ntmps26
  go_wp2_with (go_at_fn F; refine (q.out _).mono ?_; rintro x w1 ⟨rfl, k⟩)
  have h1 := Lib.hid (kKeep g e f w1 (h.kept k (by simp)))
  clear h q
  go_wp2_with fail
  with_reducible refine h1.out.mono ?_
  rintro r w2 ⟨rfl, hR, k2⟩
  have HR := Lib.hid hR
  have kk := (k.mono (S' := [g]) (fun _ h => by cases h)).trans k2
  clear hR k k2 h1
  go_wp2
  go_ret
  exact ⟨rfl, HR.out, kk⟩

set_option maxRecDepth 100000 in
set_option maxHeartbeats 1000000 in
theorem kOrder (g : Nat) (e f : Int) (a b : ByteArray) (v : Int) (w : World) (h : RE w g e) (q : Hid (∀ W : World, Calls Tryz.prog 87 #[.string a, .string b] W fun r w' => r = .returned (.tuple #[.int .i64 v, .int .i64 f]) ∧ Kp [] W w')) :
    Calls Tryz.prog 67 #[.pointer (some ⟨g, 0, none⟩), .string a, .string b] w fun r w' => r = .returned (.int .i64 v) ∧ RE w' g (kp e f) ∧ Kp [g] w w' := by
  go_enter Tryz.func67, Tryz.ntmps67
  go_wp2_with fail
  with_reducible refine (q.out _).mono ?_
  rintro r w1 ⟨rfl, k⟩
  have h1 := Lib.hid (kKeep g e f w1 (h.kept k (by simp)))
  clear h q
  go_wp2_with fail
  with_reducible refine h1.out.mono ?_
  rintro r w2 ⟨rfl, hR, k2⟩
  have HR := Lib.hid hR
  have kk := (k.mono (S' := [g]) (fun _ h => by cases h)).trans k2
  clear hR k k2 h1
  go_wp2
  go_ret
  exact ⟨rfl, HR.out, kk⟩

/-- what a calculation gives: a value, and the keeper's error behind it -/
def Gives (c : Nat) (caps : Array Value) (w : World) (v : Value) (e : Int) : Prop := Hid (∀ (W : World) (g : Nat), RE W g 0 → w.heap.size ≤ g → Kp [] w W → Calls Tryz.prog c (#[.pointer (some ⟨g, 0, none⟩)] ++ caps) W fun x w' => x = .returned v ∧ RE w' g e ∧ Kp [g] W w')
/-- a value, but a zero beside an error -/
def zV (e : Int) (v z : Value) : Value := if e = 0 then v else z

theorem kp_new {w W w' : World} {g : Nat} (k : Kp [] w W) (hg : w.heap.size ≤ g) (k2 : Kp [g] W w') : Kp [] w w' := k.step k2 (fun x h => .inr (by simp at h; omega))

set_option maxRecDepth 100000 in
set_option maxHeartbeats 1000000 in
theorem kresult_rat (c : Nat) (caps : Array Value) (v : ByteArray) (e : Int) (w : World) (he : ∀ args w, (callFunc c args).run Tryz.prog w = .ok (.enter c args) w) (q : Gives c caps w (.string v) e) :
    Calls Tryz.prog 24 #[.func (.func c) #[] caps] w fun x w' => x = .returned (.tuple #[zV e (.string v) (.string ⟨#[]⟩), .int .i64 e]) ∧ Kp [] w w' := by
  have h0 : RE (w.alloc (.cells #[.int .i64 0] 75 (0, 0))) w.heap.size 0 := heap_alloc_new w _
  have k0 : Kp [] w (w.alloc (.cells #[.int .i64 0] 75 (0, 0))) := (Kp.refl _ _).alloc _
  have q1 := Lib.hid (q.out _ _ h0 (Nat.le_refl _) k0)
  clear q h0
  by_cases h : e = 0
  · subst h
    rw [show zV 0 (.string v) (.string ⟨#[]⟩) = (.string v) from if_pos rfl]
    go_enter Tryz.func24, Tryz.ntmps24
    go_wp2_with (go_at_fn c; refine q1.out.mono ?_; rintro x w1 ⟨rfl, hR, k1⟩; have hc := hR.cell; have kk := kp_new k0 (Nat.le_refl _) k1; clear hR k1)
    go_ret2
    exact ⟨rfl, kk⟩
  · have hb : (e != 0) = true := by simp [h]
    rw [show zV e (.string v) (.string ⟨#[]⟩) = (.string ⟨#[]⟩) from if_neg h]
    clear h
    go_enter Tryz.func24, Tryz.ntmps24
    go_wp2_with (go_at_fn c; refine q1.out.mono ?_; rintro x w1 ⟨rfl, hR, k1⟩; have hc := hR.cell; have kk := kp_new k0 (Nat.le_refl _) k1; have hc2 := (hR.alloc (.cells #[.string ⟨#[]⟩] 24 (0, 0))).cell; have kd : Kp [] w (World.drew (w1.alloc (.cells #[.string ⟨#[]⟩] 24 (0, 0)))) := (kk.alloc _).drew; clear hR k1)
    go_region
    all_goals go_wp2
    all_goals go_ret2
    all_goals exact ⟨rfl, kd⟩

theorem SpB.set2 {w : World} {b : Nat} {lo hi : ByteArray} (h : SpB w b lo hi) (u v : ByteArray) : SpB ((w.setCell ⟨b, 0, none⟩ (.string u)).setCell ⟨b, 1, none⟩ (.string v)) b u v := by
  unfold SpB at *; simp [World.setCell, Array.getElem?_modify, h]
theorem SpB.set1 {w : World} {b : Nat} {lo hi : ByteArray} (h : SpB w b lo hi) (u : ByteArray) : SpB (w.setCell ⟨b, 0, none⟩ (.string u)) b u hi := by
  unfold SpB at *; simp [World.setCell, Array.getElem?_modify, h]



















































/-- the error of a span of texts -/
def icE (lo hi : ByteArray) : Int := if qCmE lo hi = 0 then (if 0 < qCmV lo hi then 9 else 0) else qCmE lo hi
set_option maxRecDepth 100000 in
set_option maxHeartbeats 1000000 in
theorem icheck_any (lo hi : ByteArray) (w : World) (h1 : lo.size ≤ 9223372036854775807) (h2 : hi.size ≤ 9223372036854775807) :
    Calls Tryz.prog 82 #[.agg #[.string lo, .string hi]] w fun e w' => e = .returned (.int .i64 (icE lo hi)) ∧ Kp [] w w' := by
  have q : Hid (∀ W : World, Calls Tryz.prog 87 #[.string lo, .string hi] W fun r w' => r = .returned (.tuple #[.int .i64 (qCmV lo hi), .int .i64 (qCmE lo hi)]) ∧ Kp [] W w') := fun W => qCompare_any lo hi W h1 h2
  have s := SpB.made w lo hi
  have c0 := s.c0
  have c1 := s.c1
  have k0 : Kp [] w (w.alloc (.cells #[.string lo, .string hi] 26 (0, 0))) := (Kp.refl _ _).alloc _
  unfold icE
  generalize qCmV lo hi = v at *
  generalize qCmE lo hi = E at *
  clear s h1 h2
  by_cases hE : E = 0
  · subst hE
    rw [if_pos rfl]
    by_cases hv : 0 < v
    · rw [if_pos hv]
      go_enter Tryz.func82, Tryz.ntmps82
      go_wp2_with fail
      with_reducible refine (q.out _).mono ?_
      rintro e w1 ⟨rfl, k⟩
      go_wp2
      go_ret
      exact ⟨rfl, k0.trans k⟩
    · rw [if_neg hv]
      go_enter Tryz.func82, Tryz.ntmps82
      go_wp2_with fail
      with_reducible refine (q.out _).mono ?_
      rintro e w1 ⟨rfl, k⟩
      go_wp2
      go_ret
      exact ⟨rfl, k0.trans k⟩
  · rw [if_neg hE]
    have hb : (E != 0) = true := by simp [hE]
    clear hE
    go_enter Tryz.func82, Tryz.ntmps82
    go_wp2_with fail
    with_reducible refine (q.out _).mono ?_
    rintro e w1 ⟨rfl, k⟩
    go_wp2
    go_ret
    exact ⟨rfl, k0.trans k⟩

/-- spans of texts in a row -/
def Spns (w : World) (g o : Nat) (l : List (ByteArray × ByteArray)) : Prop := ∀ i (h : i < l.length), w.cell? ⟨g, o + i * 2, none⟩ = some (.string l[i].1) ∧ w.cell? ⟨g, o + i * 2 + 1, none⟩ = some (.string l[i].2)
/-- the error that the keeper holds behind n of the spans -/
def keE (G : Nat → ByteArray × ByteArray) (e : Int) : Nat → Int
  | 0 => e
  | n + 1 => kp (keE G e n) (icE (G n).1 (G n).2)

set_option maxRecDepth 100000 in
set_option maxHeartbeats 4000000 in
theorem ikeep_n (g b o c n : Nat) (p : Option Addr) (G : Nat → ByteArray × ByteArray) (e : Int) (w : World) (h : RE w g e) (hp : 0 < n → p = some ⟨b, o, none⟩ ∧ b < w.heap.size) (hbg : b ≠ g) (hn : n ≤ 1000000)
    (hs : ∀ j, j < n → w.cell? ⟨b, o + j * 2, none⟩ = some (.string (G j).1) ∧ w.cell? ⟨b, o + j * 2 + 1, none⟩ = some (.string (G j).2)) (hz : ∀ j, (G j).1.size ≤ 9223372036854775807 ∧ (G j).2.size ≤ 9223372036854775807) :
    Calls Tryz.prog 58 #[.pointer (some ⟨g, 0, none⟩), .slice p n c] w fun r w' => r = .returned (.tuple #[]) ∧ RE w' g (keE G e n) ∧ Kp [g] w w' := by
  have qc : Hid (∀ (W : World) (j : Nat), Calls Tryz.prog 82 #[.agg #[.string (G j).1, .string (G j).2]] W fun r w' => r = .returned (.int .i64 (icE (G j).1 (G j).2)) ∧ Kp [] W w') := fun W j => icheck_any _ _ W (hz j).1 (hz j).2
  have hst : Hid (∀ k, keE G e (k + 1) = kp (keE G e k) (icE (G k).1 (G k).2)) := Lib.hid fun _ => rfl
  have h0 : RE w g (keE G e 0) := h
  have hcc : Hid (∀ j, j < n → ∀ W, Kp [g] w W → W.cell? ⟨b, o + j * 2, none⟩ = some (.string (G j).1) ∧ W.cell? ⟨b, o + j * 2 + 1, none⟩ = some (.string (G j).2)) := Lib.hid fun j hj W k => by
    have e := k.block b (hp (by omega)).2 (by simp [hbg])
    obtain ⟨x, y⟩ := hs j hj
    exact ⟨by rw [World.cell?_of_block e]; exact x, by rw [World.cell?_of_block e]; exact y⟩
  have hqp : Hid (0 < n → p = some ⟨b, o, none⟩) := Lib.hid fun h => (hp h).1
  generalize keE G e = T at *
  have hn1 : (n : Int) ≤ 1000000 := by omega
  have hn0 : 0 ≤ (n : Int) := by omega
  clear hs hz hp hn h hbg
  go_enter Tryz.func58, Tryz.ntmps58
  go_wp2_with fail
  go_loopg [8] n (fun gk s8 wr => ∃ k : Nat, s8 = .int .i64 k ∧ k + gk = n ∧ RE wr g (T k) ∧ Kp [g] w wr)
  case atStart => exact ⟨0, rfl, by omega, h0, Kp.refl _ _⟩
  case round =>
    clear h0
    obtain ⟨k, rfl, hk, hR, kk⟩ := hrel
    by_cases hlt : k < n
    · obtain rfl := hqp.out (by omega)
      obtain ⟨c0, c1⟩ := hcc.out k hlt wr kk
      have hlt' : (k : Int) < (n : Int) := by omega
      have hz1 : 0 ≤ (k : Int) := by omega
      have s := SpB.made wr (G k).1 (G k).2
      have s0 := s.c0
      have s1 := s.c1
      have f0 := s.f 0
      have f1 := s.f 1
      have hr := hR.alloc (.cells #[.string (G k).1, .string (G k).2] 26 (0, 0))
      have ka := kk.alloc (.cells #[.string (G k).1, .string (G k).2] 26 (0, 0))
      have q := Lib.hid fun W : World => qc.out W k
      have ht := Lib.hid (hst.out k)
      have Hk := Lib.hid hk; have Hl := Lib.hid hlt
      clear s hlt hk qc hst hR kk hcc
      generalize icE (G k).1 (G k).2 = f at *
      generalize (G k).1 = lo at *
      generalize (G k).2 = hi at *
      go_wp2_with fail
      with_reducible refine (q.out _).mono ?_
      rintro e w1 ⟨rfl, k1⟩
      have q2 := Lib.hid (kKeep g (T k) f w1 (hr.kept k1 (by simp)))
      go_wp2_with fail
      with_reducible refine q2.out.mono ?_
      rintro e w2 ⟨rfl, hR2, k2⟩
      have kf := (ka.trans (k1.mono (S' := [g]) (fun _ h => by cases h))).trans k2
      clear ka k1 k2 q q2 c0 c1 s0 s1 f0 f1 hr
      go_wp2
      have hk := Hk.out; have hlt := Hl.out
      go_roundg (gk - 1)
      case measure => omega
      case rel => exact ⟨k + 1, by go_num, by omega, by rw [ht.out]; exact hR2, kf⟩
    · have hlt' : ¬ (k : Int) < (n : Int) := by omega
      have ek := Lib.hid (show k = n by omega)
      clear hlt hk qc
      go_wp2
      go_end0
      exact ⟨rfl, by rw [← ek.out]; exact hR, kk⟩

end Go.Proofs.YtiommpdbbpddpaaGreat

/- The closures of package interval: Add, Sub, Meet, Hull, Width, Middle: what a span's two calls give is told by letters. -/
namespace Go.Proofs.YtiommpdbbpddpaaGreat
open Go.RowKit
open Go.Lib (nDigits itoa decDigits)

theorem kp_cell {L : List Nat} {W W' : World} {b i : Nat} {v : Value} (k : Kp L W W') (hb : b ∉ L) (h : W.cell? ⟨b, i, none⟩ = some v) : W'.cell? ⟨b, i, none⟩ = some v := by
  rw [World.cell?_of_block (k.block b (World.block_lt_of_cell? W _ h) hb)]; exact h
theorem SpB.ne {w : World} {b g : Nat} {e : Int} {lo hi : ByteArray} (h : SpB w b lo hi) (r : RE w g e) : b ≠ g := fun e1 => by
  unfold SpB at h
  unfold RE at r
  rw [e1, r] at h
  simp at h
theorem RE.drew {w : World} {g : Nat} {e : Int} (h : RE w g e) : RE w.drew g e := h
theorem SpB.drew {w : World} {b : Nat} {lo hi : ByteArray} (h : SpB w b lo hi) : SpB w.drew b lo hi := h
theorem SpB.far2 {w : World} {b d : Nat} {lo hi : ByteArray} (h : SpB w b lo hi) (hne : d ≠ b) (x y : Value) : SpB ((w.setCell ⟨d, 0, none⟩ x).setCell ⟨d, 1, none⟩ y) b lo hi := by
  unfold SpB at *; simp [World.setCell, Array.getElem?_modify, hne, h]
/-- a block that holds two spans -/
def Sp2 (w : World) (b : Nat) (l1 h1 l2 h2 : ByteArray) : Prop := w.heap[b]? = some (.cells #[.string l1, .string h1, .string l2, .string h2] 26 (0, 0))
theorem Sp2.made (w : World) (l1 h1 l2 h2 : ByteArray) : Sp2 (w.alloc (.cells #[.string l1, .string h1, .string l2, .string h2] 26 (0, 0))) w.heap.size l1 h1 l2 h2 := heap_alloc_new w _
/-- the call of a keeper's function that ends in the error f -/
def KC (g n : Nat) (args : Array Value) (e : Int) (v : Value) (f : Int) : Prop := Hid (∀ W : World, RE W g e → Calls Tryz.prog n args W fun r w' => r = .returned v ∧ RE w' g f ∧ Kp [g] W w')

theorem wpList_stepN {P : Program} {w w' : World} {ops : Array Oper} {rest : List Oper} {o : Oper} {a a' : Act} {v : Value} {Q : Exit → Act → World → Prop} (hgd : o.guard = none) (hrun : (execOp a.eval o).run P w = .ok (.value v) w') (hput : a.put o.dst v = a')
    (h : wpList P ops Q rest a' w') : wpList P ops Q (o :: rest) a w := by
  subst hput
  refine wpList_plain hgd fun K hK => ?_
  unfold Oper.wp
  rw [hrun]
  exact hK _ _ h
attribute [local go_sem ↓] Go.wp_at_zero Go.wp_at_succ

















































































































































































































































end Go.Proofs.YtiommpdbbpddpaaGreat

/- Middle, Contains, Within and Meet of package interval over their closures: what these give is told by letters. -/
namespace Go.Proofs.YtiommpdbbpddpaaGreat
open Go.RowKit
open Go.Lib (nDigits itoa decDigits)

theorem StB.ne {w : World} {b g : Nat} {e : Int} {x : ByteArray} (h : StB w b x) (r : RE w g e) : b ≠ g := fun e1 => by
  unfold StB at h
  unfold RE at r
  rw [e1, r] at h
  simp at h

















































































































































































































end Go.Proofs.YtiommpdbbpddpaaGreat

/- Scale of package interval for any texts. -/
namespace Go.Proofs.YtiommpdbbpddpaaGreat
open Go.RowKit
open Go.Lib (nDigits itoa decDigits)

attribute [local go_sem ↓] Go.wp_at_zero Go.wp_at_succ

theorem StB.far2 {w : World} {b d : Nat} {x : ByteArray} (h : StB w b x) (hne : d ≠ b) (u v : Value) : StB ((w.setCell ⟨d, 0, none⟩ u).setCell ⟨d, 1, none⟩ v) b x := by
  unfold StB at *; simp [World.setCell, Array.getElem?_modify, hne, h]
end Go.Proofs.YtiommpdbbpddpaaGreat
