/- Texts Oe1, Od3: each says in its own first comment what it proves. -/
import Derived.Test.YtlimjohnimgnhaaGreatDoorM08
import Derived.Laws.RangeAny
import Derived.Lib.OthersKept
/- Package checks: Each at limits; Result at limits and booleans. -/
namespace Go.Proofs.YtlimjohnimgnhaaGreatDoor
open Go.RowKit

abbrev LimT : Type := Int × Int
def encLim : LimT → List Value | (l, h) => [.int .i64 l, .int .i64 h]
abbrev valLim : LimT → Value | (l, h) => .agg #[.int .i64 l, .int .i64 h]
set_option maxRecDepth 100000 in
set_option maxHeartbeats 2000000 in
theorem cEach1_Lim (F : Nat) (d : LimT) (xs : List LimT) (es : List Int) (sv : Value) (p q : Nat) (w : World) (hn : xs.length ≤ 100000) (hl : es.length = xs.length) (h1 : w.cell? ⟨p, 0, none⟩ = some sv) (h2 : w.cell? ⟨q, 0, none⟩ = some (.func (.func F) #[] #[])) (hs : Sl [] 2 w sv (xs.map encLim))
    (he : ∀ args W, (callFunc F args).run Tryz.prog W = .ok (.enter F args) W) (hf : ∀ i, i < xs.length → Ca F #[valLim (xs.getD i d)] (.int .i64 (es.getD i 0))) :
    Calls Tryz.prog 129 #[.pointer (some ⟨p, 0, none⟩), .pointer (some ⟨q, 0, none⟩)] w fun r W' => r = .returned (.int .i64 (firstE es)) ∧ Kb w W' := by
  obtain ⟨sp, cap, hv, hs⟩ := hs
  rw [List.length_map] at hv hs
  rw [hv] at h1
  have HS := Lib.hid hs
  have HC := Lib.hid hf
  have H0 : Hid (firstE es = firstE (es.drop 0)) := rfl
  have HX := Lib.hid (fun k (hk : k < xs.length) => show (xs.map encLim).getD k [] = encLim (xs.getD k d) by simp [List.getD_eq_getElem?_getD, hk])
  generalize hN : xs.length = n at *
  have HD := Lib.hid (fun k (hk : k < n) => firstE_drop (es := es) (k := k) (by omega))
  have HE : Hid (firstE (es.drop n) = 0) := by rw [List.drop_of_length_le (by omega)]; rfl
  clear hs hf hv hl hN
  go_enter Tryz.func129, Tryz.ntmps129
  go_wp2
  go_loopg [4, 5, 8] n (fun gk s4 s5 s8 wr => ∃ k : Nat, s8 = .int .i64 k ∧ k + gk = n ∧ Hid (firstE es = firstE (es.drop k)) ∧ Kb w wr)
  case atStart => exact ⟨0, rfl, by omega, H0, Kb.refl _⟩
  case round =>
    obtain ⟨k, rfl, hk, hE, kk⟩ := hrel
    have hk0 : (0 : Int) ≤ (k : Int) := by omega
    have c2 := kk.cell h2
    by_cases hlt : k < n
    · obtain ⟨b, off, rfl, hb, hbL, hcell⟩ := HS.out (by omega)
      have hX := HX.out k hlt
      have hcal := HC.out k hlt
      have hD := HD.out k hlt
      generalize es.getD k 0 = e at *
      generalize xs.getD k d = x at *
      obtain ⟨l, h⟩ := x
      have x0 := kk.cell (hcell k hlt 0 (by omega))
      rw [hX] at x0
      replace x0 : wr.cell? ⟨b, off + k * 2, none⟩ = some (.int .i64 l) := x0
      have x1 := kk.cell (hcell k hlt 1 (by omega))
      rw [hX] at x1
      replace x1 : wr.cell? ⟨b, off + k * 2 + 1, none⟩ = some (.int .i64 h) := x1
      have hcal2 := Lib.hid hcal
      have Hk := Lib.hid hk
      have ka := kk.alloc (.cells #[.int .i64 l, .int .i64 h] 25 (0, 0))
      have ib := Is.made wr #[.int .i64 l, .int .i64 h] 25
      have y0 := ib.c (i := 0) rfl
      have y1 := ib.c (i := 1) rfl
      have c3 := cell_al c2 (.cells #[.int .i64 l, .int .i64 h] 25 (0, 0))
      clear hcell hX hcal ib
      unfold Ca at hcal2
      by_cases h0 : e = 0
      · have hE2 : Hid (firstE es = firstE (es.drop (k + 1))) := hE.out.trans (hD.trans (if_pos h0))
        subst h0
        clear hD hE hk
        go_wp2_with (go_at_fn F; (with_reducible refine (hcal2.out.out _).mono ?_); rintro r w1 ⟨rfl, k1⟩)
        have hk := Hk.out
        go_roundg (gk - 1)
        case measure => omega
        case rel => exact ⟨k + 1, by go_num, by omega, hE2, ka.trans k1⟩
      · have hE2 : Hid (firstE es = e) := hE.out.trans (hD.trans (if_neg h0))
        have hne : (e != 0) = true := by simpa using h0
        clear hD hE hk h0
        go_wp2_with (go_at_fn F; (with_reducible refine (hcal2.out.out _).mono ?_); rintro r w1 ⟨rfl, k1⟩)
        go_ret
        exact ⟨by rw [hE2.out]; rfl, ka.trans k1⟩
    · obtain rfl : k = n := by omega
      have hE2 : Hid (firstE es = 0) := hE.out.trans HE.out
      clear hk hE HE
      go_wp2
      go_ret
      exact ⟨by rw [hE2.out]; rfl, kk⟩
set_option maxRecDepth 100000 in
set_option maxHeartbeats 2000000 in
theorem cEach_Lim (L : List Nat) (F : Nat) (d : LimT) (xs : List LimT) (es : List Int) (sv : Value) (w : World) (hL : ∀ x ∈ L, x < w.heap.size) (hn : xs.length ≤ 100000) (hl : es.length = xs.length) (hs : Sl L 2 w sv (xs.map encLim))
    (he : ∀ args W, (callFunc F args).run Tryz.prog W = .ok (.enter F args) W) (hf : ∀ i, i < xs.length → Ca F #[valLim (xs.getD i d)] (.int .i64 (es.getD i 0))) :
    Calls Tryz.prog 104 #[.func (.func F) #[] #[], sv] w fun r W' => ∃ v, r = .returned v ∧ Ck L v (firstE es) W' ∧ Kb w W' := by
  have hs2 := hs
  obtain ⟨sp, cap, hv, _⟩ := hs2
  rw [List.length_map] at hv
  subst hv
  have k1 := (Kb.refl w).alloc (.cells #[.func (.func F) #[] #[]] 148 (0, 0))
  have kk := k1.alloc (.cells #[.slice sp xs.length cap] 168 (0, 0))
  have b0 := (Is.made w #[.func (.func F) #[] #[]] 148).alloc (.cells #[.slice sp xs.length cap] 168 (0, 0))
  have b1 := Is.made (w.alloc (.cells #[.func (.func F) #[] #[]] 148 (0, 0))) #[.slice sp xs.length cap] 168
  rw [World.size_alloc] at b1
  have R : Ck L (.func (.func 129) #[] #[.pointer (some ⟨w.heap.size + 1, 0, none⟩), .pointer (some ⟨w.heap.size, 0, none⟩)]) (firstE es) ((w.alloc (.cells #[.func (.func F) #[] #[]] 148 (0, 0))).alloc (.cells #[.slice sp xs.length cap] 168 (0, 0))) := by
    refine ⟨_, _, rfl, enters_of Tryz.func129 (by kernel_rfl) rfl, fun W hW => ?_⟩
    exact cEach1_Lim F d xs es _ _ _ W hn hl ((b1.kx hW (fun hx => by have := hL _ hx; omega)).c rfl) ((b0.kx hW (fun hx => by have := hL _ hx; omega)).c rfl) (((hs.kb kk).kx hW).none) he hf
  have HR := Lib.hid R
  clear R b0 b1 hL hf he hl hn k1 hs
  go_enter Tryz.func104, Tryz.ntmps104
  go_wp2
  go_ret
  exact ⟨_, rfl, HR.out, kk⟩








































































set_option maxRecDepth 100000 in
set_option maxHeartbeats 2000000 in
theorem cResult_Bool_0 (L : List Nat) (es : List Int) (v : Value) (b : Bool) (w : World) (hS : SlC L es v w) (hn : es.length ≤ 1000) (h0 : firstE es = 0) : Calls Tryz.prog 103 #[.bool b, v] w fun r W' => r = .returned (.tuple #[.bool b, .int .i64 0]) ∧ Kb w W' := by
  have q := cFirst L es v _ hS hn
  rw [h0] at q
  obtain ⟨fs, hl, ⟨p, cap, hv, _⟩, _⟩ := hS
  rw [List.length_map] at hv
  generalize fs.length = m at *
  subst hv
  clear h0 hl
  have Q := Lib.hid q
  clear q
  go_enter Tryz.func103, Tryz.ntmps103
  go_wp2_with fail
  (with_reducible refine (Q.out).mono ?_)
  rintro r w1 ⟨rfl, k1⟩
  go_wp2
  go_ret2
  exact ⟨rfl, k1⟩
set_option maxRecDepth 100000 in
set_option maxHeartbeats 2000000 in
theorem cResult_Bool_e (L : List Nat) (es : List Int) (v : Value) (b : Bool) (w : World) (hS : SlC L es v w) (hn : es.length ≤ 1000) (h0 : firstE es ≠ 0) : Calls Tryz.prog 103 #[.bool b, v] w fun r W' => r = .returned (.tuple #[.bool false, .int .i64 (firstE es)]) ∧ Kb w W' := by
  have q := cFirst L es v _ hS hn
  have hne : (firstE es != 0) = true := by simpa using h0
  generalize firstE es = e at *
  obtain ⟨fs, hl, ⟨p, cap, hv, _⟩, _⟩ := hS
  rw [List.length_map] at hv
  generalize fs.length = m at *
  subst hv
  clear h0 hl
  have Q := Lib.hid q
  clear q
  go_enter Tryz.func103, Tryz.ntmps103
  go_wp2_with fail
  (with_reducible refine (Q.out).mono ?_)
  rintro r w1 ⟨rfl, k1⟩
  have k2 := k1
  have k3 := k2.alloc (.cells #[.bool false] 4 (0, 0))
  have n0 := Is.made w1 #[.bool false] 4
  have m0 := n0.c (i := 0) rfl
  clear n0
  go_wp2
  go_ret2
  exact ⟨rfl, k3⟩






theorem cResult_Bool (L : List Nat) (es : List Int) (v : Value) (b : Bool) (w : World) (hS : SlC L es v w) (hn : es.length ≤ 1000) : Calls Tryz.prog 103 #[.bool b, v] w fun r W' => r = .returned (.tuple #[.bool (zB (firstE es) b), .int .i64 (firstE es)]) ∧ Kb w W' := by
  by_cases h0 : firstE es = 0
  · have q := cResult_Bool_0 L es v b w hS hn h0
    rw [h0]; exact q
  · have q := cResult_Bool_e L es v b w hS hn h0
    rw [show zB (firstE es) b = false from if_neg h0]; exact q
end Go.Proofs.YtlimjohnimgnhaaGreatDoor

/- Package dimension: names. -/
namespace Go.Proofs.YtlimjohnimgnhaaGreatDoor
open Go.RowKit

def isL (c : UInt8) : Bool := decide (65 ≤ c.toNat ∧ c.toNat ≤ 90) || decide (97 ≤ c.toNat ∧ c.toNat ≤ 122)
def isD (c : UInt8) : Bool := decide (48 ≤ c.toNat ∧ c.toNat ≤ 57)
def okAt (s : ByteArray) (k : Nat) : Bool := if h : k < s.size then isL s[k] || (!(k == 0) && isD s[k]) else true
def nmR (s : ByteArray) (k : Nat) : Bool := (List.range' k (s.size - k)).all (okAt s)
def nmB (s : ByteArray) : Bool := !(s.size == 0) && nmR s 0
theorem nmR_step {s : ByteArray} {k : Nat} (h : k < s.size) : nmR s k = (okAt s k && nmR s (k + 1)) := by
  unfold nmR
  rw [show s.size - k = (s.size - (k + 1)) + 1 by omega, List.range'_succ, List.all_cons]
theorem nmR_end (s : ByteArray) : nmR s s.size = true := by
  unfold nmR
  rw [Nat.sub_self]
  rfl
def itP (k : Nat) (w : World) : Nat := match w.heap[k]? with | some (.stringIter _ p) => p | _ => 0
theorem iter_new (w : World) (s : ByteArray) (pos : Nat) : (w.iter s pos).heap[w.heap.size]? = some (.stringIter s pos) := by
  show (w.heap.push _)[w.heap.size]? = _
  simp
theorem Kb.iterAt {a w : World} {k : Nat} (h : Kb a w) (hk : a.heap.size ≤ k) (s : ByteArray) (p : Nat) : Kb a (w.iterAt k s p) :=
  Below.trans h ⟨rfl, rfl, rfl, by rw [Lib.iterAt_size]; exact Nat.le_refl _, fun j hj => Lib.iterAt_other w k j s p (by omega)⟩
theorem Kb.iter {a w : World} (h : Kb a w) (s : ByteArray) (p : Nat) : Kb a (w.iter s p) := h.alloc _

set_option maxRecDepth 100000 in
set_option maxHeartbeats 4000000 in
theorem dnamed_any (s : ByteArray) (w : World) (hs : s.size ≤ 1000000) : Calls Tryz.prog 119 #[.string s] w fun r W' => r = .returned (.bool (nmB s)) ∧ Kb w W' := by
  by_cases h0 : s.size = 0
  · have e1 : nmB s = false := by unfold nmB; rw [h0]; rfl
    have e2 : s = ⟨#[]⟩ := by
      obtain ⟨d⟩ := s
      have : d = #[] := Array.size_eq_zero_iff.1 h0
      rw [this]
    rw [e1, e2]
    have nx := fun ty => Lib.run_next_end_at (P := Tryz.prog) (w.iter ⟨#[]⟩ 0) w.heap.size ⟨#[]⟩ 0 ty (iter_new w _ 0) (by decide)
    have kk := (Kb.refl w).iter ⟨#[]⟩ 0
    go_enter Tryz.func119, Tryz.ntmps119
    go_wp2
    go_loopw [] (fun wx => wx = w.iter ⟨#[]⟩ 0) (fun _ => 0)
    case atStart => rfl
    case round =>
      subst hrel
      go_wp2
      go_ret
      exact ⟨rfl, kk⟩
  have t2 : ¬ s.toList = [] := fun e => h0 (by
    have : s.toList.length = s.size := by rw [ByteArray.toList_eq]; simp
    rw [e] at this
    simpa using this.symm)
  have t1 : (s.toList == []) = false := beq_eq_false_iff_ne.2 t2
  have HB : Hid (nmB s = nmR s 0) := by
    show nmB s = nmR s 0
    unfold nmB
    rw [show (s.size == 0) = false by simpa using h0]
    rfl
  have HS := Lib.hid (fun k (h : k < s.size) => nmR_step h)
  have HE := Lib.hid (nmR_end s)
  have H0 := Lib.hid h0
  clear h0
  go_enter Tryz.func119, Tryz.ntmps119
  go_wp2
  go_loopw [] (fun wx => ∃ k : Nat, k ≤ s.size ∧ wx.heap[w.heap.size]? = some (.stringIter s k) ∧ Kb w wx ∧ Hid (nmB s = nmR s k)) (fun wx => s.size - itP w.heap.size wx)
  case atStart => exact ⟨0, Nat.zero_le _, iter_new w s 0, (Kb.refl w).iter s 0, HB⟩
  case round =>
    obtain ⟨k, hk, hit, kk, hR⟩ := hrel
    by_cases hlt : k < s.size
    · have hst := HS.out k hlt
      by_cases ha : (s[k]'hlt).toNat < 128
      · have nx := fun ty => Lib.run_next_ascii_at (P := Tryz.prog) wr w.heap.size s k ty hit hlt ha
        have hi3 := Lib.iterAt_heap wr w.heap.size s k (k + 1) hit
        have k3 := kk.iterAt (Nat.le_refl _) s (k + 1)
        have hok : okAt s k = (isL s[k] || (!(k == 0) && isD s[k])) := dif_pos hlt
        have hm : Hid (s.size - (k + 1) < s.size - k) := by show _ < _; omega
        obtain ⟨c, hc⟩ : ∃ c : Nat, (s[k]'hlt).toNat = c := ⟨_, rfl⟩
        have hl : isL s[k] = (decide (65 ≤ c ∧ c ≤ 90) || decide (97 ≤ c ∧ c ≤ 122)) := by unfold isL; rw [hc]
        have hd : isD s[k] = decide (48 ≤ c ∧ c ≤ 57) := by unfold isD; rw [hc]
        rw [hc] at nx ha
        rw [hl, hd] at hok
        have Hk := Lib.hid hlt
        clear hc hl hd hk
        have hbad : okAt s k = false → Hid (nmB s = false) := fun e => hR.out.trans (hst.trans (by rw [e]; rfl))
        have hgood : okAt s k = true → Hid (nmB s = nmR s (k + 1)) := fun e => hR.out.trans (hst.trans (by rw [e]; rfl))
        clear hst hR
        have Hok := Lib.hid hok
        have Hbad := Lib.hid hbad
        have Hgood := Lib.hid hgood
        clear hok hbad hgood
        obtain ⟨z, hz⟩ : ∃ z : Int, (c : Int) = z := ⟨_, rfl⟩
        simp only [hz] at nx
        have z0 : 0 ≤ z := by omega
        have z1 : z ≤ 127 := by omega
        clear hlt
        rcases (show z < 48 ∨ (48 ≤ z ∧ z ≤ 57) ∨ (58 ≤ z ∧ z ≤ 64) ∨ (65 ≤ z ∧ z ≤ 90) ∨ (91 ≤ z ∧ z ≤ 96) ∨ (97 ≤ z ∧ z ≤ 122) ∨ 123 ≤ z by omega) with h | ⟨h1, h2⟩ | ⟨h1, h2⟩ | ⟨h1, h2⟩ | ⟨h1, h2⟩ | ⟨h1, h2⟩ | h
        · have b := Hbad.out (Hok.out.trans (by rw [decide_eq_false (by omega), decide_eq_false (by omega), decide_eq_false (by omega)]; simp))
          clear hz ha
          clear Hk Hbad Hgood Hok
          rcases Bool.eq_false_or_eq_true ((k : Int) == 0) with hz0 | hz0
          · go_wp2
            go_ret
            exact ⟨by rw [b.out]; rfl, k3⟩
          · go_wp2
            go_ret
            exact ⟨by rw [b.out]; rfl, k3⟩
        · by_cases hk0 : k = 0
          · have b := Hbad.out (Hok.out.trans (by rw [decide_eq_false (by omega), decide_eq_false (by omega), hk0]; simp))
            have hz0 : ((k : Int) == 0) = true := by simpa using hk0
            clear hz ha hk0
            clear Hbad Hgood Hok
            go_wp2
            go_ret
            exact ⟨by rw [b.out]; rfl, k3⟩
          · have g := Hgood.out (Hok.out.trans (by rw [decide_eq_true (show 48 ≤ c ∧ c ≤ 57 by omega), show (k == 0) = false by simpa using hk0]; simp))
            have hz0 : ((k : Int) == 0) = false := by simpa using hk0
            clear hz ha hk0
            clear Hbad Hgood Hok
            go_wp2
            go_roundw
            case measure => simp only [itP, hit, hi3]; exact hm.out
            case rel => exact ⟨k + 1, Hk.out, hi3, k3, g⟩
        · have b := Hbad.out (Hok.out.trans (by rw [decide_eq_false (by omega), decide_eq_false (by omega), decide_eq_false (by omega)]; simp))
          have hd1 : decide (z ≤ 57) = false := decide_eq_false (by omega)
          clear hz ha
          clear Hk Hbad Hgood Hok
          rcases Bool.eq_false_or_eq_true ((k : Int) == 0) with hz0 | hz0
          · go_wp2
            go_ret
            exact ⟨by rw [b.out]; rfl, k3⟩
          · go_wp2
            go_ret
            exact ⟨by rw [b.out]; rfl, k3⟩
        · have g := Hgood.out (Hok.out.trans (by rw [decide_eq_true (show 65 ≤ c ∧ c ≤ 90 by omega)]; simp))
          clear hz ha
          clear Hbad Hgood Hok
          go_wp2
          go_roundw
          case measure => simp only [itP, hit, hi3]; exact hm.out
          case rel => exact ⟨k + 1, Hk.out, hi3, k3, g⟩
        · have b := Hbad.out (Hok.out.trans (by rw [decide_eq_false (by omega), decide_eq_false (by omega), decide_eq_false (by omega)]; simp))
          have hd1 : decide (z ≤ 57) = false := decide_eq_false (by omega)
          have hd2 : decide (z ≤ 90) = false := decide_eq_false (by omega)
          clear hz ha
          clear Hk Hbad Hgood Hok
          rcases Bool.eq_false_or_eq_true ((k : Int) == 0) with hz0 | hz0
          · go_wp2
            go_ret
            exact ⟨by rw [b.out]; rfl, k3⟩
          · go_wp2
            go_ret
            exact ⟨by rw [b.out]; rfl, k3⟩
        · have g := Hgood.out (Hok.out.trans (by rw [decide_eq_true (show 97 ≤ c ∧ c ≤ 122 by omega)]; simp))
          clear hz ha
          clear Hbad Hgood Hok
          go_wp2
          go_roundw
          case measure => simp only [itP, hit, hi3]; exact hm.out
          case rel => exact ⟨k + 1, Hk.out, hi3, k3, g⟩
        · have b := Hbad.out (Hok.out.trans (by rw [decide_eq_false (by omega), decide_eq_false (by omega), decide_eq_false (by omega)]; simp))
          have hd1 : decide (z ≤ 57) = false := decide_eq_false (by omega)
          have hd2 : decide (z ≤ 90) = false := decide_eq_false (by omega)
          have hd3 : decide (z ≤ 122) = false := decide_eq_false (by omega)
          clear hz ha
          clear Hk Hbad Hgood Hok
          rcases Bool.eq_false_or_eq_true ((k : Int) == 0) with hz0 | hz0
          · go_wp2
            go_ret
            exact ⟨by rw [b.out]; rfl, k3⟩
          · go_wp2
            go_ret
            exact ⟨by rw [b.out]; rfl, k3⟩
      · have nx := fun ty => Lib.run_next_any_at (P := Tryz.prog) wr w.heap.size s k ty hit hlt
        have k3 := kk.iterAt (Nat.le_refl _) s (k + (Utf8.decode s k).2)
        have hhi := (decode_high s k hlt (by omega)).1
        have hle := decode_le s k
        have b : Hid (nmB s = false) := hR.out.trans (hst.trans (by
          have : okAt s k = false := by
            unfold okAt isL isD
            rw [dif_pos hlt, decide_eq_false (by omega), decide_eq_false (by omega), decide_eq_false (by omega)]
            simp
          rw [this]; rfl))
        generalize (Utf8.decode s k).1 = c at *
        have hd1 : decide ((c : Int) ≤ 57) = false := decide_eq_false (by omega)
        have hd2 : decide ((c : Int) ≤ 90) = false := decide_eq_false (by omega)
        have hd3 : decide ((c : Int) ≤ 122) = false := decide_eq_false (by omega)
        clear hst hR ha hlt
        rcases Bool.eq_false_or_eq_true ((k : Int) == 0) with hz0 | hz0
        · go_wp2
          go_ret
          exact ⟨by rw [b.out]; rfl, k3⟩
        · go_wp2
          go_ret
          exact ⟨by rw [b.out]; rfl, k3⟩
    · obtain rfl : k = s.size := by omega
      have nx := fun ty => Lib.run_next_end_at (P := Tryz.prog) wr w.heap.size s s.size ty hit hlt
      have g : Hid (nmB s = true) := hR.out.trans HE.out
      clear HS HE hR hk
      go_wp2
      go_ret
      exact ⟨by rw [g.out]; rfl, kk⟩
end Go.Proofs.YtlimjohnimgnhaaGreatDoor
