/- Texts Uyr, Uz, Uzz, Uzc: each says in its own first comment what it proves. -/
import Derived.Test.YtlimjohnimgnhaaGreatDoorM12
/- Frames: read, of any words. -/
namespace Go.Proofs.YtlimjohnimgnhaaGreatDoor
open Go.RowKit

/-- the frame that words tell -/
def rdV : List ByteArray → FrT
  | [] => ⟨9, false, 0, 0, []⟩
  | [a] => ⟨chV a, false, 0, 0, []⟩
  | a :: b :: l => if (b.toList == ([100, 105, 115, 99] : List UInt8)) = true then (match l with
      | [] => ⟨chV a, true, 0, 0, []⟩
      | e :: l => ⟨chV a, true, atV (spV e).1, (spV e).2, l.map spV⟩) else ⟨chV a, false, atV (spV b).1, (spV b).2, l.map spV⟩
theorem cutV_size (s p : ByteArray) : (cutV s p).size ≤ s.size := by
  have h : (cutV s p).size = (Lib.trimSuffix s.data.toList p.data.toList).length := rfl
  have h2 : s.size = s.data.toList.length := by rw [Array.length_toList]; rfl
  rw [h, h2]
  unfold Lib.trimSuffix
  split
  · rw [List.length_take]; omega
  · exact Nat.le_refl _
theorem spV_size (s : ByteArray) : (spV s).1.size ≤ s.size := by
  unfold spV
  split
  · exact cutV_size _ _
  · split
    · exact cutV_size _ _
    · exact Nat.le_refl _
theorem fread {w0 : World} (ws : List ByteArray) (h0 : ws ≠ []) (hl : ws.length ≤ 5000) (hz : ∀ s ∈ ws, s.size ≤ 1000000) (bw : Nat) (w : World) (gl : Gf w0 w) (hw : WdS w bw ws) : Calls Tryz.prog 71 #[.slice (some ⟨bw, 0, none⟩) ws.length ws.length] w fun r W' =>
    (∃ dp dc, r = .returned (.agg #[.int .i64 (rdV ws).k, .bool (rdV ws).d, .int .i64 (rdV ws).t, .int .i64 (rdV ws).m, .slice dp (rdV ws).ds.length dc]) ∧ DatN w W' (.slice dp (rdV ws).ds.length dc) (rdV ws).ds ∧ (rdV ws).ds.length ≤ dc) ∧ Kb w W' := by
  have none_ : ∀ {W' : World} {r : Ending} {f : FrT}, f.ds = [] → r = .returned (.agg #[.int .i64 f.k, .bool f.d, .int .i64 f.t, .int .i64 f.m, .slice none 0 0]) → ∃ dp dc, r = .returned (.agg #[.int .i64 f.k, .bool f.d, .int .i64 f.t, .int .i64 f.m, .slice dp f.ds.length dc]) ∧ DatN w W' (.slice dp f.ds.length dc) f.ds ∧ f.ds.length ≤ dc := fun he hr => by
    refine ⟨none, 0, by rw [he]; exact hr, fun L _ => by rw [he]; exact sl_nil, by rw [he]; exact Nat.le_refl _⟩
  match ws, h0, hl, hz, hw with
  | [a], _, hl, hz, hw =>
    refine (fread1_1 w0 bw a w gl (fun i hi => by
      obtain rfl : i = 0 := by omega
      exact hw 0 _ rfl)).mono fun r W' h => ⟨none_ rfl h.1, h.2⟩
  | a :: b :: l, _, hl, hz, hw =>
    have zb := hz b (by simp)
    have two : ∀ i, i < 2 → w.cell? ⟨bw, i, none⟩ = some ([Value.string a, .string b].getD i undef) := fun i hi => by
      rcases (show i = 0 ∨ i = 1 by omega) with rfl | rfl <;> exact hw _ _ rfl
    rcases Bool.eq_false_or_eq_true (b.toList == ([100, 105, 115, 99] : List UInt8)) with hb | hb
    · match l, hl, hz, hw with
      | [], hl, hz, hw =>
        have e : rdV [a, b] = ⟨chV a, true, 0, 0, []⟩ := by simp [rdV, hb]
        rw [e]
        exact (fread2_1 w0 bw a b hb w gl two).mono fun r W' h => ⟨none_ rfl h.1, h.2⟩
      | [x], hl, hz, hw =>
        have zx := hz x (by simp)
        have e : rdV [a, b, x] = ⟨chV a, true, atV (spV x).1, (spV x).2, []⟩ := by simp [rdV, hb]
        rw [e]
        exact (fread4z_1 w0 bw a b x hb zx (Nat.le_trans (spV_size x) zx) w gl (fun i hi => by rcases (show i = 0 ∨ i = 1 ∨ i = 2 by omega) with rfl | rfl | rfl <;> exact hw _ _ rfl)).mono fun r W' h => ⟨none_ rfl h.1, h.2⟩
      | x :: y :: l, hl, hz, hw =>
        have zx := hz x (by simp)
        have e : rdV (a :: b :: x :: y :: l) = ⟨chV a, true, atV (spV x).1, (spV x).2, (y :: l).map spV⟩ := by simp [rdV, hb]
        rw [e]
        simp only [List.length_map, List.length_cons] at hl ⊢
        exact fread4s_1 w0 w bw a b x l.length (y :: l) hb zx (Nat.le_trans (spV_size x) zx) rfl (by omega) (fun i s hs => hw (3 + i) s (by rw [show 3 + i = i + 3 by omega]; exact hs)) (fun s hs => hz s (by simp only [List.mem_cons] at hs ⊢; exact .inr (.inr (.inr hs)))) gl (fun i hi => by rcases (show i = 0 ∨ i = 1 ∨ i = 2 by omega) with rfl | rfl | rfl <;> exact hw _ _ rfl)
    · match l, hl, hz, hw with
      | [], hl, hz, hw =>
        have e : rdV [a, b] = ⟨chV a, false, atV (spV b).1, (spV b).2, []⟩ := by simp [rdV, hb]
        rw [e]
        exact (fread3z_1 w0 bw a b hb zb (Nat.le_trans (spV_size b) zb) w gl two).mono fun r W' h => ⟨none_ rfl h.1, h.2⟩
      | y :: l, hl, hz, hw =>
        have e : rdV (a :: b :: y :: l) = ⟨chV a, false, atV (spV b).1, (spV b).2, (y :: l).map spV⟩ := by simp [rdV, hb]
        rw [e]
        simp only [List.length_map, List.length_cons] at hl ⊢
        exact fread3s_1 w0 w bw a b l.length (y :: l) hb zb (Nat.le_trans (spV_size b) zb) rfl (by omega) (fun i s hs => hw (2 + i) s (by rw [show 2 + i = i + 2 by omega]; exact hs)) (fun s hs => hz s (by simp only [List.mem_cons] at hs ⊢; exact .inr (.inr hs))) gl two
end Go.Proofs.YtlimjohnimgnhaaGreatDoor

/- Frames: Parse. -/
namespace Go.Proofs.YtlimjohnimgnhaaGreatDoor
open Go.RowKit

/-- the error of a frame that has to have a text -/
def fpE (k t m : Int) (ds : List DatT) : Int := firstE [fE ((decide (k < 0)) || (decide (9 ≤ k))) 1, firstE [cmE m], fE ((decide (t < 0)) || (decide (100000 < t))) 2, fE (decide (3 < (ds.length : Int))) 5, dsE ds]
theorem frPlain {w0 : World} (k : Int) (d : Bool) (t m : Int) (dp : Option Addr) (dl dc : Nat) (ds : List DatT) (hd : DatS w0 (.slice dp dl dc) ds) (hcd : dl ≤ dc) (hn : dl ≤ 100000) (hz : ∀ d ∈ ds, d.1.size ≤ 1000000) : Cf w0 15 #[.agg #[.int .i64 k, .bool d, .int .i64 t, .int .i64 m, .slice dp dl dc]] (.int .i64 (fpE k t m ds)) := by
  have q := fPlain_any w0 k d t m dp dl dc _ (fckDatums dp dl dc ds hd hcd hn hz)
  have hl := hd.len
  unfold fpE
  rw [← hl]
  exact q
/-- the pieces of a text between blanks -/
def splV (s : ByteArray) : List ByteArray := Lib.splitB ⟨#[32]⟩ 0 (Lib.countB s ⟨#[32]⟩) s
theorem fSplit {w0 : World} (s : ByteArray) (ws : List ByteArray) (hs : s.size ≤ 5000) (hws : splV s = ws) (hn : Lib.countB s ⟨#[32]⟩ + 1 = ws.length) (W : World) (g : Gf w0 W) : Calls Tryz.prog 72 #[.string s, .string ⟨#[32]⟩] W fun r W' => (∃ b, r = .returned (.slice (some ⟨b, 0, none⟩) ws.length ws.length) ∧ WdS W' b ws) ∧ Kb W W' := by
  obtain ⟨m, hm⟩ := g.tn.mx
  refine (Tryz.strings_Split s ⟨#[32]⟩ m W (by omega) hm (by decide)).mono fun r W' h => ⟨⟨W.heap.size, ?_, ?_⟩, ?_⟩
  · rw [h.1, hn]
  · rw [h.2]
    intro i x hx
    refine (Is.made W _ 9).c (i := i) ?_
    have e : Lib.splitB ⟨#[32]⟩ 0 (Lib.countB s ⟨#[32]⟩) s = ws := hws
    rw [e]
    simp [hx]
  · rw [h.2]; exact (Kb.refl W).alloc _
theorem fTextP {w0 W : World} {x : Nat} {args : Array Value} {v : Value} {F : Nat} {u : Value} {rows : List (List Value)} (h : Cf w0 F args v) (g : Gf w0 W) (hs : Sl [x] 2 W u rows) : Calls Tryz.prog F args W fun r W' => (r = .returned v ∧ Sl [x] 2 W' u rows) ∧ Kb W W' :=
  (h.out W g).mono fun _r _W' h => ⟨⟨h.1, hs.kb h.2⟩, h.2⟩
set_option maxRecDepth 100000 in
set_option maxHeartbeats 4000000 in
theorem fParse_1 (w0 : World) (s : ByteArray) (ws : List ByteArray) (k : Nat) (d : Bool) (t : Int) (m : Nat) (ds : List DatT)     (hs : s.size ≤ 4096) (hws : splV s = ws) (hn : Lib.countB s ⟨#[32]⟩ + 1 = ws.length)
    (hR : ∀ (bw : Nat) (W : World), Gf w0 W → WdS W bw ws → Calls Tryz.prog 71 #[.slice (some ⟨bw, 0, none⟩) ws.length ws.length] W fun r W' => (∃ dp dc, r = .returned (.agg #[.int .i64 (k : Int), .bool d, .int .i64 t, .int .i64 (m : Int), .slice dp ds.length dc]) ∧ DatN W W' (.slice dp ds.length dc) ds ∧ ds.length ≤ dc) ∧ Kb W W')
    (hT : ∀ {w1 : World} (dp : Option Addr) (dc : Nat), DatS w1 (.slice dp ds.length dc) ds → ds.length ≤ dc → Cf w1 26 #[.agg #[.int .i64 (k : Int), .bool d, .int .i64 t, .int .i64 (m : Int), .slice dp ds.length dc]] (.tuple #[.string s, .int .i64 0])) (w : World) (gl : Gf w0 w)  : Calls Tryz.prog 28 #[.string s] w fun r W' => (∃ dp dc, r = .returned (.tuple #[.agg #[.int .i64 (k : Int), .bool d, .int .i64 t, .int .i64 (m : Int), .slice dp ds.length dc], .int .i64 0]) ∧ DatS W' (.slice dp ds.length dc) ds ∧ ds.length ≤ dc) ∧ Kb w W' := by
  have kx := Kb.refl w
  have gl0 := Lib.hid gl
  have hs5 : ¬ (4096 : Int) < (s.size : Int) := by omega
  replace hs : s.size ≤ 5000 := by omega
  go_enter Tryz.func28, Tryz.ntmps28
  go_wp2_with fail
  have b1 := Is.made w #[.int .i64 0, .bool false, .int .i64 0, .int .i64 0, .slice none 0 0] 31
  replace kx := kx.alloc (.cells #[.int .i64 0, .bool false, .int .i64 0, .int .i64 0, .slice none 0 0] 31 (0, 0))
  replace gl := gl0.out.kb kx
  (with_reducible refine (fSplit s ws hs hws hn _ gl).mono ?_)
  rintro r w1 ⟨⟨bw, rfl, hwd⟩, k1⟩
  replace gl := gl.kb k1
  replace b1 := b1.kb k1
  replace kx := kx.trans k1
  have s1 := k1.size
  simp only [World.size_alloc] at s1
  clear k1
  go_wp2_with fail
  (with_reducible refine (hR bw _ gl hwd).mono ?_)
  rintro r w2 ⟨⟨dp, dc, rfl, hda, hca⟩, k2⟩
  replace gl := gl.kb k2
  replace b1 := b1.kb k2
  replace kx := kx.trans k2
  have s2 := k2.size
  skip
  clear k2
  have hda2 := hda [w.heap.size] (by intro x hx; simp only [List.mem_singleton] at hx; subst hx; omega)
  have glr := gl.me
  have hdat := hda.dat
  clear hwd hda
  have j1 := (Is.made w2 #[.int .i64 (k : Int), .bool d, .int .i64 t, .int .i64 (m : Int), .slice dp ds.length dc] 31)
  have f2 := j1.c (i := 0) rfl
  have f3 := j1.c (i := 1) rfl
  have f4 := j1.c (i := 2) rfl
  have f5 := j1.c (i := 3) rfl
  have f6 := j1.c (i := 4) rfl
  go_wp2_with fail
  clear f2 f3 f4 f5 f6
  replace b1 := (b1.alloc (.cells #[.int .i64 (k : Int), .bool d, .int .i64 t, .int .i64 (m : Int), .slice dp ds.length dc] 31 (0, 0)))
  have b2 := j1
  replace kx := kx.alloc (.cells #[.int .i64 (k : Int), .bool d, .int .i64 t, .int .i64 (m : Int), .slice dp ds.length dc] 31 (0, 0))
  clear j1
  replace gl := gl0.out.kb kx
  (with_reducible refine (fTextP (hT dp dc hdat hca) (x := w.heap.size) (glr.alloc (.cells #[.int .i64 (k : Int), .bool d, .int .i64 t, .int .i64 (m : Int), .slice dp ds.length dc] 31 (0, 0))) (hda2.kb ((Kb.refl w2).alloc (.cells #[.int .i64 (k : Int), .bool d, .int .i64 t, .int .i64 (m : Int), .slice dp ds.length dc] 31 (0, 0))))).mono ?_)
  rintro r w3 ⟨⟨rfl, hd2⟩, k3⟩
  replace gl := gl.kb k3
  replace b1 := b1.kb k3
  replace b2 := b2.kb k3
  replace kx := kx.trans k3
  have s3 := k3.size
  simp only [World.size_alloc] at s3
  clear k3
  have f7 := b2.c (i := 0) rfl
  have f8 := b2.c (i := 1) rfl
  have f9 := b2.c (i := 2) rfl
  have f10 := b2.c (i := 3) rfl
  have f11 := b2.c (i := 4) rfl
  have f12 := b1.c (i := 0) rfl
  have f13 := b1.f 0
  have f14 := b1.c (i := 1) rfl
  have f15 := b1.f 1
  have f16 := b1.c (i := 2) rfl
  have f17 := b1.f 2
  have f18 := b1.c (i := 3) rfl
  have f19 := b1.f 3
  have f20 := b1.c (i := 4) rfl
  have f21 := b1.f 4
  go_wp2
  clear f7 f8 f9 f10 f11 f12 f13 f14 f15 f16 f17 f18 f19 f20 f21
  replace b1 : Is _ _ #[.int .i64 (k : Int), .bool false, .int .i64 0, .int .i64 0, .slice none 0 0] _ := b1.set 0 (.int .i64 (k : Int))
  replace b1 : Is _ _ #[.int .i64 (k : Int), .bool d, .int .i64 0, .int .i64 0, .slice none 0 0] _ := b1.set 1 (.bool d)
  replace b1 : Is _ _ #[.int .i64 (k : Int), .bool d, .int .i64 t, .int .i64 0, .slice none 0 0] _ := b1.set 2 (.int .i64 t)
  replace b1 : Is _ _ #[.int .i64 (k : Int), .bool d, .int .i64 t, .int .i64 (m : Int), .slice none 0 0] _ := b1.set 3 (.int .i64 (m : Int))
  replace b1 : Is _ _ #[.int .i64 (k : Int), .bool d, .int .i64 t, .int .i64 (m : Int), .slice dp ds.length dc] _ := b1.set 4 (.slice dp ds.length dc)
  replace kx := ((((kx.setCell (p := ⟨w.heap.size, 0, none⟩) (show w.heap.size ≤ w.heap.size by omega) (.int .i64 (k : Int))).setCell (p := ⟨w.heap.size, 1, none⟩) (show w.heap.size ≤ w.heap.size by omega) (.bool d)).setCell (p := ⟨w.heap.size, 2, none⟩) (show w.heap.size ≤ w.heap.size by omega) (.int .i64 t)).setCell (p := ⟨w.heap.size, 3, none⟩) (show w.heap.size ≤ w.heap.size by omega) (.int .i64 (m : Int))).setCell (p := ⟨w.heap.size, 4, none⟩) (show w.heap.size ≤ w.heap.size by omega) (.slice dp ds.length dc)
  refine ret_row2 Tryz.results28 rfl rfl rfl b1 Tryz.underlying31 rfl (by kernel_rfl) ?_
  exact ⟨⟨dp, dc, rfl, (hd2.kx (((((Kx.set _ _ (by simp) _).trans (Kx.set _ _ (by simp) _)).trans (Kx.set _ _ (by simp) _)).trans (Kx.set _ _ (by simp) _)).trans (Kx.set _ _ (by simp) _))).none, hca⟩, kx⟩
end Go.Proofs.YtlimjohnimgnhaaGreatDoor

/- Frames: Parse, at texts that are known. -/
namespace Go.Proofs.YtlimjohnimgnhaaGreatDoor
open Go.RowKit

theorem fParseAt {w0 : World} (s : ByteArray) (ws : List ByteArray) (k : Nat) (d : Bool) (t : Int) (m : Nat) (ds : List DatT) (hs : s.size ≤ 4096) (hws : splV s = ws) (hn : Lib.countB s ⟨#[32]⟩ + 1 = ws.length) (h0 : ws ≠ []) (hl : ws.length ≤ 5000) (hz : ∀ x ∈ ws, x.size ≤ 1000000)
    (hr : rdV ws = ⟨k, d, t, m, ds⟩) (hk : k < 9) (hm : m < 3) (ht0 : 0 ≤ t) (ht1 : t ≤ 1000000) (hi : (itV t).size ≤ 20) (hE : fpE k t m ds = 0) (hdl : ds.length ≤ 3) (hdz : ∀ d ∈ ds, d.1.size ≤ 100 ∧ ∃ j : Nat, j < 3 ∧ d.2 = (j : Int)) (htx : textV k d t m ds = s) (w : World) (gl : Gf w0 w) :
    Calls Tryz.prog 28 #[.string s] w fun r W' => (∃ dp dc, r = .returned (.tuple #[.agg #[.int .i64 (k : Int), .bool d, .int .i64 t, .int .i64 (m : Int), .slice dp ds.length dc], .int .i64 0]) ∧ DatS W' (.slice dp ds.length dc) ds ∧ ds.length ≤ dc) ∧ Kb w W' := by
  refine fParse_1 w0 s ws k d t m ds hs hws hn (fun bw W g hw => ?_) (fun {w1} dp dc hd hc => ?_) w gl
  · have q := fread ws h0 hl hz bw W g hw
    rw [hr] at q
    exact q
  · have q := fTextOk (w0 := w1) d k t m dp ds.length dc ds hk hm ht0 ht1 hi hd hdl hdz (by rw [← hE]; exact frPlain k d t m dp ds.length dc ds hd hc (by omega) (fun x hx => Nat.le_trans (hdz x hx).1 (by decide)))
    rw [htx] at q
    exact q
theorem dnB_data (ds : List DatT) (nm : ByteArray) : dnB ds nm = ds.any fun d => d.1.data.toList == nm.data.toList := by
  unfold dnB
  congr 1
  funext d
  rw [ByteArray.toList_eq, ByteArray.toList_eq]
theorem chV_data (wd : ByteArray) : chV wd = if (([115, 116, 114, 97, 105, 103, 104, 116] : List UInt8) == wd.data.toList) = true then 0 else if (([102, 108, 97, 116] : List UInt8) == wd.data.toList) = true then 1 else if (([112, 97, 114, 97, 108, 108, 101, 108] : List UInt8) == wd.data.toList) = true then 2 else if (([115, 113, 117, 97, 114, 101] : List UInt8) == wd.data.toList) = true then 3 else if (([114, 111, 117, 110, 100] : List UInt8) == wd.data.toList) = true then 4 else if (([115, 112, 104, 101, 114, 101] : List UInt8) == wd.data.toList) = true then 5 else if (([112, 114, 111, 102, 105, 108, 101] : List UInt8) == wd.data.toList) = true then 6 else if (([114, 117, 110, 111, 117, 116] : List UInt8) == wd.data.toList) = true then 7 else if (([112, 111, 115, 105, 116, 105, 111, 110] : List UInt8) == wd.data.toList) = true then 8 else 9 := by
  unfold chV
  rw [ByteArray.toList_eq]
def dtE' (b : List DatT) (d : DatT) : Int := firstE [firstE [nmE d.1], fE (b.any fun x => x.1.data.toList == d.1.data.toList) 7, firstE [cmE d.2]]
theorem dtE_eq (b : List DatT) (d : DatT) : dtE b d = dtE' b d := by unfold dtE dtE'; rw [dnB_data]
def dsF' (b : List DatT) : List DatT → Int
  | [] => 0
  | d :: l => if dtE' b d = 0 then dsF' (b ++ [d]) l else dtE' b d
theorem dsF_eq (l : List DatT) : ∀ b, dsF b l = dsF' b l := by
  induction l with
  | nil => intro b; rfl
  | cons d l ih => intro b; rw [dsF, dsF', dtE_eq, ih]
theorem fpE_eq (k t m : Int) (ds : List DatT) : fpE k t m ds = firstE [fE ((decide (k < 0)) || (decide (9 ≤ k))) 1, firstE [cmE m], fE ((decide (t < 0)) || (decide (100000 < t))) 2, fE (decide (3 < (ds.length : Int))) 5, dsF' [] ds] := by
  unfold fpE dsE; rw [dsF_eq]
def chV' (wd : ByteArray) : Int := if (([115, 116, 114, 97, 105, 103, 104, 116] : List UInt8) == wd.data.toList) = true then 0 else if (([102, 108, 97, 116] : List UInt8) == wd.data.toList) = true then 1 else if (([112, 97, 114, 97, 108, 108, 101, 108] : List UInt8) == wd.data.toList) = true then 2 else if (([115, 113, 117, 97, 114, 101] : List UInt8) == wd.data.toList) = true then 3 else if (([114, 111, 117, 110, 100] : List UInt8) == wd.data.toList) = true then 4 else if (([115, 112, 104, 101, 114, 101] : List UInt8) == wd.data.toList) = true then 5 else if (([112, 114, 111, 102, 105, 108, 101] : List UInt8) == wd.data.toList) = true then 6 else if (([114, 117, 110, 111, 117, 116] : List UInt8) == wd.data.toList) = true then 7 else if (([112, 111, 115, 105, 116, 105, 111, 110] : List UInt8) == wd.data.toList) = true then 8 else 9
theorem chV_eq (a : ByteArray) : chV a = chV' a := chV_data a
def rdV' : List ByteArray → FrT
  | [] => ⟨9, false, 0, 0, []⟩
  | [a] => ⟨chV' a, false, 0, 0, []⟩
  | a :: b :: l => if (b.data.toList == ([100, 105, 115, 99] : List UInt8)) = true then (match l with
      | [] => ⟨chV' a, true, 0, 0, []⟩
      | e :: l => ⟨chV' a, true, atV (spV e).1, (spV e).2, l.map spV⟩) else ⟨chV' a, false, atV (spV b).1, (spV b).2, l.map spV⟩
theorem rdV_eq (ws : List ByteArray) : rdV ws = rdV' ws := by
  match ws with
  | [] => rfl
  | [a] => simp only [rdV, rdV', chV_eq]
  | a :: b :: [] => simp only [rdV, rdV', chV_eq, ByteArray.toList_eq]
  | a :: b :: e :: l => simp only [rdV, rdV', chV_eq, ByteArray.toList_eq]
end Go.Proofs.YtlimjohnimgnhaaGreatDoor

/- Frames: what the texts of the examples tell. -/
namespace Go.Proofs.YtlimjohnimgnhaaGreatDoor
open Go.RowKit

theorem it0 : itV 0 = ⟨#[48]⟩ := by
  unfold itV Lib.itoa
  rw [if_neg (by decide), show (0 : Int).toNat = 0 from rfl, Lib.decDigits, dif_pos (by decide)]; rfl
theorem it20 : itV 20 = ⟨#[50, 48]⟩ := by
  unfold itV Lib.itoa
  rw [if_neg (by decide), show (20 : Int).toNat = 20 from rfl, Lib.decDigits, dif_neg (by decide), Lib.decDigits, dif_pos (by decide)]; rfl
theorem it30 : itV 30 = ⟨#[51, 48]⟩ := by
  unfold itV Lib.itoa
  rw [if_neg (by decide), show (30 : Int).toNat = 30 from rfl, Lib.decDigits, dif_neg (by decide), Lib.decDigits, dif_pos (by decide)]; rfl
theorem it50 : itV 50 = ⟨#[53, 48]⟩ := by
  unfold itV Lib.itoa
  rw [if_neg (by decide), show (50 : Int).toNat = 50 from rfl, Lib.decDigits, dif_neg (by decide), Lib.decDigits, dif_pos (by decide)]; rfl
theorem ps0_split : splV ⟨#[112, 111, 115, 105, 116, 105, 111, 110, 32, 100, 105, 115, 99, 32, 53, 48, 40, 77, 41, 32, 65, 32, 66, 40, 77, 41]⟩ = [⟨#[112, 111, 115, 105, 116, 105, 111, 110]⟩, ⟨#[100, 105, 115, 99]⟩, ⟨#[53, 48, 40, 77, 41]⟩, ⟨#[65]⟩, ⟨#[66, 40, 77, 41]⟩] := by decide
theorem ps0_count : Lib.countB ⟨#[112, 111, 115, 105, 116, 105, 111, 110, 32, 100, 105, 115, 99, 32, 53, 48, 40, 77, 41, 32, 65, 32, 66, 40, 77, 41]⟩ ⟨#[32]⟩ + 1 = 5 := by decide
theorem ps0_read : rdV [⟨#[112, 111, 115, 105, 116, 105, 111, 110]⟩, ⟨#[100, 105, 115, 99]⟩, ⟨#[53, 48, 40, 77, 41]⟩, ⟨#[65]⟩, ⟨#[66, 40, 77, 41]⟩] = ⟨8, true, 50, 1, [(⟨#[65]⟩, 0), (⟨#[66]⟩, 1)]⟩ := by rw [rdV_eq]; rfl
theorem ps0_plain : fpE 8 50 1 [(⟨#[65]⟩, 0), (⟨#[66]⟩, 1)] = 0 := by rw [fpE_eq]; decide
theorem ps0_text : textV 8 true 50 1 [(⟨#[65]⟩, 0), (⟨#[66]⟩, 1)] = ⟨#[112, 111, 115, 105, 116, 105, 111, 110, 32, 100, 105, 115, 99, 32, 53, 48, 40, 77, 41, 32, 65, 32, 66, 40, 77, 41]⟩ := by unfold textV headL; rw [it50]; decide
theorem ps1_split : splV ⟨#[102, 108, 97, 116, 32, 51, 48]⟩ = [⟨#[102, 108, 97, 116]⟩, ⟨#[51, 48]⟩] := by decide
theorem ps1_count : Lib.countB ⟨#[102, 108, 97, 116, 32, 51, 48]⟩ ⟨#[32]⟩ + 1 = 2 := by decide
theorem ps1_read : rdV [⟨#[102, 108, 97, 116]⟩, ⟨#[51, 48]⟩] = ⟨1, false, 30, 0, []⟩ := by rw [rdV_eq]; rfl
theorem ps1_plain : fpE 1 30 0 [] = 0 := by rw [fpE_eq]; decide
theorem ps1_text : textV 1 false 30 0 [] = ⟨#[102, 108, 97, 116, 32, 51, 48]⟩ := by unfold textV headL; rw [it30]; decide
theorem ps2_split : splV ⟨#[102, 108, 97, 116, 32, 100, 105, 115, 99, 32, 51, 48]⟩ = [⟨#[102, 108, 97, 116]⟩, ⟨#[100, 105, 115, 99]⟩, ⟨#[51, 48]⟩] := by decide
theorem ps2_count : Lib.countB ⟨#[102, 108, 97, 116, 32, 100, 105, 115, 99, 32, 51, 48]⟩ ⟨#[32]⟩ + 1 = 3 := by decide
theorem ps2_read : rdV [⟨#[102, 108, 97, 116]⟩, ⟨#[100, 105, 115, 99]⟩, ⟨#[51, 48]⟩] = ⟨1, true, 30, 0, []⟩ := by rw [rdV_eq]; rfl
theorem ps2_plain : fpE 1 30 0 [] = 0 := by rw [fpE_eq]; decide
theorem ps2_text : textV 1 true 30 0 [] = ⟨#[102, 108, 97, 116, 32, 100, 105, 115, 99, 32, 51, 48]⟩ := by unfold textV headL; rw [it30]; decide
theorem ps3_split : splV ⟨#[112, 111, 115, 105, 116, 105, 111, 110, 32, 48]⟩ = [⟨#[112, 111, 115, 105, 116, 105, 111, 110]⟩, ⟨#[48]⟩] := by decide
theorem ps3_count : Lib.countB ⟨#[112, 111, 115, 105, 116, 105, 111, 110, 32, 48]⟩ ⟨#[32]⟩ + 1 = 2 := by decide
theorem ps3_read : rdV [⟨#[112, 111, 115, 105, 116, 105, 111, 110]⟩, ⟨#[48]⟩] = ⟨8, false, 0, 0, []⟩ := by rw [rdV_eq]; rfl
theorem ps3_plain : fpE 8 0 0 [] = 0 := by rw [fpE_eq]; decide
theorem ps3_text : textV 8 false 0 0 [] = ⟨#[112, 111, 115, 105, 116, 105, 111, 110, 32, 48]⟩ := by unfold textV headL; rw [it0]; decide
theorem ps4_split : splV ⟨#[112, 111, 115, 105, 116, 105, 111, 110, 32, 48, 40, 77, 41, 32, 65]⟩ = [⟨#[112, 111, 115, 105, 116, 105, 111, 110]⟩, ⟨#[48, 40, 77, 41]⟩, ⟨#[65]⟩] := by decide
theorem ps4_count : Lib.countB ⟨#[112, 111, 115, 105, 116, 105, 111, 110, 32, 48, 40, 77, 41, 32, 65]⟩ ⟨#[32]⟩ + 1 = 3 := by decide
theorem ps4_read : rdV [⟨#[112, 111, 115, 105, 116, 105, 111, 110]⟩, ⟨#[48, 40, 77, 41]⟩, ⟨#[65]⟩] = ⟨8, false, 0, 1, [(⟨#[65]⟩, 0)]⟩ := by rw [rdV_eq]; rfl
theorem ps4_plain : fpE 8 0 1 [(⟨#[65]⟩, 0)] = 0 := by rw [fpE_eq]; decide
theorem ps4_text : textV 8 false 0 1 [(⟨#[65]⟩, 0)] = ⟨#[112, 111, 115, 105, 116, 105, 111, 110, 32, 48, 40, 77, 41, 32, 65]⟩ := by unfold textV headL; rw [it0]; decide
theorem ps5_split : splV ⟨#[115, 113, 117, 97, 114, 101, 32, 50, 48]⟩ = [⟨#[115, 113, 117, 97, 114, 101]⟩, ⟨#[50, 48]⟩] := by decide
theorem ps5_count : Lib.countB ⟨#[115, 113, 117, 97, 114, 101, 32, 50, 48]⟩ ⟨#[32]⟩ + 1 = 2 := by decide
theorem ps5_read : rdV [⟨#[115, 113, 117, 97, 114, 101]⟩, ⟨#[50, 48]⟩] = ⟨3, false, 20, 0, []⟩ := by rw [rdV_eq]; rfl
theorem ps5_plain : fpE 3 20 0 [] = 0 := by rw [fpE_eq]; decide
theorem ps5_text : textV 3 false 20 0 [] = ⟨#[115, 113, 117, 97, 114, 101, 32, 50, 48]⟩ := by unfold textV headL; rw [it20]; decide
theorem ps6_split : splV ⟨#[114, 117, 110, 111, 117, 116, 32, 50, 48, 32, 65, 32, 66]⟩ = [⟨#[114, 117, 110, 111, 117, 116]⟩, ⟨#[50, 48]⟩, ⟨#[65]⟩, ⟨#[66]⟩] := by decide
theorem ps6_count : Lib.countB ⟨#[114, 117, 110, 111, 117, 116, 32, 50, 48, 32, 65, 32, 66]⟩ ⟨#[32]⟩ + 1 = 4 := by decide
theorem ps6_read : rdV [⟨#[114, 117, 110, 111, 117, 116]⟩, ⟨#[50, 48]⟩, ⟨#[65]⟩, ⟨#[66]⟩] = ⟨7, false, 20, 0, [(⟨#[65]⟩, 0), (⟨#[66]⟩, 0)]⟩ := by rw [rdV_eq]; rfl
theorem ps6_plain : fpE 7 20 0 [(⟨#[65]⟩, 0), (⟨#[66]⟩, 0)] = 0 := by rw [fpE_eq]; decide
theorem ps6_text : textV 7 false 20 0 [(⟨#[65]⟩, 0), (⟨#[66]⟩, 0)] = ⟨#[114, 117, 110, 111, 117, 116, 32, 50, 48, 32, 65, 32, 66]⟩ := by unfold textV headL; rw [it20]; decide
end Go.Proofs.YtlimjohnimgnhaaGreatDoor
