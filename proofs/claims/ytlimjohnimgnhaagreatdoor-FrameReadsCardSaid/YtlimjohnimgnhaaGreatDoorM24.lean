/- Texts Uw: each says in its own first comment what it proves. -/
import Derived.Test.YtlimjohnimgnhaaGreatDoorM47
import Derived.Test.YtlimjohnimgnhaaGreatDoorM20
/- Frames: tell passes on the words; Text's builder. -/
namespace Go.Proofs.YtlimjohnimgnhaaGreatDoor
open Go.RowKit

theorem Kb.grownN {a w : World} (k : Kb a w) : a.grownBy w none := ⟨k.os, k.tape, k.output, k.size, fun i hi _ => k.block i hi⟩
theorem BuilderAtF.kb {B b : Nat} {p : Value} {bs : List Value} {a w : World} (h : Lib.BuilderAtF 101 5 B b p bs a) (k : Kb a w) : Lib.BuilderAtF 101 5 B b p bs w := by
  obtain ⟨h1, v, h2, h3, h4⟩ := h
  exact ⟨h1, v, (k.block b (Array.getElem?_eq_some_iff.1 h2).1).trans h2, h3.kept k.grownN (by cases v.ownBlock <;> simp), h4⟩
theorem Bw.kb {B b : Nat} {l : List UInt8} {a w : World} (h : Bw B b l a) (k : Kb a w) : Bw B b l w := h.elim (fun x => .inl (BuilderAtF.kb x k)) (fun x => .inr (BuilderAtF.kb x k))
theorem Bw.lt {B b : Nat} {l : List UInt8} {a : World} (h : Bw B b l a) : b < a.heap.size := h.elim (fun x => x.lt) (fun x => x.lt)
theorem Bk.of {B b : Nat} {a w : World} (k : Kb a w) (hB : B ≤ a.heap.size) : Bk B b a w := ⟨Below.mono k hB, fun i _o hi _ _ => (k.block i (Array.getElem?_eq_some_iff.1 hi).1).trans hi⟩
def itV (t : Int) : ByteArray := ⟨(Lib.itoa t).toArray⟩
theorem fItoa {w0 : World} (t : Int) (h0 : -9223372036854775808 ≤ t) (h1 : t ≤ 9223372036854775807) : Cf w0 106 #[.int .i64 t] (.string (itV t)) := Lib.hid fun W g =>
  (Tryz.strconv_Itoa t h0 h1 W g.tn.pow).mono fun e w' ⟨h1, j, os, h2⟩ => ⟨h1, by rw [h2]; exact Lib.below_grow W.heap.size W (Nat.le_refl _) j os⟩
/-- a text with the words of datums behind it -/
def dsL (l : List UInt8) (ds : List DatT) : List UInt8 := ds.foldl (fun l d => putL l d.1 d.2.toNat) l
def headL (l : List UInt8) (k : Nat) (d : Bool) (t : Int) (m : Nat) : List UInt8 := putL (if d = true then putL (putL l (kW k) 0) ⟨#[100, 105, 115, 99]⟩ 0 else putL l (kW k) 0) (itV t) m
theorem putL_len (l : List UInt8) (s : ByteArray) (m : Nat) (hm : m < 3) : (putL l s m).length ≤ l.length + s.size + 4 := by
  have h : (mkL m).length ≤ 3 := by rcases (show m = 0 ∨ m = 1 ∨ m = 2 by omega) with rfl | rfl | rfl <;> decide
  have hs : s.data.toList.length = s.size := by rw [Array.length_toList]; rfl
  unfold putL
  split <;> simp only [List.length_append, hs, List.length_cons, List.length_nil] <;> omega
theorem dsL_len (ds : List DatT) (hd : ∀ d ∈ ds, d.1.size ≤ 100 ∧ ∃ j : Nat, j < 3 ∧ d.2 = (j : Int)) : ∀ l, (dsL l ds).length ≤ l.length + 104 * ds.length := by
  induction ds with
  | nil => intro l; simp [dsL]
  | cons d ds ih =>
    intro l
    obtain ⟨h1, j, hj, h2⟩ := hd d (by simp)
    have hx := ih (fun x hx => hd x (by simp [hx])) (putL l d.1 d.2.toNat)
    have hy := putL_len l d.1 d.2.toNat (by rw [h2]; omega)
    show (dsL (putL l d.1 d.2.toNat) ds).length ≤ _
    simp only [List.length_cons]
    omega
theorem kW_size (k : Nat) (hk : k < 9) : (kW k).size ≤ 8 := by
  rcases (show k = 0 ∨ k = 1 ∨ k = 2 ∨ k = 3 ∨ k = 4 ∨ k = 5 ∨ k = 6 ∨ k = 7 ∨ k = 8 by omega) with rfl | rfl | rfl | rfl | rfl | rfl | rfl | rfl | rfl <;> decide
set_option maxRecDepth 100000 in
set_option maxHeartbeats 8000000 in
theorem ftell_true {w0 : World} (B b : Nat) (k : Nat) (t : Int) (m : Nat) (dp : Option Addr) (dl dc : Nat) (ds : List DatT) (w : World) (h : Bw B b [] w) (gl : Gf w0 w) (hB : w0.heap.size ≤ B) (hBw : B ≤ w.heap.size) (hk : k < 9) (hm : m < 3) (ht0 : 0 ≤ t) (ht1 : t ≤ 1000000) (hi : (itV t).size ≤ 20)
    (hd : DatS w0 (.slice dp dl dc) ds) (hdl : dl ≤ 3) (hz : ∀ d ∈ ds, d.1.size ≤ 100 ∧ ∃ j : Nat, j < 3 ∧ d.2 = (j : Int)) :
    Calls Tryz.prog 64 #[.agg #[.int .i64 (k : Int), .bool true, .int .i64 t, .int .i64 (m : Int), .slice dp dl dc], .func (.func 65) #[] #[.pointer (some ⟨b, 0, none⟩)]] w fun r W' => r = .returned (.tuple #[]) ∧ Bw B b (dsL (headL [] k true t m) ds) W' ∧ Bk B b w W' := by
  have en := (enters_of Tryz.func65 (by kernel_rfl) rfl : ∀ args W, (callFunc 65 args).run Tryz.prog W = .ok (.enter 65 args) W)
  have HR : Hid (headL [] k true t m = (putL (putL (putL [] (kW k) 0) ⟨#[100, 105, 115, 99]⟩ 0) (itV t) m)) := rfl
  have ka := (Kb.refl w).alloc (.cells #[.int .i64 (k : Int), .bool true, .int .i64 t, .int .i64 (m : Int), .slice dp dl dc] 31 (0, 0))
  have ba := Is.made w #[.int .i64 (k : Int), .bool true, .int .i64 t, .int .i64 (m : Int), .slice dp dl dc] 31
  have hb := h.kb ka
  have ga := gl.kb ka
  have na : w.heap.size ≠ b := by have := h.lt; omega
  have k0 : Bk B b w (w.alloc (.cells #[.int .i64 (k : Int), .bool true, .int .i64 t, .int .i64 (m : Int), .slice dp dl dc] 31 (0, 0))) := Bk.of ka hBw
  have sa : w.heap.size ≤ (w.alloc (.cells #[.int .i64 (k : Int), .bool true, .int .i64 t, .int .i64 (m : Int), .slice dp dl dc] 31 (0, 0))).heap.size := ka.size
  have hT : (31 : TypeId) ≠ 5 := by decide
  have hL := Lib.hid hd.len
  have HZ := Lib.hid hz
  have HD := Lib.hid hd
  have hkz := kW_size k hk
  have hk0 : (0 : Int) ≤ (k : Int) := by omega
  have hk9 : (k : Int) < 9 := by omega
  have n1 := putL_len [] (kW k) 0 (by decide)
  have n2 := putL_len (putL [] (kW k) 0) ⟨#[100, 105, 115, 99]⟩ 0 (by decide)
  have n3 := putL_len (putL (putL [] (kW k) 0) ⟨#[100, 105, 115, 99]⟩ 0) (itV t) m hm
  have n0 : (⟨#[100, 105, 115, 99]⟩ : ByteArray).size = 4 := rfl
  have nn : ([] : List UInt8).length = 0 := rfl
  clear h gl hz hd
  generalize hWA : w.alloc (.cells #[.int .i64 (k : Int), .bool true, .int .i64 t, .int .i64 (m : Int), .slice dp dl dc] 31 (0, 0)) = wa at *
  obtain ⟨r0, _, _, _, _, _⟩ := ga.tb.row hk
  have c0 := ba.c (i := 0) rfl
  have q1 := Lib.hid (fput B b 0 [] (kW k) wa hb ga hB (by omega) (by decide) (by omega))
  clear hb
  go_enter Tryz.func64, Tryz.ntmps64
  go_wp2_with fail
  clear hWA r0
  refine (q1.out).mono ?_
  rintro r w1 ⟨rfl, b1, k1⟩
  have kk := k0.trans k1
  have s1 := k1.1.size
  have bb := k1.is ba na hT
  have gg := k1.gf ga hB
  have c1 := bb.c (i := 1) rfl
  clear q1 c0 ba ga k0 k1
  have q2 := Lib.hid (fput B b 0 (putL [] (kW k) 0) ⟨#[100, 105, 115, 99]⟩ w1 b1 gg hB (by omega) (by decide) (by omega))
  clear b1
  go_wp2_with fail
  refine (q2.out).mono ?_
  rintro r w2 ⟨rfl, b1, k2⟩
  replace kk := kk.trans k2
  have s2 := k2.1.size
  replace bb := k2.is bb na hT
  replace gg := k2.gf gg hB
  clear q2 c1 k2
  have c2 := bb.c (i := 2) rfl
  have c3 := bb.c (i := 3) rfl
  have HI := Lib.hid ((fItoa (w0 := w0) t (by omega) (by omega)).out w2.drew gg.drew)
  go_wp2_with fail
  go_region_held3 (fun w' => w'.cell? ⟨w.heap.size, 2, none⟩ = some (.int .i64 t) ∧ w'.cell? ⟨w.heap.size, 3, none⟩ = some (.int .i64 (m : Int)))
    (first
      | exact ⟨z2, z3⟩
      | exact ⟨y2, y3⟩
      | exact ⟨c2, c3⟩
      | go_keep)
    (first
      | (go_at_call 106; with_reducible refine (HI.out).mono ?_; rintro r w3 ⟨rfl, k3⟩; have k4 : Kb w2 w3 := Kb.trans (Kb.drew (Kb.refl w2)) k3; have y2 := Kb.cell k4 c2; have y3 := Kb.cell k4 c3; have s3 := k4.size; have q3 := Lib.hid (fput B b m (putL (putL [] (kW k) 0) ⟨#[100, 105, 115, 99]⟩ 0) (itV t) w3 (b1.kb k4) (gg.kb k4) hB (by omega) hm (by omega)); have bb3 := bb.kb k4; have gg3 := gg.kb k4; have kk3 := kk.trans (Bk.of k4 (by omega)); clear bb gg kk k3 k4 c2 c3)
      | (go_at_call 65; (first | with_reducible refine (q3.out).mono ?_ | fail); (first | rintro r w4 ⟨rfl, b4, k5⟩ | fail); (first | have bb4 := k5.is bb3 na hT | fail); (first | have gg4 := k5.gf gg3 hB | fail); (first | have kk4 := kk3.trans k5 | fail); (first | have s4 := k5.1.size | fail); (first | have c4 := bb4.c (i := 4) rfl | fail); (first | have z2 := bb4.c (i := 2) rfl | fail); (first | have z3 := bb4.c (i := 3) rfl | fail); clear y2 y3))
  clear q3 bb3 gg3 kk3 HI
  go_wp2
  have HB := Lib.hid b4
  have HK := Lib.hid (Bk.refl B b w4)
  have HE := Lib.hid (List.take_length (l := ds))
  clear b4 c4 bb4
  go_loopg [27] dl (fun gk s27 wr => ∃ i : Nat, s27 = .int .i64 i ∧ i + gk = dl ∧ Hid (Bw B b (dsL (putL (putL (putL [] (kW k) 0) ⟨#[100, 105, 115, 99]⟩ 0) (itV t) m) (ds.take i)) wr) ∧ Hid (Bk B b w4 wr))
  case atStart => exact ⟨0, rfl, by omega, HB, HK⟩
  case round =>
    obtain ⟨i, rfl, hi9, hW, hK⟩ := hrel
    have hi0 : (0 : Int) ≤ (i : Int) := by omega
    have sr := hK.out.1.size
    by_cases hlt : i < dl
    · have gr := hK.out.gf gg4 hB
      obtain ⟨bo, off, rfl, hat⟩ := (HD.out.kb gr.at0).at (by omega)
      have hli := hL.out
      obtain ⟨⟨s, u⟩, hdi⟩ : ∃ d, ds[i]? = some d := ⟨_, List.getElem?_eq_getElem (by omega)⟩
      obtain ⟨y0, y1⟩ := hat i (s, u) hdi
      obtain ⟨hs, j, hj, hu⟩ := HZ.out (s, u) (List.mem_of_getElem? hdi)
      dsimp only at y0 y1 hs hu
      subst hu
      have hlen := dsL_len (ds.take i) (fun x hx => HZ.out x (List.mem_of_mem_take hx)) (putL (putL (putL [] (kW k) 0) ⟨#[100, 105, 115, 99]⟩ 0) (itV t) m)
      have htk : (ds.take i).length ≤ 3 := by rw [List.length_take]; omega
      have hst : ds.take (i + 1) = ds.take i ++ [(s, (j : Int))] := by rw [List.take_add_one, hdi]; rfl
      have hfold : dsL (putL (putL (putL [] (kW k) 0) ⟨#[100, 105, 115, 99]⟩ 0) (itV t) m) (ds.take (i + 1)) = putL (dsL (putL (putL (putL [] (kW k) 0) ⟨#[100, 105, 115, 99]⟩ 0) (itV t) m) (ds.take i)) s j := by
        rw [hst]; unfold dsL; rw [List.foldl_append]; rfl
      have kb := (Kb.refl wr).alloc (.cells #[.string s, .int .i64 (j : Int)] 76 (0, 0))
      have bd := Is.made wr #[.string s, .int .i64 (j : Int)] 76
      have x0 := bd.c (i := 0) rfl
      have x1 := bd.c (i := 1) rfl
      have sz := kb.size
      have q4 := Lib.hid (fput B b j (dsL (putL (putL (putL [] (kW k) 0) ⟨#[100, 105, 115, 99]⟩ 0) (itV t) m) (ds.take i)) s _ (hW.out.kb kb) (gr.kb kb) hB (by omega) hj (by omega))
      rw [← hfold] at q4
      have HKB := Lib.hid (hK.out.trans (Bk.of kb (by omega)))
      have HI9 := Lib.hid hi9
      clear hat hdi hli hst hfold hlen bd hW hK gr hi9 kb
      go_wp2_with fail
      refine (q4.out).mono ?_
      rintro r w5 ⟨rfl, b5, k6⟩
      have HB5 := Lib.hid b5
      have HK5 := Lib.hid (HKB.out.trans k6)
      have hi9 := HI9.out
      clear b5 k6 q4 HKB
      go_wp2
      go_roundg (gk - 1)
      case measure => omega
      case rel => exact ⟨i + 1, by go_num, by omega, HB5, HK5⟩
    · obtain rfl : i = dl := by omega
      have HF := Lib.hid (kk4.trans hK.out)
      have HX : Hid (Bw B b (dsL (headL [] k true t m) ds) wr) := by
        have e : ds.take i = ds := by rw [hL.out]; exact HE.out
        rw [e] at hW
        rw [HR.out]
        exact hW
      clear hW hK hi9
      go_wp2
      go_end0
      exact ⟨rfl, HX.out, HF.out⟩
set_option maxRecDepth 100000 in
set_option maxHeartbeats 8000000 in
theorem ftell_false {w0 : World} (B b : Nat) (k : Nat) (t : Int) (m : Nat) (dp : Option Addr) (dl dc : Nat) (ds : List DatT) (w : World) (h : Bw B b [] w) (gl : Gf w0 w) (hB : w0.heap.size ≤ B) (hBw : B ≤ w.heap.size) (hk : k < 9) (hm : m < 3) (ht0 : 0 ≤ t) (ht1 : t ≤ 1000000) (hi : (itV t).size ≤ 20)
    (hd : DatS w0 (.slice dp dl dc) ds) (hdl : dl ≤ 3) (hz : ∀ d ∈ ds, d.1.size ≤ 100 ∧ ∃ j : Nat, j < 3 ∧ d.2 = (j : Int)) :
    Calls Tryz.prog 64 #[.agg #[.int .i64 (k : Int), .bool false, .int .i64 t, .int .i64 (m : Int), .slice dp dl dc], .func (.func 65) #[] #[.pointer (some ⟨b, 0, none⟩)]] w fun r W' => r = .returned (.tuple #[]) ∧ Bw B b (dsL (headL [] k false t m) ds) W' ∧ Bk B b w W' := by
  have en := (enters_of Tryz.func65 (by kernel_rfl) rfl : ∀ args W, (callFunc 65 args).run Tryz.prog W = .ok (.enter 65 args) W)
  have HR : Hid (headL [] k false t m = (putL (putL [] (kW k) 0) (itV t) m)) := rfl
  have ka := (Kb.refl w).alloc (.cells #[.int .i64 (k : Int), .bool false, .int .i64 t, .int .i64 (m : Int), .slice dp dl dc] 31 (0, 0))
  have ba := Is.made w #[.int .i64 (k : Int), .bool false, .int .i64 t, .int .i64 (m : Int), .slice dp dl dc] 31
  have hb := h.kb ka
  have ga := gl.kb ka
  have na : w.heap.size ≠ b := by have := h.lt; omega
  have k0 : Bk B b w (w.alloc (.cells #[.int .i64 (k : Int), .bool false, .int .i64 t, .int .i64 (m : Int), .slice dp dl dc] 31 (0, 0))) := Bk.of ka hBw
  have sa : w.heap.size ≤ (w.alloc (.cells #[.int .i64 (k : Int), .bool false, .int .i64 t, .int .i64 (m : Int), .slice dp dl dc] 31 (0, 0))).heap.size := ka.size
  have hT : (31 : TypeId) ≠ 5 := by decide
  have hL := Lib.hid hd.len
  have HZ := Lib.hid hz
  have HD := Lib.hid hd
  have hkz := kW_size k hk
  have hk0 : (0 : Int) ≤ (k : Int) := by omega
  have hk9 : (k : Int) < 9 := by omega
  have n1 := putL_len [] (kW k) 0 (by decide)
  have n2 := putL_len (putL [] (kW k) 0) ⟨#[100, 105, 115, 99]⟩ 0 (by decide)
  have n3 := putL_len (putL [] (kW k) 0) (itV t) m hm
  have n0 : (⟨#[100, 105, 115, 99]⟩ : ByteArray).size = 4 := rfl
  have nn : ([] : List UInt8).length = 0 := rfl
  clear h gl hz hd
  generalize hWA : w.alloc (.cells #[.int .i64 (k : Int), .bool false, .int .i64 t, .int .i64 (m : Int), .slice dp dl dc] 31 (0, 0)) = wa at *
  obtain ⟨r0, _, _, _, _, _⟩ := ga.tb.row hk
  have c0 := ba.c (i := 0) rfl
  have q1 := Lib.hid (fput B b 0 [] (kW k) wa hb ga hB (by omega) (by decide) (by omega))
  clear hb
  go_enter Tryz.func64, Tryz.ntmps64
  go_wp2_with fail
  clear hWA r0
  refine (q1.out).mono ?_
  rintro r w1 ⟨rfl, b1, k1⟩
  have kk := k0.trans k1
  have s1 := k1.1.size
  have bb := k1.is ba na hT
  have gg := k1.gf ga hB
  have c1 := bb.c (i := 1) rfl
  clear q1 c0 ba ga k0 k1
  have c2 := bb.c (i := 2) rfl
  have c3 := bb.c (i := 3) rfl
  have HI := Lib.hid ((fItoa (w0 := w0) t (by omega) (by omega)).out w1.drew gg.drew)
  go_wp2_with fail
  go_region_held3 (fun w' => w'.cell? ⟨w.heap.size, 2, none⟩ = some (.int .i64 t) ∧ w'.cell? ⟨w.heap.size, 3, none⟩ = some (.int .i64 (m : Int)))
    (first
      | exact ⟨z2, z3⟩
      | exact ⟨y2, y3⟩
      | exact ⟨c2, c3⟩
      | go_keep)
    (first
      | (go_at_call 106; with_reducible refine (HI.out).mono ?_; rintro r w3 ⟨rfl, k3⟩; have k4 : Kb w1 w3 := Kb.trans (Kb.drew (Kb.refl w1)) k3; have y2 := Kb.cell k4 c2; have y3 := Kb.cell k4 c3; have s3 := k4.size; have q3 := Lib.hid (fput B b m (putL [] (kW k) 0) (itV t) w3 (b1.kb k4) (gg.kb k4) hB (by omega) hm (by omega)); have bb3 := bb.kb k4; have gg3 := gg.kb k4; have kk3 := kk.trans (Bk.of k4 (by omega)); clear bb gg kk k3 k4 c2 c3)
      | (go_at_call 65; (first | with_reducible refine (q3.out).mono ?_ | fail); (first | rintro r w4 ⟨rfl, b4, k5⟩ | fail); (first | have bb4 := k5.is bb3 na hT | fail); (first | have gg4 := k5.gf gg3 hB | fail); (first | have kk4 := kk3.trans k5 | fail); (first | have s4 := k5.1.size | fail); (first | have c4 := bb4.c (i := 4) rfl | fail); (first | have z2 := bb4.c (i := 2) rfl | fail); (first | have z3 := bb4.c (i := 3) rfl | fail); clear y2 y3))
  clear q3 bb3 gg3 kk3 HI
  go_wp2
  have HB := Lib.hid b4
  have HK := Lib.hid (Bk.refl B b w4)
  have HE := Lib.hid (List.take_length (l := ds))
  clear b4 c4 bb4
  go_loopg [27] dl (fun gk s27 wr => ∃ i : Nat, s27 = .int .i64 i ∧ i + gk = dl ∧ Hid (Bw B b (dsL (putL (putL [] (kW k) 0) (itV t) m) (ds.take i)) wr) ∧ Hid (Bk B b w4 wr))
  case atStart => exact ⟨0, rfl, by omega, HB, HK⟩
  case round =>
    obtain ⟨i, rfl, hi9, hW, hK⟩ := hrel
    have hi0 : (0 : Int) ≤ (i : Int) := by omega
    have sr := hK.out.1.size
    by_cases hlt : i < dl
    · have gr := hK.out.gf gg4 hB
      obtain ⟨bo, off, rfl, hat⟩ := (HD.out.kb gr.at0).at (by omega)
      have hli := hL.out
      obtain ⟨⟨s, u⟩, hdi⟩ : ∃ d, ds[i]? = some d := ⟨_, List.getElem?_eq_getElem (by omega)⟩
      obtain ⟨y0, y1⟩ := hat i (s, u) hdi
      obtain ⟨hs, j, hj, hu⟩ := HZ.out (s, u) (List.mem_of_getElem? hdi)
      dsimp only at y0 y1 hs hu
      subst hu
      have hlen := dsL_len (ds.take i) (fun x hx => HZ.out x (List.mem_of_mem_take hx)) (putL (putL [] (kW k) 0) (itV t) m)
      have htk : (ds.take i).length ≤ 3 := by rw [List.length_take]; omega
      have hst : ds.take (i + 1) = ds.take i ++ [(s, (j : Int))] := by rw [List.take_add_one, hdi]; rfl
      have hfold : dsL (putL (putL [] (kW k) 0) (itV t) m) (ds.take (i + 1)) = putL (dsL (putL (putL [] (kW k) 0) (itV t) m) (ds.take i)) s j := by
        rw [hst]; unfold dsL; rw [List.foldl_append]; rfl
      have kb := (Kb.refl wr).alloc (.cells #[.string s, .int .i64 (j : Int)] 76 (0, 0))
      have bd := Is.made wr #[.string s, .int .i64 (j : Int)] 76
      have x0 := bd.c (i := 0) rfl
      have x1 := bd.c (i := 1) rfl
      have sz := kb.size
      have q4 := Lib.hid (fput B b j (dsL (putL (putL [] (kW k) 0) (itV t) m) (ds.take i)) s _ (hW.out.kb kb) (gr.kb kb) hB (by omega) hj (by omega))
      rw [← hfold] at q4
      have HKB := Lib.hid (hK.out.trans (Bk.of kb (by omega)))
      have HI9 := Lib.hid hi9
      clear hat hdi hli hst hfold hlen bd hW hK gr hi9 kb
      go_wp2_with fail
      refine (q4.out).mono ?_
      rintro r w5 ⟨rfl, b5, k6⟩
      have HB5 := Lib.hid b5
      have HK5 := Lib.hid (HKB.out.trans k6)
      have hi9 := HI9.out
      clear b5 k6 q4 HKB
      go_wp2
      go_roundg (gk - 1)
      case measure => omega
      case rel => exact ⟨i + 1, by go_num, by omega, HB5, HK5⟩
    · obtain rfl : i = dl := by omega
      have HF := Lib.hid (kk4.trans hK.out)
      have HX : Hid (Bw B b (dsL (headL [] k false t m) ds) wr) := by
        have e : ds.take i = ds := by rw [hL.out]; exact HE.out
        rw [e] at hW
        rw [HR.out]
        exact hW
      clear hW hK hi9
      go_wp2
      go_end0
      exact ⟨rfl, HX.out, HF.out⟩
end Go.Proofs.YtlimjohnimgnhaaGreatDoor
