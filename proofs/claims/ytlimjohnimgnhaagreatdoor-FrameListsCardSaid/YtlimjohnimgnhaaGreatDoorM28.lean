/- Texts Ub: each says in its own first comment what it proves. -/
import Derived.Test.YtlimjohnimgnhaaGreatDoorM12
/- Frames: whether a name is among datums. -/
namespace Go.Proofs.YtlimjohnimgnhaaGreatDoor
open Go.RowKit

theorem DatS.kb {w w' : World} {v : Value} {ds : List DatT} (h : DatS w v ds) (k : Kb w w') : DatS w' v ds := h.kx k.kx
set_option maxRecDepth 100000 in
set_option maxHeartbeats 4000000 in
theorem fnamed1_1 (s : ByteArray) (m : Int) (p : Nat) (nm : ByteArray) (w : World) (b0 : Is w p #[.string nm] 9)  : Calls Tryz.prog 123 #[.agg #[.string s, .int .i64 m], .pointer (some ⟨p, 0, none⟩)] w fun r W' => r = .returned (.bool (s.toList == nm.toList)) ∧ Kb w W' := by
  have kx := Kb.refl w
  have j1 := (Is.made w #[.string s, .int .i64 m] 76)
  have f2 := j1.c (i := 0) rfl
  have j3 := (b0.alloc (.cells #[.string s, .int .i64 m] 76 (0, 0)))
  have f4 := j3.c (i := 0) rfl
  go_enter Tryz.func123, Tryz.ntmps123
  go_wp2
  go_ret
  clear f2 f4
  replace kx := kx.alloc (.cells #[.string s, .int .i64 m] 76 (0, 0))
  exact ⟨rfl, kx⟩
/-- one of the datums has a name -/
def dnB (ds : List DatT) (nm : ByteArray) : Bool := ds.any fun d => d.1.toList == nm.toList
theorem any_drop {α : Type} {p : α → Bool} {l : List α} {i : Nat} {x : α} (h : l[i]? = some x) : (l.drop i).any p = (p x || (l.drop (i + 1)).any p) := by
  obtain ⟨hi, rfl⟩ := List.getElem?_eq_some_iff.1 h
  rw [List.drop_eq_getElem_cons hi, List.any_cons]
set_option maxRecDepth 100000 in
set_option maxHeartbeats 4000000 in
theorem fIndexN (ds : List DatT) (nm : ByteArray) (p : Nat) (dp : Option Addr) (dl dc : Nat) (w : World) (hd : DatS w (.slice dp dl dc) ds) (hp : Is w p #[.string nm] 9) (hn : dl ≤ 100000) : Calls Tryz.prog 141 #[.slice dp dl dc, .func (.func 123) #[] #[.pointer (some ⟨p, 0, none⟩)]] w fun r W' => (∃ i : Int, r = .returned (.int .i64 i) ∧ decide (0 ≤ i) = dnB ds nm) ∧ Kb w W' := by
  have en := (enters_of Tryz.func123 (by kernel_rfl) rfl : ∀ args W, (callFunc 123 args).run Tryz.prog W = .ok (.enter 123 args) W)
  have hlen := hd.len
  have H0 : Hid (dnB ds nm = (ds.drop 0).any fun d => d.1.toList == nm.toList) := rfl
  have HD := Lib.hid hd
  have HE : Hid ((ds.drop dl).any (fun d => d.1.toList == nm.toList) = false) := by show _ = _; rw [List.drop_of_length_le (by omega)]; rfl
  have HL := Lib.hid hlen
  have HP := Lib.hid hp
  clear hd hlen hp
  go_enter Tryz.func141, Tryz.ntmps141
  go_wp2
  go_loopg [8] dl (fun gk s8 wr => ∃ i : Nat, s8 = .int .i64 i ∧ i + gk = dl ∧ Hid (dnB ds nm = (ds.drop i).any fun d => d.1.toList == nm.toList) ∧ Kb w wr)
  case atStart => exact ⟨0, rfl, by omega, H0, Kb.refl _⟩
  case round =>
    obtain ⟨i, rfl, hi, hE, kk⟩ := hrel
    have hi0 : (0 : Int) ≤ (i : Int) := by omega
    by_cases hlt : i < dl
    · obtain ⟨b, off, rfl, hat⟩ := (HD.out.kb kk).at (by omega)
      have hli := HL.out
      obtain ⟨d, hdi⟩ : ∃ d, ds[i]? = some d := ⟨_, List.getElem?_eq_getElem (by omega)⟩
      obtain ⟨y0, y1⟩ := hat i d hdi
      have hA := any_drop (p := fun d => d.1.toList == nm.toList) hdi
      obtain ⟨s, m⟩ := d
      have hq := Lib.hid (fnamed1_1 s m p nm wr (HP.out.kb kk))
      have Hi := Lib.hid hi
      clear hat hdi hli
      rcases Bool.eq_false_or_eq_true (s.toList == nm.toList) with hc | hc
      · have hE2 : Hid (decide ((0 : Int) ≤ (i : Int)) = dnB ds nm) := by show _ = _; rw [hE.out, hA, hc, Bool.true_or]; exact decide_eq_true hi0
        clear hA hE hi
        rw [hc] at hq
        go_wp2_with fail
        (with_reducible refine (hq.out).mono ?_)
        rintro r w1 ⟨rfl, k1⟩
        go_wp2
        go_ret
        exact ⟨⟨_, rfl, hE2.out⟩, kk.trans k1⟩
      · have hE2 : Hid (dnB ds nm = (ds.drop (i + 1)).any fun d => d.1.toList == nm.toList) := by show _ = _; rw [hE.out, hA, hc, Bool.false_or]
        clear hA hE hi
        rw [hc] at hq
        go_wp2_with fail
        (with_reducible refine (hq.out).mono ?_)
        rintro r w1 ⟨rfl, k1⟩
        go_wp2
        have hi := Hi.out
        go_roundg (gk - 1)
        case measure => omega
        case rel => exact ⟨i + 1, by go_num, by omega, hE2, kk.trans k1⟩
    · obtain rfl : i = dl := by omega
      have hE2 : Hid (decide ((0 : Int) ≤ (-1 : Int)) = dnB ds nm) := by show _ = _; rw [hE.out, HE.out]; rfl
      clear hi hE HE
      go_wp2
      go_ret
      exact ⟨⟨_, rfl, hE2.out⟩, kk⟩
set_option maxRecDepth 100000 in
set_option maxHeartbeats 4000000 in
theorem fContN (ds : List DatT) (nm : ByteArray) (p : Nat) (dp : Option Addr) (dl dc : Nat) (w : World) (hd : DatS w (.slice dp dl dc) ds) (hp : Is w p #[.string nm] 9) (hn : dl ≤ 100000) : Calls Tryz.prog 122 #[.slice dp dl dc, .func (.func 123) #[] #[.pointer (some ⟨p, 0, none⟩)]] w fun r W' => r = .returned (.bool (dnB ds nm)) ∧ Kb w W' := by
  have hq := Lib.hid (fIndexN ds nm p dp dl dc w hd hp hn)
  clear hd hp
  go_enter Tryz.func122, Tryz.ntmps122
  go_wp2_with fail
  (with_reducible refine (hq.out).mono ?_)
  rintro r w1 ⟨⟨i, rfl, hi⟩, k1⟩
  have HI := Lib.hid hi
  clear hi hq
  go_wp2
  go_ret
  exact ⟨by rw [← HI.out]; rfl, k1⟩
set_option maxRecDepth 100000 in
set_option maxHeartbeats 4000000 in
theorem fnamed {w0 : World} (ds : List DatT) (nm : ByteArray) (dp : Option Addr) (dl dc : Nat) (hd : DatS w0 (.slice dp dl dc) ds) (hn : dl ≤ 100000) : Cw w0 87 #[.slice dp dl dc, .string nm] (.bool (dnB ds nm)) := Lib.hid fun w g => by
  have kx := (Kb.refl w).alloc (.cells #[.string nm] 9 (0, 0))
  have hq := Lib.hid (fContN ds nm w.heap.size dp dl dc (w.alloc (.cells #[.string nm] 9 (0, 0))) (hd.kb (g.trans kx)) (Is.made w #[.string nm] 9) hn)
  clear hd
  go_enter Tryz.func87, Tryz.ntmps87
  go_wp2_with fail
  (with_reducible refine (hq.out).mono ?_)
  rintro r w1 ⟨rfl, k1⟩
  go_wp2
  go_ret
  exact ⟨rfl, kx.trans k1⟩

end Go.Proofs.YtlimjohnimgnhaaGreatDoor
