/- Texts Ut: each says in its own first comment what it proves. -/
import Derived.Test.YtlfeinajjfbpkaaGreatDoorM05
/- Frames: the closure that puts a word into a text. -/
namespace Go.Proofs.YtlfeinajjfbpkaaGreatDoor
open Go.RowKit

theorem Bk.gf {B b : Nat} {w0 w w' : World} (h : Bk B b w w') (gl : Gf w0 w) (hB : w0.heap.size ≤ B) : Gf w0 w' := ⟨h.kb gl.at0 hB, gl.oa, gl.ob, gl.oc, gl.on⟩
/-- the mark of a material condition -/
def mkL (m : Nat) : List UInt8 := [[], [40, 77, 41], [40, 76, 41]].getD m []
/-- a text with a further word -/
def putL (l : List UInt8) (s : ByteArray) (m : Nat) : List UInt8 := (if l.length = 0 then l else l ++ [32]) ++ s.data.toList ++ mkL m
set_option maxRecDepth 100000 in
set_option maxHeartbeats 4000000 in
theorem fput1 {w0 : World} (B b : Nat) (m : Nat) (mk : ByteArray) (l : List UInt8) (s : ByteArray) (w : World) (h : Bw B b l w) (gl : Gf w0 w) (hB : w0.heap.size ≤ B) (hBw : B ≤ w.heap.size) (hm : m < 3) (hmk : ∀ W, Gf w0 W → W.cell? ⟨0, m, none⟩ = some (.string mk)) (hmz : mk.size ≤ 3) (hlen : l.length + s.size ≤ 100000) :
    Calls Tryz.prog 65 #[.string s, .int .i64 (m : Int), .pointer (some ⟨b, 0, none⟩)] w fun r W' => r = .returned (.tuple #[]) ∧ Bw B b ((if l.length = 0 then l else l ++ [32]) ++ s.data.toList ++ mk.data.toList) W' ∧ Bk B b w W' := by
  have q0 := Lib.hid (Tryz.Builder_Len_f B b (Lib.byteCells l) w h)
  have hbl := Lib.hid (Lib.byteCells_length l)
  have hm0 : (0 : Int) ≤ (m : Int) := by omega
  have hm3 : (m : Int) < 3 := by omega
  have hsz : (s.data.toList).length = s.size := by rw [Array.length_toList]; rfl
  by_cases h0 : l.length = 0
  · have hd : ¬ (0 : Int) < ((Lib.byteCells l).length : Int) := by rw [hbl.out]; omega
    rw [if_pos h0]
    have q1 := Lib.hid (bString B b l s w h (by omega) hBw)
    have HG := Lib.hid gl
    have HM := Lib.hid hmk
    clear h gl hmk
    go_enter Tryz.func65, Tryz.ntmps65
    go_wp2_with fail
    refine (q0.out).mono ?_
    rintro r w1 ⟨rfl, rfl⟩
    go_wp2_with fail
    refine (q1.out).mono ?_
    rintro r w2 ⟨⟨v, rfl⟩, b1, k1⟩
    have c1 := HM.out w2 (k1.gf HG.out hB)
    have sz1 := k1.1.size
    have q2 := Lib.hid (bString B b (l ++ s.data.toList) mk w2 b1 (by simp only [List.length_append, hsz]; omega) (by omega))
    clear b1
    go_wp2_with fail
    refine (q2.out).mono ?_
    rintro r w3 ⟨⟨v, rfl⟩, b2, k2⟩
    go_wp2
    go_end0
    exact ⟨rfl, b2, k1.trans k2⟩
  · have hd : (0 : Int) < ((Lib.byteCells l).length : Int) := by rw [hbl.out]; omega
    rw [if_neg h0]
    have q1 := Lib.hid (bByte B b l w h (by omega) hBw)
    have HG := Lib.hid gl
    have HM := Lib.hid hmk
    clear h gl hmk
    go_enter Tryz.func65, Tryz.ntmps65
    go_wp2_with fail
    refine (q0.out).mono ?_
    rintro r w1 ⟨rfl, rfl⟩
    go_wp2_with fail
    refine (q1.out).mono ?_
    rintro r w2 ⟨⟨v, rfl⟩, b1, k1⟩
    have sz1 := k1.1.size
    have q2 := Lib.hid (bString B b (l ++ [32]) s w2 b1 (by simp only [List.length_append, List.length_cons, List.length_nil]; omega) (by omega))
    clear b1
    go_wp2_with fail
    refine (q2.out).mono ?_
    rintro r w3 ⟨⟨v, rfl⟩, b2, k2⟩
    have c1 := HM.out w3 ((k1.trans k2).gf HG.out hB)
    have sz2 := k2.1.size
    have q3 := Lib.hid (bString B b (l ++ [32] ++ s.data.toList) mk w3 b2 (by simp only [List.length_append, hsz, List.length_cons, List.length_nil]; omega) (by omega))
    clear b2
    go_wp2_with fail
    refine (q3.out).mono ?_
    rintro r w4 ⟨⟨v, rfl⟩, b3, k3⟩
    go_wp2
    go_end0
    exact ⟨rfl, b3, (k1.trans k2).trans k3⟩
theorem fput {w0 : World} (B b : Nat) (m : Nat) (l : List UInt8) (s : ByteArray) (w : World) (h : Bw B b l w) (gl : Gf w0 w) (hB : w0.heap.size ≤ B) (hBw : B ≤ w.heap.size) (hm : m < 3) (hlen : l.length + s.size ≤ 100000) :
    Calls Tryz.prog 65 #[.string s, .int .i64 (m : Int), .pointer (some ⟨b, 0, none⟩)] w fun r W' => r = .returned (.tuple #[]) ∧ Bw B b (putL l s m) W' ∧ Bk B b w W' := by
  rcases (show m = 0 ∨ m = 1 ∨ m = 2 by omega) with rfl | rfl | rfl
  · exact fput1 B b 0 ⟨#[]⟩ l s w h gl hB hBw hm (fun W g => g.tc.c 0 (by decide)) (by decide) hlen
  · exact fput1 B b 1 ⟨#[40, 77, 41]⟩ l s w h gl hB hBw hm (fun W g => g.tc.c 1 (by decide)) (by decide) hlen
  · exact fput1 B b 2 ⟨#[40, 76, 41]⟩ l s w h gl hB hBw hm (fun W g => g.tc.c 2 (by decide)) (by decide) hlen
end Go.Proofs.YtlfeinajjfbpkaaGreatDoor
