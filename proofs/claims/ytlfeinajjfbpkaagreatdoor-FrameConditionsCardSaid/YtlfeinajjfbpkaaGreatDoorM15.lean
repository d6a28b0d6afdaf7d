/- Texts Ux: each says in its own first comment what it proves. -/
import Derived.Test.YtlfeinajjfbpkaaGreatDoorM44
/- Frames: Text. -/
namespace Go.Proofs.YtlfeinajjfbpkaaGreatDoor
open Go.RowKit

theorem Bw.new {b : Nat} {w : World} (h : Is w b #[.pointer none, .slice none 0 0] 101) : Bw b b [] w :=
  .inl ⟨Nat.le_refl _, .slice none 0 0, h, ⟨rfl, .inl ⟨rfl, rfl⟩⟩, by simp [Value.ownBlock]⟩
def textV (k : Nat) (d : Bool) (t : Int) (m : Nat) (ds : List DatT) : ByteArray := ⟨(dsL (headL [] k d t m) ds).toArray⟩
theorem ftell {w0 : World} (d : Bool) (B b : Nat) (k : Nat) (t : Int) (m : Nat) (dp : Option Addr) (dl dc : Nat) (ds : List DatT) (w : World) (h : Bw B b [] w) (gl : Gf w0 w) (hB : w0.heap.size ≤ B) (hBw : B ≤ w.heap.size) (hk : k < 9) (hm : m < 3) (ht0 : 0 ≤ t) (ht1 : t ≤ 1000000) (hi : (itV t).size ≤ 20)
    (hd : DatS w0 (.slice dp dl dc) ds) (hdl : dl ≤ 3) (hz : ∀ d ∈ ds, d.1.size ≤ 100 ∧ ∃ j : Nat, j < 3 ∧ d.2 = (j : Int)) :
    Calls Tryz.prog 64 #[.agg #[.int .i64 (k : Int), .bool d, .int .i64 t, .int .i64 (m : Int), .slice dp dl dc], .func (.func 65) #[] #[.pointer (some ⟨b, 0, none⟩)]] w fun r W' => r = .returned (.tuple #[]) ∧ Bw B b (dsL (headL [] k d t m) ds) W' ∧ Bk B b w W' := by
  cases d
  · exact ftell_false B b k t m dp dl dc ds w h gl hB hBw hk hm ht0 ht1 hi hd hdl hz
  · exact ftell_true B b k t m dp dl dc ds w h gl hB hBw hk hm ht0 ht1 hi hd hdl hz
set_option maxRecDepth 100000 in
set_option maxHeartbeats 8000000 in
theorem fTextOk {w0 : World} (d : Bool) (k : Nat) (t : Int) (m : Nat) (dp : Option Addr) (dl dc : Nat) (ds : List DatT) (hk : k < 9) (hm : m < 3) (ht0 : 0 ≤ t) (ht1 : t ≤ 1000000) (hi : (itV t).size ≤ 20)
    (hd : DatS w0 (.slice dp dl dc) ds) (hdl : dl ≤ 3) (hz : ∀ d ∈ ds, d.1.size ≤ 100 ∧ ∃ j : Nat, j < 3 ∧ d.2 = (j : Int))
    (hp : Cf w0 15 #[.agg #[.int .i64 (k : Int), .bool d, .int .i64 t, .int .i64 (m : Int), .slice dp dl dc]] (.int .i64 0)) :
    Cf w0 26 #[.agg #[.int .i64 (k : Int), .bool d, .int .i64 t, .int .i64 (m : Int), .slice dp dl dc]] (.tuple #[.string (textV k d t m ds), .int .i64 0]) := Lib.hid fun w gl => by
  have ka := (Kb.refl w).alloc (.cells #[.int .i64 (k : Int), .bool d, .int .i64 t, .int .i64 (m : Int), .slice dp dl dc] 31 (0, 0))
  have ba := Is.made w #[.int .i64 (k : Int), .bool d, .int .i64 t, .int .i64 (m : Int), .slice dp dl dc] 31
  generalize hWA : w.alloc (.cells #[.int .i64 (k : Int), .bool d, .int .i64 t, .int .i64 (m : Int), .slice dp dl dc] 31 (0, 0)) = wa at *
  have q1 := Lib.hid (hp.out wa (gl.kb ka))
  have HG := Lib.hid gl
  have HD := Lib.hid hd
  have HZ := Lib.hid hz
  have c0 := ba.c (i := 0) rfl
  have c1 := ba.c (i := 1) rfl
  have c2 := ba.c (i := 2) rfl
  have c3 := ba.c (i := 3) rfl
  have c4 := ba.c (i := 4) rfl
  clear hp gl hd hz
  go_enter Tryz.func26, Tryz.ntmps26
  go_wp2_with fail
  clear hWA c0 c1 c2 c3 c4
  refine (q1.out).mono ?_
  rintro r w1 ⟨rfl, k1⟩
  have kb := (Kb.refl w1).alloc (.cells #[.pointer none, .slice none 0 0] 101 (0, 0))
  have bb := Is.made w1 #[.pointer none, .slice none 0 0] 101
  have b1 := (ba.kb k1).kb kb
  have g1 := HG.out.kb ((ka.trans k1).trans kb)
  have s1 := (HG.out.kb (ka.trans k1)).size
  have c0 := b1.c (i := 0) rfl
  have c1 := b1.c (i := 1) rfl
  have c2 := b1.c (i := 2) rfl
  have c3 := b1.c (i := 3) rfl
  have c4 := b1.c (i := 4) rfl
  have HK := Lib.hid ((ka.trans k1).trans kb)
  have q2 := Lib.hid (ftell d w1.heap.size w1.heap.size k t m dp dl dc ds (w1.alloc (.cells #[.pointer none, .slice none 0 0] 101 (0, 0))) (Bw.new bb) g1 s1 (by simp) hk hm ht0 ht1 hi HD.out hdl HZ.out)
  have s2 := (ka.trans k1).size
  clear bb b1 g1 kb q1 k1 ka ba
  go_wp2_with fail
  clear c0 c1 c2 c3 c4
  refine (q2.out).mono ?_
  rintro r w2 ⟨rfl, b2, k2⟩
  have s3 := k2.1.size
  have HK2 := Lib.hid k2
  have q3 := Lib.hid (Tryz.Builder_String_any_f w1.heap.size w1.heap.size (dsL (headL [] k d t m) ds) w2 b2 (by simp at s3; omega))
  clear b2 k2 q2
  go_wp2_with fail
  refine (q3.out).mono ?_
  rintro r w3 ⟨rfl, _, k3⟩
  have HK3 := Lib.hid k3
  clear k3 q3
  go_wp2
  go_ret2
  exact ⟨rfl, Below.trans HK.out (Below.mono (Below.trans HK2.out.1 HK3.out) s2)⟩
end Go.Proofs.YtlfeinajjfbpkaaGreatDoor
